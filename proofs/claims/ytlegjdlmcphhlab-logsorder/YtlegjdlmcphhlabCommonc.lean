/-
  LISTS AS THEY ARE READ, whatever they hold; acts and records.
-/
import Derived.Test.YtlegjdlmcphhlabCommonb
import Derived.Test.YtlegjdlmcphhlabLoga
namespace Go.Proofs.Ytlegjdlmcphhlab
open Go.ChangeShapes Go.WideShapes Go.ChangeAt Go.RowKit Go.Deep

theorem cellsR : Try.prog.cellsOf 48 = 9 := by kernel_rfl
theorem bytesR : Try.prog.bytesOf 48 = 104 := by kernel_rfl
theorem bytesA : Try.prog.bytesOf 26 = 88 := by kernel_rfl
section
variable {H : Type} {enc : TypeId × Value → H}
/-- a list that came in, of whatever can be read -/
theorem open_rows {α β : Type} [Inhabited α] [Inhabited β] {W : World} {sp : Nat → Bool} {held : Bool} {t e : TypeId} {k : Nat} (cs : α → List Value) (hlen : ∀ v, (cs v).length = k) (k0 : 0 < k) (hu : Try.prog.underlying t = some (.slice e)) (hce : Try.prog.cellsOf e = k) (C : α → β → Prop) (S : DataW H → β → Prop)
    (open1 : ∀ {fuel : Nat} {l : List Value} {x : DataW H × List MemPlace}, DataW.trod enc Try.prog W 0 sp held fuel e l = some x → ∃ (v : α) (y : β), l = cs v ∧ C v y ∧ S x.1 y)
    {fuel : Nat} {l : List Value} {x : DataW H × List MemPlace} (h : DataW.trod enc Try.prog W 0 sp held fuel t l = some x) :
    ∃ (A : Option Addr) (n c : Nat) (vs : List α) (xs : List β), l = [.slice A n c] ∧ n ≤ c ∧ c ≤ maxLen ∧ Row k cs W A n vs ∧ All2 C vs xs ∧ ((x.1 = .nil ∧ n = 0) ∨ ∃ es spare, x.1 = .slice es spare ∧ es.length = n ∧ ∀ (j : Nat) (y : β), xs[j]? = some y → ∃ d, es[j]? = some d ∧ S d y) := by
  rcases open_slice hu h with ⟨rfl, rfl⟩ | ⟨a, len, cap, m, n, D, Pl, rfl, hb, hl, hm, hmm, rfl, hx⟩
  · exact ⟨none, 0, 0, [], [], rfl, Nat.le_refl _, Nat.zero_le _, ⟨rfl, .inl rfl⟩, All2.nil, .inl ⟨rfl, rfl⟩⟩
  · have hlm : len ≤ m := by rw [hmm]; split <;> omega
    rw [hce] at hx
    have each : ∀ i, i < len → ∃ q : α × β, (∀ (j : Nat) c, (cs q.1)[j]? = some c → W.cell? (a.add (i * k + j)) = some c) ∧ C q.1 q.2 ∧ S (D i) q.2 := fun i hi => by
      obtain ⟨cs', h1, h2⟩ := hx i (by omega)
      obtain ⟨v, y, rfl, hc, hs⟩ := open1 h2
      obtain ⟨_, _, hcell⟩ := World.cells?_some h1
      refine ⟨(v, y), fun j c hc' => ?_, hc, hs⟩
      have hj : j < k := by
        rcases Nat.lt_or_ge j k with h3 | h3
        · exact h3
        · rw [List.getElem?_eq_none (by rw [hlen]; exact h3)] at hc'; cases hc'
      have := hcell j hj
      rw [show (a.add (i * k)).add j = a.add (i * k + j) from Addr.add_add a _ _] at this
      rw [this]
      exact hc'
    obtain ⟨U, hU⟩ := choose_lt each
    have hget : ∀ {γ : Type} (f : Nat → γ) (j : Nat) (v : γ), ((List.range len).map f)[j]? = some v → j < len ∧ f j = v := fun f j v hv => by
      have hj : j < len := by
        rcases Nat.lt_or_ge j len with h1 | h1
        · exact h1
        · rw [List.getElem?_eq_none (by simpa using h1)] at hv; cases hv
      rw [List.getElem?_map, List.getElem?_range hj] at hv
      exact ⟨hj, Option.some.inj hv⟩
    refine ⟨some a, len, cap, (List.range len).map fun i => (U i).1, (List.range len).map fun i => (U i).2, rfl, hl, hm, ?_, ⟨by simp, fun j v y hv hy => ?_⟩, .inr ⟨_, _, rfl, by simp, fun j y hy => ?_⟩⟩
    · have := row_mk (k := k) (cs := cs) k0 hlen (w := W) (vs := (List.range len).map fun i => (U i).1) (a := a) (fun j v hv i c hc => by
        obtain ⟨hj, rfl⟩ := hget _ j v hv
        exact (hU j hj).1 i c hc)
      rw [List.length_map, List.length_range] at this
      exact this
    · obtain ⟨hj, rfl⟩ := hget _ j v hv
      obtain ⟨_, rfl⟩ := hget _ j y hy
      exact (hU j hj).2.1
    · obtain ⟨hj, rfl⟩ := hget _ j y hy
      exact ⟨D j, by rw [List.getElem?_map, List.getElem?_range hj]; rfl, (hU j hj).2.2⟩

instance : Inhabited AV := ⟨AV.zero⟩
instance : Inhabited M.Act := ⟨⟨0, 0, 0, ⟨#[]⟩, 0, ⟨#[]⟩, []⟩⟩
instance : Inhabited RV := ⟨⟨AV.zero, 0, 0⟩⟩
instance : Inhabited M.Rec := ⟨⟨default, 0, 0⟩⟩
/-- acts that came in -/
theorem open_acts {W : World} {sp : Nat → Bool} {held : Bool} {fuel : Nat} {l : List Value} {x : DataW H × List MemPlace} (h : DataW.trod enc Try.prog W 0 sp held fuel 53 l = some x) :
    ∃ (A : Option Addr) (n c : Nat) (vs : List AV) (xs : List M.Act), l = [.slice A n c] ∧ n ≤ c ∧ c ≤ maxLen ∧ TreeA W A n vs xs ∧ (Sized 53 x.1 → n * 88 ≤ reachBytes ∧ ∀ y ∈ xs, SmallA y) ∧ n ≤ Rows.uptoBulk x.1 := by
  obtain ⟨A, n, c, vs, xs, rfl, h1, h2, h3, h4, h5⟩ := open_rows AV.cells act_len (by decide) Try.underlying53 cellsA (ContA W) (fun d y => y.name.size ≤ maxLen ∧ y.toName.size ≤ maxLen ∧ (Sized (H := H) 26 d → y.data.length ≤ reachBytes)) (fun h => by obtain ⟨v, y, e, hc, a1, a2, a3⟩ := open_act h; exact ⟨v, y, e, hc, a1, a2, a3⟩) h
  have hnx : n = xs.length := by rw [h3.1, h4.1]
  refine ⟨A, n, c, vs, xs, rfl, h1, h2, ⟨h3, h4⟩, fun hs => ?_, ?_⟩
  · rcases h5 with ⟨_, h0⟩ | ⟨es, spare, he, hl, hS⟩
    · refine ⟨by rw [h0]; simp, fun y hy => ?_⟩
      rw [h0] at hnx
      rw [List.eq_nil_of_length_eq_zero hnx.symm] at hy
      cases hy
    · rw [he] at hs
      refine ⟨?_, fun y hy => ?_⟩
      · have := sized_len Try.underlying53 hs
        rw [bytesA] at this
        omega
      · obtain ⟨j, hj⟩ := List.getElem?_of_mem hy
        obtain ⟨d, hd, s1, s2, s3⟩ := hS j y hj
        exact smallA_of s1 s2 (s3 (sized_elem Try.underlying53 hs (List.mem_of_getElem? hd)))
  · rcases h5 with ⟨_, h0⟩ | ⟨es, spare, he, hl, hS⟩
    · omega
    · rw [he]
      have h6 := bulk_slice es spare
      have h7 := bulk_len es
      omega
set_option maxRecDepth 8000 in
/-- a record that came in -/
theorem open_rec {W : World} {sp : Nat → Bool} {held : Bool} {fuel : Nat} {cs : List Value} {x : DataW H × List MemPlace} (h : DataW.trod enc Try.prog W 0 sp held fuel 48 cs = some x) :
    ∃ (v : RV) (y : M.Rec), cs = v.cells ∧ ContR W v y ∧ y.act.name.size ≤ maxLen ∧ y.act.toName.size ≤ maxLen ∧ (Sized 48 x.1 → y.act.data.length ≤ reachBytes) := by
  obtain ⟨ys, m, _, rfl, hl, hys, hf⟩ := DataW.trod_struct Try.underlying48 h
  rw [cellsR] at hl
  obtain ⟨c0, c1, c2, c3, c4, c5, c6, c7, c8, rfl⟩ : ∃ a b c d e f g i j, cs = [a, b, c, d, e, f, g, i, j] := by
    match cs, hl with
    | [a, b, c, d, e, f, g, i, j], _ => exact ⟨a, b, c, d, e, f, g, i, j, rfl⟩
  have f0 : DataW.trod enc Try.prog W 0 sp held m 26 (([c0, c1, c2, c3, c4, c5, c6, c7, c8].drop 0).take (Try.prog.cellsOf 26)) = ys[0]? := hf 0 _ rfl
  rw [cellsA] at f0
  change DataW.trod enc Try.prog W 0 sp held m 26 [c0, c1, c2, c3, c4, c5, c6] = ys[0]? at f0
  have f1 : DataW.trod enc Try.prog W 0 sp held m 3 (([c0, c1, c2, c3, c4, c5, c6, c7, c8].drop 7).take (Try.prog.cellsOf 3)) = ys[1]? := hf 1 _ rfl
  rw [cells3] at f1
  change DataW.trod enc Try.prog W 0 sp held m 3 [c7] = ys[1]? at f1
  have f2 : DataW.trod enc Try.prog W 0 sp held m 3 (([c0, c1, c2, c3, c4, c5, c6, c7, c8].drop 8).take (Try.prog.cellsOf 3)) = ys[2]? := hf 2 _ rfl
  rw [cells3] at f2
  change DataW.trod enc Try.prog W 0 sp held m 3 [c8] = ys[2]? at f2
  have hlen : ys.length = 3 := hys
  have g : ∀ k, k < 3 → ∃ y, ys[k]? = some y := fun k hk => ⟨_, List.getElem?_eq_getElem (by omega)⟩
  obtain ⟨y0, g0⟩ := g 0 (by omega)
  obtain ⟨y1, g1⟩ := g 1 (by omega)
  obtain ⟨y2, g2⟩ := g 2 (by omega)
  rw [g0] at f0
  rw [g1] at f1
  rw [g2] at f2
  obtain ⟨va, a, e0, hc, s1, s2, s3⟩ := open_act f0
  obtain ⟨z1, e1, _, _⟩ := DataW.trod_int Try.underlying3 f1
  obtain ⟨z2, e2, _, _⟩ := DataW.trod_int Try.underlying3 f2
  cases e1; cases e2
  refine ⟨⟨va, z1, z2⟩, ⟨a, z1, z2⟩, ?_, ⟨hc, rfl, rfl⟩, s1, s2, fun hsz => ?_⟩
  · simp only [AV.cells, List.cons.injEq, and_true] at e0
    obtain ⟨rfl, rfl, rfl, rfl, rfl, rfl, rfl⟩ := e0
    rfl
  · exact s3 (sized_field (H := H) (j := 0) Try.underlying48 hsz rfl (by rw [List.getElem?_map, g0]; rfl))
/-- a log that came in -/
theorem open_recs {W : World} {sp : Nat → Bool} {held : Bool} {fuel : Nat} {l : List Value} {x : DataW H × List MemPlace} (h : DataW.trod enc Try.prog W 0 sp held fuel 46 l = some x) :
    ∃ (A : Option Addr) (n c : Nat) (vs : List RV) (xs : List M.Rec), l = [.slice A n c] ∧ n ≤ c ∧ c ≤ maxLen ∧ TreeR W A n vs xs ∧ (Sized 46 x.1 → n * 104 ≤ reachBytes ∧ ∀ y ∈ xs, SmallA y.act) ∧ n ≤ Rows.uptoBulk x.1 := by
  obtain ⟨A, n, c, vs, xs, rfl, h1, h2, h3, h4, h5⟩ := open_rows RV.cells rec_len (by decide) Try.underlying46 cellsR (ContR W) (fun d y => y.act.name.size ≤ maxLen ∧ y.act.toName.size ≤ maxLen ∧ (Sized (H := H) 48 d → y.act.data.length ≤ reachBytes)) (fun h => by obtain ⟨v, y, e, hc, a1, a2, a3⟩ := open_rec h; exact ⟨v, y, e, hc, a1, a2, a3⟩) h
  have hnx : n = xs.length := by rw [h3.1, h4.1]
  refine ⟨A, n, c, vs, xs, rfl, h1, h2, ⟨h3, h4⟩, fun hs => ?_, ?_⟩
  · rcases h5 with ⟨_, h0⟩ | ⟨es, spare, he, hl, hS⟩
    · refine ⟨by rw [h0]; simp, fun y hy => ?_⟩
      rw [h0] at hnx
      rw [List.eq_nil_of_length_eq_zero hnx.symm] at hy
      cases hy
    · rw [he] at hs
      refine ⟨?_, fun y hy => ?_⟩
      · have := sized_len Try.underlying46 hs
        rw [bytesR] at this
        omega
      · obtain ⟨j, hj⟩ := List.getElem?_of_mem hy
        obtain ⟨d, hd, s1, s2, s3⟩ := hS j y hj
        exact smallA_of s1 s2 (s3 (sized_elem Try.underlying46 hs (List.mem_of_getElem? hd)))
  · rcases h5 with ⟨_, h0⟩ | ⟨es, spare, he, hl, hS⟩
    · omega
    · rw [he]
      have h6 := bulk_slice es spare
      have h7 := bulk_len es
      omega
theorem rec_val {v : Value} {x : RV} (h : v.cells.toList = x.cells) : v = x.val := by
  cases v <;> simp [Value.cells, RV.cells] at h
  rename_i xs
  rw [RV.val]
  congr 1
  apply Array.ext'
  exact h
end
end Go.Proofs.Ytlegjdlmcphhlab
