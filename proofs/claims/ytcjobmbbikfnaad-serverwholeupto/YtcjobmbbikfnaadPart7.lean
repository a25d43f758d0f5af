/- TEXTS LAID TOGETHER: Commonb, Commone, Plainb, Refb, Mathf, Mathh, Mathl, Maps -/
import Derived.Test.YtcjobmbbikfnaadPart5
import Derived.Test.YtcjobmbbikfnaadPart6
import Derived.Test.YtcjobmbbikfnaadPart4
import Derived.Maps.RangeRun
/-
  ACTS AS THEY ARE READ.
-/
namespace Go.Proofs.Ytcjobmbbikfnaad
open Go.ChangeShapes Go.WideShapes Go.ChangeAt Go.RowKit Go.Deep

theorem cellsA : Try.prog.cellsOf 36 = 7 := by kernel_rfl

section
variable {H : Type} {enc : TypeId × Value → H}
set_option maxRecDepth 8000 in
/-- an act that came in -/
theorem open_act {W : World} {sp : Nat → Bool} {held : Bool} {fuel : Nat} {cs : List Value} {x : DataW H × List MemPlace} (h : DataW.trod enc Try.prog W 0 sp held fuel 36 cs = some x) :
    ∃ (v : AV) (y : M.Act), cs = v.cells ∧ ContA W v y ∧ y.name.size ≤ maxLen ∧ y.toName.size ≤ maxLen ∧ (Sized 36 x.1 → y.data.length ≤ reachBytes) := by
  obtain ⟨ys, m, _, rfl, hl, hys, hf⟩ := DataW.trod_struct Try.underlying36 h
  rw [cellsA] at hl
  obtain ⟨c0, c1, c2, c3, c4, c5, c6, rfl⟩ : ∃ a b c d e f g, cs = [a, b, c, d, e, f, g] := by
    match cs, hl with
    | [a, b, c, d, e, f, g], _ => exact ⟨a, b, c, d, e, f, g, rfl⟩
  have f0 : DataW.trod enc Try.prog W 0 sp held m 3 (([c0, c1, c2, c3, c4, c5, c6].drop 0).take (Try.prog.cellsOf 3)) = ys[0]? := hf 0 _ rfl
  rw [cells3] at f0
  change DataW.trod enc Try.prog W 0 sp held m 3 [c0] = ys[0]? at f0
  have f1 : DataW.trod enc Try.prog W 0 sp held m 3 (([c0, c1, c2, c3, c4, c5, c6].drop 1).take (Try.prog.cellsOf 3)) = ys[1]? := hf 1 _ rfl
  rw [cells3] at f1
  change DataW.trod enc Try.prog W 0 sp held m 3 [c1] = ys[1]? at f1
  have f2 : DataW.trod enc Try.prog W 0 sp held m 3 (([c0, c1, c2, c3, c4, c5, c6].drop 2).take (Try.prog.cellsOf 3)) = ys[2]? := hf 2 _ rfl
  rw [cells3] at f2
  change DataW.trod enc Try.prog W 0 sp held m 3 [c2] = ys[2]? at f2
  have f3 : DataW.trod enc Try.prog W 0 sp held m 9 (([c0, c1, c2, c3, c4, c5, c6].drop 3).take (Try.prog.cellsOf 9)) = ys[3]? := hf 3 _ rfl
  rw [cells9] at f3
  change DataW.trod enc Try.prog W 0 sp held m 9 [c3] = ys[3]? at f3
  have f4 : DataW.trod enc Try.prog W 0 sp held m 3 (([c0, c1, c2, c3, c4, c5, c6].drop 4).take (Try.prog.cellsOf 3)) = ys[4]? := hf 4 _ rfl
  rw [cells3] at f4
  change DataW.trod enc Try.prog W 0 sp held m 3 [c4] = ys[4]? at f4
  have f5 : DataW.trod enc Try.prog W 0 sp held m 9 (([c0, c1, c2, c3, c4, c5, c6].drop 5).take (Try.prog.cellsOf 9)) = ys[5]? := hf 5 _ rfl
  rw [cells9] at f5
  change DataW.trod enc Try.prog W 0 sp held m 9 [c5] = ys[5]? at f5
  have f6 : DataW.trod enc Try.prog W 0 sp held m 34 (([c0, c1, c2, c3, c4, c5, c6].drop 6).take (Try.prog.cellsOf 34)) = ys[6]? := hf 6 _ rfl
  rw [cells23] at f6
  change DataW.trod enc Try.prog W 0 sp held m 34 [c6] = ys[6]? at f6
  have hlen : ys.length = 7 := hys
  have g : ∀ k, k < 7 → ∃ y, ys[k]? = some y := fun k hk => ⟨_, List.getElem?_eq_getElem (by omega)⟩
  obtain ⟨y0, g0⟩ := g 0 (by omega)
  obtain ⟨y1, g1⟩ := g 1 (by omega)
  obtain ⟨y2, g2⟩ := g 2 (by omega)
  obtain ⟨y3, g3⟩ := g 3 (by omega)
  obtain ⟨y4, g4⟩ := g 4 (by omega)
  obtain ⟨y5, g5⟩ := g 5 (by omega)
  obtain ⟨y6, g6⟩ := g 6 (by omega)
  rw [g0] at f0
  rw [g1] at f1
  rw [g2] at f2
  rw [g3] at f3
  rw [g4] at f4
  rw [g5] at f5
  rw [g6] at f6
  obtain ⟨z0, e0, _, _⟩ := DataW.trod_int Try.underlying3 f0
  obtain ⟨z1, e1, _, _⟩ := DataW.trod_int Try.underlying3 f1
  obtain ⟨z2, e2, _, _⟩ := DataW.trod_int Try.underlying3 f2
  obtain ⟨s3, e3, _, w3⟩ := DataW.trod_string Try.underlying9 f3
  obtain ⟨z4, e4, _, _⟩ := DataW.trod_int Try.underlying3 f4
  obtain ⟨s5, e5, _, w5⟩ := DataW.trod_string Try.underlying9 f5
  obtain ⟨A6, n6, k6, l6, e6, hb6, hd6⟩ := open_bytes f6
  cases e0; cases e1; cases e2; cases e3; cases e4; cases e5; cases e6
  refine ⟨⟨z0, z1, z2, s3, z4, s5, A6, n6, k6⟩, ⟨z0, z1, z2, s3, z4, s5, l6⟩, rfl, ⟨rfl, rfl, rfl, rfl, rfl, rfl, hb6⟩, w3, w5, fun hsz => ?_⟩
  have s6 : Sized 34 y6.1 := sized_field (H := H) (j := 6) Try.underlying36 hsz rfl (by rw [List.getElem?_map, g6]; rfl)
  show l6.length ≤ _
  rw [← hb6.1]
  rcases hd6 with ⟨_, h0⟩ | ⟨es, spare, he, hn⟩
  · rw [h0]; exact Nat.zero_le _
  · rw [he] at s6
    have := sized_len Try.underlying34 s6
    rw [bytes5] at this
    omega
theorem act_val {v : Value} {x : AV} (h : v.cells.toList = x.cells) : v = x.val := by
  cases v <;> simp [Value.cells, AV.cells] at h
  rename_i xs
  rw [AV.val]
  congr 1
  apply Array.ext'
  exact h
theorem smallA_of {y : M.Act} (h1 : y.name.size ≤ maxLen) (h2 : y.toName.size ≤ maxLen) (h3 : y.data.length ≤ reachBytes) : SmallA y := ⟨h1, h2, by rw [reach_val] at h3; omega⟩
end
end Go.Proofs.Ytcjobmbbikfnaad
/-
  LISTS AS THEY ARE READ, whatever they hold; acts.
-/
namespace Go.Proofs.Ytcjobmbbikfnaad
open Go.ChangeShapes Go.WideShapes Go.ChangeAt Go.RowKit Go.Deep

theorem bytesA : Try.prog.bytesOf 36 = 88 := by kernel_rfl
section
variable {H : Type} {enc : TypeId × Value → H}
/-- a list that came in, of whatever can be read -/
theorem open_rows {α β : Type} [Inhabited α] [Inhabited β] {W : World} {sp : Nat → Bool} {held : Bool} {t e : TypeId} {k : Nat} (cs : α → List Value) (hlen : ∀ v, (cs v).length = k) (k0 : 0 < k) (hu : Try.prog.underlying t = some (.slice e)) (hce : Try.prog.cellsOf e = k) (C : α → β → Prop) (S : DataW H → β → Prop)
    (open1 : ∀ {fuel : Nat} {l : List Value} {x : DataW H × List MemPlace}, DataW.trod enc Try.prog W 0 sp held fuel e l = some x → ∃ (v : α) (y : β), l = cs v ∧ C v y ∧ S x.1 y)
    {fuel : Nat} {l : List Value} {x : DataW H × List MemPlace} (h : DataW.trod enc Try.prog W 0 sp held fuel t l = some x) :
    ∃ (A : Option Addr) (n c : Nat) (vs : List α) (xs : List β), l = [.slice A n c] ∧ n ≤ c ∧ c ≤ maxLen ∧ Row k cs W A n vs ∧ All2 C vs xs ∧ ((x.1 = .nil ∧ n = 0) ∨ ∃ es spare, x.1 = .slice es spare ∧ es.length = n ∧ ∀ (j : Nat) (y : β), xs[j]? = some y → ∃ d, es[j]? = some d ∧ S d y) := by
  rcases open_slice hu h with ⟨rfl, rfl⟩ | ⟨a, len, cap, m, n, D, Pl, rfl, hb, hl, hm, hmm, rfl, hx⟩
  · exact ⟨none, 0, 0, [], [], rfl, Nat.le_refl _, Nat.zero_le _, ⟨rfl, .inl rfl⟩, All2.nil, .inl ⟨rfl, rfl⟩⟩
  · have hlm : len ≤ m := by rw [hmm]; split <;> omega
    rw [hce] at hx
    have each : ∀ i, i < len → ∃ q : α × β, (∀ (j : Nat) c, (cs q.1)[j]? = some c → W.cell? (a.add (i * k + j)) = some c) ∧ C q.1 q.2 ∧ S (D i) q.2 := fun i hi => by
      obtain ⟨cs', h1, h2⟩ := hx i (by omega)
      obtain ⟨v, y, rfl, hc, hs⟩ := open1 h2
      obtain ⟨_, _, hcell⟩ := World.cells?_some h1
      refine ⟨(v, y), fun j c hc' => ?_, hc, hs⟩
      have hj : j < k := by
        rcases Nat.lt_or_ge j k with h3 | h3
        · exact h3
        · rw [List.getElem?_eq_none (by rw [hlen]; exact h3)] at hc'; cases hc'
      have := hcell j hj
      rw [show (a.add (i * k)).add j = a.add (i * k + j) from Addr.add_add a _ _] at this
      rw [this]
      exact hc'
    obtain ⟨U, hU⟩ := choose_lt each
    have hget : ∀ {γ : Type} (f : Nat → γ) (j : Nat) (v : γ), ((List.range len).map f)[j]? = some v → j < len ∧ f j = v := fun f j v hv => by
      have hj : j < len := by
        rcases Nat.lt_or_ge j len with h1 | h1
        · exact h1
        · rw [List.getElem?_eq_none (by simpa using h1)] at hv; cases hv
      rw [List.getElem?_map, List.getElem?_range hj] at hv
      exact ⟨hj, Option.some.inj hv⟩
    refine ⟨some a, len, cap, (List.range len).map fun i => (U i).1, (List.range len).map fun i => (U i).2, rfl, hl, hm, ?_, ⟨by simp, fun j v y hv hy => ?_⟩, .inr ⟨_, _, rfl, by simp, fun j y hy => ?_⟩⟩
    · have := row_mk (k := k) (cs := cs) k0 hlen (w := W) (vs := (List.range len).map fun i => (U i).1) (a := a) (fun j v hv i c hc => by
        obtain ⟨hj, rfl⟩ := hget _ j v hv
        exact (hU j hj).1 i c hc)
      rw [List.length_map, List.length_range] at this
      exact this
    · obtain ⟨hj, rfl⟩ := hget _ j v hv
      obtain ⟨_, rfl⟩ := hget _ j y hy
      exact (hU j hj).2.1
    · obtain ⟨hj, rfl⟩ := hget _ j y hy
      exact ⟨D j, by rw [List.getElem?_map, List.getElem?_range hj]; rfl, (hU j hj).2.2⟩

instance : Inhabited AV := ⟨⟨0, 0, 0, ⟨#[]⟩, 0, ⟨#[]⟩, none, 0, 0⟩⟩
instance : Inhabited M.Act := ⟨⟨0, 0, 0, ⟨#[]⟩, 0, ⟨#[]⟩, []⟩⟩
/-- acts that came in -/
theorem open_acts {W : World} {sp : Nat → Bool} {held : Bool} {fuel : Nat} {l : List Value} {x : DataW H × List MemPlace} (h : DataW.trod enc Try.prog W 0 sp held fuel 27 l = some x) :
    ∃ (A : Option Addr) (n c : Nat) (vs : List AV) (xs : List M.Act), l = [.slice A n c] ∧ n ≤ c ∧ c ≤ maxLen ∧ TreeA W A n vs xs ∧ (Sized 27 x.1 → n * 88 ≤ reachBytes ∧ ∀ y ∈ xs, SmallA y) ∧ n ≤ Rows.uptoBulk x.1 := by
  obtain ⟨A, n, c, vs, xs, rfl, h1, h2, h3, h4, h5⟩ := open_rows AV.cells act_len (by decide) Try.underlying27 cellsA (ContA W) (fun d y => y.name.size ≤ maxLen ∧ y.toName.size ≤ maxLen ∧ (Sized (H := H) 36 d → y.data.length ≤ reachBytes)) (fun h => by obtain ⟨v, y, e, hc, a1, a2, a3⟩ := open_act h; exact ⟨v, y, e, hc, a1, a2, a3⟩) h
  have hnx : n = xs.length := by rw [h3.1, h4.1]
  refine ⟨A, n, c, vs, xs, rfl, h1, h2, ⟨h3, h4⟩, fun hs => ?_, ?_⟩
  · rcases h5 with ⟨_, h0⟩ | ⟨es, spare, he, hl, hS⟩
    · refine ⟨by rw [h0]; simp, fun y hy => ?_⟩
      rw [h0] at hnx
      rw [List.eq_nil_of_length_eq_zero hnx.symm] at hy
      cases hy
    · rw [he] at hs
      refine ⟨?_, fun y hy => ?_⟩
      · have := sized_len Try.underlying27 hs
        rw [bytesA] at this
        omega
      · obtain ⟨j, hj⟩ := List.getElem?_of_mem hy
        obtain ⟨d, hd, s1, s2, s3⟩ := hS j y hj
        exact smallA_of s1 s2 (s3 (sized_elem Try.underlying27 hs (List.mem_of_getElem? hd)))
  · rcases h5 with ⟨_, h0⟩ | ⟨es, spare, he, hl, hS⟩
    · omega
    · rw [he]
      have h6 := bulk_slice es spare
      have h7 := bulk_len es
      omega
end
end Go.Proofs.Ytcjobmbbikfnaad
/-
  PIECES: what is found behind Put and Drop; what stays small.
-/
namespace Go.Proofs.Ytcjobmbbikfnaad
open Go.RowKit

theorem small_any {x : M.Nd} (h1 : x.data.length ≤ 100) (h2 : x.ents.length ≤ 100) : Small x := ⟨by omega, by omega⟩
theorem findN_put (xs : List M.Nd) (x : M.Nd) : M.find (M.putN xs x) x.fid = some x := M.put_find (fun y : M.Nd => y.fid) xs M.ordI x
theorem findN_other (xs : List M.Nd) (x : M.Nd) (t : Int) (h : t ≠ x.fid) : M.find (M.putN xs x) t = M.find xs t := M.put_find_other (fun y : M.Nd => y.fid) xs M.ordI x t h
theorem findN_drop (xs : List M.Nd) (t : Int) : M.find (M.dropN xs t) t = none := M.find_filter_none (fun y : M.Nd => y.fid) xs _ t (fun y _ e => by simp [e])
theorem rs_put {xs : List M.Nd} (x : M.Nd) (h : M.RsN xs) : M.RsN (M.putN xs x) := M.put_rs (fun y : M.Nd => y.fid) xs M.ordI x h
theorem rs_drop {xs : List M.Nd} (t : Int) (h : M.RsN xs) : M.RsN (M.dropN xs t) := M.rs_sub h (List.filter_sublist.map _)
theorem small_put {xs : List M.Nd} {x : M.Nd} (h : ∀ y ∈ xs, Small y) (hx : Small x) : ∀ y ∈ M.putN xs x, Small y := by
  intro y hy
  unfold M.putN M.put at hy
  rcases List.mem_append.1 hy with h1 | h1
  · exact h y (List.mem_filter.1 h1).1
  · rcases List.mem_cons.1 h1 with h2 | h2
    · rw [h2]; exact hx
    · exact h y (List.mem_filter.1 h2).1
theorem small_drop {xs : List M.Nd} (t : Int) (h : ∀ y ∈ xs, Small y) : ∀ y ∈ M.dropN xs t, Small y := fun y hy => h y (List.mem_filter.1 hy).1
theorem small_get {xs : List M.Nd} (t : Int) (h : ∀ y ∈ xs, Small y) : Small ((M.find xs t).getD nd0) := by
  cases hf : M.find xs t with
  | none => exact small_any (by simp [nd0]) (by simp [nd0])
  | some y => exact h y (List.mem_of_find?_eq_some hf)

theorem below_new {w w' : World} (h : Below w.heap.size w w') (o : Obj) : Below w.heap.size w (w'.alloc o) := h.alloc h.size o

/-- two rising lists of the same members are one -/
theorem rs_ext : ∀ {ls ms : List M.Nd}, M.RsN ls → M.RsN ms → (∀ x, x ∈ ls ↔ x ∈ ms) → ls = ms
  | [], [], _, _, _ => rfl
  | [], b :: ms, _, _, h => by have := (h b).2 (List.mem_cons_self ..); cases this
  | a :: ls, [], _, _, h => by have := (h a).1 (List.mem_cons_self ..); cases this
  | a :: ls, b :: ms, ha, hb, h => by
    have ha1 : ∀ y ∈ ls, a.fid < y.fid := by
      have hp : M.Rs M.ltI ((a :: ls).map (·.fid)) := ha
      unfold M.Rs at hp
      rw [List.map_cons, List.pairwise_cons] at hp
      intro y hy
      have := hp.1 y.fid (List.mem_map.2 ⟨y, hy, rfl⟩)
      simpa [M.ltI] using this
    have hb1 : ∀ y ∈ ms, b.fid < y.fid := by
      have hp : M.Rs M.ltI ((b :: ms).map (·.fid)) := hb
      unfold M.Rs at hp
      rw [List.map_cons, List.pairwise_cons] at hp
      intro y hy
      have := hp.1 y.fid (List.mem_map.2 ⟨y, hy, rfl⟩)
      simpa [M.ltI] using this
    have hab : a = b := by
      rcases List.mem_cons.1 ((h a).1 (List.mem_cons_self ..)) with h1 | h1
      · exact h1
      · rcases List.mem_cons.1 ((h b).2 (List.mem_cons_self ..)) with h2 | h2
        · exact h2.symm
        · have := ha1 b h2; have := hb1 a h1; omega
    subst hab
    have ht : ls = ms := by
      refine rs_ext (M.rs_sub ha ((List.sublist_cons_self a ls).map _)) (M.rs_sub hb ((List.sublist_cons_self a ms).map _)) fun x => ⟨fun hx => ?_, fun hx => ?_⟩
      · rcases List.mem_cons.1 ((h x).1 (List.mem_cons_of_mem _ hx)) with h1 | h1
        · subst h1; have := ha1 x hx; omega
        · exact h1
      · rcases List.mem_cons.1 ((h x).2 (List.mem_cons_of_mem _ hx)) with h1 | h1
        · subst h1; have := hb1 x hx; omega
        · exact h1
    rw [ht]

/-- of a rising list one more is picked -/
theorem filter_put {xs : List M.Nd} {x : M.Nd} (hr : M.RsN xs) (hx : x ∈ xs) (p q : Int → Bool) (hp : p x.fid = false) (hq : ∀ k, q k = (p k || decide (k = x.fid))) :
    xs.filter (fun y => q y.fid) = M.putN (xs.filter (fun y => p y.fid)) x := by
  have hone : ∀ y ∈ xs, y.fid = x.fid → y = x := by
    intro y hy he
    obtain ⟨i, hi⟩ := List.getElem?_of_mem hy
    obtain ⟨j, hj⟩ := List.getElem?_of_mem hx
    have h1 := M.find_self hr hi
    have h2 := M.find_self hr hj
    rw [he, h2] at h1
    exact (Option.some.inj h1).symm
  refine rs_ext (M.rs_sub hr (List.filter_sublist.map _)) (rs_put x (M.rs_sub hr (List.filter_sublist.map _))) fun y => ?_
  unfold M.putN M.put
  simp only [List.mem_append, List.mem_cons, List.mem_filter, M.ltI, decide_eq_true_eq]
  constructor
  · rintro ⟨hy, hqy⟩
    rw [hq, Bool.or_eq_true] at hqy
    by_cases he : y.fid = x.fid
    · exact .inr (.inl (hone y hy he))
    · have hpy : p y.fid = true := by
        rcases hqy with h | h
        · exact h
        · exact absurd (of_decide_eq_true h) he
      rcases Int.lt_or_gt_of_ne he with h | h
      · exact .inl ⟨⟨hy, hpy⟩, h⟩
      · exact .inr (.inr ⟨⟨hy, hpy⟩, h⟩)
  · rintro (⟨⟨hy, hpy⟩, _⟩ | rfl | ⟨⟨hy, hpy⟩, _⟩)
    · exact ⟨hy, by rw [hq, hpy]; rfl⟩
    · exact ⟨hx, by rw [hq]; simp⟩
    · exact ⟨hy, by rw [hq, hpy]; rfl⟩
/-- and its place -/
theorem put_place {ys : List M.Nd} {x : M.Nd} {k : Nat} (hr : M.RsN ys) (hlow : ∀ y ∈ ys.take k, y.fid < x.fid) (hup : ∀ y, ys[k]? = some y → x.fid < y.fid) :
    M.putN ys x = ys.take k ++ [x] ++ ys.drop k := by
  have hp : M.Rs M.ltI (ys.map (·.fid)) := hr
  unfold M.Rs at hp
  rw [List.pairwise_map] at hp
  have hhi : ∀ y ∈ ys.drop k, x.fid < y.fid := by
    intro y hy
    obtain ⟨i, hi⟩ := List.getElem?_of_mem hy
    rw [List.getElem?_drop] at hi
    obtain ⟨hl, he⟩ := List.getElem?_eq_some_iff.1 hi
    by_cases h0 : i = 0
    · subst h0; exact hup y (by simpa using hi)
    · have hk : k < ys.length := by omega
      have h1 := hup ys[k] (List.getElem?_eq_getElem hk)
      have h2 := List.pairwise_iff_getElem.1 hp k (k + i) hk hl (by omega)
      rw [he] at h2
      simp [M.ltI] at h2
      omega
  have hs : ys = ys.take k ++ ys.drop k := (List.take_append_drop k ys).symm
  unfold M.putN M.put
  have e1 : ys.filter (fun y => M.ltI y.fid x.fid) = ys.take k := by
    rw [hs, List.filter_append, List.take_append_drop]
    rw [List.filter_eq_self.2 (fun y hy => by simpa [M.ltI] using hlow y hy), List.filter_eq_nil_iff.2 (fun y hy => by have := hhi y hy; simp [M.ltI]; omega), List.append_nil]
  have e2 : ys.filter (fun y => M.ltI x.fid y.fid) = ys.drop k := by
    rw [hs, List.filter_append, List.take_append_drop]
    rw [List.filter_eq_nil_iff.2 (fun y hy => by have := hlow y hy; simp [M.ltI]; omega), List.filter_eq_self.2 (fun y hy => by simpa [M.ltI] using hhi y hy), List.nil_append]
  rw [e1, e2]
  simp
end Go.Proofs.Ytcjobmbbikfnaad
/-
  THE REFERENCE's Same (of lists of nodes).
-/
namespace Go.Proofs.Ytcjobmbbikfnaad
open Go.RowKit

set_option maxHeartbeats 2000000 in
theorem refSame_any (A B : Option Addr) (n m ca cb : Nat) (vs us : List NV) (xs ys : List M.Nd) (vb : Bool) (w : World) (hx : Tree w A n vs xs) (hy : Tree w B m us ys) (hn : n * 72 ≤ 140737488355328) (hm : m * 72 ≤ 140737488355328) (sx : ∀ x ∈ xs, Small x) (sy : ∀ y ∈ ys, Small y) :
    Calls Try.prog 16 #[.slice A n ca, .slice B m cb, .bool vb] w fun e w' => e = .returned (.bool (allB (sameNd vb) xs ys)) ∧ Below w.heap.size w w' := by
  have HS : Hid ((∀ x ∈ xs, Small x) ∧ (∀ y ∈ ys, Small y)) := ⟨sx, sy⟩
  have HT : Hid (Tree w A n vs xs ∧ Tree w B m us ys) := ⟨hx, hy⟩
  clear sx sy
  by_cases hnm : n = m
  · subst hnm
    have q0 : ((n : Int) == (n : Int)) = true := by simp
    have q1 : ((n : Int) != (n : Int)) = false := by simp
    clear hx hy
    go_enter Try.func16, Try.ntmps16
    go_wp2
    go_loopw [15] (fun i wr => ∃ k : Nat, k ≤ n ∧ i = .int .i64 k ∧ Hid (allB (sameNd vb) (xs.take k) (ys.take k) = true) ∧ Below w.heap.size w wr) (fun i _ => n - (intOf i).toNat)
    case atStart => exact ⟨0, Nat.zero_le _, rfl, rfl, Below.refl _ _⟩
    case round =>
      obtain ⟨k, hk, rfl, HE, hb⟩ := hrel
      have hsz := hb.size
      by_cases hlt : k < n
      · have hxr := HT.out.1.below (Nat.le_refl _) hb
        have hyr := HT.out.2.below (Nat.le_refl _) hb
        obtain ⟨b, o, v, rfl, _, hvk, a0, a1, a2, a3, a4⟩ := hxr.1.at hlt
        obtain ⟨b2, o2, u, rfl, _, huk, c0, c1, c2, c3, c4⟩ := hyr.1.at hlt
        obtain ⟨x, hxk, hcx⟩ := hxr.2.at hvk
        obtain ⟨y, hyk, hcy⟩ := hyr.2.at huk
        have HX : Hid (Cont wr v x ∧ Small x ∧ xs[k]? = some x) := ⟨hcx, HS.out.1 x (List.mem_of_getElem? hxk), hxk⟩
        have HY : Hid (Cont wr u y ∧ Small y ∧ ys[k]? = some y) := ⟨hcy, HS.out.2 y (List.mem_of_getElem? hyk), hyk⟩
        have HL : Hid ((xs.take k).length = (ys.take k).length) := by
          show _ = _
          rw [List.length_take, List.length_take, ← HT.out.1.2.1, ← HT.out.2.2.1, ← HT.out.1.1.1, ← HT.out.2.1.1]
        have hkn : (k : Int) < (n : Int) := by omega
        have hk0 : (0 : Int) ≤ (k : Int) := by omega
        clear hxk hyk hvk huk hcx hcy hxr hyr
        cases hal : sameNd vb x y
        · have HAL : Hid (sameNd vb x y = false) := hal
          clear hal
          go_wp2
          go_region_with (go_at_call 26; refine (sameNode_any v u x y vb _ (HX.out.1.below (Nat.le_refl _) ((Below.refl _ _).drew)) (HY.out.1.below (Nat.le_refl _) ((Below.refl _ _).drew)) HX.out.2.1 HY.out.2.1).mono ?_; rintro e w1 ⟨rfl, hb1⟩; rw [HAL.out]; have H1 : Hid (Below w.heap.size w w1) := hb.drew.trans (hb1.mono hsz); clear hb1)
          all_goals
            go_wp2
            go_ret
            exact ⟨ret_bool (allB_no HX.out.2.2 HY.out.2.2 HAL.out).symm, H1.out⟩
        · have HAL : Hid (sameNd vb x y = true) := hal
          clear hal
          go_wp2
          go_region_with (go_at_call 26; refine (sameNode_any v u x y vb _ (HX.out.1.below (Nat.le_refl _) ((Below.refl _ _).drew)) (HY.out.1.below (Nat.le_refl _) ((Below.refl _ _).drew)) HX.out.2.1 HY.out.2.1).mono ?_; rintro e w1 ⟨rfl, hb1⟩; rw [HAL.out]; have H1 : Hid (Below w.heap.size w w1) := hb.drew.trans (hb1.mono hsz); clear hb1)
          all_goals
            go_wp2
            go_roundw
            case rel => exact ⟨k + 1, by omega, by go_num, by show _ = true; rw [take_step HX.out.2.2, take_step HY.out.2.2, allB_snoc HL.out, HE.out, HAL.out]; rfl, H1.out⟩
            case measure => simp [intOf]; omega
      · have HN : Hid (xs.length ≤ k ∧ ys.length ≤ k) := by show _ ∧ _; rw [← HT.out.1.2.1, ← HT.out.2.2.1, ← HT.out.1.1.1, ← HT.out.2.1.1]; omega
        go_wp2
        go_ret
        exact ⟨ret_bool (by
          have e := HE.out
          rw [List.take_of_length_le HN.out.1, List.take_of_length_le HN.out.2] at e
          exact e.symm), hb⟩
  · have HN : Hid (xs.length ≠ ys.length) := by show _ ≠ _; rw [← hx.2.1, ← hy.2.1, ← hx.1.1, ← hy.1.1]; exact hnm
    have q0 : ((n : Int) == (m : Int)) = false := by rw [beq_eq_false_iff_ne]; omega
    have q1 : ((n : Int) != (m : Int)) = true := by rw [bne, q0]; rfl
    clear hx hy
    go_enter Try.func16, Try.ntmps16
    go_wp2
    go_ret
    exact ⟨ret_bool (allB_len HN.out).symm, Below.refl _ _⟩

end Go.Proofs.Ytcjobmbbikfnaad
/-
  PLAIN MATHEMATICS of chapter 3: made, and removed.
-/
namespace Go.Proofs.Ytcjobmbbikfnaad

/-- of no version -/
def bare (x : M.Nd) : M.Nd := M.withV x 0
theorem bare_alike {x y : M.Nd} (h : bare x = bare y) : sameNd false x y = true := by
  unfold bare M.withV at h
  simp only [M.Nd.mk.injEq] at h
  unfold sameNd alike
  simp [h.1, h.2.1, h.2.2.1, h.2.2.2.1]
theorem find_bare (xs : List M.Nd) (t : Int) : M.find (xs.map bare) t = (M.find xs t).map bare := by
  unfold M.find
  rw [List.find?_map]
  rfl
theorem rs_bare {xs : List M.Nd} (h : M.RsN xs) : M.RsN (xs.map bare) := by
  have e : (xs.map bare).map (·.fid) = xs.map (·.fid) := by rw [List.map_map]; rfl
  unfold M.RsN; rw [e]; exact h
theorem mem_find {xs : List M.Nd} (hr : M.RsN xs) {x : M.Nd} (h : x ∈ xs) : M.find xs x.fid = some x := by
  obtain ⟨i, hi⟩ := List.getElem?_of_mem h
  exact M.find_self hr hi
theorem ext_find {xs ys : List M.Nd} (hx : M.RsN xs) (hy : M.RsN ys) (h : ∀ t, M.find xs t = M.find ys t) : xs = ys := by
  refine rs_ext hx hy fun x => ⟨fun hm => ?_, fun hm => ?_⟩
  · have := mem_find hx hm; rw [h] at this; exact (M.find_mem this).1
  · have := mem_find hy hm; rw [← h] at this; exact (M.find_mem this).1
theorem allB_bare : ∀ {xs ys : List M.Nd}, xs.map bare = ys.map bare → allB (sameNd false) xs ys = true
  | [], [], _ => rfl
  | [], _ :: _, h => by cases h
  | _ :: _, [], h => by cases h
  | x :: xs, y :: ys, h => by
    rw [List.map_cons, List.map_cons] at h
    have h1 := List.cons.inj h
    rw [allB, bare_alike h1.1, allB_bare h1.2]; rfl
/-- alike, if what is found is -/
theorem same_of_find {xs ys : List M.Nd} (hx : M.RsN xs) (hy : M.RsN ys) (h : ∀ t, (M.find xs t).map bare = (M.find ys t).map bare) : allB (sameNd false) xs ys = true :=
  allB_bare (ext_find (rs_bare hx) (rs_bare hy) fun t => by rw [find_bare, find_bare, h])
theorem find_drop_other (xs : List M.Nd) (f t : Int) (h : t ≠ f) : M.find (M.dropN xs f) t = M.find xs t :=
  M.find_filter (fun y : M.Nd => y.fid) xs _ t (fun y _ e => by rw [e]; simp [h])
theorem look_put (es : List (ByteArray × Int)) (s : ByteArray) (f : Int) : M.look (M.putE es (s, f)) s = some (s, f) := M.put_find (fun y : ByteArray × Int => y.1) es M.ordB (s, f)
theorem look_none_ne {es : List (ByteArray × Int)} {s : ByteArray} (h : M.look es s = none) : ∀ e ∈ es, e.1 ≠ s := by
  intro e he
  unfold M.look at h
  rw [List.find?_eq_none] at h
  simpa using h e he
theorem drop_put {es : List (ByteArray × Int)} {s : ByteArray} {f : Int} (hr : M.RsE es) (h : M.look es s = none) : M.dropE (M.putE es (s, f)) s = es :=
  M.put_drop (fun y : ByteArray × Int => y.1) es M.ordB (s, f) hr (look_none_ne h)
theorem bring_inv {xs : List M.Nd} {ac : M.Act} {v : Int} (h : (M.bringS xs ac v).1 = 0) : (M.dirS xs ac.dir).1 = 0 ∧ M.freeS (M.dirS xs ac.dir).2 ac.name = 0 ∧ ¬ (ac.fid = 0 ∨ (M.find xs ac.fid).isSome) ∧ ¬ 24 ≤ xs.length := by
  by_cases h1 : (M.dirS xs ac.dir).1 = 0
  case' neg => rw [bring_dir h1] at h; exact absurd h h1
  by_cases h2 : M.freeS (M.dirS xs ac.dir).2 ac.name = 0
  case' neg => rw [bring_free h1 h2] at h; exact absurd h h2
  by_cases h3 : ac.fid = 0 ∨ (M.find xs ac.fid).isSome
  case' pos => rw [bring_stale h1 h2 h3] at h; simp at h
  by_cases h4 : 24 ≤ xs.length
  case' pos => rw [bring_many h1 h2 h3 h4] at h; simp at h
  exact ⟨h1, h2, h3, h4⟩

/-- made, and removed -/
theorem back {xs : List M.Nd} (hr : M.Rise xs) {ac rc : M.Act} {v u : Int} (h : (M.bringS xs ac v).1 = 0) (hf : rc.fid = ac.fid) (hd : rc.dir = ac.dir) (hn : rc.name = ac.name) :
    (M.removeS (M.bringS xs ac v).2 rc u).1 = 0 ∧ allB (sameNd false) (M.removeS (M.bringS xs ac v).2 rc u).2 xs = true := by
  obtain ⟨h1, h2, h3, h4⟩ := bring_inv h
  rw [bring_ok h1 h2 h3 h4]
  have hD := M.dir_ok h1
  generalize hd0 : (M.dirS xs ac.dir).2 = d at *
  have hfd : d.fid = ac.dir := (M.find_mem hD.1).2
  have hfr := M.free_ok h2
  have hre : M.RsE d.ents := hr.2 d (M.find_mem hD.1).1
  have hff : M.find xs ac.fid = none := by
    cases e : M.find xs ac.fid with
    | none => rfl
    | some y => rw [e] at h3; exact absurd (.inr rfl) h3
  have hne : ac.dir ≠ ac.fid := fun e => by rw [e, hff] at hD; cases hD.1
  generalize hd1 : M.withV (withE d (M.putE d.ents (ac.name, ac.fid))) v = d'
  generalize hn1 : (⟨ac.fid, decide (ac.kind = 2), [], [], v⟩ : M.Nd) = n'
  have e1 : d'.fid = ac.dir := by rw [← hd1]; exact hfd
  have e2 : n'.fid = ac.fid := by rw [← hn1]
  have f1 : M.find (M.putN (M.putN xs d') n') ac.dir = some d' := by rw [findN_other _ _ _ (by rw [e2]; exact hne), ← e1]; exact findN_put _ _
  have f2 : M.find (M.putN (M.putN xs d') n') ac.fid = some n' := by rw [← e2]; exact findN_put _ _
  have hdir : d'.dir = true := by rw [← hd1]; exact hD.2
  have hlk : M.look d'.ents ac.name = some (ac.name, ac.fid) := by rw [← hd1]; exact look_put _ _ _
  have hdp : M.dropE d'.ents ac.name = d.ents := by rw [← hd1]; exact drop_put hre hfr.1
  have hh : M.holdS (M.putN (M.putN xs d') n') rc.dir rc.name rc.fid = (0, d') := by rw [hd, hn, hf]; exact hold_yes (M.dir_yes f1 hdir) hlk rfl
  have hrm := remove_ok (xs := M.putN (M.putN xs d') n') (ac := rc) (v := u) (x := n') (by rw [hh]) (by rw [hf]; exact f2) (by rw [← hn1]; simp)
  rw [hrm]
  refine ⟨rfl, ?_⟩
  rw [hh, hn, hf]
  show allB (sameNd false) (M.dropN (M.putN (M.putN (M.putN xs d') n') (M.withV (withE d' (M.dropE d'.ents ac.name)) u)) ac.fid) xs = true
  rw [hdp]
  generalize hd2 : M.withV (withE d' d.ents) u = d2
  have e3 : d2.fid = ac.dir := by rw [← hd2]; exact e1
  have hb2 : bare d2 = bare d := by rw [← hd2, ← hd1]; rfl
  refine same_of_find (rs_drop _ (rs_put _ (rs_put _ (rs_put _ hr.1)))) hr.1 fun t => ?_
  by_cases t1 : t = ac.fid
  · rw [t1, findN_drop, hff]
  · rw [find_drop_other _ _ _ t1]
    by_cases t2 : t = ac.dir
    · rw [t2, ← e3, findN_put, e3, hD.1, Option.map_some, Option.map_some, hb2]
    · rw [findN_other _ _ _ (by rw [e3]; exact t2), findN_other _ _ _ (by rw [e2]; exact t1), findN_other _ _ _ (by rw [e1]; exact t2)]
end Go.Proofs.Ytcjobmbbikfnaad
/-
  PLAIN MATHEMATICS of chapter 3: moved, and back.
-/
namespace Go.Proofs.Ytcjobmbbikfnaad
namespace M
section
variable {K X : Type} {lt : K → K → Bool} (f : X → K)
theorem put_self (o : Ordr lt) (x : X) : ∀ xs : List X, Rs lt (xs.map f) → x ∈ xs → put lt f xs x = xs
  | [], _, h => by cases h
  | y :: ys, hr, h => by
    have hr1 : ∀ z ∈ ys, lt (f y) (f z) = true := fun z hz => (List.pairwise_cons.1 hr).1 (f z) (List.mem_map.2 ⟨z, hz, rfl⟩)
    have hr2 : Rs lt (ys.map f) := (List.pairwise_cons.1 hr).2
    have anti : ∀ a b, lt a b = true → lt b a = false := fun a b hab => by
      cases hba : lt b a
      · rfl
      · have := o.tra _ _ _ hab hba; rw [o.irr] at this; cases this
    unfold put
    rw [List.filter_cons, List.filter_cons]
    rcases List.mem_cons.1 h with rfl | hx
    · rw [o.irr]
      have e1 : ys.filter (fun z => lt (f z) (f x)) = [] := by
        rw [List.filter_eq_nil_iff]
        intro z hz
        rw [anti _ _ (hr1 z hz)]; simp
      have e2 : ys.filter (fun z => lt (f x) (f z)) = ys := by rw [List.filter_eq_self]; exact hr1
      rw [e1, e2]; rfl
    · have ih := put_self o x ys hr2 hx
      unfold put at ih
      rw [if_pos (hr1 x hx), if_neg (by rw [anti _ _ (hr1 x hx)]; simp), List.cons_append, ih]
variable [DecidableEq K]
theorem put_filter (o : Ordr lt) (x : X) (xs : List X) : put lt f (xs.filter fun y => !decide (f y = f x)) x = put lt f xs x := by
  unfold put
  rw [List.filter_filter, List.filter_filter]
  congr 1
  · apply List.filter_congr
    intro y _
    by_cases h : f y = f x
    · rw [h, o.irr]; rfl
    · simp [h]
  · congr 1
    apply List.filter_congr
    intro y _
    by_cases h : f y = f x
    · rw [h, o.irr]; rfl
    · simp [h]
end
theorem put_of_drop {es : List (ByteArray × Int)} {s : ByteArray} {g : Int} (hr : RsE es) (h : look es s = some (s, g)) : putE (dropE es s) (s, g) = es := by
  have h1 := put_filter (fun y : ByteArray × Int => y.1) ordB (s, g) es
  have h2 := put_self (fun y : ByteArray × Int => y.1) ordB (s, g) es hr (List.mem_of_find?_eq_some h)
  rw [h2] at h1
  exact h1
theorem look_drop (es : List (ByteArray × Int)) (s : ByteArray) : look (dropE es s) s = none := find_filter_none (fun y : ByteArray × Int => y.1) es _ s (fun y _ e => by simp [e])
theorem drop_lt {es : List (ByteArray × Int)} {s : ByteArray} {g : Int} (h : look es s = some (s, g)) : (dropE es s).length < es.length := by
  unfold dropE
  have hm : (s, g) ∈ es := List.mem_of_find?_eq_some h
  rcases Nat.lt_or_ge (es.filter fun e => !decide (e.1 = s)).length es.length with h1 | h1
  · exact h1
  · have he := List.filter_eq_self.1 (List.Sublist.eq_of_length_le (List.filter_sublist (l := es)) h1) (s, g) hm
    simp at he
end M
theorem free_yes {x : M.Nd} {s : ByteArray} (h1 : M.look x.ents s = none) (h2 : M.nameB s.data.toList = true) (h3 : x.ents.length < 6) : M.freeS x s = 0 := by
  unfold M.freeS
  rw [h1, h2, if_neg (by simp), if_neg (by omega)]
theorem rename_inv {xs : List M.Nd} {ac : M.Act} {v : Int} (h : (M.renameS xs ac v).1 = 0) : (M.holdS xs ac.dir ac.name ac.fid).1 = 0 ∧ (M.dirS xs ac.to).1 = 0 ∧ M.freeS (M.toS xs ac) ac.toName = 0 ∧ M.find xs ac.fid ≠ none ∧ ¬ M.Reach xs ac.fid ac.to := by
  by_cases h1 : (M.holdS xs ac.dir ac.name ac.fid).1 = 0
  case' neg => rw [rename_hold h1] at h; exact absurd h h1
  by_cases h2 : (M.dirS xs ac.to).1 = 0
  case' neg => rw [rename_dir h1 h2] at h; exact absurd h h2
  by_cases h3 : M.freeS (M.toS xs ac) ac.toName = 0
  case' neg => rw [rename_free h1 h2 h3] at h; exact absurd h h3
  by_cases h4 : M.find xs ac.fid = none
  case' pos => rw [rename_away h1 h2 h3 h4] at h; simp at h
  by_cases h5 : M.Reach xs ac.fid ac.to
  case' pos => rw [rename_loop h1 h2 h3 h4 h5] at h; simp at h
  exact ⟨h1, h2, h3, h4, h5⟩
theorem reach_same {xs ys : List M.Nd} {a : Int} (h : ∀ q, M.Reach xs a q → M.find ys q = M.find xs q) : ∀ q, M.Reach ys a q → M.Reach xs a q := by
  intro q hq
  induction hq with
  | refl => exact .refl
  | step _ hf he ih => exact .step ih (by rw [← h _ ih]; exact hf) he

/-- moved, and back -/
theorem moved {xs : List M.Nd} (hr : M.Rise xs) {ac rc : M.Act} {v u : Int} (h : (M.renameS xs ac v).1 = 0) (hdr : ¬ M.Reach xs ac.fid ac.dir) (hnm : M.nameB ac.name.data.toList = true) (h6 : ∀ x ∈ xs, x.ents.length ≤ 6)
    (r1 : rc.fid = ac.fid) (r2 : rc.dir = ac.to) (r3 : rc.name = ac.toName) (r4 : rc.to = ac.dir) (r5 : rc.toName = ac.name) :
    (M.renameS (M.renameS xs ac v).2 rc u).1 = 0 ∧ allB (sameNd false) (M.renameS (M.renameS xs ac v).2 rc u).2 xs = true := by
  obtain ⟨h1, h2, h3, h4, h5⟩ := rename_inv h
  rw [rename_ok h1 h2 h3 h4 h5]
  obtain ⟨hh1, hh2⟩ := hold_ok h1
  have hD := M.dir_ok (xs := xs) (f := ac.dir) (by rw [hh1])
  rw [hh1] at hD
  have hT := M.dir_ok h2
  have hfrom : M.fromS xs ac = { (M.holdS xs ac.dir ac.name ac.fid).2 with ents := M.dropE (M.holdS xs ac.dir ac.name ac.fid).2.ents ac.name } := rfl
  have htoS : M.toS xs ac = if ac.to = ac.dir then M.fromS xs ac else (M.dirS xs ac.to).2 := rfl
  generalize (M.holdS xs ac.dir ac.name ac.fid).2 = D at *
  generalize (M.dirS xs ac.to).2 = T at *
  have hDf : D.fid = ac.dir := (M.find_mem hD.1).2
  have hDr : M.RsE D.ents := hr.2 D (M.find_mem hD.1).1
  have hD6 : D.ents.length ≤ 6 := h6 D (M.find_mem hD.1).1
  have hTf : T.fid = ac.to := (M.find_mem hT.1).2
  have hTr : M.RsE T.ents := hr.2 T (M.find_mem hT.1).1
  have hdl := M.drop_lt hh2
  have hfr : M.RsE (M.fromS xs ac).ents := by rw [hfrom]; exact drop_rise hDr
  have hfe : (M.fromS xs ac).ents = M.dropE D.ents ac.name := by rw [hfrom]
  have hff : (M.fromS xs ac).fid = ac.dir := by rw [hfrom]; exact hDf
  have hfd : (M.fromS xs ac).dir = true := by rw [hfrom]; exact hD.2
  have hfree := M.free_ok h3
  have htr : M.RsE (M.toS xs ac).ents := by
    rw [htoS]
    split
    · exact hfr
    · exact hTr
  have htf : (M.toS xs ac).fid = ac.to := by
    rw [htoS]
    split
    · rename_i e; rw [hff]; exact e.symm
    · exact hTf
  have htd : (M.toS xs ac).dir = true := by
    rw [htoS]
    split
    · exact hfd
    · exact hT.2
  generalize hF : M.fromS xs ac = F at *
  generalize hS : M.toS xs ac = S at *
  -- what is there behind the first one
  have f1 : M.find (M.putN (M.putN xs (M.withV F v)) (M.withV (withE S (M.putE S.ents (ac.toName, ac.fid))) v)) ac.to = some (M.withV (withE S (M.putE S.ents (ac.toName, ac.fid))) v) := by
    have := findN_put (M.putN xs (M.withV F v)) (M.withV (withE S (M.putE S.ents (ac.toName, ac.fid))) v)
    rw [show (M.withV (withE S (M.putE S.ents (ac.toName, ac.fid))) v).fid = ac.to from htf] at this
    exact this
  have f2 : ac.dir ≠ ac.to → M.find (M.putN (M.putN xs (M.withV F v)) (M.withV (withE S (M.putE S.ents (ac.toName, ac.fid))) v)) ac.dir = some (M.withV F v) := by
    intro hne
    rw [findN_other _ _ _ (by show ac.dir ≠ S.fid; rw [htf]; exact hne)]
    have := findN_put xs (M.withV F v)
    rw [show (M.withV F v).fid = ac.dir from hff] at this
    exact this
  have f3 : ∀ t, t ≠ ac.to → t ≠ ac.dir → M.find (M.putN (M.putN xs (M.withV F v)) (M.withV (withE S (M.putE S.ents (ac.toName, ac.fid))) v)) t = M.find xs t := by
    intro t t1 t2
    rw [findN_other _ _ _ (by show t ≠ S.fid; rw [htf]; exact t1), findN_other _ _ _ (by show t ≠ F.fid; rw [hff]; exact t2)]
  have hrs : M.RsN (M.putN (M.putN xs (M.withV F v)) (M.withV (withE S (M.putE S.ents (ac.toName, ac.fid))) v)) := rs_put _ (rs_put _ hr.1)
  generalize hY : M.putN (M.putN xs (M.withV F v)) (M.withV (withE S (M.putE S.ents (ac.toName, ac.fid))) v) = ys at *
  have hfd1 : ac.fid ≠ ac.dir := fun e => hdr (by rw [e]; exact .refl)
  have hft1 : ac.fid ≠ ac.to := fun e => h5 (by rw [e]; exact .refl)
  have g1 : M.holdS ys rc.dir rc.name rc.fid = (0, M.withV (withE S (M.putE S.ents (ac.toName, ac.fid))) v) := by
    rw [r1, r2, r3]
    exact hold_yes (M.dir_yes f1 htd) (look_put _ _ _) rfl
  have gf : M.fromS ys rc = M.withV (withE S S.ents) v := by
    unfold M.fromS
    rw [g1, r3]
    show M.withV (withE S (M.dropE (M.putE S.ents (ac.toName, ac.fid)) ac.toName)) v = _
    rw [drop_put htr hfree.1]
  have g2 : ∃ y, M.dirS ys rc.to = (0, y) ∧ (ac.to ≠ ac.dir → y = M.withV F v) := by
    rw [r4]
    by_cases e : ac.to = ac.dir
    · have hd' : (M.withV (withE S (M.putE S.ents (ac.toName, ac.fid))) v).dir = true := htd
      exact ⟨_, M.dir_yes (x := M.withV (withE S (M.putE S.ents (ac.toName, ac.fid))) v) (by rw [← e]; exact f1) hd', fun hne => absurd e hne⟩
    · have hd' : (M.withV F v).dir = true := hfd
      exact ⟨_, M.dir_yes (f2 fun h => e h.symm) hd', fun _ => rfl⟩
  obtain ⟨y, g2, g2'⟩ := g2
  have g3 : ∃ z, M.toS ys rc = z ∧ bare z = bare F := by
    unfold M.toS
    rw [r4, r2]
    by_cases e : ac.to = ac.dir
    · rw [if_pos e.symm]
      rw [if_pos e] at htoS
      rw [gf, htoS]
      exact ⟨_, rfl, rfl⟩
    · rw [r4] at g2
      rw [if_neg (fun h => e h.symm), g2, g2' e]
      exact ⟨_, rfl, rfl⟩
  obtain ⟨z, g3, hz⟩ := g3
  have hz' := hz
  unfold bare M.withV at hz'
  simp only [M.Nd.mk.injEq] at hz'
  obtain ⟨zf, zd, zt, ze, _⟩ := hz'
  have hze : z.ents = M.dropE D.ents ac.name := ze.trans hfe
  have g4 : M.freeS z rc.toName = 0 := by
    rw [r5]
    exact free_yes (by rw [hze]; exact M.look_drop _ _) hnm (by rw [hze]; omega)
  have g5 : M.find ys rc.fid ≠ none := by rw [r1, f3 _ hft1 hfd1]; exact h4
  have g6 : ¬ M.Reach ys rc.fid rc.to := by
    rw [r1, r4]
    intro hre
    refine hdr (reach_same (fun q hq => ?_) _ hre)
    exact f3 q (fun e => h5 (e ▸ hq)) (fun e => hdr (e ▸ hq))
  rw [rename_ok (by rw [g1]) (by rw [g2]) (by rw [g3]; exact g4) g5 g6]
  refine ⟨rfl, ?_⟩
  rw [g3, gf, r5, r1, hze, M.put_of_drop hDr hh2]
  have e1 : (M.withV (M.withV (withE S S.ents) v) u).fid = ac.to := htf
  have e2 : (M.withV (withE z D.ents) u).fid = ac.dir := zf.trans hff
  refine same_of_find (rs_put _ (rs_put _ hrs)) hr.1 fun t => ?_
  by_cases t1 : t = ac.dir
  · have hp := findN_put (M.putN ys (M.withV (M.withV (withE S S.ents) v) u)) (M.withV (withE z D.ents) u)
    rw [e2] at hp
    rw [t1, hp, hD.1, Option.map_some, Option.map_some]
    congr 1
    unfold bare M.withV withE
    simp only [M.Nd.mk.injEq, and_true]
    have hFd : F.data = D.data := by rw [hfrom]
    exact ⟨zf.trans (hff.trans hDf.symm), zd.trans (hfd.trans hD.2.symm), zt.trans hFd⟩
  · rw [findN_other _ _ _ (by rw [e2]; exact t1)]
    by_cases t2 : t = ac.to
    · have hne : ac.to ≠ ac.dir := fun e => t1 (t2.trans e)
      have hp := findN_put ys (M.withV (M.withV (withE S S.ents) v) u)
      rw [e1] at hp
      rw [if_neg hne] at htoS
      rw [t2, hp, hT.1, htoS]
      rfl
    · rw [findN_other _ _ _ (by rw [e1]; exact t2), f3 t t2 t1]
end Go.Proofs.Ytcjobmbbikfnaad
/-
  PLAIN MATHEMATICS of chapter 4: logs, as short as may be; what is left out of them is not missed.
-/
namespace Go.Proofs.Ytcjobmbbikfnaad
namespace M
/-- a record -/
structure Rec where
  act : Act
  ver : Int
  id : Int
def makeB (a : Act) : Bool := decide (a.kind = 1) || decide (a.kind = 2)
def nameFB (a : Act) (f : Int) : Bool := decide (f ∈ fidsS a)
def touchB (a : Act) (d : Int) (s : ByteArray) : Bool :=
  ((makeB a || decide (a.kind = 4) || decide (a.kind = 5)) && (decide (a.dir = d) && decide (a.name = s))) || (decide (a.kind = 5) && (decide (a.to = d) && decide (a.toName = s)))
def hinderB (b a : Act) : Bool := (!decide (b.kind = 3) && nameFB b a.fid) || touchB b a.dir a.name
def overB (a b : Act) : Bool := decide (a.kind = 3) && decide (b.kind = 3) && decide (a.fid = b.fid)
/-- the record that made the fid -/
def madeB (f : Int) (r : Rec) : Bool := makeB r.act && decide (r.act.fid = f)
def undoB (l : List Rec) (a : Act) : Bool := decide (a.kind = 4) &&
  match l.findIdx? (madeB a.fid) with
  | none => false
  | some k => match l[k]? with
    | none => false
    | some r => decide (r.act.dir = a.dir) && decide (r.act.name = a.name) && !((l.drop (k + 1)).any fun b => hinderB b.act a)
def addS (l : List Rec) (r : Rec) : Int × List Rec :=
  if undoB l r.act then (0, l.filter fun x => !nameFB x.act r.act.fid)
  else if 20 ≤ (l.filter fun x => !overB r.act x.act).length then (5, []) else (0, (l.filter fun x => !overB r.act x.act) ++ [r])

section
variable {K X : Type} {lt : K → K → Bool} (f : X → K)
theorem put_map (φ : X → X) (h : ∀ x, f (φ x) = f x) (xs : List X) (x : X) : put lt f (xs.map φ) (φ x) = (put lt f xs x).map φ := by
  unfold put
  rw [List.map_append, List.map_cons, List.filter_map, List.filter_map, h]
  congr 2
  · congr 1; funext y; simp [h]
  · congr 1
    congr 1; funext y; simp [h]
theorem put_filter_other (xs : List X) (x : X) (p : X → Bool) (hp : p x = true) : (put lt f xs x).filter p = put lt f (xs.filter p) x := by
  unfold put
  rw [List.filter_append, List.filter_cons_of_pos hp, List.filter_filter, List.filter_filter, List.filter_filter, List.filter_filter]
  simp only [Bool.and_comm]
end
theorem find_map {φ : Nd → Nd} (h : ∀ x, (φ x).fid = x.fid) (xs : List Nd) (t : Int) : find (xs.map φ) t = (find xs t).map φ := by
  unfold find
  rw [List.find?_map]
  have : ((fun x : Nd => decide (x.fid = t)) ∘ φ) = fun x => decide (x.fid = t) := by funext x; simp [h]
  rw [this]
theorem putN_map {φ : Nd → Nd} (h : ∀ x, (φ x).fid = x.fid) (xs : List Nd) (x : Nd) : putN (xs.map φ) (φ x) = (putN xs x).map φ := put_map (fun y : Nd => y.fid) φ h xs x
theorem dropN_putN (xs : List Nd) (x : Nd) (f : Int) (h : x.fid ≠ f) : dropN (putN xs x) f = putN (dropN xs f) x := put_filter_other (fun y : Nd => y.fid) xs x _ (by simp [h])
theorem dropN_map {φ : Nd → Nd} (h : ∀ x, (φ x).fid = x.fid) (xs : List Nd) (f : Int) : dropN (xs.map φ) f = (dropN xs f).map φ := by
  unfold dropN
  rw [List.filter_map]
  have : ((fun x : Nd => !decide (x.fid = f)) ∘ φ) = fun x => !decide (x.fid = f) := by funext x; simp [h]
  rw [this]
theorem dropN_comm (xs : List Nd) (f g : Int) : dropN (dropN xs f) g = dropN (dropN xs g) f := by
  unfold dropN
  rw [List.filter_filter, List.filter_filter]
  simp only [Bool.and_comm]
theorem dropE_comm (es : List (ByteArray × Int)) (s t : ByteArray) : dropE (dropE es s) t = dropE (dropE es t) s := by
  unfold dropE
  rw [List.filter_filter, List.filter_filter]
  simp only [Bool.and_comm]
theorem look_dropE (es : List (ByteArray × Int)) {s t : ByteArray} (h : t ≠ s) : look (dropE es s) t = look es t := find_filter (fun y : ByteArray × Int => y.1) es _ t (fun y _ e => by rw [e]; simp [h])
theorem dropE_putE (es : List (ByteArray × Int)) {s t : ByteArray} (g : Int) (h : t ≠ s) : dropE (putE es (t, g)) s = putE (dropE es s) (t, g) := put_filter_other (fun y : ByteArray × Int => y.1) es (t, g) _ (by simp [h])
theorem look_putE (es : List (ByteArray × Int)) {s t : ByteArray} (g : Int) (h : s ≠ t) : look (putE es (t, g)) s = look es s := put_find_other (fun y : ByteArray × Int => y.1) es ordB (t, g) s h
theorem findN_if (xs : List Nd) (x : Nd) (t : Int) : find (putN xs x) t = if t = x.fid then some x else find xs t := by
  by_cases h : t = x.fid
  · rw [if_pos h, h]; exact put_find (fun y : Nd => y.fid) xs ordI x
  · rw [if_neg h]; exact put_find_other (fun y : Nd => y.fid) xs ordI x t h
theorem findD_if (xs : List Nd) (f t : Int) : find (dropN xs f) t = if t = f then none else find xs t := by
  by_cases h : t = f
  · rw [if_pos h, h]; exact find_filter_none (fun y : Nd => y.fid) xs _ f (fun y _ e => by simp [e])
  · rw [if_neg h]; exact find_filter (fun y : Nd => y.fid) xs _ t (fun y _ e => by rw [e]; simp [h])

/-- acts, one behind the other, of version 0, if all are done -/
noncomputable def runS : List Nd → List Act → Option (List Nd)
  | xs, [] => some xs
  | xs, a :: l => if (applyS xs a 0).1 = 0 then runS (applyS xs a 0).2 l else none
theorem run_cons {xs : List Nd} {a : Act} {l : List Act} {ys : List Nd} (h : runS xs (a :: l) = some ys) : (applyS xs a 0).1 = 0 ∧ runS (applyS xs a 0).2 l = some ys := by
  rw [runS] at h
  split at h
  · rename_i h0; exact ⟨h0, h⟩
  · cases h
theorem run_of {xs : List Nd} {a : Act} {l : List Act} (h : (applyS xs a 0).1 = 0) : runS xs (a :: l) = runS (applyS xs a 0).2 l := by rw [runS, if_pos h]
theorem run_append : ∀ (l m : List Act) (xs : List Nd), runS xs (l ++ m) = (runS xs l).bind fun ys => runS ys m
  | [], m, xs => rfl
  | a :: l, m, xs => by
    rw [List.cons_append, runS, runS]
    split
    · exact run_append l m _
    · rfl
/-- the kinds of what was done -/
theorem apply_cases {xs : List Nd} {a : Act} {v : Int} (h : (applyS xs a v).1 = 0) :
    (makeB a = true ∧ a.kind ≠ 3 ∧ a.kind ≠ 5 ∧ applyS xs a v = bringS xs a v) ∨ (a.kind = 3 ∧ applyS xs a v = storeS xs a v) ∨ (a.kind = 4 ∧ applyS xs a v = removeS xs a v) ∨ (a.kind = 5 ∧ applyS xs a v = renameS xs a v) := by
  unfold applyS at h ⊢
  by_cases h1 : a.kind = 1 ∨ a.kind = 2
  · rw [if_pos h1]; exact .inl ⟨by unfold makeB; rcases h1 with h1 | h1 <;> simp [h1], by omega, by omega, rfl⟩
  · rw [if_neg h1] at h ⊢
    by_cases h3 : a.kind = 3
    · rw [if_pos h3]; exact .inr (.inl ⟨h3, rfl⟩)
    · rw [if_neg h3] at h ⊢
      by_cases h4 : a.kind = 4
      · rw [if_pos h4]; exact .inr (.inr (.inl ⟨h4, rfl⟩))
      · rw [if_neg h4] at h ⊢
        by_cases h5 : a.kind = 5
        · rw [if_pos h5]; exact .inr (.inr (.inr ⟨h5, rfl⟩))
        · rw [if_neg h5] at h; simp at h
end M
open M
theorem store_inv {xs : List Nd} {ac : M.Act} {v : Int} (h : (storeS xs ac v).1 = 0) : ∃ x, find xs ac.fid = some x ∧ x.dir = false ∧ ac.data.length ≤ 20 ∧ storeS xs ac v = (0, putN xs (withV { x with data := ac.data } v)) := by
  unfold storeS at h ⊢
  cases hx : find xs ac.fid with
  | none => rw [hx] at h; simp at h
  | some x =>
    rw [hx] at h
    simp only at h ⊢
    by_cases hd : x.dir = true
    · rw [if_pos hd] at h; simp at h
    · rw [if_neg hd] at h ⊢
      by_cases h20 : 20 < ac.data.length
      · rw [if_pos h20] at h; simp at h
      · rw [if_neg h20]; exact ⟨x, rfl, by simpa using hd, by omega, rfl⟩
theorem remove_inv {xs : List Nd} {ac : M.Act} {v : Int} (h : (removeS xs ac v).1 = 0) : (holdS xs ac.dir ac.name ac.fid).1 = 0 ∧ ∃ x, find xs ac.fid = some x ∧ ¬ 0 < x.ents.length := by
  by_cases h1 : (holdS xs ac.dir ac.name ac.fid).1 = 0
  case' neg => rw [remove_hold h1] at h; exact absurd h h1
  cases hx : find xs ac.fid with
  | none => rw [remove_away h1 hx] at h; simp at h
  | some x =>
    by_cases he : 0 < x.ents.length
    · rw [remove_full h1 hx he] at h; simp at h
    · exact ⟨h1, x, rfl, he⟩
theorem store_yes {xs : List Nd} {ac : M.Act} {v : Int} {x : Nd} (hx : find xs ac.fid = some x) (hd : x.dir = false) (hl : ac.data.length ≤ 20) : storeS xs ac v = (0, putN xs (withV { x with data := ac.data } v)) := by
  unfold storeS
  rw [hx]
  simp only
  rw [if_neg (by simp [hd]), if_neg (by omega)]

/-- what a name leads to, at hand -/
theorem hold_at {xs : List Nd} {d : Int} {s : ByteArray} {f : Int} (h : (holdS xs d s f).1 = 0) : ∃ D, holdS xs d s f = (0, D) ∧ find xs d = some D ∧ D.dir = true ∧ D.fid = d ∧ M.look D.ents s = some (s, f) := by
  obtain ⟨h1, h2⟩ := hold_ok h
  have hd := dir_ok (xs := xs) (f := d) (by rw [h1])
  rw [h1] at hd
  exact ⟨_, by rw [← h], hd.1, hd.2, (find_mem hd.1).2, h2⟩
theorem dir_at {xs : List Nd} {d : Int} (h : (dirS xs d).1 = 0) : ∃ D, dirS xs d = (0, D) ∧ find xs d = some D ∧ D.dir = true ∧ D.fid = d := by
  have hd := dir_ok h
  exact ⟨_, by rw [← h], hd.1, hd.2, (find_mem hd.1).2⟩
theorem hold_of {xs : List Nd} {d : Int} {s : ByteArray} {f : Int} {D : Nd} (h1 : find xs d = some D) (h2 : D.dir = true) (h3 : M.look D.ents s = some (s, f)) : holdS xs d s f = (0, D) := hold_yes (dir_yes h1 h2) h3 rfl

/-- whoever is named is there -/
theorem names_there {xs : List Nd} {b : M.Act} (h : (applyS xs b 0).1 = 0) {g : Int} (hg : g ∈ fidsS b) : (∃ x, find xs g = some x) ∨ (makeB b = true ∧ g = b.fid) := by
  rcases apply_cases h with ⟨hm, h3, h5, e⟩ | ⟨h3, e⟩ | ⟨h4, e⟩ | ⟨h5, e⟩
  · rw [e] at h
    obtain ⟨h1, _⟩ := bring_inv h
    obtain ⟨D, _, hD, _⟩ := dir_at h1
    unfold fidsS at hg
    rw [if_neg h3, if_neg h5] at hg
    simp at hg
    rcases hg with hg | hg
    · exact .inr ⟨hm, hg⟩
    · exact .inl ⟨D, by rw [hg]; exact hD⟩
  · rw [e] at h
    obtain ⟨x, hx, _⟩ := store_inv h
    unfold fidsS at hg
    rw [if_pos h3, if_neg (by omega)] at hg
    simp at hg
    exact .inl ⟨x, by rw [hg]; exact hx⟩
  · rw [e] at h
    obtain ⟨h1, x, hx, _⟩ := remove_inv h
    obtain ⟨D, _, hD, _⟩ := hold_at h1
    unfold fidsS at hg
    rw [if_neg (by omega), if_neg (by omega)] at hg
    simp at hg
    rcases hg with hg | hg
    · exact .inl ⟨x, by rw [hg]; exact hx⟩
    · exact .inl ⟨D, by rw [hg]; exact hD⟩
  · rw [e] at h
    obtain ⟨h1, h2, _, h4, _⟩ := rename_inv h
    obtain ⟨D, _, hD, _⟩ := hold_at h1
    obtain ⟨T, _, hT, _⟩ := dir_at h2
    obtain ⟨x, hx⟩ := Option.ne_none_iff_exists'.1 h4
    unfold fidsS at hg
    rw [if_neg (by omega), if_pos h5] at hg
    simp at hg
    rcases hg with hg | hg | hg
    · exact .inl ⟨x, by rw [hg]; exact hx⟩
    · exact .inl ⟨D, by rw [hg]; exact hD⟩
    · exact .inl ⟨T, by rw [hg]; exact hT⟩
/-- who is not there does not come but by being made -/
theorem none_stays {xs : List Nd} {b : M.Act} (h : (applyS xs b 0).1 = 0) {f : Int} (hf : find xs f = none) (hm : ¬ (makeB b = true ∧ b.fid = f)) : find (applyS xs b 0).2 f = none := by
  have hne : ∀ {g : Int} {x : Nd}, find xs g = some x → f ≠ g := fun hx e => by rw [e, hx] at hf; cases hf
  rcases apply_cases h with ⟨hmk, h3, h5, e⟩ | ⟨h3, e⟩ | ⟨h4, e⟩ | ⟨h5, e⟩
  · rw [e] at h ⊢
    obtain ⟨h1, h2, h6, h7⟩ := bring_inv h
    rw [bring_ok h1 h2 h6 h7]
    obtain ⟨D, hD0, hD, _, hDf⟩ := dir_at h1
    rw [hD0, findN_if, if_neg (fun e => hm ⟨hmk, e.symm⟩), findN_if, if_neg (by show f ≠ D.fid; rw [hDf]; exact hne hD)]
    exact hf
  · rw [e] at h ⊢
    obtain ⟨x, hx, _, _, e2⟩ := store_inv h
    rw [e2, findN_if, if_neg (by show f ≠ x.fid; rw [(find_mem hx).2]; exact hne hx)]
    exact hf
  · rw [e] at h ⊢
    obtain ⟨h1, x, hx, he⟩ := remove_inv h
    obtain ⟨D, hD0, hD, _, hDf, _⟩ := hold_at h1
    rw [remove_ok h1 hx he, hD0, findD_if]
    split
    · rfl
    · rw [findN_if, if_neg (by show f ≠ D.fid; rw [hDf]; exact hne hD)]
      exact hf
  · rw [e] at h ⊢
    obtain ⟨h1, h2, h3, h4, h6⟩ := rename_inv h
    rw [rename_ok h1 h2 h3 h4 h6]
    obtain ⟨D, hD0, hD, _, hDf, _⟩ := hold_at h1
    obtain ⟨T, hT0, hT, _, hTf⟩ := dir_at h2
    have e1 : (fromS xs b).fid = b.dir := by unfold fromS; rw [hD0]; exact hDf
    have e2 : (toS xs b).fid = b.to := by
      unfold toS
      by_cases e : b.to = b.dir
      · rw [if_pos e, e1, e]
      · rw [if_neg e, hT0]; exact hTf
    rw [findN_if, if_neg (by show f ≠ (toS xs b).fid; rw [e2]; exact hne hT), findN_if, if_neg (by show f ≠ (fromS xs b).fid; rw [e1]; exact hne hD)]
    exact hf
end Go.Proofs.Ytcjobmbbikfnaad
/-
  MAPS KEYED BY A NUMBER: what a map's block holds, as a function; it is made, asked, written.
-/
namespace Go.Proofs.Ytcjobmbbikfnaad
open Go.RowKit
open Go.ChangeMaps (setBlock)

/-- the entries es hold f -/
structure Holds (es : List MapEntry) (f : Int → Option Value) : Prop where
  key : ∀ e ∈ es, ∃ k, e.key = .int .i64 k ∧ f k = some e.val
  all : ∀ k v, f k = some v → ∃ e ∈ es, e.key = .int .i64 k ∧ e.val = v
  one : es.Pairwise fun a b => a.key ≠ b.key
/-- block b is a map that holds f -/
def IMap (w : World) (b : Nat) (f : Int → Option Value) : Prop :=
  ∃ (es : Array MapEntry) (clock : Nat), w.heap[b]? = some (.map es clock) ∧ Holds es.toList f ∧ (es.toList.map (·.born)).Nodup ∧ ∀ e ∈ es.toList, e.born < clock
theorem IMap.lt {w : World} {b : Nat} {f : Int → Option Value} (h : IMap w b f) : b < w.heap.size := by
  obtain ⟨es, c, hb, _⟩ := h
  exact lt_of_block hb
theorem IMap.same {w w' : World} {b : Nat} {f : Int → Option Value} (h : IMap w b f) (hb : w'.heap[b]? = w.heap[b]?) : IMap w' b f := by
  obtain ⟨es, c, h1, h2⟩ := h
  exact ⟨es, c, by rw [hb]; exact h1, h2⟩
theorem IMap.below {B : Nat} {w w' : World} {b : Nat} {f : Int → Option Value} (h : IMap w b f) (hB : w.heap.size ≤ B) (hb : Below B w w') : IMap w' b f :=
  h.same (hb.block b (by have := h.lt; omega))
theorem IMap.new (w : World) : IMap (w.alloc (.map #[] 0)) w.heap.size (fun _ => none) :=
  ⟨#[], 0, heap_alloc_new w _, ⟨(by intro e he; simp at he), (by intro k v h; cases h), (by simp)⟩, (by simp), (by intro e he; simp at he)⟩

def intKey : Value → Option Int
  | .int .i64 k => some k
  | _ => none
theorem intKey_iff {v : Value} {k : Int} : intKey v = some k ↔ v = .int .i64 k := by
  constructor
  · intro h
    unfold intKey at h
    split at h
    · injection h with h; rw [h]
    · cases h
  · intro h; rw [h]; rfl
/-- the place of a key -/
def posK (k : Int) : List MapEntry → Nat → Option (Nat × Value)
  | [], _ => none
  | e :: es, i => if intKey e.key = some k then some (i, e.val) else posK k es (i + 1)
theorem findNow_pos {f : Int → Option Value} (k : Int) : ∀ (es : List MapEntry) (i : Nat), (∀ e ∈ es, ∃ k, e.key = .int .i64 k ∧ f k = some e.val) → Instr.findNow (.int .i64) (.int .i64 k) es i = some (posK k es i)
  | [], i, _ => rfl
  | e :: es, i, h => by
    obtain ⟨q, hq, _⟩ := h e (List.mem_cons_self ..)
    have ih := findNow_pos k es (i + 1) (fun e he => h e (List.mem_cons_of_mem _ he))
    simp only [Instr.findNow, posK, hq, Instr.sameNow, if_true, intKey, Option.some.injEq]
    by_cases hk : k = q
    · subst hk; simp
    · have h1 : (k == q) = false := by simp [hk]
      rw [h1]
      simp only
      rw [ih, if_neg (fun h => hk h.symm)]
theorem pos_none {k : Int} : ∀ {es : List MapEntry} {i : Nat}, posK k es i = none → ∀ e ∈ es, e.key ≠ .int .i64 k
  | [], _, _, e, he => by cases he
  | a :: es, i, h, e, he => by
    simp only [posK] at h
    by_cases hk : intKey a.key = some k
    · rw [if_pos hk] at h; cases h
    · rw [if_neg hk] at h
      rcases List.mem_cons.1 he with h1 | h1
      · subst h1; exact fun h2 => hk (intKey_iff.2 h2)
      · exact pos_none h e h1
theorem pos_some {k : Int} {j : Nat} {v : Value} : ∀ {es : List MapEntry} {i : Nat}, posK k es i = some (j, v) → i ≤ j ∧ ∃ e, es[j - i]? = some e ∧ e.key = .int .i64 k ∧ e.val = v
  | [], _, h => by cases h
  | a :: es, i, h => by
    simp only [posK] at h
    by_cases hk : intKey a.key = some k
    · rw [if_pos hk] at h
      simp only [Option.some.injEq, Prod.mk.injEq] at h
      obtain ⟨rfl, h2⟩ := h
      exact ⟨Nat.le_refl _, a, by simp, intKey_iff.1 hk, h2⟩
    · rw [if_neg hk] at h
      obtain ⟨h1, e, h2, h3⟩ := pos_some h
      refine ⟨by omega, e, ?_, h3⟩
      rw [show j - i = (j - (i + 1)) + 1 by omega, List.getElem?_cons_succ]
      exact h2
theorem modify_map {k : Int} {j : Nat} {g : MapEntry → MapEntry} {L : List MapEntry} {e0 : MapEntry} (h0 : L[j]? = some e0) (hk : e0.key = .int .i64 k) (hp : L.Pairwise fun a b => a.key ≠ b.key) :
    L.modify j g = L.map (fun e => if intKey e.key = some k then g e else e) := by
  apply List.ext_getElem?
  intro i
  rw [List.getElem?_modify, List.getElem?_map]
  cases hi : L[i]? with
  | none => rfl
  | some e =>
    show some (if j = i then g e else e) = some (if intKey e.key = some k then g e else e)
    by_cases hij : j = i
    · subst hij
      rw [h0] at hi
      injection hi with hi
      subst hi
      rw [if_pos rfl, if_pos (intKey_iff.2 hk)]
    · rw [if_neg hij, if_neg]
      · intro hc
        have hc := intKey_iff.1 hc
        obtain ⟨hj1, hj2⟩ := List.getElem?_eq_some_iff.1 h0
        obtain ⟨hi1, hi2⟩ := List.getElem?_eq_some_iff.1 hi
        rw [List.pairwise_iff_getElem] at hp
        rcases Nat.lt_or_gt_of_ne hij with h | h
        · exact hp j i hj1 hi1 h (by rw [hj2, hi2, hk, hc])
        · exact hp i j hi1 hj1 h (by rw [hj2, hi2, hk, hc])
theorem holds_pos {es : List MapEntry} {f : Int → Option Value} (h : Holds es f) (k : Int) : (posK k es 0).map (·.2) = f k := by
  cases hp : posK k es 0 with
  | none =>
    cases hf : f k with
    | none => rfl
    | some v =>
      obtain ⟨e, he, hk, _⟩ := h.all k v hf
      exact absurd hk (pos_none hp e he)
  | some q =>
    obtain ⟨j, v⟩ := q
    obtain ⟨_, e, he, hk, hv⟩ := pos_some hp
    obtain ⟨k', hk', hf⟩ := h.key e (List.mem_of_getElem? he)
    rw [hk] at hk'
    injection hk' with _ hk'
    subst hk'
    rw [hf, ← hv]
    rfl

theorem under3 : Try.prog.underlying 3 = some (.int .i64) := by kernel_rfl
theorem check3 (empty : Bool) (k : Int) (w : World) : (Instr.checkKey empty 10000 3 (.int .i64 k)).run Try.prog w = .ok () w := by
  unfold Instr.checkKey
  simp [run_underlying under3]
theorem findKey3 {es : List MapEntry} {f : Int → Option Value} (h : Holds es f) (k : Int) (w : World) : (Instr.findKey 3 (.int .i64 k) es).run Try.prog w = .ok (posK k es 0) w := by
  unfold Instr.findKey
  simp [run_underlying under3, findNow_pos k es 0 h.key]

theorem run_lookup_map (t e : TypeId) (ht : Try.prog.underlying t = some (.map 3 e)) {z : Value} {w : World} (hz : (zeroValue e).run Try.prog w = .ok z w) {b : Nat} {f : Int → Option Value} (h : IMap w b f) (k : Int) (ok : Bool) :
    (Instr.lookup t (.map (some b)) (.int .i64 k) ok).run Try.prog w = .ok (if ok then .tuple #[(f k).getD z, .bool (f k).isSome] else (f k).getD z) w := by
  obtain ⟨es, c, hb, hh, _⟩ := h
  unfold Instr.lookup
  simp only [run_underlying ht, Sem.run_bind, Result.andThen_ok, MapKept.run_getObj_map hb, Sem.run_pure, check3, findKey3 hh]
  rw [← holds_pos hh k]
  cases posK k es.toList 0 with
  | none => simp [hz]
  | some q => obtain ⟨j, v⟩ := q; simp

/-- f, but v at k -/
def updF (f : Int → Option Value) (k : Int) (v : Value) : Int → Option Value := fun q => if q = k then some v else f q

theorem setBlock_at {w : World} {b : Nat} {o o' : Obj} (h : w.heap[b]? = some o) : (setBlock w b o').heap[b]? = some o' := by
  unfold setBlock
  have := lt_of_block h
  simp [this]
theorem setBlock_other {w : World} {b c : Nat} {o : Obj} (h : c ≠ b) : (setBlock w b o).heap[c]? = w.heap[c]? := by
  unfold setBlock
  simp [Ne.symm h]
theorem setBlock_size {w : World} {b : Nat} {o : Obj} : (setBlock w b o).heap.size = w.heap.size := by unfold setBlock; simp
theorem setBlock_below {B : Nat} {a w : World} {b : Nat} (h : Below B a w) (hb : B ≤ b) (o : Obj) : Below B a (setBlock w b o) :=
  h.trans ⟨rfl, rfl, rfl, by rw [setBlock_size]; exact Nat.le_refl _, fun k hk => setBlock_other (by omega)⟩
theorem run_setObj_map {w : World} {r : Nat} {es : Array MapEntry} {c : Nat} (hr : w.heap[r]? = some (.map es c)) (o' : Obj) : (setObj r o').run Try.prog w = .ok () (setBlock w r o') := by
  simp [setObj, Sem.run, hr, setBlock]

theorem run_update_map (t e : TypeId) (ht : Try.prog.underlying t = some (.map 3 e)) {w : World} {b : Nat} {f : Int → Option Value} (h : IMap w b f) (k : Int) (v : Value) :
    ∃ o : Obj, (Instr.mapUpdate t (.map (some b)) (.int .i64 k) v).run Try.prog w = .ok () (setBlock w b o) ∧ IMap (setBlock w b o) b (updF f k v) := by
  obtain ⟨es, c, hb, hh, hn, hc⟩ := h
  unfold Instr.mapUpdate
  simp only [run_underlying ht, Sem.run_bind, Result.andThen_ok, MapKept.run_getObj_map hb, check3, findKey3 hh]
  cases hp : posK k es.toList 0 with
  | none =>
    refine ⟨_, run_setObj_map hb _, _, _, setBlock_at hb, ?_, ?_, ?_⟩
    · have hno := pos_none hp
      refine ⟨fun x hx => ?_, fun q u hq => ?_, ?_⟩
      · simp only [Array.toList_push, List.mem_append, List.mem_singleton] at hx
        rcases hx with hx | hx
        · obtain ⟨q, h1, h2⟩ := hh.key x hx
          refine ⟨q, h1, ?_⟩
          unfold updF
          rw [if_neg (by intro e; subst e; exact hno x hx h1)]
          exact h2
        · subst hx; exact ⟨k, rfl, by simp [updF]⟩
      · unfold updF at hq
        simp only [Array.toList_push, List.mem_append, List.mem_singleton]
        by_cases hqk : q = k
        · rw [if_pos hqk] at hq
          injection hq with hq
          exact ⟨_, .inr rfl, by rw [hqk], hq⟩
        · rw [if_neg hqk] at hq
          obtain ⟨x, hx, h1, h2⟩ := hh.all q u hq
          exact ⟨x, .inl hx, h1, h2⟩
      · simp only [Array.toList_push]
        rw [List.pairwise_append]
        refine ⟨hh.one, List.pairwise_singleton _ _, fun a ha b' hb' => ?_⟩
        rw [List.mem_singleton.1 hb']
        exact hno a ha
    · simp only [Array.toList_push, List.map_append, List.map_cons, List.map_nil]
      rw [List.nodup_append]
      refine ⟨hn, by simp, fun a ha b' hb' => ?_⟩
      obtain ⟨x, hx, rfl⟩ := List.mem_map.1 ha
      rw [List.mem_singleton.1 hb']
      exact Nat.ne_of_lt (hc x hx)
    · intro x hx
      simp only [Array.toList_push, List.mem_append, List.mem_singleton] at hx
      rcases hx with hx | hx
      · have := hc x hx; omega
      · subst hx; exact Nat.lt_succ_self _
  | some q =>
    obtain ⟨j, u⟩ := q
    obtain ⟨_, e0, he0, hk0, _⟩ := pos_some hp
    rw [Nat.sub_zero] at he0
    have hej : es[j]? = some e0 := by rw [← Array.getElem?_toList]; exact he0
    have hks : (Instr.keyThatStays (((es[j]?).map (·.key)).getD (.int .i64 k)) (.int .i64 k)).run Try.prog w = .ok (.int .i64 k) w := by
      rw [hej]
      simp [Instr.keyThatStays, hk0, Instr.sameBits]
    simp only [hks, Sem.run_bind, Result.andThen_ok]
    refine ⟨_, run_setObj_map hb _, _, _, setBlock_at hb, ?_, ?_, ?_⟩
    all_goals rw [Array.toList_modify, modify_map he0 hk0 hh.one]
    · refine ⟨fun x hx => ?_, fun q u hq => ?_, ?_⟩
      · obtain ⟨y, hy, rfl⟩ := List.mem_map.1 hx
        by_cases hyk : intKey y.key = some k
        · rw [if_pos hyk]; exact ⟨k, rfl, by simp [updF]⟩
        · rw [if_neg hyk]
          obtain ⟨q, h1, h2⟩ := hh.key y hy
          refine ⟨q, h1, ?_⟩
          unfold updF
          rw [if_neg (by intro e; subst e; exact hyk (intKey_iff.2 h1))]
          exact h2
      · unfold updF at hq
        by_cases hqk : q = k
        · rw [if_pos hqk] at hq
          injection hq with hq
          refine ⟨_, List.mem_map.2 ⟨e0, List.mem_of_getElem? he0, rfl⟩, ?_, ?_⟩
          · rw [if_pos (intKey_iff.2 hk0), hqk]
          · rw [if_pos (intKey_iff.2 hk0)]; exact hq
        · rw [if_neg hqk] at hq
          obtain ⟨x, hx, h1, h2⟩ := hh.all q u hq
          have hxk : ¬ intKey x.key = some k := by rw [h1]; simp [intKey, hqk]
          refine ⟨_, List.mem_map.2 ⟨x, hx, rfl⟩, ?_, ?_⟩
          · rw [if_neg hxk]; exact h1
          · rw [if_neg hxk]; exact h2
      · rw [List.pairwise_map]
        have hkey : ∀ e : MapEntry, (if intKey e.key = some k then ({ e with key := .int .i64 k, val := v } : MapEntry) else e).key = e.key := by
          intro e
          by_cases h : intKey e.key = some k
          · rw [if_pos h]; exact (intKey_iff.1 h).symm
          · rw [if_neg h]
        refine hh.one.imp fun h => ?_
        rw [hkey, hkey]
        exact h
    · rw [List.map_map]
      have : ((fun e : MapEntry => e.born) ∘ fun e : MapEntry => if intKey e.key = some k then ({ e with key := .int .i64 k, val := v } : MapEntry) else e) = fun e => e.born := by
        funext e
        show (if intKey e.key = some k then ({ e with key := .int .i64 k, val := v } : MapEntry) else e).born = e.born
        split <;> rfl
      rw [this]
      exact hn
    · intro x hx
      obtain ⟨y, hy, rfl⟩ := List.mem_map.1 hx
      have := hc y hy
      split <;> exact this
end Go.Proofs.Ytcjobmbbikfnaad
