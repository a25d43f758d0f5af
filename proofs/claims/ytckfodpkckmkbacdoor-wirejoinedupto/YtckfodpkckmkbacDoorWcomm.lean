/-
  LOGS AND TEXTS AS THEY ARE READ, with their bulk; the post-condition out of 'nothing old has turned' (chapter 5's rows).
-/
import Derived.Test.YtckfodpkckmkbacDoorWlaw
import Derived.Test.YtckfodpkckmkbacDoorCards
import Derived.Test.YtckfodpkckmkbacDoorTie
import Derived.ProofKit
import Derived.OpenShut
import Derived.SizedLaws
import Derived.Deep.Strs
import Derived.Deep.Slices
import Derived.Deep.SlicePairs
import Derived.Deep.DeepHandedRow
import Derived.Lib.LaidTab
import Derived.ChangeMaps5
namespace Go.Proofs.YtckfodpkckmkbacDoor
open Go.ChangeShapes Go.WideShapes Go.ChangeAt Go.RowKit Go.Deep

theorem own : ownKnob Tryd.prog.godebug = none := by kernel_rfl
theorem laidOut : laidOutB Tryd.prog = true := by kernel_rfl
theorem cells5 : Tryd.prog.cellsOf 5 = 1 := by kernel_rfl
theorem cells9 : Tryd.prog.cellsOf 9 = 1 := by kernel_rfl
theorem cells3 : Tryd.prog.cellsOf 3 = 1 := by kernel_rfl
theorem cells4 : Tryd.prog.cellsOf 4 = 1 := by kernel_rfl
theorem cells23 : Tryd.prog.cellsOf 33 = 1 := by kernel_rfl
theorem bytes5 : Tryd.prog.bytesOf 5 = 1 := by kernel_rfl
theorem bytes9 : Tryd.prog.bytesOf 9 = 16 := by kernel_rfl
theorem cellsA : Tryd.prog.cellsOf 35 = 7 := by kernel_rfl
theorem cellsR : Tryd.prog.cellsOf 37 = 9 := by kernel_rfl

section
variable {H : Type} {enc : TypeId × Value → H}

theorem trodAll_below {P : Program} (hl : laidOutB P = true) {W W' : World} (hb : Below W.heap.size W W') : ∀ {ts : List TypeId} {vs : List Value} {ds : List (DataW H)} {ps : List MemPlace},
    ts.all (fun t => P.readableRec t && decide (t < P.types.size)) = true → DataW.TrodAll enc P W 0 (fun _ => true) true ts vs ds ps → (∀ x ∈ ps, x.block < W.heap.size) →
    DataW.TrodAll enc P W' 0 (fun b => decide (b < W.heap.size)) true ts vs ds ps
  | [], vs, ds, ps, _, h, _ => by
    obtain ⟨rfl, rfl, rfl⟩ := trodAll_nil h
    exact trodAll_mk0
  | t :: ts, vs, ds, ps, ht, h, hlt => by
    obtain ⟨v, vs', d, ds', p, q, rfl, rfl, rfl, h0, hr⟩ := trodAll_cons h
    rw [List.all_cons, Bool.and_eq_true, Bool.and_eq_true] at ht
    exact trodAll_cons_mk (Below.trod hl ht.1.1 (of_decide_eq_true ht.1.2) h0 hb (fun x hx => hlt x (List.mem_append.2 (.inl hx))))
      (trodAll_below hl hb ht.2 hr (fun x hx => hlt x (List.mem_append.2 (.inr hx))))

theorem row_mk {α : Type} {k : Nat} {cs : α → List Value} (k0 : 0 < k) (hk : ∀ v, (cs v).length = k) {w : World} {vs : List α} {a : Addr} (h : ∀ (j : Nat) v, vs[j]? = some v → ∀ (i : Nat) c, (cs v)[i]? = some c → w.cell? (a.add (j * k + i)) = some c) : Row k cs w (some a) vs.length vs := by
  refine ⟨rfl, ?_⟩
  cases hv : vs with
  | nil => exact .inl rfl
  | cons v r =>
    right
    have hv0 : vs[0]? = some v := by rw [hv]; rfl
    have hc0 : (cs v)[0]? = some ((cs v)[0]'(by rw [hk]; exact k0)) := List.getElem?_eq_getElem _
    have h00 := h 0 v hv0 0 _ hc0
    obtain ⟨b, off, spot⟩ := a
    have hspot : spot = none := by simpa [Addr.add] using World.cell?_spot h00
    subst hspot
    refine ⟨b, off, rfl, ?_, fun j u hu i c hc => ?_⟩
    · have := World.block_lt_of_cell? w _ h00
      rw [Addr.add_lit] at this
      exact this
    · rw [← hv] at hu
      have := h j u hu i c hc
      rw [Addr.add_lit] at this
      rw [Nat.add_assoc]
      exact this

/-- bulk: what is in a list is no more than all of it -/
theorem bulk_mem {d : DataW H} : ∀ {l : List (DataW H)}, d ∈ l → Rows.uptoBulk d ≤ Rows.uptoBulkAll l
  | [], h => by cases h
  | a :: r, h => by
    unfold Rows.uptoBulkAll
    rcases List.mem_cons.1 h with rfl | h
    · omega
    · have := bulk_mem h; omega
theorem bulk_pos (d : DataW H) : 1 ≤ Rows.uptoBulk d := by
  cases d with
  | lit l => cases l <;> (unfold Rows.uptoBulk; omega)
  | nil => unfold Rows.uptoBulk; omega
  | ptr d => unfold Rows.uptoBulk; omega
  | slice elems spare => unfold Rows.uptoBulk; omega
  | agg parts => unfold Rows.uptoBulk; omega
  | iface t d => unfold Rows.uptoBulk; omega
  | map entries => unfold Rows.uptoBulk; omega
  | held h => unfold Rows.uptoBulk; omega
theorem bulk_len : ∀ l : List (DataW H), l.length ≤ Rows.uptoBulkAll l
  | [] => by simp [Rows.uptoBulkAll]
  | a :: r => by have h1 := bulk_len r; have h2 := bulk_pos a; unfold Rows.uptoBulkAll; rw [List.length_cons]; omega
theorem bulk_slice (es sp : List (DataW H)) : Rows.uptoBulkAll es ≤ Rows.uptoBulk (.slice es sp) := by unfold Rows.uptoBulk; omega
theorem bulk_sum (f : Nat → Nat) (D : Nat → DataW H) : ∀ l : List Nat, (∀ i ∈ l, f i ≤ Rows.uptoBulk (D i)) → (l.map f).sum ≤ Rows.uptoBulkAll (l.map D)
  | [], _ => by simp [Rows.uptoBulkAll]
  | i :: l, h => by
    have h1 := bulk_sum f D l (fun j hj => h j (List.mem_cons_of_mem _ hj))
    have h2 := h i List.mem_cons_self
    simp only [List.map_cons, List.sum_cons, Rows.uptoBulkAll]
    omega

/-- bytes that came in -/
theorem open_bytes {W : World} {sp : Nat → Bool} {held : Bool} {fuel : Nat} {cs : List Value} {x : DataW H × List MemPlace} (h : DataW.trod enc Tryd.prog W 0 sp held fuel 33 cs = some x) :
    ∃ (A : Option Addr) (n c : Nat) (l : List UInt8), cs = [.slice A n c] ∧ Byts W A n l ∧ ((x.1 = .nil ∧ n = 0) ∨ ∃ es spare, x.1 = .slice es spare ∧ es.length = n) := by
  rcases open_slice1 Tryd.underlying33 cells5 h with ⟨rfl, rfl⟩ | ⟨a, len, cap, m, n, V, D, Pl, rfl, hb, hl, hm, hmm, rfl, hx⟩
  · exact ⟨none, 0, 0, [], rfl, ⟨rfl, .inl rfl⟩, .inl ⟨rfl, rfl⟩⟩
  · have hlm : len ≤ m := by rw [hmm]; split <;> omega
    have each : ∀ i, i < len → ∃ u : UInt8, W.cell? (a.add i) = some (.int .u8 (u.toNat : Int)) := fun i hi => by
      obtain ⟨h1, h2⟩ := hx i (by omega)
      obtain ⟨z, hz, _, hw⟩ := DataW.trod_int Tryd.underlying5 h2
      have hbd := bounds_u8 hw
      refine ⟨UInt8.ofNat z.toNat, ?_⟩
      rw [h1, (List.cons.inj hz).1]
      have : ((UInt8.ofNat z.toNat).toNat : Int) = z := by
        rw [UInt8.toNat_ofNat', Nat.mod_eq_of_lt (by omega)]; omega
      rw [this]
    obtain ⟨U, hU⟩ := choose_lt each
    refine ⟨some a, len, cap, (List.range len).map U, rfl, ?_, .inr ⟨_, _, rfl, by simp⟩⟩
    have := row_mk (k := 1) (cs := byteCells1) (by decide) byt_len (w := W) (vs := (List.range len).map U) (a := a) (fun j v hv i c hc => by
      have hj : j < len := by
        rcases Nat.lt_or_ge j len with h1 | h1
        · exact h1
        · rw [List.getElem?_eq_none (by simpa using h1)] at hv; cases hv
      rw [List.getElem?_map, List.getElem?_range hj] at hv
      cases hv
      cases i with
      | succ i => cases hc
      | zero => cases hc; rw [Nat.mul_one, Nat.add_zero]; exact hU j hj)
    rw [List.length_map, List.length_range] at this
    exact this

/-- a list that came in, of whatever can be read -/
theorem open_rows {α β : Type} [Inhabited α] [Inhabited β] {W : World} {sp : Nat → Bool} {held : Bool} {t e : TypeId} {k : Nat} (cs : α → List Value) (hlen : ∀ v, (cs v).length = k) (k0 : 0 < k) (hu : Tryd.prog.underlying t = some (.slice e)) (hce : Tryd.prog.cellsOf e = k) (C : α → β → Prop) (S : DataW H → β → Prop)
    (open1 : ∀ {fuel : Nat} {l : List Value} {x : DataW H × List MemPlace}, DataW.trod enc Tryd.prog W 0 sp held fuel e l = some x → ∃ (v : α) (y : β), l = cs v ∧ C v y ∧ S x.1 y)
    {fuel : Nat} {l : List Value} {x : DataW H × List MemPlace} (h : DataW.trod enc Tryd.prog W 0 sp held fuel t l = some x) :
    ∃ (A : Option Addr) (n c : Nat) (vs : List α) (xs : List β), l = [.slice A n c] ∧ n ≤ c ∧ c ≤ maxLen ∧ Row k cs W A n vs ∧ All2 C vs xs ∧ ((x.1 = .nil ∧ n = 0) ∨ ∃ es spare, x.1 = .slice es spare ∧ es.length = n ∧ ∀ (j : Nat) (y : β), xs[j]? = some y → ∃ d, es[j]? = some d ∧ S d y) := by
  rcases open_slice hu h with ⟨rfl, rfl⟩ | ⟨a, len, cap, m, n, D, Pl, rfl, hb, hl, hm, hmm, rfl, hx⟩
  · exact ⟨none, 0, 0, [], [], rfl, Nat.le_refl _, Nat.zero_le _, ⟨rfl, .inl rfl⟩, All2.nil, .inl ⟨rfl, rfl⟩⟩
  · have hlm : len ≤ m := by rw [hmm]; split <;> omega
    rw [hce] at hx
    have each : ∀ i, i < len → ∃ q : α × β, (∀ (j : Nat) c, (cs q.1)[j]? = some c → W.cell? (a.add (i * k + j)) = some c) ∧ C q.1 q.2 ∧ S (D i) q.2 := fun i hi => by
      obtain ⟨cs', h1, h2⟩ := hx i (by omega)
      obtain ⟨v, y, rfl, hc, hs⟩ := open1 h2
      obtain ⟨_, _, hcell⟩ := World.cells?_some h1
      refine ⟨(v, y), fun j c hc' => ?_, hc, hs⟩
      have hj : j < k := by
        rcases Nat.lt_or_ge j k with h3 | h3
        · exact h3
        · rw [List.getElem?_eq_none (by rw [hlen]; exact h3)] at hc'; cases hc'
      have := hcell j hj
      rw [show (a.add (i * k)).add j = a.add (i * k + j) from Addr.add_add a _ _] at this
      rw [this]
      exact hc'
    obtain ⟨U, hU⟩ := choose_lt each
    have hget : ∀ {γ : Type} (f : Nat → γ) (j : Nat) (v : γ), ((List.range len).map f)[j]? = some v → j < len ∧ f j = v := fun f j v hv => by
      have hj : j < len := by
        rcases Nat.lt_or_ge j len with h1 | h1
        · exact h1
        · rw [List.getElem?_eq_none (by simpa using h1)] at hv; cases hv
      rw [List.getElem?_map, List.getElem?_range hj] at hv
      exact ⟨hj, Option.some.inj hv⟩
    refine ⟨some a, len, cap, (List.range len).map fun i => (U i).1, (List.range len).map fun i => (U i).2, rfl, hl, hm, ?_, ⟨by simp, fun j v y hv hy => ?_⟩, .inr ⟨_, _, rfl, by simp, fun j y hy => ?_⟩⟩
    · have := row_mk (k := k) (cs := cs) k0 hlen (w := W) (vs := (List.range len).map fun i => (U i).1) (a := a) (fun j v hv i c hc => by
        obtain ⟨hj, rfl⟩ := hget _ j v hv
        exact (hU j hj).1 i c hc)
      rw [List.length_map, List.length_range] at this
      exact this
    · obtain ⟨hj, rfl⟩ := hget _ j v hv
      obtain ⟨_, rfl⟩ := hget _ j y hy
      exact (hU j hj).2.1
    · obtain ⟨hj, rfl⟩ := hget _ j y hy
      exact ⟨D j, by rw [List.getElem?_map, List.getElem?_range hj]; rfl, (hU j hj).2.2⟩

instance : Inhabited AV := ⟨⟨0, 0, 0, ⟨#[]⟩, 0, ⟨#[]⟩, none, 0, 0⟩⟩
instance : Inhabited M.Act := ⟨⟨0, 0, 0, ⟨#[]⟩, 0, ⟨#[]⟩, []⟩⟩
instance : Inhabited RV := ⟨⟨default, 0, 0⟩⟩
instance : Inhabited M.Rec := ⟨⟨default, 0, 0⟩⟩
theorem fit_wf {z : Int} (h : (Lit.int .i64 z).wf = true) : M.Fit z := by
  have a1 : IntKind.i64.min = -9223372036854775808 := rfl
  have a2 : IntKind.i64.max = 9223372036854775807 := rfl
  simp only [Lit.wf, Bool.and_eq_true, decide_eq_true_eq] at h
  unfold M.Fit
  omega
theorem bulk_agg (es : List (DataW H)) : Rows.uptoBulkAll es ≤ Rows.uptoBulk (.agg es) := by unfold Rows.uptoBulk; omega
set_option maxRecDepth 8000 in
/-- an act that came in -/
theorem open_act {W : World} {sp : Nat → Bool} {held : Bool} {fuel : Nat} {cs : List Value} {x : DataW H × List MemPlace} (h : DataW.trod enc Tryd.prog W 0 sp held fuel 35 cs = some x) :
    ∃ (v : AV) (y : M.Act), cs = v.cells ∧ ContA W v y ∧ y.name.size ≤ maxLen ∧ y.toName.size ≤ maxLen ∧ (M.Fit y.fid ∧ M.Fit y.dir ∧ M.Fit y.to) ∧ y.data.length + 1 ≤ Rows.uptoBulk x.1 := by
  obtain ⟨ys, m, _, rfl, hl, hys, hf⟩ := DataW.trod_struct Tryd.underlying35 h
  rw [cellsA] at hl
  obtain ⟨c0, c1, c2, c3, c4, c5, c6, rfl⟩ : ∃ a b c d e f g, cs = [a, b, c, d, e, f, g] := by
    match cs, hl with
    | [a, b, c, d, e, f, g], _ => exact ⟨a, b, c, d, e, f, g, rfl⟩
  have f0 : DataW.trod enc Tryd.prog W 0 sp held m 3 (([c0, c1, c2, c3, c4, c5, c6].drop 0).take (Tryd.prog.cellsOf 3)) = ys[0]? := hf 0 _ rfl
  rw [cells3] at f0
  change DataW.trod enc Tryd.prog W 0 sp held m 3 [c0] = ys[0]? at f0
  have f1 : DataW.trod enc Tryd.prog W 0 sp held m 3 (([c0, c1, c2, c3, c4, c5, c6].drop 1).take (Tryd.prog.cellsOf 3)) = ys[1]? := hf 1 _ rfl
  rw [cells3] at f1
  change DataW.trod enc Tryd.prog W 0 sp held m 3 [c1] = ys[1]? at f1
  have f2 : DataW.trod enc Tryd.prog W 0 sp held m 3 (([c0, c1, c2, c3, c4, c5, c6].drop 2).take (Tryd.prog.cellsOf 3)) = ys[2]? := hf 2 _ rfl
  rw [cells3] at f2
  change DataW.trod enc Tryd.prog W 0 sp held m 3 [c2] = ys[2]? at f2
  have f3 : DataW.trod enc Tryd.prog W 0 sp held m 9 (([c0, c1, c2, c3, c4, c5, c6].drop 3).take (Tryd.prog.cellsOf 9)) = ys[3]? := hf 3 _ rfl
  rw [cells9] at f3
  change DataW.trod enc Tryd.prog W 0 sp held m 9 [c3] = ys[3]? at f3
  have f4 : DataW.trod enc Tryd.prog W 0 sp held m 3 (([c0, c1, c2, c3, c4, c5, c6].drop 4).take (Tryd.prog.cellsOf 3)) = ys[4]? := hf 4 _ rfl
  rw [cells3] at f4
  change DataW.trod enc Tryd.prog W 0 sp held m 3 [c4] = ys[4]? at f4
  have f5 : DataW.trod enc Tryd.prog W 0 sp held m 9 (([c0, c1, c2, c3, c4, c5, c6].drop 5).take (Tryd.prog.cellsOf 9)) = ys[5]? := hf 5 _ rfl
  rw [cells9] at f5
  change DataW.trod enc Tryd.prog W 0 sp held m 9 [c5] = ys[5]? at f5
  have f6 : DataW.trod enc Tryd.prog W 0 sp held m 33 (([c0, c1, c2, c3, c4, c5, c6].drop 6).take (Tryd.prog.cellsOf 33)) = ys[6]? := hf 6 _ rfl
  rw [cells23] at f6
  change DataW.trod enc Tryd.prog W 0 sp held m 33 [c6] = ys[6]? at f6
  have hlen : ys.length = 7 := hys
  have g : ∀ k, k < 7 → ∃ y, ys[k]? = some y := fun k hk => ⟨_, List.getElem?_eq_getElem (by omega)⟩
  obtain ⟨y0, g0⟩ := g 0 (by omega)
  obtain ⟨y1, g1⟩ := g 1 (by omega)
  obtain ⟨y2, g2⟩ := g 2 (by omega)
  obtain ⟨y3, g3⟩ := g 3 (by omega)
  obtain ⟨y4, g4⟩ := g 4 (by omega)
  obtain ⟨y5, g5⟩ := g 5 (by omega)
  obtain ⟨y6, g6⟩ := g 6 (by omega)
  rw [g0] at f0
  rw [g1] at f1
  rw [g2] at f2
  rw [g3] at f3
  rw [g4] at f4
  rw [g5] at f5
  rw [g6] at f6
  obtain ⟨z0, e0, _, _⟩ := DataW.trod_int Tryd.underlying3 f0
  obtain ⟨z1, e1, _, w1⟩ := DataW.trod_int Tryd.underlying3 f1
  obtain ⟨z2, e2, _, w2⟩ := DataW.trod_int Tryd.underlying3 f2
  obtain ⟨s3, e3, _, w3⟩ := DataW.trod_string Tryd.underlying9 f3
  obtain ⟨z4, e4, _, w4⟩ := DataW.trod_int Tryd.underlying3 f4
  obtain ⟨s5, e5, _, w5⟩ := DataW.trod_string Tryd.underlying9 f5
  obtain ⟨A6, n6, k6, l6, e6, hb6, hd6⟩ := open_bytes f6
  cases e0; cases e1; cases e2; cases e3; cases e4; cases e5; cases e6
  refine ⟨⟨z0, z1, z2, s3, z4, s5, A6, n6, k6⟩, ⟨z0, z1, z2, s3, z4, s5, l6⟩, rfl, ⟨rfl, rfl, rfl, rfl, rfl, rfl, hb6⟩, w3, w5, ⟨fit_wf w1, fit_wf w2, fit_wf w4⟩, ?_⟩
  have h1 : Rows.uptoBulk y6.1 ≤ Rows.uptoBulkAll (ys.map (·.1)) := bulk_mem (List.mem_map.2 ⟨y6, List.mem_of_getElem? g6, rfl⟩)
  have h2 := bulk_agg (ys.map (·.1))
  show l6.length + 1 ≤ Rows.uptoBulk (.agg (ys.map (·.1)))
  have hl6 := hb6.1
  rcases hd6 with ⟨_, h0⟩ | ⟨es, spare, he, hn⟩
  · have h3 := bulk_pos y6.1
    omega
  · rw [he] at h1
    have h3 : Rows.uptoBulkAll es + 1 ≤ Rows.uptoBulk (.slice es spare) := by unfold Rows.uptoBulk; omega
    have h4 := bulk_len es
    omega
set_option maxRecDepth 8000 in
/-- a record that came in -/
theorem open_rec {W : World} {sp : Nat → Bool} {held : Bool} {fuel : Nat} {cs : List Value} {x : DataW H × List MemPlace} (h : DataW.trod enc Tryd.prog W 0 sp held fuel 37 cs = some x) :
    ∃ (v : RV) (y : M.Rec), cs = v.cells ∧ ContR W v y ∧ y.act.name.size ≤ maxLen ∧ y.act.toName.size ≤ maxLen ∧ M.FitR y ∧ y.act.data.length + 1 ≤ Rows.uptoBulk x.1 := by
  obtain ⟨ys, m, _, rfl, hl, hys, hf⟩ := DataW.trod_struct Tryd.underlying37 h
  rw [cellsR] at hl
  obtain ⟨c0, c1, c2, c3, c4, c5, c6, c7, c8, rfl⟩ : ∃ a b c d e f g i j, cs = [a, b, c, d, e, f, g, i, j] := by
    match cs, hl with
    | [a, b, c, d, e, f, g, i, j], _ => exact ⟨a, b, c, d, e, f, g, i, j, rfl⟩
  have f0 : DataW.trod enc Tryd.prog W 0 sp held m 35 (([c0, c1, c2, c3, c4, c5, c6, c7, c8].drop 0).take (Tryd.prog.cellsOf 35)) = ys[0]? := hf 0 _ rfl
  rw [cellsA] at f0
  change DataW.trod enc Tryd.prog W 0 sp held m 35 [c0, c1, c2, c3, c4, c5, c6] = ys[0]? at f0
  have f1 : DataW.trod enc Tryd.prog W 0 sp held m 3 (([c0, c1, c2, c3, c4, c5, c6, c7, c8].drop 7).take (Tryd.prog.cellsOf 3)) = ys[1]? := hf 1 _ rfl
  rw [cells3] at f1
  change DataW.trod enc Tryd.prog W 0 sp held m 3 [c7] = ys[1]? at f1
  have f2 : DataW.trod enc Tryd.prog W 0 sp held m 3 (([c0, c1, c2, c3, c4, c5, c6, c7, c8].drop 8).take (Tryd.prog.cellsOf 3)) = ys[2]? := hf 2 _ rfl
  rw [cells3] at f2
  change DataW.trod enc Tryd.prog W 0 sp held m 3 [c8] = ys[2]? at f2
  have hlen : ys.length = 3 := hys
  have g : ∀ k, k < 3 → ∃ y, ys[k]? = some y := fun k hk => ⟨_, List.getElem?_eq_getElem (by omega)⟩
  obtain ⟨y0, g0⟩ := g 0 (by omega)
  obtain ⟨y1, g1⟩ := g 1 (by omega)
  obtain ⟨y2, g2⟩ := g 2 (by omega)
  rw [g0] at f0
  rw [g1] at f1
  rw [g2] at f2
  obtain ⟨va, a, e0, hc, s1, s2, ⟨q1, q2, q3⟩, s3⟩ := open_act f0
  obtain ⟨z1, e1, _, w1⟩ := DataW.trod_int Tryd.underlying3 f1
  obtain ⟨z2, e2, _, w2⟩ := DataW.trod_int Tryd.underlying3 f2
  cases e1; cases e2
  refine ⟨⟨va, z1, z2⟩, ⟨a, z1, z2⟩, ?_, ⟨hc, rfl, rfl⟩, s1, s2, ⟨fit_wf w2, fit_wf w1, q1, q2, q3⟩, ?_⟩
  · simp only [AV.cells, List.cons.injEq, and_true] at e0
    obtain ⟨rfl, rfl, rfl, rfl, rfl, rfl, rfl⟩ := e0
    rfl
  · have h1 : Rows.uptoBulk y0.1 ≤ Rows.uptoBulkAll (ys.map (·.1)) := bulk_mem (List.mem_map.2 ⟨y0, List.mem_of_getElem? g0, rfl⟩)
    have h2 := bulk_agg (ys.map (·.1))
    show a.data.length + 1 ≤ Rows.uptoBulk (.agg (ys.map (·.1)))
    omega
theorem lenR_bulk : ∀ (xs : List M.Rec) (es : List (DataW H)), es.length = xs.length → (∀ (j : Nat) (y : M.Rec), xs[j]? = some y → ∃ d, es[j]? = some d ∧ y.act.data.length + 1 ≤ Rows.uptoBulk d) → M.lenR xs ≤ 202 * Rows.uptoBulkAll es
  | [], es, _, _ => Nat.zero_le _
  | x :: xs, [], h, _ => by simp at h
  | x :: xs, d :: es, h, hS => by
    have ih := lenR_bulk xs es (by simpa using h) (fun j y hy => hS (j + 1) y hy)
    obtain ⟨d', hd, hb⟩ := hS 0 x rfl
    cases hd
    simp only [M.lenR, Rows.uptoBulkAll]
    omega
/-- a log that came in -/
theorem open_recs {W : World} {sp : Nat → Bool} {held : Bool} {fuel : Nat} {l : List Value} {x : DataW H × List MemPlace} (h : DataW.trod enc Tryd.prog W 0 sp held fuel 22 l = some x) :
    ∃ (A : Option Addr) (n c : Nat) (vs : List RV) (xs : List M.Rec), l = [.slice A n c] ∧ n ≤ c ∧ c ≤ maxLen ∧ TreeR W A n vs xs ∧ (∀ y ∈ xs, M.FitR y ∧ y.act.name.size ≤ maxLen ∧ y.act.toName.size ≤ maxLen) ∧ M.lenR xs ≤ 202 * Rows.uptoBulk x.1 := by
  obtain ⟨A, n, c, vs, xs, rfl, h1, h2, h3, h4, h5⟩ := open_rows RV.cells rec_len (by decide) Tryd.underlying22 cellsR (ContR W) (fun d y => y.act.name.size ≤ maxLen ∧ y.act.toName.size ≤ maxLen ∧ M.FitR y ∧ y.act.data.length + 1 ≤ Rows.uptoBulk d) (fun h => by obtain ⟨v, y, e, hc, a1, a2, a3, a4⟩ := open_rec h; exact ⟨v, y, e, hc, a1, a2, a3, a4⟩) h
  have hnx : n = xs.length := by rw [h3.1, h4.1]
  rcases h5 with ⟨_, h0⟩ | ⟨es, spare, he, hl, hS⟩
  · rw [h0] at hnx
    have hx := List.eq_nil_of_length_eq_zero hnx.symm
    refine ⟨A, n, c, vs, xs, rfl, h1, h2, ⟨h3, h4⟩, fun y hy => ?_, ?_⟩
    · rw [hx] at hy; cases hy
    · rw [hx]; exact Nat.zero_le _
  · refine ⟨A, n, c, vs, xs, rfl, h1, h2, ⟨h3, h4⟩, fun y hy => ?_, ?_⟩
    · obtain ⟨j, hj⟩ := List.getElem?_of_mem hy
      obtain ⟨d, _, s1, s2, s3, _⟩ := hS j y hj
      exact ⟨s3, s1, s2⟩
    · rw [he]
      have h6 := bulk_slice es spare
      have h7 := lenR_bulk xs es (by rw [hl, hnx]) (fun j y hy => by
        obtain ⟨d, hd, _, _, _, hb⟩ := hS j y hy
        exact ⟨d, hd, hb⟩)
      omega
theorem post_true {f : Func} {s : ChangeSpec} {W W' : World} {args : Array Value} {ds : List (DataW H)} {before : List MemPlace}
    (hf : f.resultTypes = #[4]) (hp : f.params.toList.all (fun t => Tryd.prog.readableRec t && decide (t < Tryd.prog.types.size)) = true) (hv : s.vars = []) (hs : s.fn H ds = { results := [.lit (.bool true)], args := ds })
    (hW : DataW.Whole enc Tryd.prog f.params.toList s.vars false W args.toList ds [] before) (hb : Below W.heap.size W W') :
    s.post enc Tryd.prog f false true false false W args (.bool true) W' := by
  have hW2 := hW
  obtain ⟨p, q, hA, hV, rfl, _, _⟩ := hW
  have hlt := hW2.lt
  rw [hv] at hV
  obtain ⟨_, rfl⟩ := trodVars_none hV
  rw [List.append_nil] at hlt
  refine ⟨ds, [], _, [], p, [], hW2, ?_, ?_, ?_, hb.frame _, fun h => by cases h⟩
  · rw [List.append_nil, hs, hf]
    exact trodAll_mk1 (shut_bool Tryd.underlying4 _)
  · rw [List.append_nil, hs]
    exact trodAll_below laidOut hb hp hA hlt
  · rw [hv, List.append_nil, hs]
    rfl
end
end Go.Proofs.YtckfodpkckmkbacDoor

