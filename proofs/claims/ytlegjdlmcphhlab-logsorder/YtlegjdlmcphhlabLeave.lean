/-
  Leave and Drop.
-/
import Derived.Test.YtlegjdlmcphhlabDel
namespace Go.Proofs.Ytlegjdlmcphhlab
open Go.RowKit

theorem Box.grown {w w' : World} {s : Nat} {v : NV} {row : Option Nat} (h : Box w s v) (hg : w.grownBy w' row) (hr : some s ≠ row) : Box w' s v := by
  unfold Box; rw [hg.block s (lt_of_block h) hr]; exact h
theorem own_ge {w : World} {B : Nat} {e : TypeId} {k : Nat} {v : Value} {n : Nat} {xs : List Value} (h : w.ownsRow B e k v n xs) {s : Nat} (hs : s < B) : v.ownBlock ≠ some s := by
  intro e
  have := (h.lt s e).1
  omega
theorem grown_below2 {w w' : World} {row : Option Nat} {B : Nat} {w0 : World} (h : Below B w0 w) (hg : w.grownBy w' row) (hB : B ≤ w.heap.size) (hr : ∀ k, row = some k → B ≤ k) : Below B w0 w' := Below.grown h hg hB hr

theorem new_one (w : World) (v : Value) (t : TypeId) : (w.alloc (.cells #[v] t)).cell? ⟨w.heap.size, 0, none⟩ = some v := cell_of_one (heap_alloc_new w _)
theorem alloc_cell {w : World} {a : Addr} {v : Value} (h : w.cell? a = some v) (o : Obj) : (w.alloc o).cell? a = some v := by
  rw [World.cell?_of_block (w := w) (Below.heap_alloc w o _ (World.block_lt_of_cell? w _ h))]; exact h
theorem put5_cell {w : World} {a : Addr} {s : Nat} (h : a.block ≠ s) (o : Nat) (v : NV) : (put5 w s o v).cell? a = w.cell? a := by
  unfold put5
  rw [World.cell?_of_block (Below.heap_setCell _ _ _ _ h), World.cell?_of_block (Below.heap_setCell _ _ _ _ h), World.cell?_of_block (Below.heap_setCell _ _ _ _ h), World.cell?_of_block (Below.heap_setCell _ _ _ _ h), World.cell?_of_block (Below.heap_setCell _ _ _ _ h)]

set_option maxHeartbeats 1000000 in
theorem leave_any (v : NV) (x : M.Nd) (s : ByteArray) (w : World) (hc : Cont w v x) (hs : Small x) :
    Calls Try.prog 63 #[v.val, .string s] w fun e w' => ∃ v' : NV, e = .returned v'.val ∧ OwnN w' w.heap.size v' { x with ents := M.dropE x.ents s } ∧ Below w.heap.size w w' := by
  have hB0 : ∀ W : World, W = ((w.alloc (.cells #[.int .i64 v.fid, .bool v.dir, .slice v.dA v.dn v.dc, .slice v.eA v.en v.ec, .int .i64 v.ver] 40)).alloc (.cells #[.string s] 9)).alloc (.cells #[.int .i64 0, .bool false, .slice none 0 0, .slice none 0 0, .int .i64 0] 40) →
      Box W w.heap.size v ∧ W.cell? ⟨w.heap.size + 1, 0, none⟩ = some (.string s) ∧ Box W (w.heap.size + 2) NV.zero ∧ W.heap.size = w.heap.size + 3 ∧ Below w.heap.size w W := by
    rintro W rfl
    refine ⟨((Box.new w v).alloc _).alloc _, alloc_cell (by simp) _, ?_, by simp, (((Below.refl _ _).alloc (Nat.le_refl _) _).alloc (by simp) _).alloc (by simp; omega) _⟩
    have := Box.new0 ((w.alloc (.cells #[.int .i64 v.fid, .bool v.dir, .slice v.dA v.dn v.dc, .slice v.eA v.en v.ec, .int .i64 v.ver] 40)).alloc (.cells #[.string s] 9))
    simpa using this
  have HB0 : Hid _ := hB0
  have HC : Hid (Cont w v x ∧ Small x) := ⟨hc, hs⟩
  clear hB0 hc hs
  go_enter Try.func63, Try.ntmps63
  go_wp2_with (fail)
  obtain ⟨q0, q1, q2, q3, q4⟩ := HB0.out _ rfl
  refine (ownNode_any v x _ (HC.out.1.below (Nat.le_refl _) q4) HC.out.2).mono ?_
  rintro e w1 ⟨v1, rfl, hon, hb1⟩
  have hz1 := hb1.size
  rw [q3] at hz1 hon
  have HX1 : Hid (Box w1 w.heap.size v ∧ w1.cell? ⟨w.heap.size + 1, 0, none⟩ = some (.string s) ∧ Box w1 (w.heap.size + 2) NV.zero ∧ Below w.heap.size w w1) :=
    ⟨q0.below hb1 (by omega), by rw [hb1.cell (p := ⟨w.heap.size + 1, 0, none⟩) (by show w.heap.size + 1 < _; omega)]; exact q1, q2.below hb1 (by omega), q4.trans (hb1.mono (by omega))⟩
  clear q0 q1 q2 q3 q4 hb1 HB0
  obtain ⟨p0, p1, p2, p3, p4, pf, pz⟩ := HX1.out.1.facts
  have HO2 : Hid (OwnN (put5 w1 w.heap.size 0 v1) (w.heap.size + 3) v1 x) := ⟨hon.1, hon.2.1, hon.2.2.1, put5_own hon.2.2.2.1 (by omega) _ _, put5_own hon.2.2.2.2 (by omega) _ _⟩
  have HX2 : Hid (Box (put5 w1 w.heap.size 0 v1) w.heap.size v1 ∧ (put5 w1 w.heap.size 0 v1).cell? ⟨w.heap.size + 1, 0, none⟩ = some (.string s) ∧ Box (put5 w1 w.heap.size 0 v1) (w.heap.size + 2) NV.zero ∧ Below w.heap.size w (put5 w1 w.heap.size 0 v1)) := by
    refine ⟨put5_box HX1.out.1 v1, ?_, put5_box_other HX1.out.2.2.1 (by omega) 0 v1, put5_below HX1.out.2.2.2 (Nat.le_refl _) _ _⟩
    rw [put5_cell (by show w.heap.size + 1 ≠ _; omega)]; exact HX1.out.2.1
  have hen : v1.en ≤ 140737488355328 := by have := own_len ent_len (by decide) hon.2.2.2.2; have := HC.out.2.2; omega
  clear hon
  go_wp2_with (fail)
  refine (leaveDel_any v1.eA (w.heap.size + 3) v1.en v1.ec x.ents s (w.heap.size + 1) _ HO2.out.2.2.2.2 hen HX2.out.2.1 (own_ge HO2.out.2.2.2.2 (by omega))).mono ?_
  rintro e w3 ⟨m, rfl, hmn, hown3, hg3⟩
  have HX3 : Hid (Box w3 w.heap.size v1 ∧ Box w3 (w.heap.size + 2) NV.zero ∧ Below w.heap.size w w3 ∧ w3.ownsRow (w.heap.size + 3) 5 1 (.slice v1.dA v1.dn v1.dc) v1.dn (x.data.flatMap byteCells1)) :=
    ⟨HX2.out.1.grown hg3 (Ne.symm (own_ge HO2.out.2.2.2.2 (by omega))), HX2.out.2.2.1.grown hg3 (Ne.symm (own_ge HO2.out.2.2.2.2 (by omega))), Below.grown HX2.out.2.2.2 hg3 HX2.out.2.2.2.size (fun k hk => by have := (HO2.out.2.2.2.2.lt k hk).1; omega), own_grown HO2.out.2.2.2.1 HO2.out.2.2.2.2 (by decide) hg3⟩
  have hsz3 := hg3.size
  simp at hsz3
  clear hg3 p0 p1 p2 p3 p4 pf
  obtain ⟨p0, p1, p2, p3, p4, pf, pz3⟩ := HX3.out.1.facts
  obtain ⟨z0, z1, z2, z3, z4, zf, zz3⟩ := HX3.out.2.1.facts
  go_wp2
  have hbr := put5_below (HX3.out.2.2.1.setCell (p := ⟨w.heap.size, 3, none⟩) (Nat.le_refl _) (.slice v1.eA m v1.ec)) (s := w.heap.size + 2) (by omega) 0 ⟨v1.fid, v1.dir, v1.dA, v1.dn, v1.dc, v1.eA, m, v1.ec, v1.ver⟩
  have hod := put5_own (ownsRow_setCell_below HX3.out.2.2.2 (a := ⟨w.heap.size, 3, none⟩) (by show w.heap.size < _; omega) (.slice v1.eA m v1.ec)) (s := w.heap.size + 2) (by omega) 0 ⟨v1.fid, v1.dir, v1.dA, v1.dn, v1.dc, v1.eA, m, v1.ec, v1.ver⟩
  have hoe := put5_own (ownsRow_setCell_below hown3 (a := ⟨w.heap.size, 3, none⟩) (by show w.heap.size < _; omega) (.slice v1.eA m v1.ec)) (s := w.heap.size + 2) (by omega) 0 ⟨v1.fid, v1.dir, v1.dA, v1.dn, v1.dc, v1.eA, m, v1.ec, v1.ver⟩
  exact bodyPost_ret (v := NV.val ⟨v1.fid, v1.dir, v1.dA, v1.dn, v1.dc, v1.eA, m, v1.ec, v1.ver⟩) (by simp [results, Try.results63, go_sem, z0, z1, z2, z3, z4]) rfl ⟨⟨v1.fid, v1.dir, v1.dA, v1.dn, v1.dc, v1.eA, m, v1.ec, v1.ver⟩, rfl, ⟨HO2.out.1, HO2.out.2.1, HO2.out.2.2.1, own_mono hod (by omega), own_mono hoe (by omega)⟩, hbr⟩

/-- what is kept of two lists, pair by pair -/
theorem All2.filter {α β : Type} {R : α → β → Prop} (p : α → Bool) (q : β → Bool) : ∀ {vs : List α} {xs : List β}, All2 R vs xs → (∀ v x, R v x → p v = q x) → All2 R (vs.filter p) (xs.filter q)
  | [], [], h, _ => h
  | [], _ :: _, h, _ => by have := h.1; simp at this
  | _ :: _, [], h, _ => by have := h.1; simp at this
  | v :: vs, x :: xs, h, hpq => by
    have h0 : R v x := h.2 0 v x rfl rfl
    have ht : All2 R vs xs := ⟨by simpa using h.1, fun j a b ha hb => h.2 (j + 1) a b ha hb⟩
    have ih := All2.filter p q ht hpq
    rw [List.filter_cons, List.filter_cons, hpq v x h0]
    split
    · exact All2.cons h0 ih
    · exact ih

set_option maxHeartbeats 1000000 in
theorem drop_any (A : Option Addr) (n c : Nat) (vs : List NV) (xs : List M.Nd) (t : Int) (w : World) (ht : Tree w A n vs xs) (hn : n * 72 ≤ 140737488355328) (hs : ∀ x ∈ xs, Small x) :
    Calls Try.prog 64 #[.slice A n c, .int .i64 t] w fun e w' => ∃ (B : Option Addr) (m d : Nat) (us : List NV), e = .returned (.slice B m d) ∧ m ≤ n ∧ OwnT w' w.heap.size B m d us (M.dropN xs t) ∧ Below w.heap.size w w' := by
  have hwa : ∀ W : World, W = w.alloc (.cells #[.int .i64 t] 3) → Below w.heap.size w W ∧ W.cell? ⟨w.heap.size, 0, none⟩ = some (.int .i64 t) ∧ W.heap.size = w.heap.size + 1 := by
    rintro W rfl
    exact ⟨(Below.refl _ _).alloc (Nat.le_refl _) _, new_one _ _ _, by simp⟩
  have HW : Hid _ := hwa
  have HS : Hid (∀ x ∈ xs, Small x) := hs
  clear hwa hs
  go_enter Try.func64, Try.ntmps64
  go_wp2_with (fail)
  obtain ⟨q0, q1, q2⟩ := HW.out _ rfl
  refine (own_any A n c vs xs _ (ht.below (Nat.le_refl _) q0) hn HS.out).mono ?_
  rintro e w1 ⟨g, us, rfl, hot, hb1⟩
  rw [q2] at hot
  have hz1 := hb1.size
  rw [q2] at hz1
  have hcell : w1.cell? ⟨w.heap.size, 0, none⟩ = some (.int .i64 t) := by rw [hb1.cell (p := ⟨w.heap.size, 0, none⟩) (by show w.heap.size < _; omega)]; exact q1
  have hbw1 : Below w.heap.size w w1 := q0.trans (hb1.mono (by omega))
  clear q0 q1 q2 hb1 HW
  have HOT : Hid (OwnT w1 (w.heap.size + 1) (some ⟨g, 0, none⟩) n n us xs) := hot
  clear hot
  go_wp2_with (fail)
  refine (dropDel_any _ (w.heap.size + 1) n n us t w.heap.size _ HOT.out.1 (by omega) hcell (own_ge HOT.out.1 (by omega))).mono ?_
  rintro e w2 ⟨m, rfl, hmn, hown2, hg2⟩
  have hal : All2 (OwnN w2 (w.heap.size + 1)) (us.filter fun x => !decide (x.fid = t)) (M.dropN xs t) := All2.filter _ _ (HOT.out.2.imp fun v x h => h.grown26 HOT.out.1 hg2) (fun v x h => by rw [h.1])
  have hb2 : Below w.heap.size w w2 := Below.grown hbw1 hg2 hbw1.size (fun k hk => by have := (HOT.out.1.lt k hk).1; omega)
  clear hg2
  go_wp2
  go_ret
  exact ⟨_, m, n, _, rfl, hmn, ⟨own_mono hown2 (by omega), hal.imp fun _ _ h => h.mono (by omega)⟩, hb2⟩
end Go.Proofs.Ytlegjdlmcphhlab
