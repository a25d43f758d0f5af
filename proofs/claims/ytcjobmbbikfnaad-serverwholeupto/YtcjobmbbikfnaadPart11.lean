/- TEXTS LAID TOGETHER: Doesg, Put7, Certh, Certu, Certj, Srvb -/
import Derived.Test.YtcjobmbbikfnaadPart10
import Derived.Test.YtcjobmbbikfnaadPart8
import Derived.Test.YtcjobmbbikfnaadPart9
import Derived.Deep.Cut
import Derived.Deep.CutRange
import Derived.Deep.RegionWith
import Derived.BigRegion
/-
  WHAT SINGLE OPERATIONS DO, further: an act in a box, a pair's parts (for regions that draw their order).
-/
namespace Go.Proofs.Ytcjobmbbikfnaad
open Go.RowKit

section
variable {w : World} {d : Option Tmp} {ty : TypeId} {pos : String} {af : Array Edge} {g : Option (Nat × Bool)} {x y : Operand}
theorem run_loadAb {ρ : Operand → Value} {s : Nat} {v : AV} (hx : ρ x = .pointer (some ⟨s, 0, none⟩)) (h : BoxA w s v) : (execOp ρ ⟨d, .load 36 x, ty, pos, af, g⟩).run Try.prog w = .ok (.value v.val) w := by
  obtain ⟨b0, b1, b2, b3, b4, b5, b6, bf, bz⟩ := h.facts
  simp [execOp, hx, go_sem, b0, b1, b2, b3, b4, b5, b6]
theorem run_lenF {ρ : Operand → Value} {A : Option Addr} {n c : Nat} {t : TypeId} (h : Try.prog.underlying t = some (.slice (Try.prog.elem t))) (hx : ρ x = .slice A n c) : (execOp ρ ⟨d, .call { callee := .builtin .len, args := #[x], argTypes := #[t] }, ty, pos, af, g⟩).run Try.prog w = .ok (.value (.int .i64 (n : Int))) w := by
  have hl := run_len_slice (P := Try.prog) (w := w) t ty A n c h
  clear h
  simp [hx, go_sem, hl]
theorem run_ext0 {ρ : Operand → Value} {u v : Value} (hx : ρ x = .tuple #[u, v]) : (execOp ρ ⟨d, .extract x 0, ty, pos, af, g⟩).run Try.prog w = .ok (.value u) w := by
  simp [execOp, hx, go_sem]
theorem run_ext1 {ρ : Operand → Value} {u v : Value} (hx : ρ x = .tuple #[u, v]) : (execOp ρ ⟨d, .extract x 1, ty, pos, af, g⟩).run Try.prog w = .ok (.value v) w := by
  simp [execOp, hx, go_sem]
end
/-- what an act comes to, as a map and an error; the map of it -/
def IsAm (spec : Int × List M.Nd) : Value → World → Prop := fun v W => ∃ m, v = .tuple #[.map m, .int .i64 spec.1] ∧ ((spec.1 = 0 ∧ ∃ bm, m = some bm ∧ TMap W bm spec.2) ∨ (spec.1 ≠ 0 ∧ m = none))
def IsAm0 (spec : Int × List M.Nd) : Value → World → Prop := fun v W => ∃ m, v = .map m ∧ ((spec.1 = 0 ∧ ∃ bm, m = some bm ∧ TMap W bm spec.2) ∨ (spec.1 ≠ 0 ∧ m = none))
theorem am_below {spec : Int × List M.Nd} {m : Option Nat} {W W' : World} (hb : Below W.heap.size W W') (h : (spec.1 = 0 ∧ ∃ bm, m = some bm ∧ TMap W bm spec.2) ∨ (spec.1 ≠ 0 ∧ m = none)) : (spec.1 = 0 ∧ ∃ bm, m = some bm ∧ TMap W' bm spec.2) ∨ (spec.1 ≠ 0 ∧ m = none) :=
  h.imp (fun ⟨h0, bm, e, ht⟩ => ⟨h0, bm, e, ht.below (Nat.le_refl _) hb⟩) id
theorem isAm_below {spec : Int × List M.Nd} {v : Value} {W W' : World} (hb : Below W.heap.size W W') (h : IsAm spec v W) : IsAm spec v W' := by
  obtain ⟨m, e, h⟩ := h
  exact ⟨m, e, am_below hb h⟩
theorem isAm0_below {spec : Int × List M.Nd} {v : Value} {W W' : World} (hb : Below W.heap.size W W') (h : IsAm0 spec v W) : IsAm0 spec v W' := by
  obtain ⟨m, e, h⟩ := h
  exact ⟨m, e, am_below hb h⟩
/-- an act's copy -/
def IsAc (y : M.Act) : Value → World → Prop := fun v W => ∃ av : AV, v = AV.val av ∧ ContA W av y
theorem isAc_below {y : M.Act} {v : Value} {W W' : World} (hb : Below W.heap.size W W') (h : IsAc y v W) : IsAc y v W' := by
  obtain ⟨av, e, h3⟩ := h
  exact ⟨av, e, h3.below (Nat.le_refl _) hb⟩
/-- a list of fids that many -/
def IsFn (n : Nat) : Value → World → Prop := fun v _ => ∃ (A : Option Addr) (c : Nat), v = .slice A n c
theorem bring_nil {xs : List M.Nd} {a : M.Act} {v : Int} (h : (M.bringS xs a v).1 ≠ 0) : (M.bringS xs a v).2 = [] := by
  revert h
  unfold M.bringS
  split
  · intro _; rfl
  · split
    · intro _; rfl
    · split
      · intro _; rfl
      · split
        · intro _; rfl
        · intro h; exact absurd rfl h
theorem store_nil {xs : List M.Nd} {a : M.Act} {v : Int} (h : (M.storeS xs a v).1 ≠ 0) : (M.storeS xs a v).2 = [] := by
  revert h
  unfold M.storeS
  split
  · intro _; rfl
  · split
    · intro _; rfl
    · split
      · intro _; rfl
      · intro h; exact absurd rfl h
theorem remove_nil {xs : List M.Nd} {a : M.Act} {v : Int} (h : (M.removeS xs a v).1 ≠ 0) : (M.removeS xs a v).2 = [] := by
  revert h
  unfold M.removeS
  split
  · intro _; rfl
  · split
    · intro _; rfl
    · split
      · intro _; rfl
      · intro h; exact absurd rfl h
theorem rename_nil {xs : List M.Nd} {a : M.Act} {v : Int} (h : (M.renameS xs a v).1 ≠ 0) : (M.renameS xs a v).2 = [] := by
  revert h
  unfold M.renameS
  split
  · intro _; rfl
  · split
    · intro _; rfl
    · split
      · intro _; rfl
      · split
        · intro _; rfl
        · split
          · intro _; rfl
          · intro h; exact absurd rfl h
theorem apply_nil {xs : List M.Nd} {a : M.Act} {v : Int} (h : (M.applyS xs a v).1 ≠ 0) : (M.applyS xs a v).2 = [] := by
  revert h
  unfold M.applyS
  split
  · exact bring_nil
  · split
    · exact store_nil
    · split
      · exact remove_nil
      · split
        · exact rename_nil
        · intro _; rfl
end Go.Proofs.Ytcjobmbbikfnaad
/-
  AN ACT IS STORED, cell by cell.
-/
namespace Go.Proofs.Ytcjobmbbikfnaad
open Go.RowKit

/-- an act is stored, cell by cell; a record -/
abbrev put7 (w : World) (s o : Nat) (a : AV) : World :=
  ((((((w.setCell ⟨s, o, none⟩ (.int .i64 a.kind)).setCell ⟨s, o + 1, none⟩ (.int .i64 a.fid)).setCell ⟨s, o + 2, none⟩ (.int .i64 a.dir)).setCell ⟨s, o + 3, none⟩ (.string a.name)).setCell ⟨s, o + 4, none⟩ (.int .i64 a.to)).setCell ⟨s, o + 5, none⟩ (.string a.toName)).setCell ⟨s, o + 6, none⟩ (.slice a.dA a.dn a.dc)
theorem put7_below {B : Nat} {a w : World} (h : Below B a w) {s : Nat} (hs : B ≤ s) (o : Nat) (v : AV) : Below B a (put7 w s o v) :=
  ((((((h.setCell (by exact hs) _).setCell (by exact hs) _).setCell (by exact hs) _).setCell (by exact hs) _).setCell (by exact hs) _).setCell (by exact hs) _).setCell (by exact hs) _
theorem put7_own {w : World} {B : Nat} {e : TypeId} {k : Nat} {v : Value} {n : Nat} {xs : List Value} (h : w.ownsRow B e k v n xs) {s : Nat} (hs : s < B) (o : Nat) (x : AV) : (put7 w s o x).ownsRow B e k v n xs :=
  ownsRow_setCell_below (ownsRow_setCell_below (ownsRow_setCell_below (ownsRow_setCell_below (ownsRow_setCell_below (ownsRow_setCell_below (ownsRow_setCell_below h (by exact hs) _) (by exact hs) _) (by exact hs) _) (by exact hs) _) (by exact hs) _) (by exact hs) _) (by exact hs) _
theorem boxA_set1 {w : World} {s : Nat} {a : AV} (h : BoxA w s a) (k : Int) : BoxA (w.setCell ⟨s, 1, none⟩ (.int .i64 k)) s ⟨a.kind, k, a.dir, a.name, a.to, a.toName, a.dA, a.dn, a.dc⟩ := by
  unfold BoxA at h ⊢; rw [heap_setCell_same _ _ _ _ _ _ h]; rfl
theorem boxA_set2 {w : World} {s : Nat} {a : AV} (h : BoxA w s a) (k : Int) : BoxA (w.setCell ⟨s, 2, none⟩ (.int .i64 k)) s ⟨a.kind, a.fid, k, a.name, a.to, a.toName, a.dA, a.dn, a.dc⟩ := by
  unfold BoxA at h ⊢; rw [heap_setCell_same _ _ _ _ _ _ h]; rfl
theorem boxA_set4 {w : World} {s : Nat} {a : AV} (h : BoxA w s a) (k : Int) : BoxA (w.setCell ⟨s, 4, none⟩ (.int .i64 k)) s ⟨a.kind, a.fid, a.dir, a.name, k, a.toName, a.dA, a.dn, a.dc⟩ := by
  unfold BoxA at h ⊢; rw [heap_setCell_same _ _ _ _ _ _ h]; rfl
set_option maxHeartbeats 2000000 in
theorem put7_box {w : World} {s : Nat} {v : AV} (h : BoxA w s v) (x : AV) : BoxA (put7 w s 0 x) s x := by
  unfold BoxA at h ⊢
  have e0 := heap_setCell_same w s 0 _ 36 (.int .i64 x.kind) h
  have e1 := heap_setCell_same _ s 1 _ 36 (.int .i64 x.fid) e0
  have e2 := heap_setCell_same _ s 2 _ 36 (.int .i64 x.dir) e1
  have e3 := heap_setCell_same _ s 3 _ 36 (.string x.name) e2
  have e4 := heap_setCell_same _ s 4 _ 36 (.int .i64 x.to) e3
  have e5 := heap_setCell_same _ s 5 _ 36 (.string x.toName) e4
  exact heap_setCell_same _ s 6 _ 36 (.slice x.dA x.dn x.dc) e5
theorem put7_other {w : World} {s t : Nat} (ht : t ≠ s) (o : Nat) (x : AV) : (put7 w s o x).heap[t]? = w.heap[t]? := by
  have h : ∀ (W : World) (k : Nat) (u : Value), (W.setCell ⟨s, k, none⟩ u).heap[t]? = W.heap[t]? := fun W k u => Below.heap_setCell _ _ _ _ (by exact ht)
  simp only [put7, h]
end Go.Proofs.Ytcjobmbbikfnaad
/-
  PACKAGE cert: an act as it is here.
-/
namespace Go.Proofs.Ytcjobmbbikfnaad
open Go.RowKit
open Go.ChangeMaps (setBlock)

section
variable {w : World} {d : Option Tmp} {ty : TypeId} {pos : String} {af : Array Edge} {g : Option (Nat × Bool)} {x y : Operand}
theorem run_alloc3 {ρ : Operand → Value} : (execOp ρ ⟨d, .alloc 3, ty, pos, af, g⟩).run Try.prog w = .ok (.value (.pointer (some ⟨w.heap.size, 0, none⟩))) (w.alloc (.cells #[.int .i64 0] 3)) := by
  simp [execOp, go_sem]
theorem run_alloc4 {ρ : Operand → Value} : (execOp ρ ⟨d, .alloc 4, ty, pos, af, g⟩).run Try.prog w = .ok (.value (.pointer (some ⟨w.heap.size, 0, none⟩))) (w.alloc (.cells #[.bool false] 4)) := by
  simp [execOp, go_sem]
end
/-- a new block of one cell -/
def IsB (lo : Nat) (t : TypeId) (u : Value) : Value → World → Prop := fun v W => ∃ g, v = .pointer (some ⟨g, 0, none⟩) ∧ lo ≤ g ∧ W.heap[g]? = some (.cells #[u] t (0, 0))
theorem isB_stays (lo : Nat) (t : TypeId) (u : Value) : Stays (IsB lo t u) := by
  rintro v W W' hb ⟨g, e, hl, h⟩
  exact ⟨g, e, hl, by rw [hb.block g (lt_of_block h)]; exact h⟩
theorem isB_new {lo : Nat} {t : TypeId} {u : Value} {W : World} (h : lo ≤ W.heap.size) : IsB lo t u (.pointer (some ⟨W.heap.size, 0, none⟩)) (W.alloc (.cells #[u] t)) := ⟨W.heap.size, rfl, h, heap_alloc_new W _⟩
def VH (s : Nat) (a : AV) (mk : Bool) (lo : Nat) : Nat → Value → World → Prop
  | 0 => IsU (.pointer (some ⟨s, 1, none⟩))
  | 1 => IsU (.int .i64 a.fid)
  | 2 => IsU a.val
  | 3 => IsU (.bool mk)
  | 4 => IsB lo 3 (.int .i64 0)
  | 5 => IsB lo 4 (.bool false)
  | _ => fun _ _ => True
theorem VH_stays (s : Nat) (a : AV) (mk : Bool) (lo : Nat) : ∀ i, Stays (VH s a mk lo i) := by
  intro i v W W' hb h
  match i, h with
  | 0, h => exact h
  | 1, h => exact h
  | 2, h => exact h
  | 3, h => exact h
  | 4, h => exact isB_stays _ _ _ _ _ _ hb h
  | 5, h => exact isB_stays _ _ _ _ _ _ hb h
  | k + 6, h => trivial
theorem two_end {W : World} {bo bm : Nat} {u v : Value} (ho : W.heap[bo]? = some (.cells #[u] 3 (0, 0))) (hm : W.heap[bm]? = some (.cells #[v] 4 (0, 0))) (x y : Value) :
    ∀ W3, W3 = (W.setCell ⟨bo, 0, none⟩ x).setCell ⟨bm, 0, none⟩ y → W3.heap[bo]? = some (.cells #[x] 3 (0, 0)) ∧ W3.heap[bm]? = some (.cells #[y] 4 (0, 0)) ∧ (∀ B w, Below B w W → B ≤ bo → B ≤ bm → Below B w W3) := by
  rintro W3 rfl
  have hne : bo ≠ bm := by rintro rfl; rw [ho] at hm; cases hm
  refine ⟨?_, ?_, fun B w hb h1 h2 => (hb.setCell (p := ⟨bo, 0, none⟩) h1 _).setCell (p := ⟨bm, 0, none⟩) h2 _⟩
  · rw [Below.heap_setCell _ _ _ _ (by exact hne)]
    exact heap_setCell_same _ _ _ _ _ _ ho
  · have h := heap_setCell_same (W.setCell ⟨bo, 0, none⟩ x) bm 0 #[v] 4 y (by rw [Below.heap_setCell _ _ _ _ (by exact Ne.symm hne)]; exact hm)
    exact h
theorem here_start (w : World) (a : AV) (sb : Nat) : ∀ W, W = ((w.alloc (.cells #[.pointer (some ⟨sb, 0, none⟩)] 63)).alloc (.cells #[.int .i64 a.kind, .int .i64 a.fid, .int .i64 a.dir, .string a.name, .int .i64 a.to, .string a.toName, .slice a.dA a.dn a.dc] 36)).alloc (.cells #[.int .i64 0, .int .i64 0, .int .i64 0, .string ⟨#[]⟩, .int .i64 0, .string ⟨#[]⟩, .slice none 0 0] 36) →
    Below w.heap.size w W ∧ W.heap[w.heap.size]? = some (.cells #[.pointer (some ⟨sb, 0, none⟩)] 63 (0, 0)) ∧ BoxA W (w.heap.size + 1) a ∧ BoxA W (w.heap.size + 2) AV.zero ∧ W.heap.size = w.heap.size + 3 := by
  rintro W rfl
  refine ⟨(((Below.refl _ _).alloc (Nat.le_refl _) _).alloc (by simp) _).alloc (by simp; omega) _, ?_, ?_, ?_, by simp⟩
  · rw [Below.heap_alloc _ _ _ (by simp; omega), Below.heap_alloc _ _ _ (by simp)]
    exact heap_alloc_new w _
  · have := BoxA.new (w.alloc (.cells #[.pointer (some ⟨sb, 0, none⟩)] 63)) a
    rw [World.size_alloc] at this
    exact this.alloc _
  · unfold BoxA
    have := heap_alloc_new ((w.alloc (.cells #[.pointer (some ⟨sb, 0, none⟩)] 63)).alloc (.cells #[.int .i64 a.kind, .int .i64 a.fid, .int .i64 a.dir, .string a.name, .int .i64 a.to, .string a.toName, .slice a.dA a.dn a.dc] 36)) (.cells #[.int .i64 0, .int .i64 0, .int .i64 0, .string ⟨#[]⟩, .int .i64 0, .string ⟨#[]⟩, .slice none 0 0] 36)
    simpa [AV.zero] using this
/-- where here is, behind its closure's variables -/
structure HereI (w W : World) (sb bo bm : Nat) (x : AV) (ac : M.Act) : Prop where
  below : Below w.heap.size w W
  st : W.heap[w.heap.size]? = some (.cells #[.pointer (some ⟨sb, 0, none⟩)] 63 (0, 0))
  box : BoxA W (w.heap.size + 1) x
  res : BoxA W (w.heap.size + 2) AV.zero
  own : W.ownsRow (w.heap.size + 3) 5 1 (.slice x.dA x.dn x.dc) x.dn (ac.data.flatMap byteCells1)
  ho : W.heap[bo]? = some (.cells #[.int .i64 ac.fid] 3 (0, 0))
  hm : W.heap[bm]? = some (.cells #[.bool (M.makeB ac)] 4 (0, 0))
  lo : w.heap.size + 3 ≤ bo ∧ w.heap.size + 3 ≤ bm
theorem HereI.facts {w W : World} {sb bo bm : Nat} {x : AV} {ac : M.Act} (h : HereI w W sb bo bm x ac) : W.cell? ⟨w.heap.size, 0, none⟩ = some (.pointer (some ⟨sb, 0, none⟩)) ∧ W.cell? ⟨bo, 0, none⟩ = some (.int .i64 ac.fid) ∧ W.cell? ⟨bm, 0, none⟩ = some (.bool (M.makeB ac)) :=
  ⟨by simp [World.cell?, h.st], by simp [World.cell?, h.ho], by simp [World.cell?, h.hm]⟩
/-- a cell of the act is written -/
theorem HereI.set {w W : World} {sb bo bm : Nat} {x y : AV} {ac : M.Act} (h : HereI w W sb bo bm x ac) (o : Nat) (u : Value) (hb : BoxA (W.setCell ⟨w.heap.size + 1, o, none⟩ u) (w.heap.size + 1) y) (hy : y.dA = x.dA ∧ y.dn = x.dn ∧ y.dc = x.dc) : HereI w (W.setCell ⟨w.heap.size + 1, o, none⟩ u) sb bo bm y ac := by
  have hh : ∀ q, q ≠ w.heap.size + 1 → (W.setCell ⟨w.heap.size + 1, o, none⟩ u).heap[q]? = W.heap[q]? := fun q hq => Below.heap_setCell _ _ _ _ (by exact hq)
  refine ⟨h.below.setCell (p := ⟨w.heap.size + 1, o, none⟩) (Nat.le_succ _) u, by rw [hh _ (by omega)]; exact h.st, hb, ?_, ?_, by rw [hh _ (by have := h.lo; omega)]; exact h.ho, by rw [hh _ (by have := h.lo; omega)]; exact h.hm, h.lo⟩
  · unfold BoxA; rw [hh _ (by omega)]; exact h.res
  · rw [hy.1, hy.2.1, hy.2.2]
    exact ownsRow_setCell_below h.own (a := ⟨w.heap.size + 1, o, none⟩) (by show w.heap.size + 1 < _; omega) u
theorem HereI.drew {w W : World} {sb bo bm : Nat} {x : AV} {ac : M.Act} (h : HereI w W sb bo bm x ac) : HereI w W.drew sb bo bm x ac := by
  have hd : Below W.heap.size W W.drew := (Below.refl _ _).drew
  exact ⟨h.below.trans (hd.mono h.below.size), h.st, h.box, h.res, own_below h.own hd (Nat.le_refl _), h.ho, h.hm, h.lo⟩

theorem HereI.of {w w2 W : World} {sb bo bm : Nat} {x : AV} {ac : M.Act} (h : Below w.heap.size w w2 ∧ w2.heap[w.heap.size]? = some (.cells #[.pointer (some ⟨sb, 0, none⟩)] 63 (0, 0)) ∧ BoxA w2 (w.heap.size + 1) x ∧ BoxA w2 (w.heap.size + 2) AV.zero ∧ w2.ownsRow (w.heap.size + 3) 5 1 (.slice x.dA x.dn x.dc) x.dn (ac.data.flatMap byteCells1) ∧ w.heap.size + 3 ≤ w2.heap.size)
    (hb : Below w2.heap.size w2 W) (ho : W.heap[bo]? = some (.cells #[.int .i64 ac.fid] 3 (0, 0))) (hm : W.heap[bm]? = some (.cells #[.bool (M.makeB ac)] 4 (0, 0))) (lo : w2.heap.size ≤ bo ∧ w2.heap.size ≤ bm) : HereI w W sb bo bm x ac :=
  ⟨h.1.trans (hb.mono h.1.size), by rw [hb.block _ (lt_of_block h.2.1)]; exact h.2.1, h.2.2.1.below hb (lt_of_block h.2.2.1), h.2.2.2.1.below hb (lt_of_block h.2.2.2.1), own_below h.2.2.2.2.1 hb (Nat.le_refl _), ho, hm, by have := h.2.2.2.2.2; omega⟩

set_option maxRecDepth 8000 in
set_option maxHeartbeats 4000000 in
theorem here_any (s : M.St) (a : AV) (ac : M.Act) (B sb : Nat) (A : Option Addr) (n c : Nat) (us : List NV) (D : Option Addr) (p q : Nat) (avs : List AV) (b1 b2 b3 : Nat) (w : World) (h : StM w B sb s A n c us D p q avs b1 b2 b3) (ha : ContA w a ac) (hs : ac.data.length ≤ 140737488355328) :
    Calls Try.prog 30 #[.pointer (some ⟨sb, 0, none⟩), a.val] w fun e w' => ∃ a' : AV, e = .returned a'.val ∧ OwnA w' w.heap.size a' (M.hereS s ac) ∧ Below w.heap.size w w' := by
  have HS : Hid (StM w B sb s A n c us D p q avs b1 b2 b3 ∧ ContA w a ac) := ⟨h, ha⟩
  have HW : Hid _ := here_start w a sb
  clear h ha
  go_enter Try.func30, Try.ntmps30
  go_wp2_with (fail)
  obtain ⟨q1, q2, q3, q4, q5⟩ := HW.out _ rfl
  refine (ownAct_any a ac _ (HS.out.2.below (Nat.le_refl _) q1) hs).mono ?_
  rintro e w1 ⟨x1, rfl, ho, hb1⟩
  rw [q5] at ho
  obtain ⟨xk, xf, xd, xn, xt, xtn, dA, dn, dc⟩ := x1
  obtain ⟨rfl, rfl, rfl, rfl, rfl, rfl, how⟩ := ho
  have hz1 := hb1.size
  rw [q5] at hz1
  have H1 : Hid (Below w.heap.size w w1 ∧ w1.heap[w.heap.size]? = some (.cells #[.pointer (some ⟨sb, 0, none⟩)] 63 (0, 0)) ∧ BoxA w1 (w.heap.size + 1) a ∧ BoxA w1 (w.heap.size + 2) AV.zero ∧ w1.ownsRow (w.heap.size + 3) 5 1 (.slice dA dn dc) dn (ac.data.flatMap byteCells1)) :=
    ⟨q1.trans (hb1.mono (by omega)), by rw [hb1.block _ (by omega)]; exact q2, q3.below hb1 (by omega), q4.below hb1 (by omega), how⟩
  have hsz : w.heap.size + 3 ≤ w1.heap.size := hz1
  clear q1 q2 q3 q4 q5 hb1 how HW hz1
  obtain ⟨a0, a1, a2, a3, a4, a5, a6, af, az⟩ := H1.out.2.2.1.facts
  go_upto_region 2 with (fail)
  have hE : ∃ W2, W2 = put7 w1 (w.heap.size + 1) 0 ⟨ac.kind, ac.fid, ac.dir, ac.name, ac.to, ac.toName, dA, dn, dc⟩ := ⟨_, rfl⟩
  obtain ⟨w2, hW2⟩ := hE
  have H2 : Hid (Below w.heap.size w w2 ∧ w2.heap[w.heap.size]? = some (.cells #[.pointer (some ⟨sb, 0, none⟩)] 63 (0, 0)) ∧ BoxA w2 (w.heap.size + 1) ⟨ac.kind, ac.fid, ac.dir, ac.name, ac.to, ac.toName, dA, dn, dc⟩ ∧ BoxA w2 (w.heap.size + 2) AV.zero ∧ w2.ownsRow (w.heap.size + 3) 5 1 (.slice dA dn dc) dn (ac.data.flatMap byteCells1) ∧ w.heap.size + 3 ≤ w2.heap.size) := by
    rw [hW2]
    refine ⟨put7_below H1.out.1 (Nat.le_succ _) 0 _, by rw [put7_other (by omega)]; exact H1.out.2.1, put7_box H1.out.2.2.1 _, ?_, put7_own H1.out.2.2.2.2 (by omega) 0 _, by simp [put7]; exact hsz⟩
    unfold BoxA; rw [put7_other (by omega)]; exact H1.out.2.2.2.1
  simp only [put7, Nat.reduceAdd] at hW2
  rw [← hW2]
  clear hW2 H1 a0 a1 a2 a3 a4 a5 a6 af az hsz
  go_cut [5, 6] from 10 to 13 (fun u v W => ∃ bo bm, u = .pointer (some ⟨bo, 0, none⟩) ∧ v = .pointer (some ⟨bm, 0, none⟩) ∧ Hid (HereI w W sb bo bm ⟨ac.kind, ac.fid, ac.dir, ac.name, ac.to, ac.toName, dA, dn, dc⟩ ac))
  case first =>
    have hbd : ∀ W, Below w2.drew.heap.size w2.drew W → Below w2.heap.size w2 W := fun W hb => (Below.refl _ _).drew.trans hb
    refine wp_region_front (VH (w.heap.size + 1) ⟨ac.kind, ac.fid, ac.dir, ac.name, ac.to, ac.toName, dA, dn, dc⟩ (M.makeB ac) w2.heap.size) 6 (by kernel_rfl) (by kernel_rfl) (by kernel_rfl) (VH_stays _ _ _ _) ?_ ?_
    · intro i hi
      match i, hi with
      | 0, _ =>
        refine StepAt.by rfl fun a' W hf hb hd => .inl ⟨want_none, ?_⟩
        exact does_rn (run_fieldA ((hf.keeps 3 (by kernel_rfl)).trans rfl) (by decide)) ⟨Below.refl _ _, rfl⟩
      | 1, _ =>
        refine StepAt.by rfl fun a' W hf hb hd => .inl ⟨want_none, ?_⟩
        exact does_rn (run_load3 (hd 0 (by kernel_rfl)) (H2.out.2.2.1.below (hbd W hb) (lt_of_block H2.out.2.2.1)).facts.2.1) ⟨Below.refl _ _, rfl⟩
      | 2, _ =>
        refine StepAt.by rfl fun a' W hf hb hd => .inl ⟨want_none, ?_⟩
        exact does_rn (run_loadAb ((hf.keeps 3 (by kernel_rfl)).trans rfl) (H2.out.2.2.1.below (hbd W hb) (lt_of_block H2.out.2.2.1))) ⟨Below.refl _ _, rfl⟩
      | 3, _ =>
        refine StepAt.by rfl fun a' W hf hb hd => .inl ⟨want_none, ?_⟩
        refine does_call1 (enters_of Try.func23 (by kernel_rfl) (by kernel_rfl)) (hd 2 (by kernel_rfl)) ((making_any _ W).mono ?_)
        rintro e w' ⟨rfl, hb'⟩
        exact ⟨_, rfl, hb', rfl⟩
      | 4, _ =>
        refine StepAt.by rfl fun a' W hf hb hd => .inl ⟨want_none, ?_⟩
        exact does_rn run_alloc3 ⟨(Below.refl _ _).alloc (Nat.le_refl _) _, isB_new (hbd W hb).size⟩
      | 5, _ =>
        refine StepAt.by rfl fun a' W hf hb hd => .inl ⟨want_none, ?_⟩
        exact does_rn run_alloc4 ⟨(Below.refl _ _).alloc (Nat.le_refl _) _, isB_new (hbd W hb).size⟩
      | k + 6, hi => exact absurd hi (Nat.not_lt.2 (Nat.le_add_left _ _))
    · intro a' W hf hb0 hv
      have e11 : a'.eval (.tmp 11) = .int .i64 ac.fid := hv 1 (by decide)
      have e13 : a'.eval (.tmp 13) = .bool (M.makeB ac) := hv 3 (by decide)
      obtain ⟨bo, e5, lo, ho⟩ := hv 4 (by decide)
      obtain ⟨bm, e6, lm, hm⟩ := hv 5 (by decide)
      have e5' : a'.eval (.tmp 5) = .pointer (some ⟨bo, 0, none⟩) := e5
      have e6' : a'.eval (.tmp 6) = .pointer (some ⟨bm, 0, none⟩) := e6
      have hl := hf.lit (fun t => decide (10 ≤ t) && decide (t ≤ 13) || decide (t = 5) || decide (t = 6)) (by kernel_rfl)
      simp only [overL, Nat.reduceAdd, Nat.reduceLeDiff, Nat.reduceEqDiff, decide_true, decide_false, Bool.and_true, Bool.and_false, Bool.or_true, Bool.or_false] at hl
      rw [hl, e11, e13, e5', e6']
      have HE : Hid _ := two_end ho hm (.int .i64 ac.fid) (.bool (M.makeB ac))
      have HB0 : Hid (Below w2.heap.size w2 W ∧ w2.heap.size ≤ bo ∧ w2.heap.size ≤ bm) := ⟨hb0, lo, lm⟩
      have co : W.cell? ⟨bo, 0, none⟩ = some (.int .i64 0) := by simp [World.cell?, ho]
      have cm : W.cell? ⟨bm, 0, none⟩ = some (.bool false) := by simp [World.cell?, hm]
      have fo : W.frozen? ⟨bo, 0, none⟩ = false := by simp [World.frozen?, ho]
      have fm : W.frozen? ⟨bm, 0, none⟩ = false := by simp [World.frozen?, hm]
      have hne : bo ≠ bm := by rintro rfl; rw [ho] at hm; cases hm
      clear hl hf hb0 hv e11 e13 e5 e6 e5' e6' ho hm
      simp only [List.drop_succ_cons, List.drop_zero]
      go_wp2_with (fail)
      go_meet
      case rel =>
        obtain ⟨e1, e2, e3⟩ := HE.out _ rfl
        exact ⟨bo, bm, rfl, rfl, HereI.of H2.out (e3 _ _ HB0.out.1 HB0.out.2.1 HB0.out.2.2) e1 e2 HB0.out.2⟩
  obtain ⟨bo, bm, rfl, rfl, HI⟩ := hcut
  rename World => w4
  clear H2
  obtain ⟨ks, ko, km⟩ := HI.out.facts
  obtain ⟨a0, a1, a2, a3, a4, a5, a6, af, az⟩ := HI.out.box.facts
  have HST : Hid (StM w4.drew B sb s A n c us D p q avs b1 b2 b3) := (HS.out.1.below (Nat.le_refl _) HI.out.below).below (Nat.le_refl _) ((Below.refl _ _).drew)
  go_upto_region 4 with (fail)
  go_cut [] from 15 to 24 (fun W => Hid (HereI w W sb bo bm ⟨ac.kind, M.turnS s ac ac.fid, M.turnS s ac ac.dir, ac.name, ac.to, ac.toName, dA, dn, dc⟩ ac))
  case first =>
    have HF : Hid (∀ W, W = ((w4.setCell ⟨w.heap.size + 1, 1, none⟩ (.int .i64 (M.turnS s ac ac.fid))).setCell ⟨w.heap.size + 1, 2, none⟩ (.int .i64 (M.turnS s ac ac.dir))).drew → HereI w W sb bo bm ⟨ac.kind, M.turnS s ac ac.fid, M.turnS s ac ac.dir, ac.name, ac.to, ac.toName, dA, dn, dc⟩ ac) := by
      rintro W rfl
      have h1 := HI.out.set 1 _ (boxA_set1 HI.out.box (M.turnS s ac ac.fid)) ⟨rfl, rfl, rfl⟩
      exact (h1.set 2 _ (boxA_set2 h1.box (M.turnS s ac ac.dir)) ⟨rfl, rfl, rfl⟩).drew
    go_region_with (go_at_call 39; refine (turned_any s ac _ B sb bm bo w.heap.size A n c us D p q avs b1 b2 b3 w4.drew HST.out km ko ks).mono ?_; rintro e w5 ⟨rfl, rfl⟩)
    all_goals
      go_wp2_with (fail)
      go_meet
      case rel => exact HF.out _ rfl
  rename World => w5
  have H5 : Hid (HereI w w5 sb bo bm ⟨ac.kind, M.turnS s ac ac.fid, M.turnS s ac ac.dir, ac.name, ac.to, ac.toName, dA, dn, dc⟩ ac) := hcut
  clear hcut HI HST ks ko km a0 a1 a2 a3 a4 a5 a6 af az
  obtain ⟨ks, ko, km⟩ := H5.out.facts
  obtain ⟨a0, a1, a2, a3, a4, a5, a6, af, az⟩ := H5.out.box.facts
  obtain ⟨z0, z1, z2, z3, z4, z5, z6, zf, zz⟩ := H5.out.res.facts
  have HST : Hid (StM w5 B sb s A n c us D p q avs b1 b2 b3) := HS.out.1.below (Nat.le_refl _) H5.out.below
  by_cases h5 : ac.kind = 5
  · have k5 : (ac.kind == 5) = true := by simp [h5]
    have HP : Hid (∀ W, W = put7 (w5.setCell ⟨w.heap.size + 1, 4, none⟩ (.int .i64 (M.turnS s ac ac.to))) (w.heap.size + 2) 0 ⟨ac.kind, M.turnS s ac ac.fid, M.turnS s ac ac.dir, ac.name, M.turnS s ac ac.to, ac.toName, dA, dn, dc⟩ → OwnA W w.heap.size ⟨ac.kind, M.turnS s ac ac.fid, M.turnS s ac ac.dir, ac.name, M.turnS s ac ac.to, ac.toName, dA, dn, dc⟩ (M.hereS s ac) ∧ Below w.heap.size w W) := by
      rintro W rfl
      have h1 := H5.out.set 4 _ (boxA_set4 H5.out.box (M.turnS s ac ac.to)) ⟨rfl, rfl, rfl⟩
      exact ⟨⟨rfl, rfl, rfl, rfl, by unfold M.hereS; rw [if_pos h5], rfl, own_mono (put7_own h1.own (by omega) 0 _) (Nat.le_add_right _ 3)⟩, put7_below h1.below (by omega) 0 _⟩
    clear h5
    go_wp2_with (go_at_call 39; refine (turned_any s ac _ B sb bm bo w.heap.size A n c us D p q avs b1 b2 b3 w5 HST.out km ko ks).mono ?_; rintro e w6 ⟨rfl, hw⟩; rw [hw]; clear hw)
    exact bodyPost_ret (v := AV.val ⟨ac.kind, M.turnS s ac ac.fid, M.turnS s ac ac.dir, ac.name, M.turnS s ac ac.to, ac.toName, dA, dn, dc⟩) (by simp [results, Try.results30, go_sem, z0, z1, z2, z3, z4, z5, z6]) rfl ⟨_, rfl, HP.out _ rfl⟩
  · have k5 : (ac.kind == 5) = false := by simp [h5]
    have HP : Hid (∀ W, W = put7 w5 (w.heap.size + 2) 0 ⟨ac.kind, M.turnS s ac ac.fid, M.turnS s ac ac.dir, ac.name, ac.to, ac.toName, dA, dn, dc⟩ → OwnA W w.heap.size ⟨ac.kind, M.turnS s ac ac.fid, M.turnS s ac ac.dir, ac.name, ac.to, ac.toName, dA, dn, dc⟩ (M.hereS s ac) ∧ Below w.heap.size w W) := by
      rintro W rfl
      exact ⟨⟨rfl, rfl, rfl, rfl, by unfold M.hereS; rw [if_neg h5], rfl, own_mono (put7_own H5.out.own (by omega) 0 _) (Nat.le_add_right _ 3)⟩, put7_below H5.out.below (by omega) 0 _⟩
    clear h5
    go_wp2_with (fail)
    exact bodyPost_ret (v := AV.val ⟨ac.kind, M.turnS s ac ac.fid, M.turnS s ac ac.dir, ac.name, ac.to, ac.toName, dA, dn, dc⟩) (by simp [results, Try.results30, go_sem, z0, z1, z2, z3, z4, z5, z6]) rfl ⟨_, rfl, HP.out _ rfl⟩
end Go.Proofs.Ytcjobmbbikfnaad
/-
  PACKAGE cert: whether a record may be done.
-/
namespace Go.Proofs.Ytcjobmbbikfnaad
open Go.RowKit
open Go.ChangeMaps (setBlock)

theorem boxR_new (w : World) (r : RV) (a : AV) : ∀ W, W = (w.alloc (.cells #[.int .i64 r.a.kind, .int .i64 r.a.fid, .int .i64 r.a.dir, .string r.a.name, .int .i64 r.a.to, .string r.a.toName, .slice r.a.dA r.a.dn r.a.dc, .int .i64 r.ver, .int .i64 r.id] 38)).alloc (.cells #[.int .i64 a.kind, .int .i64 a.fid, .int .i64 a.dir, .string a.name, .int .i64 a.to, .string a.toName, .slice a.dA a.dn a.dc] 36) → Below w.heap.size w W ∧ BoxR W w.heap.size r ∧ BoxA W (w.heap.size + 1) a ∧ W.heap.size = w.heap.size + 2 := by
  rintro W rfl
  refine ⟨((Below.refl _ _).alloc (Nat.le_refl _) _).alloc (by simp) _, (BoxR.new w r).alloc _, ?_, by simp⟩
  have h := BoxA.new (w.alloc (.cells #[.int .i64 r.a.kind, .int .i64 r.a.fid, .int .i64 r.a.dir, .string r.a.name, .int .i64 r.a.to, .string r.a.toName, .slice r.a.dA r.a.dn r.a.dc, .int .i64 r.ver, .int .i64 r.id] 38)) a
  rw [World.size_alloc] at h
  exact h
/-- what try answers -/
def TryPost (w : World) (spec : Int × List M.Nd) (e : Ending) (w' : World) : Prop :=
  ∃ (A : Option Addr) (m d : Nat) (us : List NV), e = .returned (.tuple #[.slice A m d, .int .i64 spec.1]) ∧ OwnT w' w.heap.size A m d us spec.2 ∧ Below w.heap.size w w'
theorem TryPost.err {w w' : World} {spec : Int × List M.Nd} {k : Int} (h : spec = (k, [])) (hb : Below w.heap.size w w') : TryPost w spec (.returned (.tuple #[.slice none 0 0, .int .i64 k])) w' := by
  rw [h]
  exact ⟨none, 0, 0, [], rfl, ownT_nil _ _, hb⟩

set_option maxRecDepth 8000 in
set_option maxHeartbeats 4000000 in
theorem try_any (s : M.St) (r : RV) (x : M.Rec) (a : AV) (B sb : Nat) (A : Option Addr) (n c : Nat) (us : List NV) (D : Option Addr) (p q : Nat) (avs : List AV) (b1 b2 b3 : Nat) (w : World) (h : StM w B sb s A n c us D p q avs b1 b2 b3) (hg : Good s.tr) (hr : ContR w r x) (ha : ContA w a (M.hereS s x.act)) (hsa : SmallA (M.hereS s x.act)) :
    Calls Try.prog 31 #[.pointer (some ⟨sb, 0, none⟩), r.val, a.val] w (TryPost w (M.tryS s x)) := by
  have HS : Hid (StM w B sb s A n c us D p q avs b1 b2 b3 ∧ ContR w r x ∧ ContA w a (M.hereS s x.act) ∧ Good s.tr ∧ SmallA (M.hereS s x.act)) := ⟨h, hr, ha, hg, hsa⟩
  have HW : Hid _ := boxR_new w r a
  clear h hr ha hg hsa
  go_enter Try.func31, Try.ntmps31
  go_wp2_with (fail)
  obtain ⟨q1, q2, q3, q4⟩ := HW.out _ rfl
  refine (rests_any s r.a x.act B sb A n c us D p q avs b1 b2 b3 _ (HS.out.1.below (Nat.le_refl _) q1) (HS.out.2.1.1.below (Nat.le_refl _) q1)).mono ?_
  rintro e w1 ⟨rfl, hb1⟩
  have hz1 := hb1.size
  rw [q4] at hz1
  have H1 : Hid (Below w.heap.size w w1 ∧ BoxR w1 w.heap.size r ∧ BoxA w1 (w.heap.size + 1) a) := ⟨q1.trans (hb1.mono (by omega)), q2.below hb1 (by omega), q3.below hb1 (by omega)⟩
  clear q1 q2 q3 q4 hb1 hz1 HW
  cases hrs : M.restS s x.act
  case' true =>
    have HT : Hid (M.tryS s x = (14, [])) := by show _ = _; unfold M.tryS; rw [if_pos hrs]
    clear hrs
    go_wp2_with (fail)
    go_ret2
    exact TryPost.err HT.out H1.out.1
  have HR : Hid (M.restS s x.act = false) := hrs
  clear hrs
  have HFID : Hid (r.a.fid = x.act.fid) := HS.out.2.1.1.2.1
  have HMK : Hid ((decide (a.kind = 1) || decide (a.kind = 2)) = M.makeB x.act) := by show _ = _; rw [HS.out.2.2.1.1]; rfl
  go_upto_region 3 with (fail)
  go_cut [13] from 14 to 23 (fun t W => t = .bool (M.makeB x.act && !M.freshS s x.act.fid) ∧ Hid (Below w.heap.size w W ∧ BoxR W w.heap.size r ∧ BoxA W (w.heap.size + 1) a))
  case first =>
    obtain ⟨r0, r1, r2, r3, r4, r5, r6, r7, r8, rf, rz⟩ := H1.out.2.1.facts
    obtain ⟨a0, a1, a2, a3, a4, a5, a6, af, az⟩ := H1.out.2.2.facts
    go_wp2_with (fail)
    refine (making_any a w1).mono ?_
    rintro e w2 ⟨rfl, hb2⟩
    have H2 : Hid (Below w.heap.size w w2 ∧ BoxR w2 w.heap.size r ∧ BoxA w2 (w.heap.size + 1) a) := ⟨H1.out.1.trans (hb2.mono H1.out.1.size), H1.out.2.1.below hb2 rz, H1.out.2.2.below hb2 az⟩
    rw [HMK.out]
    clear hb2 H1 HMK r0 r1 r2 r3 r4 r5 r6 r7 r8 rf a0 a1 a2 a3 a4 a5 a6 af
    obtain ⟨r0, r1, r2, r3, r4, r5, r6, r7, r8, rf, rz⟩ := H2.out.2.1.facts
    have HST2 : Hid (StM w2 B sb s A n c us D p q avs b1 b2 b3) := HS.out.1.below (Nat.le_refl _) H2.out.1
    cases hmk : M.makeB x.act
    · have HMB : Hid (M.makeB x.act = false) := hmk
      clear hmk
      go_wp2_with (fail)
      go_meet
      case rel => exact ⟨by rw [HMB.out]; rfl, H2.out⟩
    · have HMB : Hid (M.makeB x.act = true) := hmk
      clear hmk
      go_wp2_with (go_at_call 41; refine (fresh_any s _ B sb A n c us D p q avs b1 b2 b3 w2 HST2.out).mono ?_; rintro e w3 ⟨rfl, hw⟩; rw [hw]; clear hw)
      go_meet
      case rel => exact ⟨by rw [HMB.out, HFID.out]; rfl, H2.out⟩
  obtain ⟨rfl, H2⟩ := hcut
  rename World => w2
  clear H1 HMK
  have HF1 : Hid ((M.makeB x.act && !M.freshS s x.act.fid) = true → M.tryS s x = (2, [])) := fun h => by unfold M.tryS; rw [if_neg (by rw [HR.out]; decide), if_pos h]
  have HF2 : Hid ((M.makeB x.act && !M.freshS s x.act.fid) = false → M.tryS s x = if M.staleS s (M.hereS s x.act) x.ver = true then (13, []) else M.applyS s.tr (M.hereS s x.act) s.ver) := fun h => by unfold M.tryS; rw [if_neg (by rw [HR.out]; decide), if_neg (by rw [h]; decide)]
  generalize (M.makeB x.act && !M.freshS s x.act.fid) = kb at HF1 HF2 ⊢
  cases kb
  case' true =>
    go_wp2_with (fail)
    go_ret2
    exact TryPost.err (HF1.out (by simp)) H2.out.1
  have HT : Hid (M.tryS s x = if M.staleS s (M.hereS s x.act) x.ver = true then (13, []) else M.applyS s.tr (M.hereS s x.act) s.ver) := HF2.out (by simp)
  clear HF1 HF2 HR
  obtain ⟨r0, r1, r2, r3, r4, r5, r6, r7, r8, rf, rz⟩ := H2.out.2.1.facts
  obtain ⟨a0, a1, a2, a3, a4, a5, a6, af, az⟩ := H2.out.2.2.facts
  have HST2 : Hid (StM w2 B sb s A n c us D p q avs b1 b2 b3 ∧ ContA w2 a (M.hereS s x.act)) := ⟨HS.out.1.below (Nat.le_refl _) H2.out.1, HS.out.2.2.1.below (Nat.le_refl _) H2.out.1⟩
  go_wp2_with (fail)
  refine (stale_any s a (M.hereS s x.act) r.ver B sb A n c us D p q avs b1 b2 b3 w2 HST2.out.1 HS.out.2.2.2.1 HST2.out.2).mono ?_
  rintro e w3 ⟨rfl, hb3⟩
  rw [HS.out.2.1.2.1]
  have H3 : Hid (Below w.heap.size w w3 ∧ BoxA w3 (w.heap.size + 1) a ∧ StM w3 B sb s A n c us D p q avs b1 b2 b3 ∧ ContA w3 a (M.hereS s x.act)) := ⟨H2.out.1.trans (hb3.mono H2.out.1.size), H2.out.2.2.below hb3 az, HST2.out.1.below (Nat.le_refl _) hb3, HST2.out.2.below (Nat.le_refl _) hb3⟩
  clear hb3 H2 HST2 r0 r1 r2 r3 r4 r5 r6 r7 r8 rf a0 a1 a2 a3 a4 a5 a6 af
  generalize M.staleS s (M.hereS s x.act) x.ver = sb2 at HT ⊢
  cases sb2
  case' true =>
    go_wp2_with (fail)
    go_ret2
    exact TryPost.err (by rw [HT.out]; simp) H3.out.1
  have HT2 : Hid (M.tryS s x = M.applyS s.tr (M.hereS s x.act) s.ver) := by show _ = _; rw [HT.out]; simp
  clear HT
  obtain ⟨f0, f1, f2, f3, f4, f5, f6, ff, fz⟩ := H3.out.2.2.1.facts
  obtain ⟨a0, a1, a2, a3, a4, a5, a6, af, az⟩ := H3.out.2.1.facts
  have hn72 : (n + 2) * 72 ≤ 140737488355328 := by have h1 := H3.out.2.2.1.tree.tree.1.1; have h2 := H3.out.2.2.1.tree.tree.2.1; have h3 := HS.out.2.2.2.1.2.2; omega
  have HD : Hid (Below w3.heap.size w3 w3.drew) := (Below.refl _ _).drew
  go_upto_region 7 with (fail)
  go_region_with (go_at_call 24; refine (apply_any A n c us s.tr a (M.hereS s x.act) s.ver w3.drew (H3.out.2.2.1.tree.tree.below (Nat.le_refl _) HD.out) hn72 HS.out.2.2.2.1.2.1 (H3.out.2.2.2.below (Nat.le_refl _) HD.out) HS.out.2.2.2.2).mono ?_; rintro e w4 ⟨B4, m4, d4, k4, rfl, hap, hb4⟩; have H4 : Hid (TryPost w (M.tryS s x) (.returned (.tuple #[.slice B4 m4 d4, .int .i64 k4])) w4) := (by rw [HT2.out]; obtain ⟨hk, us4, ho⟩ := hap HS.out.2.2.2.1.1; exact ⟨B4, m4, d4, us4, by rw [hk], ho.mono H3.out.1.size, H3.out.1.trans ((HD.out.trans (hb4.mono (Nat.le_refl _))).mono H3.out.1.size)⟩); clear hap hb4)
  all_goals
    go_wp2_with (fail)
    go_ret2
    exact H4.out
end Go.Proofs.Ytcjobmbbikfnaad
/-
  PACKAGE cert: a record is judged.
-/
namespace Go.Proofs.Ytcjobmbbikfnaad
open Go.RowKit
open Go.ChangeMaps (setBlock)

theorem step_append_row {α : Type} {cs : α → List Value} {k : Nat} {P : Program} {w : World} {ops : Array Oper} {o : Oper} {a : Act} {K : Act → World → Prop} {Q : Exit → Act → World → Prop} {E : Prop} (hgd : o.guard = none) (s x : Operand) (t : TypeId)
    (ho : o.op = .call { callee := .builtin .append, args := #[s, x], argTypes := #[t, t] })
    (B : Nat) (e : TypeId) (i : TypeInfo) (z : Value) (bytes : Nat) (ht : P.underlying t = some (.slice e)) (hi : P.info? e = some i) (hz : i.zero = some z)
    (hsize : i.size = k) (hby : i.bytes = bytes) (hzs : z.cells.size = k) (hsz : 0 < k) (v : Value) (n : Nat) (xs : List Value) (hs : a.eval s = v) (hown : w.ownsRow B e k v n xs)
    (A : Option Addr) (m c : Nat) (vs : List α) (hx : a.eval x = .slice A m c) (hrow : Row k cs w A m vs) (hk : ∀ v, (cs v).length = k) (h1 : ∀ v, ∀ u ∈ cs v, u.oneCell' = true)
    (h63 : n + m ≤ maxLen) (hbytes : (n + m) * bytes ≤ 140737488355328) (hbase : B ≤ w.heap.size)
    (h : ∀ v' w', w'.ownsRow B e k v' (n + m) (xs ++ vs.flatMap cs) → w.grownBy w' v.ownBlock → K (a.put o.dst v') w') :
    if Region.wanted o (yielded ops a.tmps) = true then Oper.wp P o a w K Q else E := by
  have hw : Region.wanted o (yielded ops a.tmps) = true := by simp [Region.wanted, hgd]
  rw [if_pos hw]
  obtain ⟨v', w', hr, h2, h3⟩ := run_append_row (P := P) w B t o.type e i z bytes ht hi hz hsize hby hzs hsz v n xs hown A m c vs hrow hk h1 h63 hbytes hbase
  unfold Oper.wp execOp
  simp only [ho, resolve, invoke, builtin, Sem.run_bind, Sem.run_pure, Result.andThen_ok, List.map_toArray, List.map_cons, List.map_nil, hs, hx, hr]
  exact h v' w' h2 h3
theorem KeepE.setNew {e : TypeId} {w W : World} (h : KeepE e w W) {s : Nat} (hs : w.heap.size ≤ s) (o : Nat) (u : Value) : KeepE e w (W.setCell ⟨s, o, none⟩ u) := fun g cur hg => by
  rw [Below.heap_setCell _ _ _ _ (fun k => by have h1 := lt_of_block hg; have h2 : g = s := k; omega)]
  exact h g cur hg
theorem StM.other {w : World} {B sb : Nat} {s : M.St} {A : Option Addr} {n c : Nat} {us : List NV} {D : Option Addr} {p q : Nat} {avs : List AV} {b1 b2 b3 : Nat} (h : StM w B sb s A n c us D p q avs b1 b2 b3) {g : Nat} {cs : Array Value} {fz : Nat × Nat} (hs : w.heap[g]? = some (.cells cs 45 fz)) (o : Nat) (u : Value) : StM (w.setCell ⟨g, o, none⟩ u) B sb s A n c us D p q avs b1 b2 b3 := by
  have hne : sb ≠ g := by rintro rfl; rw [h.box] at hs; injection hs with hs; injection hs with _ hs _; exact absurd hs (by decide)
  exact ⟨by rw [Below.heap_setCell _ _ _ _ (by exact hne)]; exact h.box, h.tree.keep (.setCell hs (by decide) o u) (.setCell hs (by decide) o u) (.setCell hs (by decide) o u), h.acts.keep (.setCell hs (by decide) o u) (.setCell hs (by decide) o u), h.m1.setCell hs o u, h.m2.setCell hs o u, h.m3.setCell hs o u, h.lo, h.ne⟩
theorem StM.drew {w : World} {B sb : Nat} {s : M.St} {A : Option Addr} {n c : Nat} {us : List NV} {D : Option Addr} {p q : Nat} {avs : List AV} {b1 b2 b3 : Nat} (h : StM w B sb s A n c us D p q avs b1 b2 b3) : StM w.drew B sb s A n c us D p q avs b1 b2 b3 := h.below (Nat.le_refl _) ((Below.refl _ _).drew)
/-- where judge is: its boxes, the act as it is here, the tree that came of it -/
structure JudgeI (w W : World) (B g : Nat) (r : RV) (a : AV) (ac : M.Act) (A : Option Addr) (m d : Nat) (us : List NV) (ys : List M.Nd) : Prop where
  below : Below B w W
  keep : KeepE 45 w W
  rcd : BoxR W w.heap.size r
  ver : W.heap[w.heap.size + 1]? = some (.cells #[.int .i64 0, .int .i64 0] 45 (0, 0))
  box : BoxA W g a
  own : OwnA W (w.heap.size + 2) a ac
  tree : OwnT W (w.heap.size + 2) A m d us ys
  hg : w.heap.size + 2 ≤ g
theorem JudgeI.next {w W W' : World} {B g : Nat} {r : RV} {a : AV} {ac : M.Act} {A : Option Addr} {m d : Nat} {us : List NV} {ys : List M.Nd} (h : JudgeI w W B g r a ac A m d us ys) (hb : Below B W W') (hk : ∀ e, e ≠ 69 → KeepE e W W') : JudgeI w W' B g r a ac A m d us ys :=
  ⟨h.below.trans hb, h.keep.trans (hk _ (by decide)), hk _ (by decide) _ _ h.rcd, hk _ (by decide) _ _ h.ver, hk _ (by decide) _ _ h.box, h.own.keep (hk _ (by decide)), h.tree.keep (hk _ (by decide)) (hk _ (by decide)) (hk _ (by decide)), h.hg⟩
theorem JudgeI.call {w W W' : World} {B g : Nat} {r : RV} {a : AV} {ac : M.Act} {A : Option Addr} {m d : Nat} {us : List NV} {ys : List M.Nd} (h : JudgeI w W B g r a ac A m d us ys) (hb : Below W.heap.size W W') (hB : B ≤ w.heap.size) : JudgeI w W' B g r a ac A m d us ys :=
  h.next (hb.mono (Nat.le_trans hB h.below.size)) fun _ _ => .below hb (Nat.le_refl _)
theorem judge_start (w : World) (r : RV) : ∀ W, W = (w.alloc (.cells #[.int .i64 r.a.kind, .int .i64 r.a.fid, .int .i64 r.a.dir, .string r.a.name, .int .i64 r.a.to, .string r.a.toName, .slice r.a.dA r.a.dn r.a.dc, .int .i64 r.ver, .int .i64 r.id] 38)).alloc (.cells #[.int .i64 0, .int .i64 0] 45) →
    Below w.heap.size w W ∧ BoxR W w.heap.size r ∧ W.heap[w.heap.size + 1]? = some (.cells #[.int .i64 0, .int .i64 0] 45 (0, 0)) ∧ W.heap.size = w.heap.size + 2 := by
  rintro W rfl
  refine ⟨((Below.refl _ _).alloc (Nat.le_refl _) _).alloc (by simp) _, (BoxR.new w r).alloc _, ?_, by simp⟩
  have := heap_alloc_new (w.alloc (.cells #[.int .i64 r.a.kind, .int .i64 r.a.fid, .int .i64 r.a.dir, .string r.a.name, .int .i64 r.a.to, .string r.a.toName, .slice r.a.dA r.a.dn r.a.dc, .int .i64 r.ver, .int .i64 r.id] 38)) (.cells #[.int .i64 0, .int .i64 0] 45)
  rw [World.size_alloc] at this
  exact this
/-- what judge answers -/
def JudgePost (w : World) (B sb : Nat) (b1 b2 b3 : Nat) (s : M.St) (x : M.Rec) (e : Ending) (w' : World) : Prop :=
  e = .returned (.agg #[.int .i64 (M.verdS s x).1, .int .i64 (M.verdS s x).2]) ∧ (∃ (A : Option Addr) (n c : Nat) (us : List NV) (D : Option Addr) (p q : Nat) (avs : List AV), StM w' B sb (M.stepS s x) A n c us D p q avs b1 b2 b3) ∧ Below B w w' ∧ KeepE 45 w w'
theorem JudgeI.vfacts {w W : World} {B g : Nat} {r : RV} {a : AV} {ac : M.Act} {A : Option Addr} {m d : Nat} {us : List NV} {ys : List M.Nd} (h : JudgeI w W B g r a ac A m d us ys) : W.cell? ⟨w.heap.size + 1, 0, none⟩ = some (.int .i64 0) ∧ W.cell? ⟨w.heap.size + 1, 1, none⟩ = some (.int .i64 0) ∧ ∀ o, W.frozen? ⟨w.heap.size + 1, o, none⟩ = false :=
  ⟨by simp [World.cell?, h.ver], by simp [World.cell?, h.ver], fun o => by simp [World.frozen?, h.ver]⟩
theorem judge_end {w W : World} {B g : Nat} {r : RV} {a : AV} {ac : M.Act} {A' : Option Addr} {m' d' : Nat} {us' : List NV} {ys' : List M.Nd} {sb : Nat} {s : M.St} {A : Option Addr} {n c : Nat} {us : List NV} {D : Option Addr} {p q : Nat} {avs : List AV} {b1 b2 b3 : Nat} (h : JudgeI w W B g r a ac A' m' d' us' ys') (hs : StM W B sb s A n c us D p q avs b1 b2 b3) (hB : B ≤ w.heap.size) (u v : Value) :
    ∀ W', W' = (W.setCell ⟨w.heap.size + 1, 0, none⟩ u).setCell ⟨w.heap.size + 1, 1, none⟩ v → StM W' B sb s A n c us D p q avs b1 b2 b3 ∧ Below B w W' ∧ KeepE 45 w W' := by
  rintro W' rfl
  have h1 := heap_setCell_same W (w.heap.size + 1) 0 _ 45 u h.ver
  exact ⟨(hs.other h.ver 0 u).other h1 1 v, (h.below.setCell (p := ⟨w.heap.size + 1, 0, none⟩) (by show B ≤ w.heap.size + 1; omega) u).setCell (p := ⟨w.heap.size + 1, 1, none⟩) (by show B ≤ w.heap.size + 1; omega) v, (h.keep.setNew (Nat.le_succ _) 0 u).setNew (Nat.le_succ _) 1 v⟩
theorem JudgeI.grown {w W W' : World} {B g : Nat} {r : RV} {a : AV} {ac : M.Act} {A : Option Addr} {m d : Nat} {us : List NV} {ys : List M.Nd} (h : JudgeI w W B g r a ac A m d us ys) {B' k' : Nat} {v' : Value} {n' : Nat} {xs' : List Value} (h' : W.ownsRow B' 36 k' v' n' xs') (hlt : ∀ k, v'.ownBlock = some k → B ≤ k ∧ k < w.heap.size) (hB : B ≤ w.heap.size) (hg : W.grownBy W' v'.ownBlock) : JudgeI w W' B g r a ac A m d us ys :=
  ⟨h.below.grown hg (Nat.le_trans hB h.below.size) fun k hk => (hlt k hk).1, h.keep.trans (.grown h' (by decide) hg), KeepE.grown h' (by decide) hg _ _ h.rcd, KeepE.grown h' (by decide) hg _ _ h.ver, by unfold BoxA; rw [hg.block g (lt_of_block h.box) (fun e => by have := hlt g e.symm; have := h.hg; omega)]; exact h.box, h.own.keep (.grown h' (by decide) hg), h.tree.keep (.grown h' (by decide) hg) (.grown h' (by decide) hg) (.grown h' (by decide) hg), h.hg⟩
theorem StM.push {w w8 : World} {B sb : Nat} {s : M.St} {A : Option Addr} {n c : Nat} {us : List NV} {D : Option Addr} {p q : Nat} {avs : List AV} {b1 b2 b3 : Nat} (h : StM w B sb s A n c us D p q avs b1 b2 b3) {a : AV} {ac : M.Act} (ha : OwnA w B a ac) {A2 : Option Addr} {m2 d2 : Nat} {us2 : List NV} {ys : List M.Nd} (ht : OwnT w8 B A2 m2 d2 us2 ys) {D' : Option Addr} {q' : Nat} (ho : w8.ownsRow B 36 7 (.slice D' (p + 1) q') (p + 1) (avs.flatMap AV.cells ++ [a].flatMap AV.cells)) (hg : w.grownBy w8 (Value.slice D p q).ownBlock) :
    ∀ W, W = (w8.setCell ⟨sb, 0, none⟩ (.slice A2 m2 d2)).setCell ⟨sb, 3, none⟩ (.slice D' (p + 1) q') → StM W B sb { s with tr := ys, done := s.done ++ [ac] } A2 m2 d2 us2 D' (p + 1) q' (avs ++ [a]) b1 b2 b3 ∧ Below B w8 W ∧ ∀ e, e ≠ 69 → KeepE e w8 W := by
  rintro W rfl
  obtain ⟨e1, e2, e3, e4, e5, e6⟩ := h.grown h.acts.1 hg
  have hA : OwnAs w8 B D' (p + 1) q' (avs ++ [a]) (s.done ++ [ac]) := h.acts.snoc ha (by simpa using ho) hg
  have h1 := heap_setCell_same w8 sb 0 _ 69 (.slice A2 m2 d2) e1
  have kp : ∀ e, e ≠ 69 → KeepE e w8 ((w8.setCell ⟨sb, 0, none⟩ (.slice A2 m2 d2)).setCell ⟨sb, 3, none⟩ (.slice D' (p + 1) q')) := fun e he => (KeepE.setCell e1 (fun k => he k.symm) 0 _).trans (KeepE.setCell h1 (fun k => he k.symm) 3 _)
  refine ⟨⟨by rw [heap_setCell_same _ _ _ _ _ _ h1]; rfl, ht.keep (kp _ (by decide)) (kp _ (by decide)) (kp _ (by decide)), hA.keep (kp _ (by decide)) (kp _ (by decide)), (e3.setCell e1 0 _).setCell h1 3 _, (e4.setCell e1 0 _).setCell h1 3 _, (e5.setCell e1 0 _).setCell h1 3 _, h.lo, h.ne⟩, ((Below.refl _ _).setCell (p := ⟨sb, 0, none⟩) h.lo.1 _).setCell (p := ⟨sb, 3, none⟩) h.lo.1 _, kp⟩
theorem smallA_here (s : M.St) {a : M.Act} (h : SmallA a) : SmallA (M.hereS s a) := h

set_option maxRecDepth 8000 in
set_option maxHeartbeats 8000000 in
theorem judge_any (s : M.St) (r : RV) (x : M.Rec) (B sb : Nat) (A : Option Addr) (n c : Nat) (us : List NV) (D : Option Addr) (p q : Nat) (avs : List AV) (b1 b2 b3 : Nat) (w : World) (h : StM w B sb s A n c us D p q avs b1 b2 b3) (hg : Good s.tr) (hr : ContR w r x) (hsx : SmallA x.act) (hB : B ≤ w.heap.size)
    (hn0 : 0 ≤ s.next) (hn1 : s.next ≤ 4611686018427387904) (hv0 : 0 ≤ s.ver) (hv1 : s.ver ≤ 4611686018427387904) (hp : (p + 1) * 88 ≤ 140737488355328) :
    Calls Try.prog 19 #[.pointer (some ⟨sb, 0, none⟩), r.val] w (JudgePost w B sb b1 b2 b3 s x) := by
  have HS : Hid (StM w B sb s A n c us D p q avs b1 b2 b3 ∧ ContR w r x ∧ Good s.tr ∧ SmallA x.act) := ⟨h, hr, hg, hsx⟩
  have HB : Hid (B ≤ w.heap.size) := hB
  have HW : Hid _ := judge_start w r
  clear h hr hg hsx hB
  go_enter Try.func19, Try.ntmps19
  go_wp2_with (fail)
  obtain ⟨q1, q2, q3, q4⟩ := HW.out _ rfl
  refine (here_any s r.a x.act B sb A n c us D p q avs b1 b2 b3 _ (HS.out.1.below (Nat.le_refl _) q1) (HS.out.2.1.1.below (Nat.le_refl _) q1) HS.out.2.2.2.2.2).mono ?_
  rintro e w1 ⟨a1, rfl, ho, hb1⟩
  rw [q4] at ho
  have hz1 := hb1.size
  rw [q4] at hz1
  have H1 : Hid (Below w.heap.size w w1 ∧ BoxR w1 w.heap.size r ∧ w1.heap[w.heap.size + 1]? = some (.cells #[.int .i64 0, .int .i64 0] 45 (0, 0)) ∧ OwnA w1 (w.heap.size + 2) a1 (M.hereS s x.act) ∧ w.heap.size + 2 ≤ w1.heap.size) :=
    ⟨q1.trans (hb1.mono (by omega)), q2.below hb1 (by omega), by rw [hb1.block _ (by omega)]; exact q3, ho, hz1⟩
  have HW2 : Hid _ := boxA_start w1 a1
  obtain ⟨r0, r1, r2, r3, r4, r5, r6, r7, r8, rf, rz⟩ := H1.out.2.1.facts
  clear q1 q2 q3 q4 ho hb1 hz1 HW
  go_wp2_with (fail)
  obtain ⟨q1, q2, q3⟩ := HW2.out _ rfl
  have hbw : Below w.heap.size w (w1.alloc (.cells #[.int .i64 a1.kind, .int .i64 a1.fid, .int .i64 a1.dir, .string a1.name, .int .i64 a1.to, .string a1.toName, .slice a1.dA a1.dn a1.dc] 36)) := H1.out.1.trans (q1.mono H1.out.1.size)
  refine (try_any s r x a1 B sb A n c us D p q avs b1 b2 b3 _ (HS.out.1.below (Nat.le_refl _) hbw) HS.out.2.2.1 (HS.out.2.1.below (Nat.le_refl _) hbw) (H1.out.2.2.2.1.cont.below (Nat.le_refl _) q1) (smallA_here s HS.out.2.2.2)).mono ?_
  rintro e w2 ⟨A2, m2, d2, us2, rfl, ho2, hb2⟩
  rw [q3] at ho2
  have hb12 : Below w1.heap.size w1 w2 := q1.trans (hb2.mono (by rw [q3]; omega))
  have hbw2 : Below w.heap.size w w2 := H1.out.1.trans (hb12.mono H1.out.1.size)
  have HJ : Hid (JudgeI w w2 B w1.heap.size r a1 (M.hereS s x.act) A2 m2 d2 us2 (M.tryS s x).2) := ⟨hbw2.mono HB.out, .below hbw2 (Nat.le_refl _), H1.out.2.1.below hb12 (by have := H1.out.2.2.2.2; omega), by rw [hb12.block _ (by have := H1.out.2.2.2.2; omega)]; exact H1.out.2.2.1, q2.below hb2 (by rw [q3]; omega), H1.out.2.2.2.1.below (Nat.le_refl _) hb12, ho2.mono (by have := H1.out.2.2.2.2; omega), H1.out.2.2.2.2⟩
  have HST : Hid (StM w2 B sb s A n c us D p q avs b1 b2 b3) := HS.out.1.below (Nat.le_refl _) hbw2
  clear q1 q2 q3 hbw ho2 hb2 hb12 hbw2 HW2 r0 r1 r2 r3 r4 r5 r6 r7 r8 rf
  by_cases h0 : (M.tryS s x).1 = 0
  case' neg =>
    have HSTEP : Hid (M.verdS s x = ((M.tryS s x).1, 0) ∧ M.stepS s x = M.noS s x) := ⟨M.verd_no h0, M.step_no h0⟩
    have hne : ((M.tryS s x).1 != 0) = true := by simp [h0]
    clear h0
    generalize (M.tryS s x).1 = er at HSTEP hne ⊢
    obtain ⟨f0, f1, f2, f3, f4, f5, f6, ff, fz⟩ := HST.out.facts
    obtain ⟨r0, r1, r2, r3, r4, r5, r6, r7, r8, rf, rz⟩ := HJ.out.rcd.facts
    obtain ⟨o, hl, hst, hbl, hkp⟩ := HST.out.drew.refuse r.a.fid
    have HJ3 : Hid (JudgeI w (setBlock w2.drew b3 o) B w1.heap.size r a1 (M.hereS s x.act) A2 m2 d2 us2 (M.tryS s x).2) := ((HJ.out.call ((Below.refl _ _).drew) HB.out).next hbl fun e _ => hkp e)
    obtain ⟨v0, v1, vf⟩ := HJ3.out.vfacts
    have HP : Hid (∀ W, W = ((setBlock w2.drew b3 o).setCell ⟨w.heap.size + 1, 0, none⟩ (.int .i64 er)).setCell ⟨w.heap.size + 1, 1, none⟩ (.int .i64 0) → JudgePost w B sb b1 b2 b3 s x (.returned (.agg #[.int .i64 er, .int .i64 0])) W) := by
      intro W hW
      obtain ⟨e1, e2, e3⟩ := judge_end HJ3.out hst HB.out _ _ W hW
      refine ⟨by rw [HSTEP.out.1], ⟨A, n, c, us, D, p, q, avs, ?_⟩, e2, e3⟩
      rw [HSTEP.out.2]
      unfold M.noS
      rw [← HS.out.2.1.1.2.1]
      exact e1
    clear hst hbl hkp
    go_wp2_with (fail)
    go_region
    all_goals
      go_wp2_with (fail)
      exact bodyPost_ret (v := .agg #[.int .i64 er, .int .i64 0]) (by simp [results, Try.results19, go_sem, v0, v1]) rfl (HP.out _ rfl)
  have HSTEP : Hid (M.verdS s x = (0, (M.hereS s x.act).fid) ∧ M.stepS s x = M.yesS s x (M.tryS s x).2) := ⟨M.verd_yes h0, M.step_yes h0⟩
  rw [h0]
  clear h0
  generalize (M.tryS s x).2 = ys at HSTEP HJ
  have HM : Hid ((decide (a1.kind = 1) || decide (a1.kind = 2)) = M.makeB x.act) := by show _ = _; rw [HJ.out.own.1]; rfl
  have hE : ∃ s1 : M.St, s1 = { s with next := if M.makeB x.act then s.next + 1 else s.next, made := if M.makeB x.act then M.updM s.made x.act.fid (M.hereS s x.act).fid else s.made } := ⟨_, rfl⟩
  obtain ⟨s1, hs1⟩ := hE
  have HS1 : Hid (s1 = { s with next := if M.makeB x.act then s.next + 1 else s.next, made := if M.makeB x.act then M.updM s.made x.act.fid (M.hereS s x.act).fid else s.made }) := hs1
  clear hs1
  obtain ⟨a0, a1', a2, a3, a4, a5, a6, af, az⟩ := HJ.out.box.facts
  go_upto_if 34 with (go_at_call 23; refine (making_any a1 w2).mono ?_; rintro e w3 ⟨rfl, hb3⟩; rw [HM.out]; have H3 : Hid (StM w3 B sb s A n c us D p q avs b1 b2 b3 ∧ JudgeI w w3 B w1.heap.size r a1 (M.hereS s x.act) A2 m2 d2 us2 ys) := ⟨HST.out.below (Nat.le_refl _) hb3, HJ.out.call hb3 HB.out⟩; clear hb3 a0 a1' a2 a3 a4 a5 a6 af az)
  go_cut [] from 34 to 50 (fun W => Hid (StM W B sb s1 A n c us D p q avs b1 b2 b3 ∧ JudgeI w W B w1.heap.size r a1 (M.hereS s x.act) A2 m2 d2 us2 ys))
  case first =>
    cases hm : M.makeB x.act
    · have HE : Hid (s1 = s) := by show _ = _; rw [HS1.out, hm]; rfl
      clear hm
      go_wp2_with (fail)
      go_meet
      case rel => rw [HE.out]; exact H3.out
    · have HE : Hid (s1 = { s with made := M.updM s.made x.act.fid (M.hereS s x.act).fid, next := s.next + 1 }) := by show _ = _; rw [HS1.out, hm]; rfl
      clear hm
      obtain ⟨f0, f1, f2, f3, f4, f5, f6, ff, fz⟩ := H3.out.1.facts
      obtain ⟨r0, r1, r2, r3, r4, r5, r6, r7, r8, rf, rz⟩ := H3.out.2.rcd.facts
      obtain ⟨a0, a1', a2, a3, a4, a5, a6, af, az⟩ := H3.out.2.box.facts
      obtain ⟨o, hl, hst, hbl, hkp⟩ := H3.out.1.drew.made1 r.a.fid a1.fid
      have hst4 := hst.next1 (s.next + 1)
      have HF4 : Hid (∀ W, W = (setBlock w3.drew b1 o).setCell ⟨sb, 1, none⟩ (.int .i64 (s.next + 1)) → StM W B sb s1 A n c us D p q avs b1 b2 b3 ∧ JudgeI w W B w1.heap.size r a1 (M.hereS s x.act) A2 m2 d2 us2 ys) := by
        rintro W rfl
        have hc := hst.cell 1 (.int .i64 (s.next + 1))
        refine ⟨?_, ((H3.out.2.call ((Below.refl _ _).drew) HB.out).next hbl fun e _ => hkp e).next hc.2.2.2.2.2.1 hc.2.2.2.2.2.2⟩
        rw [HE.out, ← HS.out.2.1.1.2.1, ← HJ.out.own.2.1]
        exact hst4
      obtain ⟨g0, g1, g2, g3, g4, g5, g6, gf, gz⟩ := hst.facts
      simp only at g1
      clear hst hst4 hbl hkp
      go_wp2_with (fail)
      go_region
      all_goals
        go_wp2_with (fail)
        go_meet
        case rel => exact HF4.out _ rfl
  rename World => w5
  have H5 : Hid (StM w5 B sb s1 A n c us D p q avs b1 b2 b3 ∧ JudgeI w w5 B w1.heap.size r a1 (M.hereS s x.act) A2 m2 d2 us2 ys) := hcut
  clear hcut HJ HST H1
  obtain ⟨a0, a1', a2, a3, a4, a5, a6, af, az⟩ := H5.out.2.box.facts
  go_wp2_with (fail)
  refine (fids_any a1 (M.hereS s x.act) w5 H5.out.2.own.cont).mono ?_
  rintro e w6 ⟨Fa, fc, rfl, hfo, hb6⟩
  have HFL : Hid ((M.fidsS (M.hereS s x.act)).length ≤ 3) := fids_len3 _
  have H6 : Hid (StM w6 B sb s1 A n c us D p q avs b1 b2 b3 ∧ JudgeI w w6 B w1.heap.size r a1 (M.hereS s x.act) A2 m2 d2 us2 ys ∧ w6.ownsRow w5.heap.size 3 1 (.slice Fa (M.fidsS (M.hereS s x.act)).length fc) (M.fidsS (M.hereS s x.act)).length ((M.fidsS (M.hereS s x.act)).map fun f => Value.int .i64 f)) := ⟨H5.out.1.below (Nat.le_refl _) hb6, H5.out.2.call hb6 HB.out, hfo⟩
  have hF : ∃ fs, fs = M.fidsS (M.hereS s x.act) := ⟨_, rfl⟩
  obtain ⟨fs, hfs⟩ := hF
  have HFS : Hid (fs = M.fidsS (M.hereS s x.act)) := hfs
  rw [← hfs] at HFL H6 ⊢
  have hn3 : fs.length ≤ 3 := HFL.out
  clear hfs hb6 hfo H5 a0 a1' a2 a3 a4 a5 a6 af az
  go_wp2_with (fail)
  go_loopw [54] (fun i wr => ∃ k : Nat, k ≤ fs.length ∧ i = .int .i64 k ∧ Hid (StM wr B sb { s1 with tch := M.updB s1.tch (fs.take k) } A n c us D p q avs b1 b2 b3 ∧ JudgeI w wr B w1.heap.size r a1 (M.hereS s x.act) A2 m2 d2 us2 ys ∧ wr.ownsRow w5.heap.size 3 1 (.slice Fa fs.length fc) fs.length (fs.map fun f => Value.int .i64 f))) (fun i _ => fs.length - (intOf i).toNat)
  case atStart => exact ⟨0, Nat.zero_le _, rfl, by rw [List.take_zero, updB_nil]; exact H6.out⟩
  case round =>
    obtain ⟨k, hk, rfl, HK⟩ := hrel
    by_cases hlt : k < fs.length
    · have hrow : Row 1 (fun f : Int => [Value.int .i64 f]) wr Fa fs.length fs := Row.ofOwn (fun _ => rfl) (by decide) (by rw [fm_ints]; exact HK.out.2.2)
      obtain ⟨b, o, fx, rfl, _, hx, hc⟩ := Row.at hrow hlt
      have c0 := hc 0 _ rfl
      simp only [Nat.mul_one, Nat.add_zero] at c0
      obtain ⟨o2, hl, hst, hbl, hkp⟩ := HK.out.1.touch fx
      have HN : Hid (StM (setBlock wr b2 o2) B sb { s1 with tch := M.updB s1.tch (fs.take (k + 1)) } A n c us D p q avs b1 b2 b3 ∧ JudgeI w (setBlock wr b2 o2) B w1.heap.size r a1 (M.hereS s x.act) A2 m2 d2 us2 ys ∧ (setBlock wr b2 o2).ownsRow w5.heap.size 3 1 (.slice (some ⟨b, o, none⟩) fs.length fc) fs.length (fs.map fun f => Value.int .i64 f)) := by
        refine ⟨?_, HK.out.2.1.next hbl fun e _ => hkp e, own_keep HK.out.2.2 (hkp 3)⟩
        rw [take_step hx, ← updB_snoc]
        exact hst
      obtain ⟨f0, f1, f2, f3, f4, f5, f6, ff, fz⟩ := HK.out.1.facts
      clear hrow hx hc hst hbl hkp
      go_wp2_with (fail)
      go_roundw
      case rel => exact ⟨k + 1, by omega, by go_num, HN⟩
      case measure => simp [intOf]; omega
    · have HK2 : Hid (StM wr B sb { s1 with tch := M.updB s1.tch fs } A n c us D p q avs b1 b2 b3 ∧ JudgeI w wr B w1.heap.size r a1 (M.hereS s x.act) A2 m2 d2 us2 ys) := by
        have h := HK.out
        rw [List.take_of_length_le (by omega)] at h
        exact ⟨h.1, h.2.1⟩
      rename World => w7
      clear HK H6
      obtain ⟨iA, hiA, hzA, hsA, hbA⟩ := info_parts infoA
      have HBL : Hid (∀ k, (Value.slice D p q).ownBlock = some k → B ≤ k ∧ k < w.heap.size) := fun k hk => HS.out.1.acts.1.lt k hk
      have HAL : Hid (∀ W, W = (w7.alloc (.cells #[.int .i64 a1.kind, .int .i64 a1.fid, .int .i64 a1.dir, .string a1.name, .int .i64 a1.to, .string a1.toName, .slice a1.dA a1.dn a1.dc] 36)).drew → Below w7.heap.size w7 W ∧ BoxA W w7.heap.size a1 ∧ W.heap.size = w7.heap.size + 1) := by
        rintro W rfl
        exact ⟨((Below.refl _ _).alloc (Nat.le_refl _) _).drew, BoxA.new w7 a1, by simp⟩
      go_wp2_with (fail)
      go_cut [] from 65 to 78 (fun W => ∃ (D' : Option Addr) (q' : Nat), Hid (StM W B sb { s1 with tch := M.updB s1.tch fs, tr := ys, done := s1.done ++ [M.hereS s x.act] } A2 m2 d2 us2 D' (p + 1) q' (avs ++ [a1]) b1 b2 b3 ∧ JudgeI w W B w1.heap.size r a1 (M.hereS s x.act) A2 m2 d2 us2 ys))
      case first =>
        obtain ⟨f0, f1, f2, f3, f4, f5, f6, ff, fz⟩ := HK2.out.1.facts
        obtain ⟨a0, a1', a2, a3, a4, a5, a6, af, az⟩ := HK2.out.2.box.facts
        go_region_law (refine step_append_row (by rfl) (.tmp 71) (.tmp 73) 27 (by rfl) B 36 iA _ 88 Try.underlying27 hiA hzA hsA hbA rfl (by decide) (.slice D p q) p (avs.flatMap AV.cells) (by simp [Act.eval]) (HK2.out.1.acts.below (Nat.le_refl _) (HAL.out _ rfl).1).1 (some ⟨w7.heap.size, 0, none⟩) 1 1 [a1] (by simp [Act.eval]) (rowA_box (HAL.out _ rfl).2.1) act_len act_one (by unfold maxLen; omega) hp (by have h1 := (HAL.out _ rfl).1.size; have h2 := HK2.out.2.below.size; have h3 := HB.out; omega) ?_; intro v8 w8 hown8 hg8; obtain ⟨D8, q8, rfl, _, _⟩ := own_form hown8; have hsl := HK2.out.1.below (Nat.le_refl _) (HAL.out _ rfl).1; have hjl := HK2.out.2.call (HAL.out _ rfl).1 HB.out; have e8 := hsl.grown hsl.acts.1 hg8; have hj8 := hjl.grown hsl.acts.1 HBL.out HB.out hg8; have HP := hsl.push (hjl.own.mono (by have h3 := HB.out; omega)) (hj8.tree.mono (by have h3 := HB.out; omega)) hown8 hg8; have HR : Hid (∀ W, W = (w8.setCell ⟨sb, 0, none⟩ (.slice A2 m2 d2)).setCell ⟨sb, 3, none⟩ (.slice D8 (p + 1) q8) → StM W B sb { s1 with tch := M.updB s1.tch fs, tr := ys, done := s1.done ++ [M.hereS s x.act] } A2 m2 d2 us2 D8 (p + 1) q8 (avs ++ [a1]) b1 b2 b3 ∧ JudgeI w W B w1.heap.size r a1 (M.hereS s x.act) A2 m2 d2 us2 ys) := (fun W hW => ⟨(HP W hW).1, hj8.next (HP W hW).2.1 (HP W hW).2.2⟩); have k0 : w8.cell? ⟨sb, 0, none⟩ = some (.slice A n c) := (by simp [World.cell?, e8.1]); have k3 : w8.cell? ⟨sb, 3, none⟩ = some (.slice D p q) := (by simp [World.cell?, e8.1]); have kf : ∀ o, w8.frozen? ⟨sb, o, none⟩ = false := (fun o => by simp [World.frozen?, e8.1]); clear hown8 hg8 hsl hjl e8 hj8 HP)
        all_goals
          go_wp2_with (fail)
          go_meet
          case rel => exact ⟨D8, q8, HR.out _ rfl⟩
      obtain ⟨D8, q8, H8⟩ := hcut
      rename World => w8
      have hsv : s1.ver = s.ver := by rw [HS1.out]
      have h1v0 : 0 ≤ s1.ver := by rw [hsv]; exact hv0
      have h1v1 : s1.ver ≤ 4611686018427387904 := by rw [hsv]; exact hv1
      have HFIN : Hid (({ s1 with tch := M.updB s1.tch fs, tr := ys, done := s1.done ++ [M.hereS s x.act], ver := s1.ver + 1 } : M.St) = M.stepS s x) := by
        show _ = _
        rw [HSTEP.out.2, HS1.out, HFS.out]
        rfl
      have HVD : Hid (M.verdS s x = (0, a1.fid)) := by show _ = _; rw [HSTEP.out.1, H8.out.2.own.2.1]
      have hst9 := H8.out.1.ver1 (s1.ver + 1)
      have hc9 := H8.out.1.cell 2 (.int .i64 (s1.ver + 1))
      have hj9 := H8.out.2.next hc9.2.2.2.2.2.1 hc9.2.2.2.2.2.2
      have HP : Hid (∀ W, W = ((w8.setCell ⟨sb, 2, none⟩ (.int .i64 (s1.ver + 1))).setCell ⟨w.heap.size + 1, 0, none⟩ (.int .i64 0)).setCell ⟨w.heap.size + 1, 1, none⟩ (.int .i64 a1.fid) → JudgePost w B sb b1 b2 b3 s x (.returned (.agg #[.int .i64 0, .int .i64 a1.fid])) W) := by
        intro W hW
        obtain ⟨e1, e2, e3⟩ := judge_end hj9 hst9 HB.out _ _ W hW
        exact ⟨by rw [HVD.out], ⟨_, _, _, _, _, _, _, _, by rw [← HFIN.out]; exact e1⟩, e2, e3⟩
      obtain ⟨v0, v1, vf⟩ := hj9.vfacts
      obtain ⟨f0, f1, f2, f3, f4, f5, f6, ff, fz⟩ := H8.out.1.facts
      simp only at f2
      obtain ⟨g0, g1, g2, g3, g4, g5, g6, gf, gz⟩ := hst9.facts
      obtain ⟨a0, a1', a2, a3, a4, a5, a6, af, az⟩ := hj9.box.facts
      clear hsv hst9 hc9 hj9 HK2 HAL HBL HSTEP HS1 HFIN HVD H8
      go_wp2_with (fail)
      exact bodyPost_ret (v := .agg #[.int .i64 0, .int .i64 a1.fid]) (by simp [results, Try.results19, go_sem, v0, v1]) rfl (HP.out _ rfl)
end Go.Proofs.Ytcjobmbbikfnaad
/-
  PACKAGE server: extend.
-/
namespace Go.Proofs.Ytcjobmbbikfnaad
open Go.RowKit

set_option maxRecDepth 8000 in
set_option maxHeartbeats 1000000 in
theorem extend_any (A C : Option Addr) (n c p q : Nat) (vs : List PV) (xs : List M.Past) (client : Int) (avs : List AV) (acs : List M.Act) (w : World) (ht : TreeP w A n vs xs) (ha : TreeA w C p avs acs) (hs : ∀ x ∈ xs, x.act.data.length ≤ 140737488355328) (hsa : ∀ a ∈ acs, a.data.length ≤ 140737488355328) (hn : (n + p + 1) * 96 ≤ 140737488355328) :
    Calls Try.prog 25 #[.slice A n c, .int .i64 client, .slice C p q] w fun e w' => ∃ (B : Option Addr) (m d : Nat) (us : List PV), e = .returned (.slice B m d) ∧ OwnP w' w.heap.size B m d us (xs ++ ofC client acs) ∧ Below w.heap.size w w' := by
  have HT : Hid (TreeP w A n vs xs ∧ TreeA w C p avs acs ∧ (∀ x ∈ xs, x.act.data.length ≤ 140737488355328) ∧ ∀ a ∈ acs, a.data.length ≤ 140737488355328) := ⟨ht, ha, hs, hsa⟩
  have HLN : Hid (n = xs.length ∧ p = acs.length) := ⟨ht.len, by rw [ha.1.1, ha.2.1]⟩
  obtain ⟨iP, hiP, hzP, hsP, hbP⟩ := info_parts infoP
  have hbn : iP.bytes * (n + p) ≤ 281474976710656 := by rw [hbP]; omega
  clear ht ha hs hsa
  go_enter Try.func25, Try.ntmps25
  go_wp2_with (at_make; refine wpList_make_own _ (by rfl) (.const (.int .i64 0)) (.tmp 16) 49 (by rfl) w.heap.size 71 iP _ 8 Try.underlying49 hiP hzP hsP .i64 .i64 _ (n + p) rfl rfl rfl hbn (by unfold maxLen; omega) (Nat.le_refl _) ?_; intro w2 hown hg2; have hb2 := grown_below hg2; clear hg2)
  have H2 : Hid (OwnP w2 w.heap.size (some ⟨w.heap.size, 0, none⟩) 0 (n + p) [] [] ∧ Below w.heap.size w w2) := ⟨⟨hown, All2.nil⟩, hb2⟩
  clear hown hb2 hbn
  go_loopw [7, 20] (fun v i wr => ∃ (k : Nat) (V : Option Addr) (d : Nat) (us : List PV), k ≤ n ∧ i = .int .i64 k ∧ v = .slice V k d ∧ Hid (OwnP wr w.heap.size V k d us (xs.take k) ∧ Below w.heap.size w wr)) (fun _ i _ => n - (intOf i).toNat)
  case atStart => exact ⟨0, _, n + p, [], Nat.zero_le _, rfl, rfl, H2⟩
  case round =>
    obtain ⟨k, V, d, us, hk, rfl, rfl, HK⟩ := hrel
    by_cases hlt : k < n
    · have htr := HT.out.1.below (Nat.le_refl _) HK.out.2
      obtain ⟨g, o, v, rfl, hgb, hvk, c0, c1, c2, c3, c4, c5, c6, c7⟩ := htr.1.at hlt
      obtain ⟨x, hx, hcx⟩ := htr.2.at hvk
      have HX : Hid (xs[k]? = some x ∧ ContP wr v x ∧ x.act.data.length ≤ 140737488355328) := ⟨hx, hcx, HT.out.2.2.1 x (List.mem_of_getElem? hx)⟩
      have HWA : Hid _ := boxP_one wr v
      have HKN : Hid (k + 1 ≤ maxLen ∧ (k + 1) * 96 ≤ 140737488355328 ∧ ∀ W : World, Below wr.heap.size wr W → ∀ W', Below W.heap.size W W' → w.heap.size ≤ W'.heap.size) := by
        refine ⟨by unfold maxLen; omega, Nat.le_trans (Nat.mul_le_mul_right 96 (by omega)) hn, fun W h W' h' => ?_⟩
        exact Nat.le_trans HK.out.2.size (Nat.le_trans h.size h'.size)
      clear htr hvk hx hcx
      rename World => wr
      go_wp2_with (fail)
      obtain ⟨w3, hw3⟩ : ∃ W, W = wr.alloc (.cells #[.int .i64 v.client, .int .i64 v.a.kind, .int .i64 v.a.fid, .int .i64 v.a.dir, .string v.a.name, .int .i64 v.a.to, .string v.a.toName, .slice v.a.dA v.a.dn v.a.dc] 71) := ⟨_, rfl⟩
      have H3 : Hid (Below wr.heap.size wr w3.drew ∧ BoxP w3.drew wr.heap.size v ∧ w3.drew.heap.size = wr.heap.size + 1) := by
        obtain ⟨q1, q2, q3⟩ := HWA.out _ hw3
        exact ⟨q1.drew, q2.below (Below.refl _ _).drew (Nat.lt_of_lt_of_eq (Nat.lt_succ_self _) q3.symm), q3⟩
      rw [← hw3]
      clear hw3 HWA c0 c1 c2 c3 c4 c5 c6 c7
      obtain ⟨b0, b1, b2, b3, b4, b5, b6, b7, bf, bz⟩ := H3.out.2.1.facts
      go_region_law (first | (go_simp; go_at_call 37; refine (ownAct_any v.a x.act _ (HX.out.2.1.2.below (Nat.le_refl _) H3.out.1) HX.out.2.2).mono ?_; rintro e w4 ⟨a', rfl, ho, hb4⟩; have H4 : Hid (Below wr.heap.size wr w4 ∧ BoxP w4 wr.heap.size v ∧ OwnA w4 wr.heap.size a' x.act ∧ wr.heap.size < w4.heap.size) := ⟨H3.out.1.trans (hb4.mono H3.out.1.size), H3.out.2.1.below hb4 bz, ho.mono H3.out.1.size, Nat.lt_of_lt_of_le bz hb4.size⟩; clear b0 b1 b2 b3 b4 b5 b6 b7 bf bz ho hb4; obtain ⟨b0, b1, b2, b3, b4, b5, b6, b7, bf, bz⟩ := H4.out.2.1.facts; have HWB : Hid _ := boxP_two w4 v.client a') | (refine step_append_row (by rfl) (.tmp 24) (.tmp 31) 49 (by rfl) w.heap.size 71 iP _ 96 Try.underlying49 hiP hzP hsP hbP rfl (by decide) (.slice V k d) k (us.flatMap PV.cells) (by simp [Act.eval]) (own_below (own_below HK.out.1.1 H4.out.1 (Nat.le_refl _)) (HWB.out _ rfl).1 (Nat.le_refl _)) (some ⟨w4.heap.size, 0, none⟩) 1 1 [⟨v.client, a'⟩] (by simp [Act.eval]) (rowP_box (HWB.out _ rfl).2.1) past_len past_one HKN.out.1 HKN.out.2.1 (HKN.out.2.2 _ H4.out.1 _ (HWB.out _ rfl).1) ?_; intro v5 w5 hown5 hg5; obtain ⟨V5, d5, rfl, _, _⟩ := own_form hown5; have HR : Hid (OwnP w5 w.heap.size V5 (k + 1) d5 (us ++ [⟨v.client, a'⟩]) (xs.take (k + 1)) ∧ Below w.heap.size w w5) := ⟨(by rw [take_step HX.out.1]; exact OwnP.snoc ((HK.out.1.below (Nat.le_refl _) H4.out.1).below (Nat.le_refl _) (HWB.out _ rfl).1) HX.out.2.1.1 ((H4.out.2.2.1.mono HK.out.2.size).below (Nat.le_refl _) (HWB.out _ rfl).1) (by simpa using hown5) hg5), snoc_belowP (HK.out.2.trans ((H4.out.1.trans ((HWB.out _ rfl).1.mono H4.out.1.size)).mono HK.out.2.size)) (Nat.le_refl _) (own_below (own_below HK.out.1.1 H4.out.1 (Nat.le_refl _)) (HWB.out _ rfl).1 (Nat.le_refl _)) hg5⟩; clear hown5 hg5))
      all_goals
        go_wp2_with (fail)
        go_roundw
        case rel => exact ⟨k + 1, V5, d5, _, by omega, by go_num, rfl, HR⟩
        case measure => simp [intOf]; omega
    · have hkn : k = n := by omega
      subst hkn
      have H4 : Hid (OwnP wr w.heap.size V (k + 0) d us (xs ++ ofC client (acs.take 0)) ∧ Below w.heap.size w wr) := by
        have h := HK.out
        rw [List.take_of_length_le (by rw [HLN.out.1]; exact Nat.le_refl _)] at h
        refine ⟨?_, h.2⟩
        rw [List.take_zero]
        show OwnP wr w.heap.size V k d us (xs ++ [])
        rw [List.append_nil]
        exact h.1
      clear HK H2 hk hlt
      go_wp2_with (fail)
      go_loopw [7, 36] (fun v i W => ∃ (j : Nat) (V : Option Addr) (d : Nat) (us : List PV), j ≤ p ∧ i = .int .i64 j ∧ v = .slice V (k + j) d ∧ Hid (OwnP W w.heap.size V (k + j) d us (xs ++ ofC client (acs.take j)) ∧ Below w.heap.size w W)) (fun _ i _ => p - (intOf i).toNat)
      case atStart => exact ⟨0, V, d, us, Nat.zero_le _, rfl, rfl, H4⟩
      case round =>
        obtain ⟨j, V2, d2, us2, hj, rfl, rfl, HJ⟩ := hrel
        rename World => w5
        by_cases hlt2 : j < p
        · have hta := HT.out.2.1.below (Nat.le_refl _) HJ.out.2
          obtain ⟨g, o, v, rfl, hgb, hvk, c0, c1, c2, c3, c4, c5, c6⟩ := Acts.at hta.1 hlt2
          obtain ⟨x, hx, hcx⟩ := hta.2.at hvk
          have HX : Hid (acs[j]? = some x ∧ ContA w5 v x ∧ x.data.length ≤ 140737488355328) := ⟨hx, hcx, HT.out.2.2.2 x (List.mem_of_getElem? hx)⟩
          have HWA : Hid _ := boxA_start w5 v
          have HKN : Hid (k + j + 1 ≤ maxLen ∧ (k + j + 1) * 96 ≤ 140737488355328 ∧ ∀ W : World, Below w5.heap.size w5 W → ∀ W', Below W.heap.size W W' → w.heap.size ≤ W'.heap.size) := by
            refine ⟨by unfold maxLen; omega, Nat.le_trans (Nat.mul_le_mul_right 96 (by omega)) hn, fun W h W' h' => ?_⟩
            exact Nat.le_trans HJ.out.2.size (Nat.le_trans h.size h'.size)
          clear hta hvk hx hcx hgb
          go_wp2_with (fail)
          obtain ⟨q1, q2, q3⟩ := HWA.out _ rfl
          refine (ownAct_any v x _ (HX.out.2.1.below (Nat.le_refl _) q1) HX.out.2.2).mono ?_
          rintro e w6 ⟨a', rfl, ho, hb6⟩
          have H6 : Hid (Below w5.heap.size w5 w6 ∧ OwnA w6 w5.heap.size a' x) := ⟨q1.trans (hb6.mono q1.size), ho.mono q1.size⟩
          have HWB : Hid _ := boxP_two w6 client a'
          clear q1 q2 q3 ho hb6 HWA c0 c1 c2 c3 c4 c5 c6
          go_wp2_with (at_builtin; refine wpList_append_row _ (by rfl) (.tmp 40) (.tmp 45) 49 (by rfl) w.heap.size 71 iP _ 96 Try.underlying49 hiP hzP hsP hbP rfl (by decide) _ (k + j) _ (by rfl) (own_below (own_below HJ.out.1.1 H6.out.1 (Nat.le_refl _)) (HWB.out _ rfl).1 (Nat.le_refl _)) (some ⟨w6.heap.size, 0, none⟩) 1 1 [⟨client, a'⟩] (by rfl) (rowP_box (HWB.out _ rfl).2.1) past_len past_one HKN.out.1 HKN.out.2.1 (HKN.out.2.2 _ H6.out.1 _ (HWB.out _ rfl).1) ?_; intro v7 w7 hown7 hg7; obtain ⟨V7, d7, rfl, _, _⟩ := own_form hown7; have HR : Hid (OwnP w7 w.heap.size V7 (k + j + 1) d7 (us2 ++ [⟨client, a'⟩]) (xs ++ ofC client (acs.take (j + 1))) ∧ Below w.heap.size w w7) := ⟨(by rw [ofC_take HX.out.1, ← List.append_assoc]; exact OwnP.snoc ((HJ.out.1.below (Nat.le_refl _) H6.out.1).below (Nat.le_refl _) (HWB.out _ rfl).1) rfl ((H6.out.2.mono HJ.out.2.size).below (Nat.le_refl _) (HWB.out _ rfl).1) (by simpa using hown7) hg7), snoc_belowP (HJ.out.2.trans ((H6.out.1.trans ((HWB.out _ rfl).1.mono H6.out.1.size)).mono HJ.out.2.size)) (Nat.le_refl _) (own_below (own_below HJ.out.1.1 H6.out.1 (Nat.le_refl _)) (HWB.out _ rfl).1 (Nat.le_refl _)) hg7⟩; clear hown7 hg7)
          go_roundw
          case rel => exact ⟨j + 1, V7, d7, _, by omega, by go_num, rfl, HR⟩
          case measure => simp [intOf]; omega
        · have HE : Hid (OwnP w5 w.heap.size V2 (k + j) d2 us2 (xs ++ ofC client acs) ∧ Below w.heap.size w w5) := by
            have h := HJ.out
            rw [List.take_of_length_le (by rw [← HLN.out.2]; omega)] at h
            exact h
          clear HJ H4
          go_wp2_with (fail)
          go_ret
          exact ⟨V2, k + j, d2, us2, rfl, HE.out⟩
end Go.Proofs.Ytcjobmbbikfnaad
