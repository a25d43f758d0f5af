/-
  PACKAGE acts: an act in memory; holder.
-/
import Derived.Test.YtlegjdlmcphhlabActa
namespace Go.Proofs.Ytlegjdlmcphhlab
open Go.RowKit

/-- an act's value -/
structure AV where
  kind : Int
  fid : Int
  dir : Int
  name : ByteArray
  to : Int
  toName : ByteArray
  dA : Option Addr
  dn : Nat
  dc : Nat
def AV.cells (a : AV) : List Value := [.int .i64 a.kind, .int .i64 a.fid, .int .i64 a.dir, .string a.name, .int .i64 a.to, .string a.toName, .slice a.dA a.dn a.dc]
@[reducible] def AV.val (a : AV) : Value := .agg #[.int .i64 a.kind, .int .i64 a.fid, .int .i64 a.dir, .string a.name, .int .i64 a.to, .string a.toName, .slice a.dA a.dn a.dc]
/-- the value a is the act x -/
def ContA (w : World) (a : AV) (x : M.Act) : Prop := a.kind = x.kind ∧ a.fid = x.fid ∧ a.dir = x.dir ∧ a.name = x.name ∧ a.to = x.to ∧ a.toName = x.toName ∧ Byts w a.dA a.dn x.data
theorem ContA.below {B : Nat} {w w' : World} {a : AV} {x : M.Act} (h : ContA w a x) (hB : w.heap.size ≤ B) (hb : Below B w w') : ContA w' a x :=
  ⟨h.1, h.2.1, h.2.2.1, h.2.2.2.1, h.2.2.2.2.1, h.2.2.2.2.2.1, h.2.2.2.2.2.2.below hB hb⟩
/-- no text of it is too long, nor its bytes -/
def SmallA (x : M.Act) : Prop := x.name.size ≤ maxLen ∧ x.toName.size ≤ maxLen ∧ x.data.length ≤ 140737488355328
def BoxA (w : World) (s : Nat) (a : AV) : Prop := w.heap[s]? = some (.cells #[.int .i64 a.kind, .int .i64 a.fid, .int .i64 a.dir, .string a.name, .int .i64 a.to, .string a.toName, .slice a.dA a.dn a.dc] 26 (0, 0))
theorem BoxA.facts {w : World} {s : Nat} {a : AV} (h : BoxA w s a) : w.cell? ⟨s, 0, none⟩ = some (.int .i64 a.kind) ∧ w.cell? ⟨s, 1, none⟩ = some (.int .i64 a.fid) ∧ w.cell? ⟨s, 2, none⟩ = some (.int .i64 a.dir) ∧ w.cell? ⟨s, 3, none⟩ = some (.string a.name) ∧
    w.cell? ⟨s, 4, none⟩ = some (.int .i64 a.to) ∧ w.cell? ⟨s, 5, none⟩ = some (.string a.toName) ∧ w.cell? ⟨s, 6, none⟩ = some (.slice a.dA a.dn a.dc) ∧ (∀ o, w.frozen? ⟨s, o, none⟩ = false) ∧ s < w.heap.size := by
  unfold BoxA at h
  refine ⟨by simp [World.cell?, h], by simp [World.cell?, h], by simp [World.cell?, h], by simp [World.cell?, h], by simp [World.cell?, h], by simp [World.cell?, h], by simp [World.cell?, h], fun o => by simp [World.frozen?, h], lt_of_block h⟩
theorem BoxA.below {w w' : World} {s B : Nat} {a : AV} (h : BoxA w s a) (hb : Below B w w') (hs : s < B) : BoxA w' s a := by
  unfold BoxA at h ⊢; rw [hb.block s hs]; exact h
theorem BoxA.alloc {w : World} {s : Nat} {a : AV} (h : BoxA w s a) (o : Obj) : BoxA (w.alloc o) s a := by
  unfold BoxA at h ⊢; rw [Below.heap_alloc w o s (lt_of_block h)]; exact h
theorem BoxA.new (w : World) (a : AV) : BoxA (w.alloc (.cells #[.int .i64 a.kind, .int .i64 a.fid, .int .i64 a.dir, .string a.name, .int .i64 a.to, .string a.toName, .slice a.dA a.dn a.dc] 26)) w.heap.size a := heap_alloc_new w _
theorem BoxA.setOther {w : World} {s : Nat} {v : AV} (h : BoxA w s v) {a : Addr} (ha : s ≠ a.block) (u : Value) : BoxA (w.setCell a u) s v := by
  unfold BoxA at h ⊢; rw [Below.heap_setCell _ _ _ _ ha]; exact h
theorem put5_boxA {w : World} {s : Nat} {v : AV} (h : BoxA w s v) {t : Nat} (ht : s ≠ t) (o : Nat) (x : NV) : BoxA (put5 w t o x) s v :=
  ((((h.setOther (by exact ht) _).setOther (by exact ht) _).setOther (by exact ht) _).setOther (by exact ht) _).setOther (by exact ht) _

theorem hold_err {xs : List M.Nd} {d : Int} {s : ByteArray} {f : Int} (h : (M.dirS xs d).1 ≠ 0) : M.holdS xs d s f = ((M.dirS xs d).1, nd0) := by unfold M.holdS; rw [if_neg h]
theorem hold_none {xs : List M.Nd} {d : Int} {s : ByteArray} {f : Int} {x : M.Nd} (h : M.dirS xs d = (0, x)) (hl : M.look x.ents s = none) : M.holdS xs d s f = (6, nd0) := by unfold M.holdS; rw [h, if_pos rfl]; simp [hl]
theorem hold_other {xs : List M.Nd} {d : Int} {s : ByteArray} {f : Int} {x : M.Nd} {e : ByteArray × Int} (h : M.dirS xs d = (0, x)) (hl : M.look x.ents s = some e) (hf : e.2 ≠ f) : M.holdS xs d s f = (13, nd0) := by unfold M.holdS; rw [h, if_pos rfl]; simp [hl, hf]
theorem hold_yes {xs : List M.Nd} {d : Int} {s : ByteArray} {f : Int} {x : M.Nd} {e : ByteArray × Int} (h : M.dirS xs d = (0, x)) (hl : M.look x.ents s = some e) (hf : e.2 = f) : M.holdS xs d s f = (0, x) := by unfold M.holdS; rw [h, if_pos rfl]; simp [hl, hf]
theorem dir_rise {xs : List M.Nd} {d : Int} {x : M.Nd} (hr : M.Rise xs) (h : M.dirS xs d = (0, x)) : M.RsE x.ents := by
  have h1 := M.dir_ok (xs := xs) (f := d) (by rw [h])
  rw [h] at h1
  exact hr.2 x (M.find_mem h1.1).1

set_option maxHeartbeats 1000000 in
theorem holder_any (A : Option Addr) (n c : Nat) (vs : List NV) (xs : List M.Nd) (a : AV) (w : World) (ht : Tree w A n vs xs) (hn : n * 72 ≤ 140737488355328) (hs : ∀ x ∈ xs, Small x) :
    Calls Try.prog 62 #[.slice A n c, a.val] w fun e w' => ∃ (v : NV) (x : M.Nd) (r : Int), e = .returned (.tuple #[v.val, .int .i64 r]) ∧ OwnN w' w.heap.size v x ∧ Small x ∧ (M.Rise xs → r = (M.holdS xs a.dir a.name a.fid).1 ∧ x = (M.holdS xs a.dir a.name a.fid).2) ∧ Below w.heap.size w w' := by
  have hwa : ∀ W, W = (w.alloc (.cells #[.int .i64 a.kind, .int .i64 a.fid, .int .i64 a.dir, .string a.name, .int .i64 a.to, .string a.toName, .slice a.dA a.dn a.dc] 26)).alloc (.cells #[.int .i64 0, .bool false, .slice none 0 0, .slice none 0 0, .int .i64 0] 40) →
      Below w.heap.size w W ∧ BoxA W w.heap.size a ∧ Box W (w.heap.size + 1) NV.zero ∧ W.heap.size = w.heap.size + 2 := by
    rintro W rfl
    refine ⟨((Below.refl _ _).alloc (Nat.le_refl _) _).alloc (by simp) _, (BoxA.new w a).alloc _, ?_, by simp⟩
    have := Box.new0 (w.alloc (.cells #[.int .i64 a.kind, .int .i64 a.fid, .int .i64 a.dir, .string a.name, .int .i64 a.to, .string a.toName, .slice a.dA a.dn a.dc] 26))
    simpa using this
  have HW : Hid _ := hwa
  clear hwa
  have HT : Hid (Tree w A n vs xs ∧ ∀ x ∈ xs, Small x) := ⟨ht, hs⟩
  clear ht hs
  go_enter Try.func62, Try.ntmps62
  go_wp2_with (fail)
  obtain ⟨q1, q2, q3, q4⟩ := HW.out _ rfl
  refine (dir_any A n c vs xs a.dir _ (HT.out.1.below (Nat.le_refl _) q1) hn HT.out.2).mono ?_
  rintro e w1 ⟨v, x, r, rfl, ho, hsx, hf, hb1⟩
  have hz1 := hb1.size
  rw [q4] at hz1
  have HB1 : Hid (Below w.heap.size w w1 ∧ BoxA w1 w.heap.size a ∧ Box w1 (w.heap.size + 1) NV.zero) := ⟨q1.trans (hb1.mono (by omega)), q2.below hb1 (by omega), q3.below hb1 (by omega)⟩
  have HO : Hid (OwnN w1 (w.heap.size + 2) v x ∧ Small x) := by rw [q4] at ho; exact ⟨ho, hsx⟩
  have HF : Hid (M.RsN xs → r = (M.dirS xs a.dir).1 ∧ x = (M.dirS xs a.dir).2) := hf
  clear q1 q2 q3 q4 hb1 ho hf hsx HW
  by_cases hr0 : r = 0
  case' neg =>
    obtain ⟨z0, z1, z2, z3, z4, zf, zz⟩ := HB1.out.2.2.facts
    have r0 : (r == 0) = false := by simp [hr0]
    have r1 : (r != 0) = true := by simp [hr0]
    have HR : Hid (M.Rise xs → M.holdS xs a.dir a.name a.fid = (r, nd0)) := fun hr => by have h := HF.out hr.1; rw [hold_err (by rw [← h.1]; exact hr0), ← h.1]
    clear hr0
    go_wp2
    exact bodyPost_ret (v := .tuple #[NV.zero.val, .int .i64 r]) (by simp [results, Try.results62, go_sem, z0, z1, z2, z3, z4, zz, NV.zero]) rfl ⟨NV.zero, nd0, r, rfl, own0 _ _, small_nd0, fun hr => by rw [HR.out hr]; exact ⟨rfl, rfl⟩, (put5_below HB1.out.1 (s := w.heap.size + 1) (by omega) 0 NV.zero).alloc (by simp; omega) _⟩
  subst hr0
  have HD : Hid (M.Rise xs → M.dirS xs a.dir = (0, x)) := fun hr => by have h := HF.out hr.1; rw [h.1, h.2]
  obtain ⟨a0, a1, a2, a3, a4, a5, a6, af, az⟩ := HB1.out.2.1.facts
  have HV1 : Hid (Box (w1.alloc (.cells #[.int .i64 v.fid, .bool v.dir, .slice v.dA v.dn v.dc, .slice v.eA v.en v.ec, .int .i64 v.ver] 40)) w1.heap.size v ∧ Below w1.heap.size w1 (w1.alloc (.cells #[.int .i64 v.fid, .bool v.dir, .slice v.dA v.dn v.dc, .slice v.eA v.en v.ec, .int .i64 v.ver] 40))) := ⟨Box.new w1 v, (Below.refl _ _).alloc (Nat.le_refl _) _⟩
  go_wp2_with (fail)
  refine (entry_any v x a.name _ (HO.out.1.cont.below (Nat.le_refl _) HV1.out.2) HO.out.2).mono ?_
  rintro e w2 ⟨f, b, rfl, hfb, hb2⟩
  have hz2 := hb2.size
  simp only [World.size_alloc] at hz2
  have hb12 := HV1.out.2.trans (hb2.mono (by simp))
  have HB2 : Hid (Below w.heap.size w w2 ∧ BoxA w2 w.heap.size a ∧ Box w2 (w.heap.size + 1) NV.zero ∧ Box w2 w1.heap.size v ∧ OwnN w2 (w.heap.size + 2) v x) := ⟨HB1.out.1.trans (hb12.mono (by omega)), HB1.out.2.1.below hb12 (by omega), HB1.out.2.2.below hb12 (by omega), HV1.out.1.below hb2 (by simp), HO.out.1.below (Nat.le_refl _) hb12⟩
  have HFB : Hid _ := hfb
  clear hb2 hb12 HV1 hfb a0 a1 a2 a3 a4 a5 a6 af
  obtain ⟨z0, z1, z2, z3, z4, zf, zz⟩ := HB2.out.2.2.1.facts
  obtain ⟨a0, a1, a2, a3, a4, a5, a6, af, az2⟩ := HB2.out.2.1.facts
  obtain ⟨y0, y1, y2, y3, y4, yf, yz⟩ := HB2.out.2.2.2.1.facts
  have HND : Hid (∀ r : Int, (M.Rise xs → M.holdS xs a.dir a.name a.fid = (r, nd0)) → ∃ (v : NV) (x : M.Nd) (r' : Int), Ending.returned (.tuple #[NV.zero.val, .int .i64 r]) = .returned (.tuple #[v.val, .int .i64 r']) ∧ OwnN (put5 w2 (w.heap.size + 1) 0 NV.zero) w.heap.size v x ∧ Small x ∧ (M.Rise xs → r' = (M.holdS xs a.dir a.name a.fid).1 ∧ x = (M.holdS xs a.dir a.name a.fid).2) ∧ Below w.heap.size w (put5 w2 (w.heap.size + 1) 0 NV.zero)) :=
    fun r hr => ⟨NV.zero, nd0, r, rfl, own0 _ _, small_nd0, fun h => by rw [hr h]; exact ⟨rfl, rfl⟩, put5_below HB2.out.1 (s := w.heap.size + 1) (by omega) 0 NV.zero⟩
  cases b
  · have HR : Hid (M.Rise xs → M.holdS xs a.dir a.name a.fid = (6, nd0)) := fun hr => by
      have h := (HFB.out (dir_rise hr (HD.out hr))).2
      cases hl : M.look x.ents a.name with
      | none => exact hold_none (HD.out hr) hl
      | some e => rw [hl] at h; cases h
    go_wp2
    exact bodyPost_ret (v := .tuple #[NV.zero.val, .int .i64 6]) (by simp [results, Try.results62, go_sem, z0, z1, z2, z3, z4, NV.zero]) rfl (HND.out 6 HR.out)
  · have HL : Hid (M.Rise xs → ∃ e, M.look x.ents a.name = some e ∧ f = e.2) := fun hr => by
      have h := HFB.out (dir_rise hr (HD.out hr))
      cases hl : M.look x.ents a.name with
      | none => rw [hl] at h; cases h.2
      | some e => rw [hl] at h; exact ⟨e, rfl, h.1⟩
    by_cases hff : f = a.fid
    · have HR : Hid (M.Rise xs → M.holdS xs a.dir a.name a.fid = (0, x)) := fun hr => by
        obtain ⟨e, h1, h2⟩ := HL.out hr
        exact hold_yes (HD.out hr) h1 (by rw [← h2]; exact hff)
      subst hff
      go_wp2
      exact bodyPost_ret (v := .tuple #[v.val, .int .i64 0]) (by simp [results, Try.results62, go_sem, z0, z1, z2, z3, z4]) rfl ⟨v, x, 0, rfl, (HB2.out.2.2.2.2.put5 (s := w.heap.size + 1) (by omega) 0 v).mono (by omega), HO.out.2, fun hr => by rw [HR.out hr]; exact ⟨rfl, rfl⟩, put5_below HB2.out.1 (s := w.heap.size + 1) (by omega) 0 v⟩
    · have HR : Hid (M.Rise xs → M.holdS xs a.dir a.name a.fid = (13, nd0)) := fun hr => by
        obtain ⟨e, h1, h2⟩ := HL.out hr
        exact hold_other (HD.out hr) h1 (by rw [← h2]; exact hff)
      have r0 : (f == a.fid) = false := by simp [hff]
      have r1 : (f != a.fid) = true := by simp [hff]
      go_wp2
      exact bodyPost_ret (v := .tuple #[NV.zero.val, .int .i64 13]) (by simp [results, Try.results62, go_sem, z0, z1, z2, z3, z4, NV.zero]) rfl (HND.out 13 HR.out)
end Go.Proofs.Ytlegjdlmcphhlab
