/-
  PACKAGE logs: undoes.
-/
import Derived.Test.YtlegjdlmcphhlabLogc
namespace Go.Proofs.Ytlegjdlmcphhlab
open Go.RowKit

theorem Row.drop {α : Type} {k : Nat} {cs : α → List Value} {w : World} {b o n : Nat} {vs : List α} (h : Row k cs w (some ⟨b, o, none⟩) n vs) (j : Nat) : Row k cs w (some ⟨b, o + j * k, none⟩) (n - j) (vs.drop j) := by
  obtain ⟨hn, h⟩ := h
  refine ⟨by rw [hn, List.length_drop], ?_⟩
  rcases h with h | ⟨b', o', e, hlt, hc⟩
  · left; rw [h]; simp
  · right
    cases e
    refine ⟨b, o + j * k, rfl, hlt, fun i v hv q c hq => ?_⟩
    rw [List.getElem?_drop] at hv
    have := hc (j + i) v hv q c hq
    rw [Nat.add_mul] at this
    rw [show o + j * k + i * k + q = o + (j * k + i * k) + q by omega]
    exact this
theorem undo_not {xs : List M.Rec} {y : M.Act} (h : y.kind ≠ 4) : M.undoB xs y = false := by unfold M.undoB; simp [h]
theorem undo_none {xs : List M.Rec} {y : M.Act} (h : xs.findIdx? (M.madeB y.fid) = none) : M.undoB xs y = false := by unfold M.undoB; rw [h]; simp
theorem undo_some {xs : List M.Rec} {y : M.Act} {k : Nat} {r : M.Rec} (h4 : y.kind = 4) (h : xs.findIdx? (M.madeB y.fid) = some k) (hr : xs[k]? = some r) : M.undoB xs y = (decide (r.act.dir = y.dir) && decide (r.act.name = y.name) && !((xs.drop (k + 1)).any fun b => M.hinderB b.act y)) := by
  unfold M.undoB; rw [h]; simp only [hr, h4, decide_true, Bool.true_and]

set_option maxRecDepth 8000 in
set_option maxHeartbeats 2000000 in
theorem undoes_any (a : AV) (y : M.Act) (A : Option Addr) (n c : Nat) (vs : List RV) (xs : List M.Rec) (w : World) (ha : ContA w a y) (ht : TreeR w A n vs xs) (hn : n * 104 ≤ 140737488355328) (hnc : n ≤ c) (hcm : c ≤ maxLen) :
    Calls Try.prog 37 #[a.val, .slice A n c] w fun e w' => e = .returned (.bool (M.undoB xs y)) ∧ Below w.heap.size w w' := by
  have HW : Hid _ := boxA_start w a
  have HT : Hid (TreeR w A n vs xs ∧ ContA w a y) := ⟨ht, ha⟩
  by_cases h4 : a.kind = 4
  case' neg =>
    have k4 : (a.kind == 4) = false := by simp [h4]
    have k4' : (a.kind != 4) = true := by simp [h4]
    have HU : Hid (M.undoB xs y = false) := undo_not (by rw [← ha.1]; exact h4)
    clear h4 ha ht
    go_enter Try.func37, Try.ntmps37
    go_wp2
    go_ret
    exact ⟨ret_bool HU.out.symm, (HW.out _ rfl).1⟩
  have k4 : (a.kind == 4) = true := by simp [h4]
  have k4' : (a.kind != 4) = false := by simp [h4]
  have H4 : Hid (y.kind = 4) := by show _ = _; rw [← ha.1]; exact h4
  have HFI : Hid (a.fid = y.fid) := ha.2.1
  clear h4 ha ht
  go_enter Try.func37, Try.ntmps37
  go_wp2_with (fail)
  obtain ⟨q1, q2, q3⟩ := HW.out _ rfl
  refine (undoIdx1_any A n c vs xs w.heap.size a _ (HT.out.1.below (Nat.le_refl _) q1) (by omega) q2).mono ?_
  rintro e w1 ⟨rfl, hb1⟩
  have hz1 := hb1.size
  rw [q3] at hz1
  have HB : Hid (Below w.heap.size w w1 ∧ BoxA w1 w.heap.size a) := ⟨q1.trans (hb1.mono (by omega)), q2.below hb1 (by omega)⟩
  clear q1 q2 q3 hb1 HW
  obtain ⟨a0, a1, a2, a3, a4, a5, a6, af, az⟩ := HB.out.2.facts
  have HI : Hid ((xs.findIdx? fun x => M.madeB a.fid x) = xs.findIdx? (M.madeB y.fid)) := by show _ = _; rw [HFI.out]
  rw [HI.out]
  cases hfi : xs.findIdx? (M.madeB y.fid) with
  | none =>
    have HU : Hid (M.undoB xs y = false) := undo_none hfi
    clear hfi
    have hm1 : idxI none = -1 := rfl
    rw [hm1]
    go_wp2
    go_quiet (fail)
    go_wp2
    go_ret
    exact ⟨ret_bool HU.out.symm, below_drewN HB.out.1 _⟩
  | some k =>
    have hkl := (List.findIdx?_eq_some_iff_getElem.1 hfi).1
    have hkn : k < n := by rw [HT.out.1.len]; exact hkl
    have htr := HT.out.1.below (Nat.le_refl _) HB.out.1
    obtain ⟨g, o, v, hA, hgb, hvk, c0, c1, c2, c3, c4, c5, c6, c7, c8⟩ := htr.1.at hkn
    obtain ⟨x, hx, hcx⟩ := htr.2.at hvk
    have HU : Hid (M.undoB xs y = (decide (v.a.dir = a.dir) && decide (v.a.name = a.name) && !((xs.drop (k + 1)).any fun b => M.hinderB b.act y))) := by
      show _ = _
      rw [undo_some H4.out hfi hx, hcx.1.2.2.1, hcx.1.2.2.2.1, HT.out.2.2.2.1, HT.out.2.2.2.2.1]
    have hks : decide ((k : Int) < 0) = false := by rw [decide_eq_false_iff_not]; omega
    have hk0 : (0 : Int) ≤ (k : Int) := by omega
    have hkn' : (k : Int) < (n : Int) := by omega
    subst hA
    have HTR : Hid (TreeR w1 (some ⟨g, o, none⟩) n vs xs) := htr
    clear hfi hx hcx hvk htr hkl
    have hm1 : idxI (some k) = (k : Int) := rfl
    rw [hm1]
    by_cases hd : v.a.dir = a.dir
    case' neg =>
      have d1 : (v.a.dir == a.dir) = false := by simp [hd]
      have d2 : (v.a.dir != a.dir) = true := by simp [hd]
      have HU2 : Hid (M.undoB xs y = false) := by show _ = _; rw [HU.out]; simp [hd]
      clear hd
      go_wp2
      go_quiet (fail)
      go_wp2
      go_ret
      exact ⟨ret_bool HU2.out.symm, below_drewN HB.out.1 _⟩
    have d1 : (v.a.dir == a.dir) = true := by simp [hd]
    have d2 : (v.a.dir != a.dir) = false := by simp [hd]
    by_cases hnm : v.a.name = a.name
    case' neg =>
      have n1 : (v.a.name.toList == a.name.toList) = false := raw_no hnm
      have HU2 : Hid (M.undoB xs y = false) := by show _ = _; rw [HU.out]; simp [hnm]
      clear hd hnm
      go_wp2
      go_quiet (fail)
      go_wp2
      go_ret
      exact ⟨ret_bool HU2.out.symm, below_drewN HB.out.1 _⟩
    have n1 : (v.a.name.toList == a.name.toList) = true := by rw [hnm]; exact raw_yes _
    have HU2 : Hid (M.undoB xs y = !((xs.drop (k + 1)).any fun b => M.hinderB b.act y)) := by show _ = _; rw [HU.out]; simp [hd, hnm]
    have hcm' : c ≤ 9223372036854775807 := hcm
    have hkn1 : (k : Int) + 1 ≤ (n : Int) := by omega
    have HTD : Hid (TreeR w1 (some ⟨g, o + (k + 1) * 9, none⟩) (n - (k + 1)) (vs.drop (k + 1)) (xs.drop (k + 1))) := ⟨HTR.out.1.drop (k + 1), HTR.out.2.drop (k + 1)⟩
    clear hd hnm
    by_cases hck : c = k + 1
    · have hnk : n = k + 1 := by omega
      have HE : Hid (xs.drop (k + 1) = []) := by show _ = _; rw [List.drop_eq_nil_iff, ← HTR.out.len]; omega
      subst hck
      subst hnk
      go_wp2
      go_quiet (fail)
      go_wp2_with (fail)
      refine (undoAny_any (some ⟨g, o, none⟩) 0 0 [] [] w.heap.size a y _ ⟨⟨rfl, .inl rfl⟩, All2.nil⟩ (by omega) (HB.out.2.below (below_drewN (Below.refl _ _) nq) az) (HT.out.2.below (Nat.le_refl _) (below_drewN HB.out.1 nq))).mono ?_
      rintro e w2 ⟨rfl, hb2⟩
      have HB2 : Hid (Below w.heap.size w w2) := (below_drewN HB.out.1 nq).trans (hb2.mono (by have := HB.out.1.size; show _ ≤ (w1.drewN nq).heap.size; have := (below_drewN (Below.refl w1.heap.size w1) nq).size; omega))
      clear hb2
      go_wp2
      go_ret
      exact ⟨ret_bool (by rw [HU2.out, HE.out]; first | rfl | simp), HB2.out⟩
    · go_wp2
      go_quiet (fail)
      go_wp2_with (fail)
      refine (undoAny_any (some ⟨g, o + (k + 1) * 9, none⟩) (n - (k + 1)) (c - (k + 1)) (vs.drop (k + 1)) (xs.drop (k + 1)) w.heap.size a y _ (HTD.out.below (Nat.le_refl _) (below_drewN (Below.refl _ _) nq)) (by omega) (HB.out.2.below (below_drewN (Below.refl _ _) nq) az) (HT.out.2.below (Nat.le_refl _) (below_drewN HB.out.1 nq))).mono ?_
      rintro e w2 ⟨rfl, hb2⟩
      have HB2 : Hid (Below w.heap.size w w2) := (below_drewN HB.out.1 nq).trans (hb2.mono (by have := HB.out.1.size; show _ ≤ (w1.drewN nq).heap.size; have := (below_drewN (Below.refl w1.heap.size w1) nq).size; omega))
      clear hb2
      go_wp2
      go_ret
      exact ⟨ret_bool (by rw [HU2.out]), HB2.out⟩
end Go.Proofs.Ytlegjdlmcphhlab
