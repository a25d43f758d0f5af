/-
  THE REFERENCE's SameAct and SameLog, of any two.
-/
import Derived.Test.YtlegjdlmcphhlabSameact
import Derived.Test.YtlegjdlmcphhlabLoga
namespace Go.Proofs.Ytlegjdlmcphhlab
open Go.RowKit

/-- two acts are the same -/
def sameA (x y : M.Act) : Bool := decide (x.kind = y.kind) && decide (x.fid = y.fid) && decide (x.dir = y.dir) && decide (x.name = y.name) && decide (x.to = y.to) && decide (x.toName = y.toName) && decide (x.data = y.data)
theorem sameA_iff {x y : M.Act} : sameA x y = true ↔ x = y := by
  obtain ⟨k, f, d, n, t, m, b⟩ := x
  obtain ⟨k2, f2, d2, n2, t2, m2, b2⟩ := y
  unfold sameA
  simp [and_assoc]
theorem sameA_self (x : M.Act) : sameA x x = true := sameA_iff.2 rfl
def sameR (x y : M.Rec) : Bool := decide (x.ver = y.ver) && decide (x.id = y.id) && sameA x.act y.act
theorem sameR_iff {x y : M.Rec} : sameR x y = true ↔ x = y := by
  obtain ⟨a, v, i⟩ := x
  obtain ⟨a2, v2, i2⟩ := y
  unfold sameR
  simp only [Bool.and_eq_true, decide_eq_true_eq, sameA_iff, M.Rec.mk.injEq]
  constructor
  · rintro ⟨⟨h1, h2⟩, h3⟩; exact ⟨h3, h1, h2⟩
  · rintro ⟨h1, h2, h3⟩; exact ⟨⟨h2, h3⟩, h1⟩
theorem sameR_self (x : M.Rec) : sameR x x = true := sameR_iff.2 rfl
theorem sameR_no {x y : M.Rec} (h : x ≠ y) : sameR x y = false := by
  cases hb : sameR x y
  · rfl
  · exact absurd (sameR_iff.1 hb) h

set_option maxRecDepth 4000 in
set_option maxHeartbeats 4000000 in
theorem sameActs_any (a b : AV) (x y : M.Act) (w : World) (ha : ContA w a x) (hb : ContA w b y) :
    Calls Try.prog 25 #[a.val, b.val] w fun e w' => e = .returned (.bool (sameA x y)) ∧ Below w.heap.size w w' := by
  by_cases hxy : x = y
  · subst hxy
    refine (sameAct_any a b x w ha hb).mono ?_
    rintro e w' ⟨rfl, h⟩
    exact ⟨ret_bool (sameA_self x).symm, h⟩
  have HN : Hid (sameA x y = false) := by
    show _ = _
    cases hq : sameA x y
    · rfl
    · exact absurd (sameA_iff.1 hq) hxy
  have HXY : Hid (¬ x = y) := hxy
  clear hxy
  have HA : Hid (ContA w a x ∧ ContA w b y) := ⟨ha, hb⟩
  have HW : Hid _ := two_boxesA w a b
  have hwb := two_boxesA w a b _ rfl
  have q1 := conv_byts (c := a.dc) (ha.2.2.2.2.2.2.below (Nat.le_refl _) hwb)
  have q2 := conv_byts (c := b.dc) (hb.2.2.2.2.2.2.below (Nat.le_refl _) hwb)
  clear hwb ha hb
  by_cases h1 : a.kind = b.kind
  case' neg =>
    have k1 : (a.kind == b.kind) = false := by simp [h1]
    clear h1
    go_enter Try.func25, Try.ntmps25
    go_wp2
    go_ret
    exact ⟨ret_bool HN.out.symm, HW.out _ rfl⟩
  have k1 : (a.kind == b.kind) = true := by simp [h1]
  have H1 : Hid (a.kind = b.kind) := h1
  clear h1
  by_cases h2 : a.fid = b.fid
  case' neg =>
    have k2 : (a.fid == b.fid) = false := by simp [h2]
    clear h2
    go_enter Try.func25, Try.ntmps25
    go_wp2
    go_ret
    exact ⟨ret_bool HN.out.symm, HW.out _ rfl⟩
  have k2 : (a.fid == b.fid) = true := by simp [h2]
  have H2 : Hid (a.fid = b.fid) := h2
  clear h2
  by_cases h3 : a.dir = b.dir
  case' neg =>
    have k3 : (a.dir == b.dir) = false := by simp [h3]
    clear h3
    go_enter Try.func25, Try.ntmps25
    go_wp2
    go_ret
    exact ⟨ret_bool HN.out.symm, HW.out _ rfl⟩
  have k3 : (a.dir == b.dir) = true := by simp [h3]
  have H3 : Hid (a.dir = b.dir) := h3
  clear h3
  by_cases h4 : a.name = b.name
  case' neg =>
    have k4 : (a.name.toList == b.name.toList) = false := raw_no h4
    clear h4
    go_enter Try.func25, Try.ntmps25
    go_wp2
    go_ret
    exact ⟨ret_bool HN.out.symm, HW.out _ rfl⟩
  have k4 : (a.name.toList == b.name.toList) = true := by rw [h4]; exact raw_yes _
  have H4 : Hid (a.name = b.name) := h4
  clear h4
  by_cases h5 : a.to = b.to
  case' neg =>
    have k5 : (a.to == b.to) = false := by simp [h5]
    clear h5
    go_enter Try.func25, Try.ntmps25
    go_wp2
    go_ret
    exact ⟨ret_bool HN.out.symm, HW.out _ rfl⟩
  have k5 : (a.to == b.to) = true := by simp [h5]
  have H5 : Hid (a.to = b.to) := h5
  clear h5
  by_cases h6 : a.toName = b.toName
  case' neg =>
    have k6 : (a.toName.toList == b.toName.toList) = false := raw_no h6
    clear h6
    go_enter Try.func25, Try.ntmps25
    go_wp2
    go_ret
    exact ⟨ret_bool HN.out.symm, HW.out _ rfl⟩
  have k6 : (a.toName.toList == b.toName.toList) = true := by rw [h6]; exact raw_yes _
  have H6 : Hid (a.toName = b.toName) := h6
  clear h6
  have hd : x.data ≠ y.data := fun e => by
    obtain ⟨⟨a1, a2, a3, a4, a5, a6, _⟩, b1, b2, b3, b4, b5, b6, _⟩ := HA.out
    have e1 := H1.out
    have e2 := H2.out
    have e3 := H3.out
    have e4 := H4.out
    have e5 := H5.out
    have e6 := H6.out
    rw [a1, b1] at e1
    rw [a2, b2] at e2
    rw [a3, b3] at e3
    rw [a4, b4] at e4
    rw [a5, b5] at e5
    rw [a6, b6] at e6
    obtain ⟨k, f, d, n, t, m, b⟩ := x
    obtain ⟨k2, f2, d2, n2, t2, m2, b2⟩ := y
    simp only at e e1 e2 e3 e4 e5 e6
    subst e e1 e2 e3 e4 e5 e6
    exact HXY.out rfl
  have k7 : ((txt x.data).toList == (txt y.data).toList) = false := by rw [raw_eq, decide_eq_false_iff_not]; exact fun h => hd (txt_inj.1 h)
  clear hd
  go_enter Try.func25, Try.ntmps25
  go_wp2
  go_ret
  exact ⟨ret_bool HN.out.symm, HW.out _ rfl⟩
end Go.Proofs.Ytlegjdlmcphhlab
