/-
  PACKAGE logs: Own, Add, Acts.
-/
import Derived.Test.YtlegjdlmcphhlabLoge
namespace Go.Proofs.Ytlegjdlmcphhlab
open Go.RowKit

theorem ownLog_any (A : Option Addr) (n c : Nat) (vs : List RV) (xs : List M.Rec) (w : World) (ht : TreeR w A n vs xs) (hs : ∀ x ∈ xs, x.act.data.length ≤ 140737488355328) (hn : (n + 1) * 104 ≤ 140737488355328) :
    Calls Try.prog 21 #[.slice A n c] w fun e w' => ∃ (B : Option Addr) (m d : Nat) (us : List RV), e = .returned (.slice B m d) ∧ OwnL w' w.heap.size B m d us xs ∧ Below w.heap.size w w' := by
  have HT : Hid (TreeR w A n vs xs ∧ (∀ x ∈ xs, x.act.data.length ≤ 140737488355328)) := ⟨ht, hs⟩
  clear ht hs
  go_enter Try.func21, Try.ntmps21
  go_wp2_with (fail)
  refine (withoutOwn_any A n c vs xs w HT.out.1 HT.out.2 hn).mono ?_
  rintro e w1 ⟨B, m, d, us, rfl, ho, hb⟩
  have HO : Hid (OwnL w1 w.heap.size B m d us xs ∧ Below w.heap.size w w1) := ⟨by have e : (xs.filter fun _ => !false) = xs := List.filter_eq_self.2 (fun _ _ => rfl); rw [e] at ho; exact ho, hb⟩
  clear ho hb
  go_wp2
  go_ret
  exact ⟨B, m, d, us, rfl, HO.out.1, HO.out.2⟩

/-- what Add answers -/
def Added (w : World) (spec : Int × List M.Rec) (e : Ending) (w' : World) : Prop :=
  ∃ (B : Option Addr) (m d : Nat) (us : List RV), e = .returned (.tuple #[.slice B m d, .int .i64 spec.1]) ∧ OwnL w' w.heap.size B m d us spec.2 ∧ Below w.heap.size w w'
theorem Added.of {w w' : World} {s t : Int × List M.Rec} (h : s = t) {B : Option Addr} {m d : Nat} {us : List RV} (ho : OwnL w' w.heap.size B m d us t.2) (hb : Below w.heap.size w w') : Added w s (.returned (.tuple #[.slice B m d, .int .i64 t.1])) w' := by
  subst h; exact ⟨B, m, d, us, rfl, ho, hb⟩
set_option maxRecDepth 8000 in
set_option maxHeartbeats 2000000 in
theorem add_any (A : Option Addr) (n c : Nat) (vs : List RV) (xs : List M.Rec) (r : RV) (x : M.Rec) (w : World) (ht : TreeR w A n vs xs) (hs : ∀ x ∈ xs, x.act.data.length ≤ 140737488355328) (hn : (n + 2) * 104 ≤ 140737488355328) (hnc : n ≤ c) (hcm : c ≤ maxLen) (hr : ContR w r x) (hsx : x.act.data.length ≤ 140737488355328) :
    Calls Try.prog 18 #[.slice A n c, r.val] w (Added w (M.addS xs x)) := by
  obtain ⟨i48, hi48, hz48, hs48, hb48⟩ := info_parts info48
  have HW : Hid _ := boxR_start w r
  have HT : Hid (TreeR w A n vs xs ∧ (∀ x ∈ xs, x.act.data.length ≤ 140737488355328) ∧ ContR w r x ∧ x.act.data.length ≤ 140737488355328) := ⟨ht, hs, hr, hsx⟩
  have HNL : Hid (n = xs.length) := ht.len
  clear ht hs hr hsx
  go_enter Try.func18, Try.ntmps18
  go_wp2_with (fail)
  obtain ⟨q1, q2, q3⟩ := HW.out _ rfl
  refine (undoes_any r.a x.act A n c vs xs _ (HT.out.2.2.1.1.below (Nat.le_refl _) q1) (HT.out.1.below (Nat.le_refl _) q1) (by omega) hnc hcm).mono ?_
  rintro e w1 ⟨rfl, hb1⟩
  have hz1 := hb1.size
  rw [q3] at hz1
  have HB : Hid (Below w.heap.size w w1 ∧ BoxR w1 w.heap.size r) := ⟨q1.trans (hb1.mono (by omega)), q2.below hb1 (by omega)⟩
  clear q1 q2 q3 hb1 HW
  have hsz := HB.out.1.size
  cases hu : M.undoB xs x.act
  · go_wp2_with (fail)
    refine (withoutOver_any A n c vs xs w.heap.size r x.act w1 (HT.out.1.below (Nat.le_refl _) HB.out.1) HT.out.2.1 (by omega) HB.out.2 (HT.out.2.2.1.1.below (Nat.le_refl _) HB.out.1)).mono ?_
    rintro e w2 ⟨B, m, d, us, rfl, ho, hb2⟩
    have hz2 := hb2.size
    have hm := ho.tree.len
    have hml : m ≤ n := by rw [hm, HNL.out]; exact List.length_filter_le _ _
    have HB2 : Hid (Below w.heap.size w w2 ∧ BoxR w2 w.heap.size r ∧ OwnL w2 w.heap.size B m d us (xs.filter fun y => !M.overB x.act y.act)) := ⟨HB.out.1.trans (hb2.mono hsz), HB.out.2.below hb2 (by omega), ho.mono (by omega)⟩
    have HU : Hid (M.addS xs x = if 20 ≤ m then (5, []) else (0, (xs.filter fun y => !M.overB x.act y.act) ++ [x])) := by
      show _ = _
      unfold M.addS
      rw [hu, if_neg (by simp), ← hm]
    obtain ⟨b0, b1, b2, b3, b4, b5, b6, b7, b8, bf, bz⟩ := HB2.out.2.1.facts
    clear ho hb2 hm hu
    by_cases h20 : 20 ≤ m
    · have h20' : (20 : Int) ≤ (m : Int) := by omega
      have HU2 : Hid (M.addS xs x = (5, [])) := by show _ = _; rw [HU.out, if_pos h20]
      go_wp2
      go_ret2
      exact Added.of HU2.out (OwnL.nil _ _) HB2.out.1
    · have h20' : ¬ (20 : Int) ≤ (m : Int) := by omega
      have HU2 : Hid (M.addS xs x = (0, (xs.filter fun y => !M.overB x.act y.act) ++ [x])) := by show _ = _; rw [HU.out, if_neg h20]
      go_wp2_with (fail)
      refine (ownRec_any r x _ (HT.out.2.2.1.below (Nat.le_refl _) HB2.out.1) HT.out.2.2.2).mono ?_
      rintro e w3 ⟨r', rfl, hor, hb3⟩
      have hz3 := hb3.size
      have HB3 : Hid (Below w.heap.size w w3 ∧ OwnL w3 w.heap.size B m d us (xs.filter fun y => !M.overB x.act y.act) ∧ OwnR w3 w.heap.size r' x) := ⟨HB2.out.1.trans (hb3.mono (by omega)), HB2.out.2.2.below (Nat.le_refl _) hb3, hor.mono (by omega)⟩
      have HWB : Hid _ := boxR_start w3 r'
      clear hor hb3
      go_wp2_with (at_builtin; refine wpList_append_row _ (by rfl) (.tmp 19) (.tmp 22) 46 (by rfl) w.heap.size 48 i48 _ 104 Try.underlying46 hi48 hz48 hs48 hb48 rfl (by decide) _ m _ (by rfl) (own_below HB3.out.2.1.1 (HWB.out _ rfl).1 (Nat.le_refl _)) (some ⟨w3.heap.size, 0, none⟩) 1 1 [r'] (by rfl) (rowR_box (HWB.out _ rfl).2.1) rec_len rec_one (by unfold maxLen; omega) (by omega) (by simp; omega) ?_; intro v4 w4 hown4 hg4; obtain ⟨A4, c4', rfl, _, _⟩ := own_form hown4; have HR : Hid (OwnL w4 w.heap.size A4 (m + 1) c4' (us ++ [r']) ((xs.filter fun y => !M.overB x.act y.act) ++ [x]) ∧ Below w.heap.size w w4) := ⟨OwnL.snoc (HB3.out.2.1.below (Nat.le_refl _) (HWB.out _ rfl).1) (HB3.out.2.2.below (Nat.le_refl _) (HWB.out _ rfl).1) (by simpa using hown4) hg4, snoc_below (HB3.out.1.trans ((HWB.out _ rfl).1.mono HB3.out.1.size)) (own_below HB3.out.2.1.1 (HWB.out _ rfl).1 (Nat.le_refl _)) hg4⟩; clear hown4 hg4)
      go_ret2
      exact Added.of HU2.out HR.out.1 HR.out.2
  · have HU : Hid (M.addS xs x = (0, xs.filter fun y => !M.nameFB y.act r.a.fid)) := by
      show _ = _
      unfold M.addS
      rw [hu, if_pos rfl, HT.out.2.2.1.1.2.1]
    clear hu
    go_wp2_with (fail)
    refine (withoutName_any A n c vs xs w.heap.size r w1 (HT.out.1.below (Nat.le_refl _) HB.out.1) HT.out.2.1 (by omega) HB.out.2).mono ?_
    rintro e w2 ⟨B, m, d, us, rfl, ho, hb2⟩
    have HB2 : Hid (Below w.heap.size w w2 ∧ OwnL w2 w.heap.size B m d us (xs.filter fun y => !M.nameFB y.act r.a.fid)) := ⟨HB.out.1.trans (hb2.mono hsz), ho.mono hsz⟩
    clear ho hb2
    go_wp2
    go_ret2
    exact Added.of HU.out HB2.out.2 HB2.out.1
/-- b for a -/
def turnI (f a b : Int) : Int := if f = a then b else f
theorem turn1_any (f a b : Int) (p q : Nat) (w : World) (hp : w.cell? ⟨p, 0, none⟩ = some (.int .i64 a)) (hq : w.cell? ⟨q, 0, none⟩ = some (.int .i64 b)) :
    Calls Try.prog 46 #[.int .i64 f, .pointer (some ⟨p, 0, none⟩), .pointer (some ⟨q, 0, none⟩)] w fun e w' => e = .returned (.int .i64 (turnI f a b)) ∧ w' = w := by
  by_cases h : f = a
  · have HI : Hid (turnI f a b = b) := by show _ = _; unfold turnI; rw [if_pos h]
    have k : (f == a) = true := by simp [h]
    clear h
    go_enter Try.func46, Try.ntmps46
    go_wp2
    go_ret
    exact ⟨ret_int HI.out.symm, rfl⟩
  · have HI : Hid (turnI f a b = f) := by show _ = _; unfold turnI; rw [if_neg h]
    have k : (f == a) = false := by simp [h]
    clear h
    go_enter Try.func46, Try.ntmps46
    go_wp2
    go_ret
    exact ⟨ret_int HI.out.symm, rfl⟩
end Go.Proofs.Ytlegjdlmcphhlab
