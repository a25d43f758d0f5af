/-
  THE LAW LogsOrder, walked: of any log and any record it answers true, and all that was there stays.
-/
import Derived.Test.YtlegjdlmcphhlabPart11
import Derived.Deep.CutRange
namespace Go.Proofs.Ytlegjdlmcphhlab
open Go.RowKit

theorem Row.take {α : Type} {k : Nat} {cs : α → List Value} {w : World} {A : Option Addr} {n : Nat} {vs : List α} (h : Row k cs w A n vs) {j : Nat} (hj : j ≤ n) : Row k cs w A j (vs.take j) := by
  obtain ⟨hn, h⟩ := h
  refine ⟨by rw [List.length_take]; omega, ?_⟩
  rcases h with h | ⟨b, o, e, hlt, hc⟩
  · left; rw [h]; simp
  · right
    refine ⟨b, o, e, hlt, fun i v hv => hc i v ?_⟩
    rw [List.getElem?_take] at hv
    split at hv
    · exact hv
    · cases hv
theorem treeR_take {w : World} {A : Option Addr} {n : Nat} {vs : List RV} {xs : List M.Rec} (h : TreeR w A n vs xs) {j : Nat} (hj : j ≤ n) : TreeR w A j (vs.take j) (xs.take j) := by
  refine ⟨h.1.take hj, ?_, fun i v x hv hx => ?_⟩
  · rw [List.length_take, List.length_take, h.2.1]
  · rw [List.getElem?_take] at hv hx
    split at hv
    · rename_i hi
      rw [if_pos hi] at hx
      exact h.2.2 i v x hv hx
    · cases hv
theorem allR_one (x y : M.Rec) : allB sameR [x] [y] = sameR x y := by simp [allB]
theorem add_err {l : List M.Rec} {r : M.Rec} (h : (M.addS l r).1 ≠ 0) : M.addS l r = (5, []) ∧ 20 ≤ l.length := by
  unfold M.addS at *
  split
  · rename_i hu; rw [if_pos hu] at h; simp at h
  · rename_i hu
    rw [if_neg hu] at h
    split
    · rename_i h20; exact ⟨rfl, Nat.le_trans h20 (List.length_filter_le _ _)⟩
    · rename_i h20; rw [if_neg h20] at h; simp at h
/-- IN ITS ORDER -/
theorem add_order {l : List M.Rec} {r : M.Rec} (h : (M.addS l r).1 = 0) : (0 < (M.addS l r).2.length ∧ (M.addS l r).2.drop ((M.addS l r).2.length - 1) = [r] → ((M.addS l r).2.take ((M.addS l r).2.length - 1)).Sublist l) ∧ (¬ (0 < (M.addS l r).2.length ∧ (M.addS l r).2.drop ((M.addS l r).2.length - 1) = [r]) → (M.addS l r).2.Sublist l) := by
  unfold M.addS at *
  split
  · exact ⟨fun _ => (List.take_sublist _ _).trans List.filter_sublist, fun _ => List.filter_sublist⟩
  · rename_i hu
    rw [if_neg hu] at h
    split
    · rename_i h20; rw [if_pos h20] at h; simp at h
    · refine ⟨fun _ => ?_, fun hn => absurd ⟨by simp, by simp⟩ hn⟩
      simp
def VO6 (g m d : Nat) (r : RV) (x : M.Rec) (ys : List M.Rec) : Nat → Value → World → Prop
  | 0 => IsW (.slice (some ⟨g, 0, none⟩) m d)
  | 1 => IsW (.int .i64 ((m : Nat) : Int))
  | 2 => IsW (.bool true)
  | 3 => IsW (.bool true)
  | 4 => IsW (.slice (some ⟨g, 0, none⟩) m d)
  | 5 => IsW (.slice (some ⟨g, 0, none⟩) m d)
  | 6 => IsW (.int .i64 ((m : Nat) : Int))
  | 7 => IsW (.int .i64 ((m - 1 : Nat) : Int))
  | 8 => IsW (.slice (some ⟨g, 0 + (m - 1) * 9, none⟩) (m - (m - 1)) (d - (m - 1)))
  | 9 => IsW (RV.val r)
  | 10 => IsR [x]
  | 11 => IsW (.bool (allB sameR (ys.drop (m - 1)) [x]))
  | 12 => IsW (.bool (allB sameR (ys.drop (m - 1)) [x]))
  | _ => fun _ _ => True
theorem VO6_stays (g m d : Nat) (r : RV) (x : M.Rec) (ys : List M.Rec) : ∀ i, Stays (VO6 g m d r x ys i) := by
  intro i v W W' hb h
  match i, h with
  | 0, h => exact h
  | 1, h => exact h
  | 2, h => exact h
  | 3, h => exact h
  | 4, h => exact h
  | 5, h => exact h
  | 6, h => exact h
  | 7, h => exact h
  | 8, h => exact h
  | 9, h => exact h
  | 10, h => exact isR_below hb h
  | 11, h => exact h
  | 12, h => exact h
  | k + 13, h => trivial
def VO6f (B : Option Addr) (m d : Nat) : Nat → Value → World → Prop
  | 0 => IsW (.slice B m d)
  | 1 => IsW (.int .i64 ((m : Nat) : Int))
  | 2 => IsW (.bool false)
  | 3 => IsW (.bool false)
  | 4 => IsW (undef)
  | 5 => IsW (undef)
  | 6 => IsW (undef)
  | 7 => IsW (undef)
  | 8 => IsW (undef)
  | 9 => IsW (undef)
  | 10 => IsW (undef)
  | 11 => IsW (undef)
  | 12 => IsW (.bool false)
  | _ => fun _ _ => True
theorem VO6f_stays (B : Option Addr) (m d : Nat) : ∀ i, Stays (VO6f B m d i) := by
  intro i v W W' hb h
  match i, h with
  | 0, h => exact h
  | 1, h => exact h
  | 2, h => exact h
  | 3, h => exact h
  | 4, h => exact h
  | 5, h => exact h
  | 6, h => exact h
  | 7, h => exact h
  | 8, h => exact h
  | 9, h => exact h
  | 10, h => exact h
  | 11, h => exact h
  | 12, h => exact h
  | k + 13, h => trivial
def VO12 (b o n c j : Nat) (v : RV) (xj z : M.Rec) : Nat → Value → World → Prop
  | 0 => IsW (.int .i64 ((j : Nat) : Int))
  | 1 => IsW (.slice (some ⟨b, o, none⟩) n c)
  | 2 => IsW (.int .i64 ((n : Nat) : Int))
  | 3 => IsW (.bool true)
  | 4 => IsW (.bool true)
  | 5 => IsW (.slice (some ⟨b, o, none⟩) n c)
  | 6 => IsW (.int .i64 ((j : Nat) : Int))
  | 7 => IsW (.int .i64 ((j : Nat) : Int))
  | 8 => IsW (.int .i64 ((j + 1 : Nat) : Int))
  | 9 => IsW (.slice (some ⟨b, o + (j) * 9, none⟩) (j + 1 - (j)) (c - (j)))
  | 10 => IsW (RV.val v)
  | 11 => IsR [z]
  | 12 => IsW (.bool (sameR xj z))
  | 13 => IsW (.bool (!(sameR xj z)))
  | 14 => IsW (.bool (!(sameR xj z)))
  | _ => fun _ _ => True
theorem VO12_stays (b o n c j : Nat) (v : RV) (xj z : M.Rec) : ∀ i, Stays (VO12 b o n c j v xj z i) := by
  intro i v W W' hb h
  match i, h with
  | 0, h => exact h
  | 1, h => exact h
  | 2, h => exact h
  | 3, h => exact h
  | 4, h => exact h
  | 5, h => exact h
  | 6, h => exact h
  | 7, h => exact h
  | 8, h => exact h
  | 9, h => exact h
  | 10, h => exact h
  | 11, h => exact isR_below hb h
  | 12, h => exact h
  | 13, h => exact h
  | 14, h => exact h
  | k + 15, h => trivial

set_option maxRecDepth 8000 in
set_option maxHeartbeats 4000000 in
theorem order_any (A : Option Addr) (n c : Nat) (vs : List RV) (xs : List M.Rec) (r : RV) (x : M.Rec) (w : World) (ht : TreeR w A n vs xs) (hs : ∀ x ∈ xs, x.act.data.length ≤ 140737488355328) (hn : (n + 2) * 104 ≤ 140737488355328) (hnc : n ≤ c) (hcm : c ≤ maxLen) (hr : ContR w r x) (hsx : x.act.data.length ≤ 140737488355328) :
    Calls Try.prog 8 #[.slice A n c, r.val] w fun e w' => e = .returned (.bool true) ∧ Below w.heap.size w w' := by
  have HT : Hid (TreeR w A n vs xs ∧ (∀ x ∈ xs, x.act.data.length ≤ 140737488355328) ∧ ContR w r x ∧ x.act.data.length ≤ 140737488355328 ∧ n = xs.length) := ⟨ht, hs, hr, hsx, ht.len⟩
  have HW : Hid _ := boxR_start w r
  clear ht hs hr hsx
  go_enter Try.func8, Try.ntmps8
  go_wp2_with (fail)
  obtain ⟨q1, q2, q3⟩ := HW.out _ rfl
  refine (alive4_any _).mono ?_
  rintro e w1 ⟨rfl, hb1⟩
  have H1 : Hid (Below w.heap.size w w1 ∧ BoxR w1 w.heap.size r) := ⟨q1.trans (hb1.mono (by omega)), q2.below hb1 (by omega)⟩
  clear q1 q2 q3 hb1 HW
  obtain ⟨b0, b1, b2, b3, b4, b5, b6, b7, b8, bf, bz⟩ := H1.out.2.facts
  go_wp2_with (fail)
  refine (add_any A n c vs xs r x w1 (HT.out.1.below (Nat.le_refl _) H1.out.1) HT.out.2.1 hn hnc hcm (HT.out.2.2.1.below (Nat.le_refl _) H1.out.1) HT.out.2.2.2.1).mono ?_
  rintro e w2 ⟨B, m, d, us, rfl, ho, hb2⟩
  have hml : m = (M.addS xs x).2.length := ho.tree.len
  obtain ⟨_, _, hff, hmd, hdm⟩ := own_form ho.1
  cases hff
  have H2 : Hid (Below w.heap.size w w2 ∧ BoxR w2 w.heap.size r ∧ TreeR w2 B m us (M.addS xs x).2 ∧ m = (M.addS xs x).2.length) := ⟨H1.out.1.trans (hb2.mono H1.out.1.size), H1.out.2.below hb2 bz, ho.tree, hml⟩
  have hBg : 0 < m → ∃ g, B = some ⟨g, 0, none⟩ := fun h => by
    rcases ho.1.2 with ⟨_, h0⟩ | ⟨g, cap, cur, hv, _⟩
    · omega
    · cases hv; exact ⟨g, rfl⟩
  clear ho hb2 hml H1 b0 b1 b2 b3 b4 b5 b6 b7 b8 bf
  by_cases h0 : (M.addS xs x).1 = 0
  case' neg =>
    obtain ⟨he, h20⟩ := add_err h0
    have hm0 : m = 0 := by rw [H2.out.2.2.2, he]; rfl
    have h20' : (20 : Int) ≤ (n : Int) := by rw [HT.out.2.2.2.2]; omega
    rw [he]
    subst hm0
    clear he h20 h0 hBg
    go_wp2
    go_ret
    exact ⟨rfl, H2.out.1⟩
  have HORD : Hid _ := add_order h0
  rw [h0]
  clear h0
  generalize hys : (M.addS xs x).2 = ys at *
  have HYS : Hid ((M.addS xs x).2 = ys) := hys
  clear hys
  have hmb : m ≤ n + 1 := by
    rw [H2.out.2.2.2, HT.out.2.2.2.2, ← HYS.out]
    unfold M.addS
    split
    · exact Nat.le_trans (List.length_filter_le _ _) (Nat.le_succ _)
    · split
      · exact Nat.zero_le _
      · rw [List.length_append]; exact Nat.add_le_add_right (List.length_filter_le _ _) 1
  unfold maxLen at hcm hdm
  go_upto_region 6 with (fail)
  go_cut [44] from 32 to 44 (fun t W => t = .bool (decide (0 < m) && allB sameR (ys.drop (m - 1)) [x]) ∧ Below w2.heap.size w2 W)
  case first =>
    have hbd : ∀ W, Below w2.drew.heap.size w2.drew W → Below w2.heap.size w2 W := fun W hb => (Below.refl _ _).drew.trans hb
    have HRR : ∀ W, Below w2.drew.heap.size w2.drew W → RecAt W w.heap.size 0 r := fun W hb => H2.out.2.1.at_.below (hbd W hb) (lt_of_block H2.out.2.1)
    by_cases hm0 : 0 < m
    · obtain ⟨g, rfl⟩ := hBg hm0
      have r0 : decide ((0 : Int) < ((m : Nat) : Int)) = true := decide_eq_true (by omega)
      have HCR : ∀ W, Below w2.drew.heap.size w2.drew W → ContR W r x := fun W hb => HT.out.2.2.1.below (Nat.le_refl _) (H2.out.1.trans ((hbd W hb).mono H2.out.1.size))
      have HTD : ∀ W, Below w2.drew.heap.size w2.drew W → TreeR W (some ⟨g, 0 + (m - 1) * 9, none⟩) (m - (m - 1)) (us.drop (m - 1)) (ys.drop (m - 1)) := fun W hb => by
        have h := H2.out.2.2.1.below (Nat.le_refl _) (hbd W hb)
        exact ⟨h.1.drop (m - 1), h.2.drop (m - 1)⟩
      refine wp_region_vals (VO6 g m d r x ys) (by kernel_rfl) (by kernel_rfl) (VO6_stays g m d r x ys) ?_ ?_
      · intro i hi
        match i, hi with
        | 0, _ =>
          refine StepAt.by rfl fun a' W hf hb hd => ?_
          exact .inl ⟨want_none, does_move ((hf.keeps 5 (by kernel_rfl)).trans rfl) ⟨Below.refl _ _, rfl⟩⟩
        | 1, _ =>
          refine StepAt.by rfl fun a' W hf hb hd => ?_
          exact .inl ⟨want_none, does_run (run_lenS (by kernel_rfl) (hd 0 (by kernel_rfl))) ⟨Below.refl _ _, rfl⟩⟩
        | 2, _ =>
          refine StepAt.by rfl fun a' W hf hb hd => ?_
          exact .inl ⟨want_none, does_run (run_gtrI (hd 1 (by kernel_rfl)) rfl) ⟨Below.refl _ _, by show Value.bool _ = _; rw [r0]⟩⟩
        | 3, _ =>
          refine StepAt.by rfl fun a' W hf hb hd => ?_
          exact .inl ⟨want_none, does_move (hd 2 (by kernel_rfl)) ⟨Below.refl _ _, rfl⟩⟩
        | 4, _ =>
          refine StepAt.by rfl fun a' W hf hb hd => ?_
          exact .inl ⟨want_some (k := 3) (t := 35) rfl (hd 3 (by kernel_rfl)), does_move ((hf.keeps 5 (by kernel_rfl)).trans rfl) ⟨Below.refl _ _, rfl⟩⟩
        | 5, _ =>
          refine StepAt.by rfl fun a' W hf hb hd => ?_
          exact .inl ⟨want_some (k := 3) (t := 35) rfl (hd 3 (by kernel_rfl)), does_move ((hf.keeps 5 (by kernel_rfl)).trans rfl) ⟨Below.refl _ _, rfl⟩⟩
        | 6, _ =>
          refine StepAt.by rfl fun a' W hf hb hd => ?_
          exact .inl ⟨want_some (k := 3) (t := 35) rfl (hd 3 (by kernel_rfl)), does_run (run_lenS (by kernel_rfl) (hd 5 (by kernel_rfl))) ⟨Below.refl _ _, rfl⟩⟩
        | 7, _ =>
          refine StepAt.by rfl fun a' W hf hb hd => ?_
          exact .inl ⟨want_some (k := 3) (t := 35) rfl (hd 3 (by kernel_rfl)), does_run (run_subN (k := 1) (hd 6 (by kernel_rfl)) rfl (by omega) (by omega)) ⟨Below.refl _ _, rfl⟩⟩
        | 8, _ =>
          refine StepAt.by rfl fun a' W hf hb hd => ?_
          exact .inl ⟨want_some (k := 3) (t := 35) rfl (hd 3 (by kernel_rfl)), does_run (run_sliceLoR (hd 4 (by kernel_rfl)) (hd 7 (by kernel_rfl)) (by omega) (by omega)) ⟨Below.refl _ _, rfl⟩⟩
        | 9, _ =>
          refine StepAt.by rfl fun a' W hf hb hd => ?_
          exact .inl ⟨want_some (k := 3) (t := 35) rfl (hd 3 (by kernel_rfl)), does_run (run_loadR ((hf.keeps 3 (by kernel_rfl)).trans rfl) (HRR W hb)) ⟨Below.refl _ _, rfl⟩⟩
        | 10, _ =>
          refine StepAt.by rfl fun a' W hf hb hd => ?_
          refine .inl ⟨want_some (k := 3) (t := 35) rfl (hd 3 (by kernel_rfl)), ?_⟩
          exact does_buildR (hd 9 (by kernel_rfl)) (HCR W hb)
        | 11, _ =>
          refine StepAt.by rfl fun a' W hf hb hd => ?_
          refine .inl ⟨want_some (k := 3) (t := 35) rfl (hd 3 (by kernel_rfl)), ?_⟩
          obtain ⟨B1, m1, d1, us1, e1, ht1⟩ := hd 10 (by kernel_rfl)
          have hm1 : m1 = 1 := by rw [ht1.len]; rfl
          subst hm1
          exact does_call2 (enters_of Try.func20 (by kernel_rfl) (by kernel_rfl)) (hd 8 (by kernel_rfl)) e1 ((sameLog_any _ _ _ _ _ _ _ _ _ _ W (HTD W hb) ht1 (by omega) (by decide)).mono fun e W' ⟨he, hb'⟩ => ⟨_, he, hb', rfl⟩)
        | 12, _ =>
          refine StepAt.by rfl fun a' W hf hb hd => ?_
          exact .inl ⟨want_none, does_pick (b := true) (hd 3 (by kernel_rfl)) (hd 11 (by kernel_rfl)) ⟨Below.refl _ _, rfl⟩⟩
        | k + 13, hi => exact absurd hi (Nat.not_lt.2 (Nat.le_add_left _ _))
      · intro a' W hf hb hv
        have hlast : a'.eval (.tmp 44) = .bool (allB sameR (ys.drop (m - 1)) [x]) := hv 12 (by decide)
        have hl := hf.lit (fun t => decide (32 ≤ t) && decide (t ≤ 44)) (by kernel_rfl)
        simp only [overL, Nat.reduceAdd, Nat.reduceLeDiff, decide_true, decide_false, Bool.and_true, Bool.and_false] at hl
        rw [hl]
        clear hl
        go_wp2_with (fail)
        go_meet
        case rel => exact ⟨by rw [decide_eq_true hm0, Bool.true_and]; exact hlast, hb⟩
    · have r0 : decide ((0 : Int) < ((m : Nat) : Int)) = false := decide_eq_false (by omega)
      refine wp_region_vals (VO6f B m d) (by kernel_rfl) (by kernel_rfl) (VO6f_stays B m d) ?_ ?_
      · intro i hi
        match i, hi with
        | 0, _ =>
          refine StepAt.by rfl fun a' W hf hb hd => ?_
          exact .inl ⟨want_none, does_move ((hf.keeps 5 (by kernel_rfl)).trans rfl) ⟨Below.refl _ _, rfl⟩⟩
        | 1, _ =>
          refine StepAt.by rfl fun a' W hf hb hd => ?_
          exact .inl ⟨want_none, does_run (run_lenS (by kernel_rfl) (hd 0 (by kernel_rfl))) ⟨Below.refl _ _, rfl⟩⟩
        | 2, _ =>
          refine StepAt.by rfl fun a' W hf hb hd => ?_
          exact .inl ⟨want_none, does_run (run_gtrI (hd 1 (by kernel_rfl)) rfl) ⟨Below.refl _ _, by show Value.bool _ = _; rw [r0]⟩⟩
        | 3, _ =>
          refine StepAt.by rfl fun a' W hf hb hd => ?_
          exact .inl ⟨want_none, does_move (hd 2 (by kernel_rfl)) ⟨Below.refl _ _, rfl⟩⟩
        | 4, _ =>
          refine StepAt.by rfl fun a' W hf hb hd => ?_
          exact .inr ⟨want_some (k := 3) (t := 35) rfl (hd 3 (by kernel_rfl)), rfl⟩
        | 5, _ =>
          refine StepAt.by rfl fun a' W hf hb hd => ?_
          exact .inr ⟨want_some (k := 3) (t := 35) rfl (hd 3 (by kernel_rfl)), rfl⟩
        | 6, _ =>
          refine StepAt.by rfl fun a' W hf hb hd => ?_
          exact .inr ⟨want_some (k := 3) (t := 35) rfl (hd 3 (by kernel_rfl)), rfl⟩
        | 7, _ =>
          refine StepAt.by rfl fun a' W hf hb hd => ?_
          exact .inr ⟨want_some (k := 3) (t := 35) rfl (hd 3 (by kernel_rfl)), rfl⟩
        | 8, _ =>
          refine StepAt.by rfl fun a' W hf hb hd => ?_
          exact .inr ⟨want_some (k := 3) (t := 35) rfl (hd 3 (by kernel_rfl)), rfl⟩
        | 9, _ =>
          refine StepAt.by rfl fun a' W hf hb hd => ?_
          exact .inr ⟨want_some (k := 3) (t := 35) rfl (hd 3 (by kernel_rfl)), rfl⟩
        | 10, _ =>
          refine StepAt.by rfl fun a' W hf hb hd => ?_
          exact .inr ⟨want_some (k := 3) (t := 35) rfl (hd 3 (by kernel_rfl)), rfl⟩
        | 11, _ =>
          refine StepAt.by rfl fun a' W hf hb hd => ?_
          exact .inr ⟨want_some (k := 3) (t := 35) rfl (hd 3 (by kernel_rfl)), rfl⟩
        | 12, _ =>
          refine StepAt.by rfl fun a' W hf hb hd => ?_
          exact .inl ⟨want_none, does_pick (b := false) (hd 3 (by kernel_rfl)) rfl ⟨Below.refl _ _, rfl⟩⟩
        | k + 13, hi => exact absurd hi (Nat.not_lt.2 (Nat.le_add_left _ _))
      · intro a' W hf hb hv
        have hlast : a'.eval (.tmp 44) = .bool false := hv 12 (by decide)
        have hl := hf.lit (fun t => decide (32 ≤ t) && decide (t ≤ 44)) (by kernel_rfl)
        simp only [overL, Nat.reduceAdd, Nat.reduceLeDiff, decide_true, decide_false, Bool.and_true, Bool.and_false] at hl
        rw [hl]
        clear hl
        go_wp2_with (fail)
        go_meet
        case rel => exact ⟨by rw [decide_eq_false hm0, Bool.false_and]; exact hlast, hb⟩
  case rest =>
    obtain ⟨rfl, hbc⟩ := hcut
    have hwc := hbc.size
    have H3 : Hid (Below w.heap.size w wc ∧ TreeR wc B m us ys) := ⟨H2.out.1.trans (hbc.mono H2.out.1.size), H2.out.2.2.1.below (Nat.le_refl _) hbc⟩
    have HML : Hid (m = ys.length) := H2.out.2.2.2
    obtain ⟨bb, hbb⟩ : ∃ bb, (decide (0 < m) && allB sameR (ys.drop (m - 1)) [x]) = bb := ⟨_, rfl⟩
    rw [hbb]
    have HBB : Hid ((decide (0 < m) && allB sameR (ys.drop (m - 1)) [x]) = bb) := hbb
    clear hbb hbc H2
    go_upto_if 44 with (fail)
    go_cut [5] from 45 to 49 (fun v W => ∃ (m' : Nat) (us' : List RV) (zs : List M.Rec), v = .slice B m' d ∧ m' ≤ m ∧ TreeR wc B m' us' zs ∧ zs.Sublist xs ∧ W = wc)
    case first =>
      cases bb
      · have hzs : ys.Sublist xs := by
          have h := HORD.out.2
          rw [← HML.out] at h
          refine h fun hh => ?_
          have hb := HBB.out
          rw [decide_eq_true hh.1, Bool.true_and, allR_iff.2 hh.2] at hb
          cases hb
        have HZ : Hid (TreeR wc B m us ys ∧ ys.Sublist xs) := ⟨H3.out.2, hzs⟩
        clear hzs
        go_wp2_with (fail)
        go_meet
        case rel => exact ⟨m, us, ys, rfl, Nat.le_refl _, HZ.out.1, HZ.out.2, rfl⟩
      · have hb := HBB.out
        rw [Bool.and_eq_true, decide_eq_true_eq] at hb
        obtain ⟨g, rfl⟩ := hBg hb.1
        have hzs : (ys.take (m - 1)).Sublist xs := by
          have h := HORD.out.1
          rw [← HML.out] at h
          exact h ⟨hb.1, allR_iff.1 hb.2⟩
        have hm1 : 1 ≤ m := hb.1
        have HZ : Hid (TreeR wc (some ⟨g, 0, none⟩) (m - 1) (us.take (m - 1)) (ys.take (m - 1)) ∧ (ys.take (m - 1)).Sublist xs) := ⟨treeR_take H3.out.2 (by omega), hzs⟩
        have e1 : (m : Int) - 1 ≤ (d : Int) := by omega
        have e2 : (0 : Int) ≤ (m : Int) - 1 := by omega
        have e3 : ((m : Int) - 1).toNat = m - 1 := by omega
        clear hzs hb
        go_wp2_with (fail)
        go_meet
        case rel => exact ⟨m - 1, _, _, by first | rfl | simp [e3], by omega, HZ.out.1, HZ.out.2, rfl⟩
    case rest =>
      obtain ⟨m', us', zs, rfl, hmm, htz, hsub, rfl⟩ := hcut
      have HZ : Hid (TreeR wc B m' us' zs ∧ zs.Sublist xs ∧ m' = zs.length) := ⟨htz, hsub, htz.len⟩
      have hH : Hid (Below w.heap.size w wc) := H3.out.1
      clear htz hsub H3 HBB HML HORD hBg
      go_wp2_with (fail)
      go_loopw [52, 7] (fun i q wr => ∃ (k j : Nat), k ≤ m' ∧ i = .int .i64 k ∧ q = .int .i64 j ∧ j ≤ n ∧ (zs.drop k).Sublist (xs.drop j) ∧ Below wc.heap.size wc wr) (fun i _ _ => m' - (intOf i).toNat)
      case atStart => exact ⟨0, 0, Nat.zero_le _, rfl, rfl, Nat.zero_le _, by simpa using HZ.out.2.1, Below.refl _ _⟩
      case round =>
        obtain ⟨k, j, hk, rfl, rfl, hj, hsb, hb⟩ := hrel
        have HS : Hid ((zs.drop k).Sublist (xs.drop j)) := hsb
        have hsz := hb.size
        clear hsb
        by_cases hlt : k < m'
        · have htr := HZ.out.1.below (Nat.le_refl _) hb
          obtain ⟨g, og, v, rfl, hgb, hvk, c0, c1, c2, c3, c4, c5, c6, c7, c8⟩ := htr.1.at hlt
          obtain ⟨z, hz, hcz⟩ := htr.2.at hvk
          have HX : Hid (zs[k]? = some z ∧ ContR wr v z) := ⟨hz, hcz⟩
          have HWA : Hid _ := boxR_start wr v
          clear hvk htr hz hcz
          rename World => wo
          go_wp2_with (fail)
          obtain ⟨p1, p2, p3⟩ := HWA.out _ rfl
          go_loopw [7] (fun q wi => ∃ j5 : Nat, q = .int .i64 j5 ∧ j5 ≤ n ∧ (zs.drop k).Sublist (xs.drop j5) ∧ Below (wo.alloc v.obj).heap.size (wo.alloc v.obj) wi) (fun q _ => n - (intOf q).toNat)
          case atStart => exact ⟨j, rfl, hj, HS.out, Below.refl _ _⟩
          case round =>
            obtain ⟨j5, rfl, hj5, hsb, hb5⟩ := hrel
            have hb0 : Below wo.heap.size wo wr := p1.trans (hb5.mono (by simp))
            have HB5 : Hid (Below wc.heap.size wc wr ∧ BoxR wr wo.heap.size v ∧ ContR wr v z) := ⟨hb.trans (hb0.mono hsz), p2.below hb5 (by simp), HX.out.2.below (Nat.le_refl _) hb0⟩
            have hdz : zs.drop k = z :: zs.drop (k + 1) := by
              have hkl := (List.getElem?_eq_some_iff.1 HX.out.1).1
              have e : zs[k] = z := by have h := HX.out.1; rw [List.getElem?_eq_getElem hkl] at h; exact Option.some.inj h
              rw [← e]; exact List.drop_eq_getElem_cons hkl
            rw [hdz] at hsb
            have hjn : j5 < n := by
              rcases Nat.lt_or_ge j5 n with h | h
              · exact h
              · have e0 : xs.drop j5 = [] := List.drop_eq_nil_iff.2 (by rw [← HT.out.2.2.2.2]; exact h)
                rw [e0] at hsb; cases hsb
            have htl := HT.out.1.below (Nat.le_refl _) (hH.out.trans (HB5.out.1.mono hH.out.size))
            obtain ⟨b, o, vj, rfl, hbl, hvj, _⟩ := htl.1.at hjn
            obtain ⟨xj, hxj, hcj⟩ := htl.2.at hvj
            have hdx : xs.drop j5 = xj :: xs.drop (j5 + 1) := by
              have hkl := (List.getElem?_eq_some_iff.1 hxj).1
              have e : xs[j5] = xj := by rw [List.getElem?_eq_getElem hkl] at hxj; exact Option.some.inj hxj
              rw [← e]; exact List.drop_eq_getElem_cons hkl
            rw [hdx] at hsb
            have HS5 : Hid ((z :: zs.drop (k + 1)).Sublist (xj :: xs.drop (j5 + 1)) ∧ zs.drop k = z :: zs.drop (k + 1)) := ⟨hsb, hdz⟩
            have HJ : Hid (TreeR wr (some ⟨b, o + j5 * 9, none⟩) 1 [vj] [xj]) := treeR_one htl hvj hxj
            have rj : decide (((j5 : Nat) : Int) < ((n : Nat) : Int)) = true := decide_eq_true (by omega)
            have HC6 : Hid (∀ W, Below wr.heap.size wr W → Below wc.heap.size wc W ∧ Below (wo.alloc v.obj).heap.size (wo.alloc v.obj) W) := fun W hbc => ⟨HB5.out.1.trans (hbc.mono HB5.out.1.size), hb5.trans (hbc.mono hb5.size)⟩
            clear hsb hdz hdx htl hvj hxj hcj hbl hb0
            go_wp2_with (fail)
            go_cut [70] from 56 to 70 (fun t W => t = .bool (!(sameR xj z)) ∧ Below wr.heap.size wr W)
            case first =>
              have hbd : ∀ W, Below wr.drew.heap.size wr.drew W → Below wr.heap.size wr W := fun W hb => (Below.refl _ _).drew.trans hb
              have HBV : ∀ W, Below wr.drew.heap.size wr.drew W → RecAt W wo.heap.size 0 v := fun W hb => HB5.out.2.1.at_.below (hbd W hb) (lt_of_block HB5.out.2.1)
              have HCV : ∀ W, Below wr.drew.heap.size wr.drew W → ContR W v z := fun W hb => HB5.out.2.2.below (Nat.le_refl _) (hbd W hb)
              have HTJ : ∀ W, Below wr.drew.heap.size wr.drew W → TreeR W (some ⟨b, o + j5 * 9, none⟩) 1 [vj] [xj] := fun W hb => HJ.out.below (Nat.le_refl _) (hbd W hb)
              refine wp_region_vals (VO12 b o n c j5 v xj z) (by kernel_rfl) (by kernel_rfl) (VO12_stays b o n c j5 v xj z) ?_ ?_
              · intro i hi
                match i, hi with
                | 0, _ =>
                  refine StepAt.by rfl fun a' W hf hb hd => ?_
                  exact .inl ⟨want_none, does_move ((hf.keeps 7 (by kernel_rfl)).trans rfl) ⟨Below.refl _ _, rfl⟩⟩
                | 1, _ =>
                  refine StepAt.by rfl fun a' W hf hb hd => ?_
                  exact .inl ⟨want_none, does_move ((hf.keeps 0 (by kernel_rfl)).trans rfl) ⟨Below.refl _ _, rfl⟩⟩
                | 2, _ =>
                  refine StepAt.by rfl fun a' W hf hb hd => ?_
                  exact .inl ⟨want_none, does_run (run_lenS (by kernel_rfl) (hd 1 (by kernel_rfl))) ⟨Below.refl _ _, rfl⟩⟩
                | 3, _ =>
                  refine StepAt.by rfl fun a' W hf hb hd => ?_
                  exact .inl ⟨want_none, does_run (run_lssI (hd 0 (by kernel_rfl)) (hd 2 (by kernel_rfl))) ⟨Below.refl _ _, by show Value.bool _ = _; rw [rj]⟩⟩
                | 4, _ =>
                  refine StepAt.by rfl fun a' W hf hb hd => ?_
                  exact .inl ⟨want_none, does_move (hd 3 (by kernel_rfl)) ⟨Below.refl _ _, rfl⟩⟩
                | 5, _ =>
                  refine StepAt.by rfl fun a' W hf hb hd => ?_
                  exact .inl ⟨want_some (k := 4) (t := 60) rfl (hd 4 (by kernel_rfl)), does_move ((hf.keeps 0 (by kernel_rfl)).trans rfl) ⟨Below.refl _ _, rfl⟩⟩
                | 6, _ =>
                  refine StepAt.by rfl fun a' W hf hb hd => ?_
                  exact .inl ⟨want_some (k := 4) (t := 60) rfl (hd 4 (by kernel_rfl)), does_move ((hf.keeps 7 (by kernel_rfl)).trans rfl) ⟨Below.refl _ _, rfl⟩⟩
                | 7, _ =>
                  refine StepAt.by rfl fun a' W hf hb hd => ?_
                  exact .inl ⟨want_some (k := 4) (t := 60) rfl (hd 4 (by kernel_rfl)), does_move ((hf.keeps 7 (by kernel_rfl)).trans rfl) ⟨Below.refl _ _, rfl⟩⟩
                | 8, _ =>
                  refine StepAt.by rfl fun a' W hf hb hd => ?_
                  exact .inl ⟨want_some (k := 4) (t := 60) rfl (hd 4 (by kernel_rfl)), does_run (run_addN (k := 1) (hd 7 (by kernel_rfl)) rfl (by omega)) ⟨Below.refl _ _, rfl⟩⟩
                | 9, _ =>
                  refine StepAt.by rfl fun a' W hf hb hd => ?_
                  exact .inl ⟨want_some (k := 4) (t := 60) rfl (hd 4 (by kernel_rfl)), does_run (run_sliceLoHiR (hd 5 (by kernel_rfl)) (hd 6 (by kernel_rfl)) (hd 8 (by kernel_rfl)) (by omega) (by omega) (by omega)) ⟨Below.refl _ _, rfl⟩⟩
                | 10, _ =>
                  refine StepAt.by rfl fun a' W hf hb hd => ?_
                  exact .inl ⟨want_some (k := 4) (t := 60) rfl (hd 4 (by kernel_rfl)), does_run (run_loadR ((hf.keeps 9 (by kernel_rfl)).trans rfl) (HBV W hb)) ⟨Below.refl _ _, rfl⟩⟩
                | 11, _ =>
                  refine StepAt.by rfl fun a' W hf hb hd => ?_
                  refine .inl ⟨want_some (k := 4) (t := 60) rfl (hd 4 (by kernel_rfl)), ?_⟩
                  exact does_buildR (hd 10 (by kernel_rfl)) (HCV W hb)
                | 12, _ =>
                  refine StepAt.by rfl fun a' W hf hb hd => ?_
                  refine .inl ⟨want_some (k := 4) (t := 60) rfl (hd 4 (by kernel_rfl)), ?_⟩
                  obtain ⟨B1, m1, d1, us1, e1, ht1⟩ := hd 11 (by kernel_rfl)
                  have hm1 : m1 = 1 := by rw [ht1.len]; rfl
                  subst hm1
                  have h9 : a'.eval (.tmp 65) = .slice (some ⟨b, o + j5 * 9, none⟩) 1 (c - j5) := by have h : a'.eval (.tmp 65) = .slice (some ⟨b, o + j5 * 9, none⟩) (j5 + 1 - j5) (c - j5) := hd 9 (by kernel_rfl); rw [Nat.add_sub_cancel_left] at h; exact h
                  exact does_call2 (enters_of Try.func20 (by kernel_rfl) (by kernel_rfl)) h9 e1 ((sameLog_any _ _ _ _ _ _ _ _ _ _ W (HTJ W hb) ht1 (by decide) (by decide)).mono fun e W' ⟨he, hb'⟩ => ⟨_, he, hb', by show Value.bool _ = _; rw [allR_one]⟩)
                | 13, _ =>
                  refine StepAt.by rfl fun a' W hf hb hd => ?_
                  exact .inl ⟨want_some (k := 4) (t := 60) rfl (hd 4 (by kernel_rfl)), does_not (hd 12 (by kernel_rfl)) ⟨Below.refl _ _, rfl⟩⟩
                | 14, _ =>
                  refine StepAt.by rfl fun a' W hf hb hd => ?_
                  exact .inl ⟨want_none, does_pick (b := true) (hd 4 (by kernel_rfl)) (hd 13 (by kernel_rfl)) ⟨Below.refl _ _, rfl⟩⟩
                | k + 15, hi => exact absurd hi (Nat.not_lt.2 (Nat.le_add_left _ _))
              · intro a' W hf hb hv
                have hlast : a'.eval (.tmp 70) = .bool (!(sameR xj z)) := hv 14 (by decide)
                have hl := hf.lit (fun t => decide (56 ≤ t) && decide (t ≤ 70)) (by kernel_rfl)
                simp only [overL, Nat.reduceAdd, Nat.reduceLeDiff, decide_true, decide_false, Bool.and_true, Bool.and_false] at hl
                rw [hl]
                clear hl
                go_wp2_with (fail)
                go_meet
                case rel => exact ⟨hlast, hb⟩
            case rest =>
              obtain ⟨rfl, hbc⟩ := hcut
              have H6 : Hid _ := HC6.out _ hbc
              have hjn' : (((j5 : Nat) : Int) == ((n : Nat) : Int)) = false := by rw [beq_eq_false_iff_ne]; omega
              clear hbc
              cases hsm : sameR xj z
              · have HN : Hid ((zs.drop k).Sublist (xs.drop (j5 + 1))) := by
                  show List.Sublist _ _
                  rw [HS5.out.2]
                  have h := HS5.out.1
                  cases h with
                  | cons _ h => exact h
                  | cons_cons _ h => rw [sameR_self] at hsm; cases hsm
                clear hsm
                go_wp2_with (fail)
                go_roundw
                case rel => exact ⟨j5 + 1, by go_num, by omega, HN.out, H6.out.2⟩
                case measure => simp [intOf]; omega
              · have HN : Hid ((zs.drop (k + 1)).Sublist (xs.drop (j5 + 1))) := by
                  show List.Sublist _ _
                  have h := HS5.out.1
                  cases h with
                  | cons _ h => exact (List.sublist_cons_self _ _).trans h
                  | cons_cons _ h => exact h
                clear hsm
                go_wp2_with (fail)
                go_roundw
                case rel => exact ⟨k + 1, j5 + 1, by omega, by go_num, by go_num, by omega, HN.out, H6.out.1⟩
                case measure => simp [intOf]; omega
        · go_wp2
          go_ret
          exact ⟨rfl, hH.out.trans (hb.mono hH.out.size)⟩
end Go.Proofs.Ytlegjdlmcphhlab
