/- TEXTS LAID TOGETHER: Ksf, Ksg, Ksh -/
import Derived.Test.YtjpdoblmdchmkadPart8
/-
  SORTING NODES: one is merged into a rising range behind it.
-/
namespace Go.Proofs.Ytjpdoblmdchmkad
open Go.RowKit

def VS1 (g : Nat) (n : Nat) (c : Nat) (aq : Nat) (hq : Nat) (x : NV) (y : NV) : Nat → Value → World → Prop
  | 0 => IsW (.func (.func 53) #[] #[])
  | 1 => IsW (.slice (some ⟨g, 0, none⟩) n c)
  | 2 => IsW (.int .i64 ((hq : Nat) : Int))
  | 3 => IsW (.pointer (some ⟨g, 0 + hq * 5, none⟩))
  | 4 => IsW (NV.val y)
  | 5 => IsW (.slice (some ⟨g, 0, none⟩) n c)
  | 6 => IsW (.int .i64 ((aq : Nat) : Int))
  | 7 => IsW (.pointer (some ⟨g, 0 + aq * 5, none⟩))
  | 8 => IsW (NV.val x)
  | 9 => IsW (.int .i64 (M.cmpI y.fid x.fid))
  | 10 => IsW (.bool (decide ((M.cmpI y.fid x.fid : Int) < (0 : Int))))
  | _ => fun _ _ => True
theorem VS1_stays (g : Nat) (n : Nat) (c : Nat) (aq : Nat) (hq : Nat) (x : NV) (y : NV) : ∀ i, Stays (VS1 g n c aq hq x y i) := by
  intro i v W W' hb h
  match i, h with
  | 0, h => exact h
  | 1, h => exact h
  | 2, h => exact h
  | 3, h => exact h
  | 4, h => exact h
  | 5, h => exact h
  | 6, h => exact h
  | 7, h => exact h
  | 8, h => exact h
  | 9, h => exact h
  | 10, h => exact h
  | k + 11, h => trivial
set_option maxRecDepth 8000 in
set_option maxHeartbeats 8000000 in
theorem symMerge1_any (w0 : World) (B g n c a m b : Nat) (P Y R : List NV) (x : NV) (w : World) (hs : SW w0 B g n c (P ++ ([x] ++ (Y ++ R))) w) (ha : a = P.length) (hm : m = P.length + 1) (hb : b = P.length + 1 + Y.length) (hy : Up Y) (hn : n ≤ 140737488355328) :
    Calls Try.prog 92 #[.slice (some ⟨g, 0, none⟩) n c, .int .i64 (a : Int), .int .i64 (m : Int), .int .i64 (b : Int), .func (.func 53) #[] #[]] w fun e w' => e = .returned (.tuple #[]) ∧ ∃ Z, Z.Perm ([x] ++ Y) ∧ Up Z ∧ SW w0 B g n c (P ++ (Z ++ R)) w' := by
  obtain ⟨us, hus⟩ : ∃ us, us = P ++ ([x] ++ (Y ++ R)) := ⟨_, rfl⟩
  have hlen : b ≤ n ∧ m = a + 1 ∧ m ≤ b ∧ us.length ≤ n := by
    have h1 := hs.len
    have h2 := congrArg List.length hus
    simp at h1 h2
    omega
  have HS : Hid (SW w0 B g n c us w ∧ us = P ++ ([x] ++ (Y ++ R)) ∧ a = P.length ∧ m = P.length + 1 ∧ b = P.length + 1 + Y.length ∧ Up Y) := ⟨by rw [hus]; exact hs, hus, ha, hm, hb, hy⟩
  have HX : Hid (us[a]? = some x) := by
    show _ = _
    rw [hus, ha]
    exact at_P (X := [x]) (q := 0) rfl
  have HF : Hid (Falls (pOne us a) m b) := by
    refine falls_one ?_
    rw [hus, hm, hb]
    exact upY (X := [x]) hy
  have sma : (m : Int) - (a : Int) = 1 := by omega
  have h0 : Hid (Bis (pOne us a) m b m b) := Bis.start _ hlen.2.2.1
  clear hs ha hm hb hy hus
  go_enter Try.func92, Try.ntmps92
  go_wp2_with (fail)
  go_loopw [10, 11] (fun iv jv W => ∃ i j : Nat, iv = .int .i64 (i : Int) ∧ jv = .int .i64 (j : Int) ∧ Hid (Bis (pOne us a) m b i j) ∧ SW w0 B g n c us W) (fun iv jv _ => (intOf jv).toNat - (intOf iv).toNat)
  case atStart => exact ⟨m, b, rfl, rfl, h0, HS.out.1⟩
  case round =>
    obtain ⟨i, j, rfl, rfl, HB, hsw⟩ := hrel
    rename World => wk
    have HJ : Hid (SW w0 B g n c us wk) := hsw
    clear hsw
    have hbb : m ≤ i ∧ i ≤ j ∧ j ≤ b := ⟨HB.out.1, HB.out.2.1, HB.out.2.2.1⟩
    by_cases hlt : i < j
    · obtain ⟨h, hh⟩ : ∃ h, (i + j) / 2 = h := ⟨_, rfl⟩
      have hij : i ≤ h ∧ h < j := by omega
      have hhn : h < n := by omega
      have han : a < n := by omega
      have sh : ((i : Int) + (j : Int)) / 2 = (h : Int) := by omega
      obtain ⟨y, hy⟩ : ∃ y, us[h]? = some y := by
        refine ⟨_, List.getElem?_eq_getElem ?_⟩
        have h1 := HJ.out.len
        omega
      have HY : Hid (us[h]? = some y ∧ pOne us a h = decide (y.fid < x.fid)) := ⟨hy, by unfold pOne; rw [fidAt_is hy, fidAt_is HX.out]⟩
      clear hy
      go_upto_region 5 with (fail)
      clear hh
      go_cut [50] from 40 to 50 (fun t W => t = .bool (decide (y.fid < x.fid)) ∧ SW w0 B g n c us W)
      case first =>
        have HVX : ∀ W, Below wk.drew.heap.size wk.drew W → NodeAt W g (0 + a * 5) x := fun W hb => (HJ.out.below ((Below.refl _ _).drew.trans hb)).node HX.out
        have HVY : ∀ W, Below wk.drew.heap.size wk.drew W → NodeAt W g (0 + h * 5) y := fun W hb => (HJ.out.below ((Below.refl _ _).drew.trans hb)).node HY.out.1
        refine wp_region_vals (VS1 g n c a h x y) (by kernel_rfl) (by kernel_rfl) (VS1_stays g n c a h x y) ?_ ?_
        · intro j hj
          match j, hj with
          | 0, _ =>
            refine StepAt.by rfl fun a' W hf hb hd => ?_
            exact .inl ⟨want_none, does_move ((hf.keeps 4 (by kernel_rfl)).trans rfl) ⟨Below.refl _ _, rfl⟩⟩
          | 1, _ =>
            refine StepAt.by rfl fun a' W hf hb hd => ?_
            exact .inl ⟨want_none, does_move ((hf.keeps 0 (by kernel_rfl)).trans rfl) ⟨Below.refl _ _, rfl⟩⟩
          | 2, _ =>
            refine StepAt.by rfl fun a' W hf hb hd => ?_
            exact .inl ⟨want_none, does_move ((hf.keeps 12 (by kernel_rfl)).trans rfl) ⟨Below.refl _ _, rfl⟩⟩
          | 3, _ =>
            refine StepAt.by rfl fun a' W hf hb hd => ?_
            exact .inl ⟨want_none, does_run (run_indexN (hd 1 (by kernel_rfl)) (hd 2 (by kernel_rfl)) (by omega)) ⟨Below.refl _ _, rfl⟩⟩
          | 4, _ =>
            refine StepAt.by rfl fun a' W hf hb hd => ?_
            exact .inl ⟨want_none, does_run (run_loadNd (hd 3 (by kernel_rfl)) (HVY W hb)) ⟨Below.refl _ _, rfl⟩⟩
          | 5, _ =>
            refine StepAt.by rfl fun a' W hf hb hd => ?_
            exact .inl ⟨want_none, does_move ((hf.keeps 0 (by kernel_rfl)).trans rfl) ⟨Below.refl _ _, rfl⟩⟩
          | 6, _ =>
            refine StepAt.by rfl fun a' W hf hb hd => ?_
            exact .inl ⟨want_none, does_move ((hf.keeps 1 (by kernel_rfl)).trans rfl) ⟨Below.refl _ _, rfl⟩⟩
          | 7, _ =>
            refine StepAt.by rfl fun a' W hf hb hd => ?_
            exact .inl ⟨want_none, does_run (run_indexN (hd 5 (by kernel_rfl)) (hd 6 (by kernel_rfl)) (by omega)) ⟨Below.refl _ _, rfl⟩⟩
          | 8, _ =>
            refine StepAt.by rfl fun a' W hf hb hd => ?_
            exact .inl ⟨want_none, does_run (run_loadNd (hd 7 (by kernel_rfl)) (HVX W hb)) ⟨Below.refl _ _, rfl⟩⟩
          | 9, _ =>
            refine StepAt.by rfl fun a' W hf hb hd => ?_
            refine .inl ⟨want_none, ?_⟩
            exact does_callV2 (enters_of Try.func53 (by kernel_rfl) (by kernel_rfl)) (hd 0 (by kernel_rfl)) (hd 4 (by kernel_rfl)) (hd 8 (by kernel_rfl)) ((cmpN_any y x W).mono fun e W2 ⟨he, hb2⟩ => ⟨_, he, hb2, rfl⟩)
          | 10, _ =>
            refine StepAt.by rfl fun a' W hf hb hd => ?_
            exact .inl ⟨want_none, does_run (run_lssI (hd 9 (by kernel_rfl)) rfl) ⟨Below.refl _ _, rfl⟩⟩
          | k + 11, hi => exact absurd hi (Nat.not_lt.2 (Nat.le_add_left _ _))
        · intro a' W hf hb hv
          have hlast : a'.eval (.tmp 50) = .bool (decide (M.cmpI y.fid x.fid < 0)) := hv 10 (by decide)
          have hl := hf.lit (fun t => decide (40 ≤ t) && decide (t ≤ 50)) (by kernel_rfl)
          simp only [overL, Nat.reduceAdd, Nat.reduceLeDiff, decide_true, decide_false, Bool.and_true, Bool.and_false] at hl
          rw [hl]
          clear hl
          go_wp2_with (fail)
          go_meet
          case rel => exact ⟨hlast.trans (congrArg Value.bool (cmpI_ltN _ _)), (HJ.out.below hb)⟩
      obtain ⟨rfl, hsw⟩ := hcut
      rename World => w4
      have H4 : Hid (SW w0 B g n c us w4) := hsw
      clear hsw
      by_cases hxy : y.fid < x.fid
      · have HU : Hid (Bis (pOne us a) m b (h + 1) j) := HB.out.up HF.out hij.1 hij.2 (by rw [HY.out.2]; exact decide_eq_true hxy)
        rw [decide_eq_true hxy]
        clear hxy
        go_wp2_with (fail)
        go_roundw
        case rel => exact ⟨h + 1, j, by go_num, rfl, HU, H4.out⟩
        case measure => simp [intOf]; omega
      · have HU : Hid (Bis (pOne us a) m b i h) := HB.out.down HF.out hij.1 hij.2 (by rw [HY.out.2]; exact decide_eq_false hxy)
        rw [decide_eq_false hxy]
        clear hxy
        go_wp2_with (fail)
        go_roundw
        case rel => exact ⟨i, h, rfl, rfl, HU, H4.out⟩
        case measure => simp [intOf]; omega
    · obtain rfl : i = j := by omega
      obtain ⟨d, hd⟩ : ∃ d, i - m = d := ⟨_, rfl⟩
      have hdi : i = a + 1 + d := by omega
      have si : (i : Int) - 1 = ((a + d : Nat) : Int) := by omega
      have HD : Hid (d ≤ Y.length ∧ a = P.length ∧ (∀ z ∈ Y.take d, z.fid ≤ x.fid) ∧ ∀ z ∈ Y.drop d, x.fid ≤ z.fid) := by
        have h1 := HS.out.2.2.1
        have h2 := HS.out.2.2.2.1
        have h3 := HS.out.2.2.2.2.1
        refine ⟨by omega, h1, fun z hz => ?_, fun z hz => ?_⟩
        · obtain ⟨k, q1, q2, q3, q4⟩ := mem_Y (P := P) (X := [x]) (Y := Y) (R := R) hz
          rw [← HS.out.2.1] at q4
          have := HB.out.2.2.2.1 k (by simp at q1; omega) (by simp at q2; omega)
          unfold pOne at this
          rw [fidAt_is q4, fidAt_is HX.out, decide_eq_true_eq] at this
          omega
        · obtain ⟨k, q1, q2, q4⟩ := mem_Y2 (P := P) (X := [x]) (Y := Y) (R := R) hz
          rw [← HS.out.2.1] at q4
          have := HB.out.2.2.2.2 k (by simp at q1; omega) (by simp at q2; omega)
          unfold pOne at this
          rw [fidAt_is q4, fidAt_is HX.out, decide_eq_false_iff_not] at this
          omega
      have HQ : Hid (SW w0 B g n c (P ++ (Y.take 0 ++ x :: (Y.drop 0 ++ R))) wk) := by
        have h := HJ.out
        rw [HS.out.2.1] at h
        show SW _ _ _ _ _ _ _
        simpa using h
      have hdb : a + 1 + d ≤ b := by omega
      subst hdi
      clear hd
      go_wp2_with (fail)
      go_loopw [13] (fun kv W => ∃ q : Nat, kv = .int .i64 ((a + q : Nat) : Int) ∧ q ≤ d ∧ SW w0 B g n c (P ++ (Y.take q ++ x :: (Y.drop q ++ R))) W) (fun kv _ => a + d - (intOf kv).toNat)
      case atStart => exact ⟨0, by go_num, Nat.zero_le _, HQ.out⟩
      case round =>
        obtain ⟨q, rfl, hqd, hsw⟩ := hrel
        rename World => wq
        have HK : Hid (SW w0 B g n c (P ++ (Y.take q ++ x :: (Y.drop q ++ R))) wq) := hsw
        clear hsw
        by_cases hlt2 : q < d
        · have hyl : q < Y.length := Nat.lt_of_lt_of_le hlt2 HD.out.1
          have ey : Y.drop q = Y[q] :: Y.drop (q + 1) := List.drop_eq_getElem_cons hyl
          have ty : Y.take (q + 1) = Y.take q ++ [Y[q]] := take_step (List.getElem?_eq_getElem hyl)
          obtain ⟨y, hy⟩ : ∃ y, Y[q] = y := ⟨_, rfl⟩
          rw [hy] at ey ty
          have e1 : P ++ (Y.take q ++ x :: (Y.drop q ++ R)) = (P ++ Y.take q) ++ x :: y :: (Y.drop (q + 1) ++ R) := by rw [ey]; simp only [List.append_assoc, List.cons_append]
          have l1 : (P ++ Y.take q).length = a + q := by rw [List.length_append, List.length_take, HD.out.2.1]; omega
          have HKQ : Hid (SW w0 B g n c ((P ++ Y.take q) ++ x :: y :: (Y.drop (q + 1) ++ R)) wq) := by show SW _ _ _ _ _ _ _; rw [← e1]; exact HK.out
          obtain ⟨aq, haq⟩ : ∃ aq, a + q = aq := ⟨_, rfl⟩
          rw [haq] at l1
          have HSW : Hid (SW w0 B g n c (P ++ (Y.take (q + 1) ++ x :: (Y.drop (q + 1) ++ R))) (put5 (put5 wq g (aq * 5) y) g ((aq + 1) * 5) x).drew) := by
            have e2 : P ++ (Y.take (q + 1) ++ x :: (Y.drop (q + 1) ++ R)) = swapAt ((P ++ Y.take q) ++ x :: y :: (Y.drop (q + 1) ++ R)) aq (aq + 1) x y := by
              rw [swap_up _ _ _ _ _ _ l1.symm (by omega), ty]
              simp only [List.append_assoc, List.cons_append, List.nil_append]
            show SW _ _ _ _ _ _ _
            rw [e2]
            exact (HKQ.out.swap (by omega) (by omega) x y).below (Below.refl _ _).drew
          obtain ⟨x0, x1, x2, x3, x4, xf, xz⟩ := HKQ.out.at_ (j := aq) (v := x) (by rw [List.getElem?_append_right (by omega), l1, Nat.sub_self]; rfl)
          obtain ⟨y0, y1, y2, y3, y4, _, _⟩ := HKQ.out.at_ (j := aq + 1) (v := y) (by rw [List.getElem?_append_right (by omega), l1, Nat.add_sub_cancel_left]; rfl)
          have hq1 : ((a + q : Nat) : Int) < ((a + d : Nat) : Int) := by omega
          have hqn : aq + 1 < n := by omega
          have hqn2 : aq < n := by omega
          have HG : Hid (a + q = aq) := haq
          rw [haq] at hq1 ⊢
          clear ey ty hy e1 l1 haq
          go_upto_region 11 with (fail)
          go_region
          all_goals
            go_wp2_with (fail)
            go_roundw
            case rel => exact ⟨q + 1, by have := HG.out; go_num, by omega, HSW.out⟩
            case measure => simp [intOf]; have := HG.out; omega
        · have hqe : q = d := by omega
          subst hqe
          have HE : Hid (∃ Z, Z.Perm ([x] ++ Y) ∧ Up Z ∧ SW w0 B g n c (P ++ (Z ++ R)) wq) := by
            obtain ⟨z1, z2⟩ := one_up HS.out.2.2.2.2.2 HD.out.2.2.1 HD.out.2.2.2
            refine ⟨_, z1, z2, ?_⟩
            have h := HK.out
            simpa using h
          clear HK HQ
          go_wp2_with (fail)
          refine bodyPost_ret (results_none rfl _ _ _) rfl ?_
          exact ⟨rfl, HE.out⟩
end Go.Proofs.Ytjpdoblmdchmkad
/-
  SORTING NODES: one is merged into a rising range ahead of it.
-/
namespace Go.Proofs.Ytjpdoblmdchmkad
open Go.RowKit

theorem swap_down (U V : List NV) (x y : NV) (i j : Nat) (hi : i = U.length + 1) (hj : j = U.length) : swapAt (U ++ y :: x :: V) i j x y = U ++ x :: y :: V := by
  subst hi hj
  exact swap_adj U V x y
theorem sub_one_nat (q : Nat) (h : 0 < q) : ∃ r, q = r + 1 := ⟨q - 1, by omega⟩
def VS2 (g : Nat) (n : Nat) (c : Nat) (aq : Nat) (hq : Nat) (x : NV) (y : NV) : Nat → Value → World → Prop
  | 0 => IsW (.func (.func 53) #[] #[])
  | 1 => IsW (.slice (some ⟨g, 0, none⟩) n c)
  | 2 => IsW (.int .i64 ((aq : Nat) : Int))
  | 3 => IsW (.pointer (some ⟨g, 0 + aq * 5, none⟩))
  | 4 => IsW (NV.val x)
  | 5 => IsW (.slice (some ⟨g, 0, none⟩) n c)
  | 6 => IsW (.int .i64 ((hq : Nat) : Int))
  | 7 => IsW (.pointer (some ⟨g, 0 + hq * 5, none⟩))
  | 8 => IsW (NV.val y)
  | 9 => IsW (.int .i64 (M.cmpI x.fid y.fid))
  | 10 => IsW (.bool (decide ((M.cmpI x.fid y.fid : Int) < (0 : Int))))
  | 11 => IsW (.bool (!(decide ((M.cmpI x.fid y.fid : Int) < (0 : Int)))))
  | _ => fun _ _ => True
theorem VS2_stays (g : Nat) (n : Nat) (c : Nat) (aq : Nat) (hq : Nat) (x : NV) (y : NV) : ∀ i, Stays (VS2 g n c aq hq x y i) := by
  intro i v W W' hb h
  match i, h with
  | 0, h => exact h
  | 1, h => exact h
  | 2, h => exact h
  | 3, h => exact h
  | 4, h => exact h
  | 5, h => exact h
  | 6, h => exact h
  | 7, h => exact h
  | 8, h => exact h
  | 9, h => exact h
  | 10, h => exact h
  | 11, h => exact h
  | k + 12, h => trivial
set_option maxRecDepth 8000 in
set_option maxHeartbeats 8000000 in
theorem symMerge2_any (w0 : World) (B g n c a m b : Nat) (P X R : List NV) (x : NV) (w : World) (hs : SW w0 B g n c (P ++ (X ++ ([x] ++ R))) w) (ha : a = P.length) (hm : m = P.length + X.length) (hb : b = P.length + X.length + 1) (hx : Up X) (hx1 : X.length ≠ 1) (hn : n ≤ 140737488355328) :
    Calls Try.prog 92 #[.slice (some ⟨g, 0, none⟩) n c, .int .i64 (a : Int), .int .i64 (m : Int), .int .i64 (b : Int), .func (.func 53) #[] #[]] w fun e w' => e = .returned (.tuple #[]) ∧ ∃ Z, Z.Perm (X ++ [x]) ∧ Up Z ∧ SW w0 B g n c (P ++ (Z ++ R)) w' := by
  obtain ⟨us, hus⟩ : ∃ us, us = P ++ (X ++ ([x] ++ R)) := ⟨_, rfl⟩
  obtain ⟨xl, hxl⟩ : ∃ q, X.length = q := ⟨_, rfl⟩
  have hlen : b ≤ n ∧ a ≤ m ∧ us.length ≤ n := by
    have h1 := hs.len
    have h2 := congrArg List.length hus
    simp at h1 h2
    omega
  have HS : Hid (SW w0 B g n c us w ∧ us = P ++ (X ++ ([x] ++ R)) ∧ a = P.length ∧ m = P.length + X.length ∧ X.length = xl ∧ Up X) := ⟨by rw [hus]; exact hs, hus, ha, hm, hxl, hx⟩
  have HX : Hid (us[m]? = some x) := by
    show _ = _
    rw [hus, hm]
    exact at_Q (X := X) (Y := [x]) (q := 0) rfl
  have HF : Hid (Falls (pTwo us m) a m) := by
    refine falls_two ?_
    rw [hus, ha, hm]
    exact upX (Y := [x]) hx
  have sma : ((m : Int) - (a : Int) == 1) = false := by simp; omega
  have smb : (b : Int) - (m : Int) = 1 := by omega
  have h0 : Hid (Bis (pTwo us m) a m a m) := Bis.start _ hlen.2.1
  have hmx : m < n ∧ a ≤ n := by omega
  clear hs ha hm hb hx hus hx1 hxl
  go_enter Try.func92, Try.ntmps92
  go_wp2_with (fail)
  go_loopw [14, 15] (fun iv jv W => ∃ i j : Nat, iv = .int .i64 (i : Int) ∧ jv = .int .i64 (j : Int) ∧ Hid (Bis (pTwo us m) a m i j) ∧ SW w0 B g n c us W) (fun iv jv _ => (intOf jv).toNat - (intOf iv).toNat)
  case atStart => exact ⟨a, m, rfl, rfl, h0, HS.out.1⟩
  case round =>
    obtain ⟨i, j, rfl, rfl, HB, hsw⟩ := hrel
    rename World => wk
    have HJ : Hid (SW w0 B g n c us wk) := hsw
    clear hsw
    have hbb : a ≤ i ∧ i ≤ j ∧ j ≤ m := ⟨HB.out.1, HB.out.2.1, HB.out.2.2.1⟩
    by_cases hlt : i < j
    · obtain ⟨h, hh⟩ : ∃ h, (i + j) / 2 = h := ⟨_, rfl⟩
      have hij : i ≤ h ∧ h < j := by omega
      have hhn : h < n := by omega
      have han : m < n := hmx.1
      have sh : ((i : Int) + (j : Int)) / 2 = (h : Int) := by omega
      obtain ⟨y, hy⟩ : ∃ y, us[h]? = some y := by
        refine ⟨_, List.getElem?_eq_getElem ?_⟩
        have h1 := HJ.out.len
        omega
      have HY : Hid (us[h]? = some y ∧ pTwo us m h = !decide (x.fid < y.fid)) := ⟨hy, by unfold pTwo; rw [fidAt_is hy, fidAt_is HX.out]⟩
      clear hy
      go_upto_region 17 with (fail)
      clear hh
      go_cut [103] from 92 to 103 (fun t W => t = .bool (!decide (x.fid < y.fid)) ∧ SW w0 B g n c us W)
      case first =>
        have HVX : ∀ W, Below wk.drew.heap.size wk.drew W → NodeAt W g (0 + m * 5) x := fun W hb => (HJ.out.below ((Below.refl _ _).drew.trans hb)).node HX.out
        have HVY : ∀ W, Below wk.drew.heap.size wk.drew W → NodeAt W g (0 + h * 5) y := fun W hb => (HJ.out.below ((Below.refl _ _).drew.trans hb)).node HY.out.1
        refine wp_region_vals (VS2 g n c m h x y) (by kernel_rfl) (by kernel_rfl) (VS2_stays g n c m h x y) ?_ ?_
        · intro j hj
          match j, hj with
          | 0, _ =>
            refine StepAt.by rfl fun a' W hf hb hd => ?_
            exact .inl ⟨want_none, does_move ((hf.keeps 4 (by kernel_rfl)).trans rfl) ⟨Below.refl _ _, rfl⟩⟩
          | 1, _ =>
            refine StepAt.by rfl fun a' W hf hb hd => ?_
            exact .inl ⟨want_none, does_move ((hf.keeps 0 (by kernel_rfl)).trans rfl) ⟨Below.refl _ _, rfl⟩⟩
          | 2, _ =>
            refine StepAt.by rfl fun a' W hf hb hd => ?_
            exact .inl ⟨want_none, does_move ((hf.keeps 2 (by kernel_rfl)).trans rfl) ⟨Below.refl _ _, rfl⟩⟩
          | 3, _ =>
            refine StepAt.by rfl fun a' W hf hb hd => ?_
            exact .inl ⟨want_none, does_run (run_indexN (hd 1 (by kernel_rfl)) (hd 2 (by kernel_rfl)) (by omega)) ⟨Below.refl _ _, rfl⟩⟩
          | 4, _ =>
            refine StepAt.by rfl fun a' W hf hb hd => ?_
            exact .inl ⟨want_none, does_run (run_loadNd (hd 3 (by kernel_rfl)) (HVX W hb)) ⟨Below.refl _ _, rfl⟩⟩
          | 5, _ =>
            refine StepAt.by rfl fun a' W hf hb hd => ?_
            exact .inl ⟨want_none, does_move ((hf.keeps 0 (by kernel_rfl)).trans rfl) ⟨Below.refl _ _, rfl⟩⟩
          | 6, _ =>
            refine StepAt.by rfl fun a' W hf hb hd => ?_
            exact .inl ⟨want_none, does_move ((hf.keeps 16 (by kernel_rfl)).trans rfl) ⟨Below.refl _ _, rfl⟩⟩
          | 7, _ =>
            refine StepAt.by rfl fun a' W hf hb hd => ?_
            exact .inl ⟨want_none, does_run (run_indexN (hd 5 (by kernel_rfl)) (hd 6 (by kernel_rfl)) (by omega)) ⟨Below.refl _ _, rfl⟩⟩
          | 8, _ =>
            refine StepAt.by rfl fun a' W hf hb hd => ?_
            exact .inl ⟨want_none, does_run (run_loadNd (hd 7 (by kernel_rfl)) (HVY W hb)) ⟨Below.refl _ _, rfl⟩⟩
          | 9, _ =>
            refine StepAt.by rfl fun a' W hf hb hd => ?_
            refine .inl ⟨want_none, ?_⟩
            exact does_callV2 (enters_of Try.func53 (by kernel_rfl) (by kernel_rfl)) (hd 0 (by kernel_rfl)) (hd 4 (by kernel_rfl)) (hd 8 (by kernel_rfl)) ((cmpN_any x y W).mono fun e W2 ⟨he, hb2⟩ => ⟨_, he, hb2, rfl⟩)
          | 10, _ =>
            refine StepAt.by rfl fun a' W hf hb hd => ?_
            exact .inl ⟨want_none, does_run (run_lssI (hd 9 (by kernel_rfl)) rfl) ⟨Below.refl _ _, rfl⟩⟩
          | 11, _ =>
            refine StepAt.by rfl fun a' W hf hb hd => ?_
            exact .inl ⟨want_none, does_not (hd 10 (by kernel_rfl)) ⟨Below.refl _ _, rfl⟩⟩
          | k + 12, hi => exact absurd hi (Nat.not_lt.2 (Nat.le_add_left _ _))
        · intro a' W hf hb hv
          have hlast : a'.eval (.tmp 103) = .bool (!(decide (M.cmpI x.fid y.fid < 0))) := hv 11 (by decide)
          have hl := hf.lit (fun t => decide (92 ≤ t) && decide (t ≤ 103)) (by kernel_rfl)
          simp only [overL, Nat.reduceAdd, Nat.reduceLeDiff, decide_true, decide_false, Bool.and_true, Bool.and_false] at hl
          rw [hl]
          clear hl
          go_wp2_with (fail)
          go_meet
          case rel => exact ⟨hlast.trans (congrArg Value.bool (by rw [cmpI_ltN])), (HJ.out.below hb)⟩
      obtain ⟨rfl, hsw⟩ := hcut
      rename World => w4
      have H4 : Hid (SW w0 B g n c us w4) := hsw
      clear hsw
      by_cases hxy : x.fid < y.fid
      · have HU : Hid (Bis (pTwo us m) a m i h) := HB.out.down HF.out hij.1 hij.2 (by rw [HY.out.2, decide_eq_true hxy]; rfl)
        rw [show (!decide (x.fid < y.fid)) = false by rw [decide_eq_true hxy]; rfl]
        clear hxy
        go_wp2_with (fail)
        go_roundw
        case rel => exact ⟨i, h, rfl, rfl, HU, H4.out⟩
        case measure => simp [intOf]; omega
      · have HU : Hid (Bis (pTwo us m) a m (h + 1) j) := HB.out.up HF.out hij.1 hij.2 (by rw [HY.out.2, decide_eq_false hxy]; rfl)
        rw [show (!decide (x.fid < y.fid)) = true by rw [decide_eq_false hxy]; rfl]
        clear hxy
        go_wp2_with (fail)
        go_roundw
        case rel => exact ⟨h + 1, j, by go_num, rfl, HU, H4.out⟩
        case measure => simp [intOf]; omega
    · obtain rfl : i = j := by omega
      obtain ⟨d, hd⟩ : ∃ d, i - a = d := ⟨_, rfl⟩
      have hdi : i = a + d := by omega
      have HD : Hid (d ≤ X.length ∧ a = P.length ∧ (∀ z ∈ X.take d, z.fid ≤ x.fid) ∧ ∀ z ∈ X.drop d, x.fid ≤ z.fid) := by
        have h1 := HS.out.2.2.1
        have h2 := HS.out.2.2.2.1
        refine ⟨by omega, h1, fun z hz => ?_, fun z hz => ?_⟩
        · obtain ⟨k, q1, q2, q3, q4⟩ := mem_X (P := P) (X := X) (Y := [x]) (R := R) hz
          rw [← HS.out.2.1] at q4
          have := HB.out.2.2.2.1 k (by omega) (by omega)
          unfold pTwo at this
          rw [fidAt_is q4, fidAt_is HX.out, Bool.not_eq_true', decide_eq_false_iff_not] at this
          omega
        · obtain ⟨k, q1, q2, q4⟩ := mem_X2 (P := P) (X := X) (Y := [x]) (R := R) hz
          rw [← HS.out.2.1] at q4
          have := HB.out.2.2.2.2 k (by omega) (by omega)
          unfold pTwo at this
          rw [fidAt_is q4, fidAt_is HX.out, Bool.not_eq_false', decide_eq_true_eq] at this
          omega
      have HQ : Hid (SW w0 B g n c (P ++ (X.take X.length ++ x :: (X.drop X.length ++ R))) wk ∧ m = a + X.length ∧ m < n) := by
        have h := HJ.out
        rw [HS.out.2.1] at h
        refine ⟨?_, by rw [HS.out.2.2.2.1, HS.out.2.2.1], hmx.1⟩
        simpa using h
      subst hdi
      clear hd
      go_wp2_with (fail)
      go_loopw [17] (fun kv W => ∃ q : Nat, kv = .int .i64 ((a + q : Nat) : Int) ∧ Hid (d ≤ q ∧ q ≤ X.length ∧ SW w0 B g n c (P ++ (X.take q ++ x :: (X.drop q ++ R))) W)) (fun kv _ => (intOf kv).toNat - (a + d))
      case atStart => exact ⟨X.length, by rw [HQ.out.2.1], HD.out.1, Nat.le_refl _, HQ.out.1⟩
      case round =>
        obtain ⟨q, rfl, HK⟩ := hrel
        rename World => wq
        by_cases hlt2 : d < q
        · obtain ⟨r, rfl⟩ := sub_one_nat q (by omega)
          have hxr : r < X.length := HK.out.2.1
          have ex : X.drop r = X[r] :: X.drop (r + 1) := List.drop_eq_getElem_cons hxr
          have tx : X.take (r + 1) = X.take r ++ [X[r]] := take_step (List.getElem?_eq_getElem hxr)
          obtain ⟨y, hy⟩ : ∃ y, X[r] = y := ⟨_, rfl⟩
          rw [hy] at ex tx
          have e1 : P ++ (X.take (r + 1) ++ x :: (X.drop (r + 1) ++ R)) = (P ++ X.take r) ++ y :: x :: (X.drop (r + 1) ++ R) := by rw [tx]; simp only [List.append_assoc, List.cons_append, List.nil_append]
          have l1 : (P ++ X.take r).length = a + r := by rw [List.length_append, List.length_take, HD.out.2.1]; omega
          have HKQ : Hid (SW w0 B g n c ((P ++ X.take r) ++ y :: x :: (X.drop (r + 1) ++ R)) wq) := by show SW _ _ _ _ _ _ _; rw [← e1]; exact HK.out.2.2
          have hmn := HQ.out.2
          obtain ⟨ar, har⟩ : ∃ ar, a + r = ar := ⟨_, rfl⟩
          have hrn : ar + 1 < n := by omega
          have hrn2 : ar < n := by omega
          rw [har] at l1
          have HSW : Hid (SW w0 B g n c (P ++ (X.take r ++ x :: (X.drop r ++ R))) (put5 (put5 wq g ((ar + 1) * 5) y) g (ar * 5) x).drew) := by
            have e2 : P ++ (X.take r ++ x :: (X.drop r ++ R)) = swapAt ((P ++ X.take r) ++ y :: x :: (X.drop (r + 1) ++ R)) (ar + 1) ar x y := by
              rw [swap_down _ _ _ _ _ _ (by omega) l1.symm, ex]
              simp only [List.append_assoc, List.cons_append]
            show SW _ _ _ _ _ _ _
            rw [e2]
            exact (HKQ.out.swap hrn hrn2 x y).below (Below.refl _ _).drew
          obtain ⟨x0, x1, x2, x3, x4, xf, xz⟩ := HKQ.out.at_ (j := ar + 1) (v := x) (by rw [List.getElem?_append_right (by omega), l1, Nat.add_sub_cancel_left]; rfl)
          obtain ⟨y0, y1, y2, y3, y4, _, _⟩ := HKQ.out.at_ (j := ar) (v := y) (by rw [List.getElem?_append_right (by omega), l1, Nat.sub_self]; rfl)
          have HG : Hid (a + r = ar) := har
          have haq : a + (r + 1) = ar + 1 := by omega
          have hq1 : ((a + d : Nat) : Int) < ((ar + 1 : Nat) : Int) := by omega
          rw [haq]
          clear ex tx hy e1 l1 har haq hmn
          go_upto_region 23 with (fail)
          go_region
          all_goals
            go_wp2_with (fail)
            go_roundw
            case rel => exact ⟨r, by have := HG.out; go_num, by show d ≤ r; omega, Nat.le_of_succ_le HK.out.2.1, HSW.out⟩
            case measure => simp [intOf]; have := HG.out; omega
        · have hqe : q = d := Nat.le_antisymm (by omega) HK.out.1
          subst hqe
          have HE : Hid (∃ Z, Z.Perm (X ++ [x]) ∧ Up Z ∧ SW w0 B g n c (P ++ (Z ++ R)) wq) := by
            obtain ⟨z1, z2⟩ := one_up HS.out.2.2.2.2.2 HD.out.2.2.1 HD.out.2.2.2
            refine ⟨_, z1.trans (List.perm_append_singleton x X).symm, z2, ?_⟩
            have h := HK.out.2.2
            simpa using h
          clear HK HQ
          go_wp2_with (fail)
          refine bodyPost_ret (results_none rfl _ _ _) rfl ?_
          exact ⟨rfl, HE.out⟩
end Go.Proofs.Ytjpdoblmdchmkad
/-
  SORTING NODES: two rising ranges are merged.
-/
namespace Go.Proofs.Ytjpdoblmdchmkad
open Go.RowKit

theorem perm4 (A B C D : List NV) : (A ++ C ++ (B ++ D)).Perm (A ++ B ++ (C ++ D)) := by
  simp only [List.append_assoc]
  refine List.Perm.append_left A ?_
  rw [← List.append_assoc, ← List.append_assoc]
  exact List.Perm.append_right D List.perm_append_comm
theorem no_turn {P X Y R : List NV} {d e : Nat} (h : X.length ≤ d ∨ e = 0) : P ++ (X.take d ++ (Y.take e ++ (X.drop d ++ (Y.drop e ++ R)))) = P ++ (X ++ (Y ++ R)) := by
  rcases h with h | rfl
  · rw [List.take_of_length_le h, List.drop_eq_nil_of_le h, List.nil_append, ← List.append_assoc (Y.take e), List.take_append_drop]
  · rw [List.take_zero, List.nil_append, List.drop_zero, ← List.append_assoc (X.take d), List.take_append_drop]
theorem take_turn {P X Y R : List NV} {d e : Nat} : (P ++ X.take d) ++ (X.drop d ++ (Y.take e ++ (Y.drop e ++ R))) = P ++ (X ++ (Y ++ R)) := by
  rw [List.append_assoc, ← List.append_assoc (X.take d), List.take_append_drop, ← List.append_assoc (Y.take e), List.take_append_drop]
/-- what is left to be merged: two halves, all of the first ahead of all of the second -/
def Halves (us P X Y R : List NV) (d e : Nat) : Prop := us = P ++ (X ++ (Y ++ R)) ∧ d ≤ X.length ∧ e ≤ Y.length ∧ Up X ∧ Up Y ∧ (∀ x ∈ X.take d, ∀ y ∈ Y.drop e, x.fid ≤ y.fid) ∧ ∀ y ∈ Y.take e, ∀ x ∈ X.drop d, y.fid ≤ x.fid
theorem halves_of {us P X Y R : List NV} {st r0 md s : Nat} (hus : us = P ++ (X ++ (Y ++ R))) (hx : Up X) (hy : Up Y) (hmd : (P.length + (P.length + X.length + Y.length)) / 2 = md) (hx2 : 2 ≤ X.length) (hy2 : 2 ≤ Y.length)
    (hst : (md < P.length + X.length ∧ st = md + (P.length + X.length) - (P.length + X.length + Y.length) ∧ r0 = md) ∨ (¬ md < P.length + X.length ∧ st = P.length ∧ r0 = P.length + X.length)) (hb : Bis (pAll us (md + (P.length + X.length) - 1)) st r0 s s) :
    Halves us P X Y R (s - P.length) (md - s) ∧ P.length ≤ s ∧ s ≤ P.length + X.length ∧ s ≤ md ∧ md + (P.length + X.length) - s ≤ P.length + X.length + Y.length := by
  have hb2 := hb.1
  have hb3 := hb.2.2.1
  have ux : UpOn us P.length (P.length + X.length) := by rw [hus]; exact upX hx
  have uy : UpOn us (P.length + X.length) (P.length + X.length + Y.length) := by rw [hus]; exact upY hy
  have hs1 : P.length ≤ s ∧ s ≤ P.length + X.length ∧ s ≤ md ∧ md + (P.length + X.length) - s ≤ P.length + X.length + Y.length := by
    have h3 := hb.2.1
    omega
  refine ⟨⟨hus, by omega, by omega, hx, hy, ?_, ?_⟩, hs1⟩
  · intro x hxm y hym
    obtain ⟨k, k1, k2, k3, k4⟩ := mem_X (P := P) (Y := Y) (R := R) hxm
    obtain ⟨l, l1, l2, l3⟩ := mem_Y2 (P := P) (X := X) (R := R) hym
    rw [← hus] at k4 l3
    have e1 := ux k (s - 1) k1 (by omega) (by omega)
    have e2 := uy (md + (P.length + X.length) - s) l (by omega) (by omega) l2
    have e3 := hb.2.2.2.1 (s - 1) (by omega) (by omega)
    simp only [pAll, Bool.not_eq_true', decide_eq_false_iff_not] at e3
    rw [show md + (P.length + X.length) - 1 - (s - 1) = md + (P.length + X.length) - s by omega] at e3
    rw [fidAt_is k4] at e1
    rw [fidAt_is l3] at e2
    omega
  · intro y hym x hxm
    obtain ⟨k, k1, k2, k4⟩ := mem_X2 (P := P) (Y := Y) (R := R) hxm
    obtain ⟨l, l1, l2, l3, l4⟩ := mem_Y (P := P) (X := X) (R := R) hym
    rw [← hus] at k4 l4
    have e1 := ux s k (by omega) (by omega) k2
    have e2 := uy l (md + (P.length + X.length) - s - 1) l1 (by omega) (by omega)
    have e3 := hb.2.2.2.2 s (Nat.le_refl _) (by omega)
    simp only [pAll, Bool.not_eq_false', decide_eq_true_eq] at e3
    rw [show md + (P.length + X.length) - 1 - s = md + (P.length + X.length) - s - 1 by omega] at e3
    rw [fidAt_is k4] at e1
    rw [fidAt_is l4] at e2
    omega
theorem halves_end {us P X Y R Z1 Z2 : List NV} {d e : Nat} (h : Halves us P X Y R d e) (p1 : Z1.Perm (X.take d ++ Y.take e)) (u1 : Up Z1) (p2 : Z2.Perm (X.drop d ++ Y.drop e)) (u2 : Up Z2) : (Z1 ++ Z2).Perm (X ++ Y) ∧ Up (Z1 ++ Z2) := by
  obtain ⟨_, _, _, hx, hy, h1, h2⟩ := h
  constructor
  · have h3 := (p1.append p2).trans (perm4 (X.take d) (X.drop d) (Y.take e) (Y.drop e))
    rw [List.take_append_drop, List.take_append_drop] at h3
    exact h3
  · refine up_app.2 ⟨u1, u2, fun a ha b hb => ?_⟩
    have ha' := p1.mem_iff.1 ha
    have hb' := p2.mem_iff.1 hb
    rcases List.mem_append.1 ha' with ha' | ha' <;> rcases List.mem_append.1 hb' with hb' | hb'
    · have : Up (X.take d ++ X.drop d) := by rw [List.take_append_drop]; exact hx
      exact (up_app.1 this).2.2 a ha' b hb'
    · exact h1 a ha' b hb'
    · exact h2 a ha' b hb'
    · have : Up (Y.take e ++ Y.drop e) := by rw [List.take_append_drop]; exact hy
      exact (up_app.1 this).2.2 a ha' b hb'
def VS3 (g : Nat) (n : Nat) (c : Nat) (pq : Nat) (cq : Nat) (pcq : Nat) (x : NV) (y : NV) : Nat → Value → World → Prop
  | 0 => IsW (.func (.func 53) #[] #[])
  | 1 => IsW (.slice (some ⟨g, 0, none⟩) n c)
  | 2 => IsW (.int .i64 ((pq : Nat) : Int))
  | 3 => IsW (.int .i64 ((cq : Nat) : Int))
  | 4 => IsW (.int .i64 ((pcq : Nat) : Int))
  | 5 => IsW (.pointer (some ⟨g, 0 + pcq * 5, none⟩))
  | 6 => IsW (NV.val y)
  | 7 => IsW (.slice (some ⟨g, 0, none⟩) n c)
  | 8 => IsW (.int .i64 ((cq : Nat) : Int))
  | 9 => IsW (.pointer (some ⟨g, 0 + cq * 5, none⟩))
  | 10 => IsW (NV.val x)
  | 11 => IsW (.int .i64 (M.cmpI y.fid x.fid))
  | 12 => IsW (.bool (decide ((M.cmpI y.fid x.fid : Int) < (0 : Int))))
  | 13 => IsW (.bool (!(decide ((M.cmpI y.fid x.fid : Int) < (0 : Int)))))
  | _ => fun _ _ => True
theorem VS3_stays (g : Nat) (n : Nat) (c : Nat) (pq : Nat) (cq : Nat) (pcq : Nat) (x : NV) (y : NV) : ∀ i, Stays (VS3 g n c pq cq pcq x y i) := by
  intro i v W W' hb h
  match i, h with
  | 0, h => exact h
  | 1, h => exact h
  | 2, h => exact h
  | 3, h => exact h
  | 4, h => exact h
  | 5, h => exact h
  | 6, h => exact h
  | 7, h => exact h
  | 8, h => exact h
  | 9, h => exact h
  | 10, h => exact h
  | 11, h => exact h
  | 12, h => exact h
  | 13, h => exact h
  | k + 14, h => trivial
set_option maxRecDepth 8000 in
set_option maxHeartbeats 16000000 in
theorem symMerge_step (N : Nat) (ih : ∀ (w0 : World) (B g n c a m b : Nat) (P X Y R : List NV) (w : World), X.length + Y.length ≤ N → SW w0 B g n c (P ++ (X ++ (Y ++ R))) w → a = P.length → m = P.length + X.length → b = P.length + X.length + Y.length → 0 < X.length → 0 < Y.length → Up X → Up Y → n ≤ 140737488355328 →
    Calls Try.prog 92 #[.slice (some ⟨g, 0, none⟩) n c, .int .i64 (a : Int), .int .i64 (m : Int), .int .i64 (b : Int), .func (.func 53) #[] #[]] w fun e w' => e = .returned (.tuple #[]) ∧ ∃ Z, Z.Perm (X ++ Y) ∧ Up Z ∧ SW w0 B g n c (P ++ (Z ++ R)) w') (w0 : World) (B g n c a m b : Nat) (P X Y R : List NV) (w : World) (hN : X.length + Y.length ≤ N + 1) (hs : SW w0 B g n c (P ++ (X ++ (Y ++ R))) w) (ha : a = P.length) (hm : m = P.length + X.length) (hb : b = P.length + X.length + Y.length) (hx0 : 0 < X.length) (hy0 : 0 < Y.length) (hx : Up X) (hy : Up Y) (hn : n ≤ 140737488355328) :
    Calls Try.prog 92 #[.slice (some ⟨g, 0, none⟩) n c, .int .i64 (a : Int), .int .i64 (m : Int), .int .i64 (b : Int), .func (.func 53) #[] #[]] w fun e w' => e = .returned (.tuple #[]) ∧ ∃ Z, Z.Perm (X ++ Y) ∧ Up Z ∧ SW w0 B g n c (P ++ (Z ++ R)) w' := by
  by_cases hx1 : X.length = 1
  · obtain ⟨x, rfl⟩ := List.length_eq_one_iff.1 hx1
    exact symMerge1_any w0 B g n c a m b P Y R x w hs ha hm hb hy hn
  by_cases hy1 : Y.length = 1
  · obtain ⟨y, rfl⟩ := List.length_eq_one_iff.1 hy1
    exact symMerge2_any w0 B g n c a m b P X R y w hs ha hm hb hx hx1 hn
  have IH : Hid (∀ (w0 : World) (B g n c a m b : Nat) (P X Y R : List NV) (w : World), X.length + Y.length ≤ N → SW w0 B g n c (P ++ (X ++ (Y ++ R))) w → a = P.length → m = P.length + X.length → b = P.length + X.length + Y.length → 0 < X.length → 0 < Y.length → Up X → Up Y → n ≤ 140737488355328 →
    Calls Try.prog 92 #[.slice (some ⟨g, 0, none⟩) n c, .int .i64 (a : Int), .int .i64 (m : Int), .int .i64 (b : Int), .func (.func 53) #[] #[]] w fun e w' => e = .returned (.tuple #[]) ∧ ∃ Z, Z.Perm (X ++ Y) ∧ Up Z ∧ SW w0 B g n c (P ++ (Z ++ R)) w') := ih
  obtain ⟨us, hus⟩ : ∃ us, us = P ++ (X ++ (Y ++ R)) := ⟨_, rfl⟩
  obtain ⟨md, hmd⟩ : ∃ md, (a + b) / 2 = md := ⟨_, rfl⟩
  obtain ⟨np, hnp⟩ : ∃ np, md + m = np := ⟨_, rfl⟩
  obtain ⟨pn, hpn⟩ : ∃ pn, np - 1 = pn := ⟨_, rfl⟩
  obtain ⟨st, hst⟩ : ∃ st, (if md < m then np - b else a) = st := ⟨_, rfl⟩
  obtain ⟨r0, hr0⟩ : ∃ r0, (if md < m then md else m) = r0 := ⟨_, rfl⟩
  have hlen : b ≤ n ∧ us.length ≤ n := by
    have h1 := hs.len
    have h2 := congrArg List.length hus
    simp at h1 h2
    omega
  have hor : (md < m ∧ st = np - b ∧ r0 = md) ∨ (¬ md < m ∧ st = a ∧ r0 = m) := by
    by_cases h : md < m
    · rw [if_pos h] at hst hr0
      exact .inl ⟨h, hst.symm, hr0.symm⟩
    · rw [if_neg h] at hst hr0
      exact .inr ⟨h, hst.symm, hr0.symm⟩
  have hnum : a ≤ st ∧ st ≤ r0 ∧ r0 ≤ m ∧ a < md ∧ md < b ∧ np ≤ n + n ∧ 0 < pn := by omega
  have hpk : ∀ k, st ≤ k → k < r0 → m ≤ pn - k ∧ pn - k < b ∧ k ≤ pn := by omega
  have HS : Hid (SW w0 B g n c us w ∧ us = P ++ (X ++ (Y ++ R)) ∧ a = P.length ∧ m = P.length + X.length ∧ b = P.length + X.length + Y.length ∧ Up X ∧ Up Y ∧ X.length + Y.length ≤ N + 1) := ⟨by rw [hus]; exact hs, hus, ha, hm, hb, hx, hy, hN⟩
  have HF : Hid (Falls (pAll us pn) st r0) := by
    refine falls_all (s := a) (t := m) (a := m) (b := b) ?_ ?_ hnum.1 hnum.2.2.1 (fun k h1 h2 => ⟨(hpk k h1 h2).1, (hpk k h1 h2).2.1⟩)
    · rw [hus, ha, hm]; exact upX hx
    · rw [hus, hm, hb]; exact upY hy
  have HV : Hid (∀ s, Bis (pAll us pn) st r0 s s → Halves us P X Y R (s - a) (md - s) ∧ a ≤ s ∧ s ≤ m ∧ s ≤ md ∧ np - s ≤ b) := by
    intro s hbs
    subst ha hm hb hnp hpn
    exact halves_of hus hx hy hmd (by omega) (by omega) hor hbs
  have HPK : Hid (∀ k, st ≤ k → k < r0 → m ≤ pn - k ∧ pn - k < b ∧ k ≤ pn) := hpk
  have HOR : Hid ((md < m ∧ st = np - b ∧ r0 = md) ∨ (¬ md < m ∧ st = a ∧ r0 = m)) := hor
  have HN : Hid (md + m = np ∧ np - 1 = pn ∧ a < md ∧ md < b ∧ m < b ∧ a < m) := ⟨hnp, hpn, hnum.2.2.2.1, hnum.2.2.2.2.1, by omega, by omega⟩
  have h0 : Hid (Bis (pAll us pn) st r0 st r0) := Bis.start _ hnum.2.1
  obtain ⟨xl, hxl⟩ : ∃ xl, m - a = xl := ⟨_, rfl⟩
  obtain ⟨yl, hyl⟩ : ∃ yl, b - m = yl := ⟨_, rfl⟩
  have sma : (m : Int) - (a : Int) = (xl : Int) := by omega
  have smb : (b : Int) - (m : Int) = (yl : Int) := by omega
  have sx1 : ((xl : Int) == 1) = false := by simp; omega
  have sy1 : ((yl : Int) == 1) = false := by simp; omega
  have bnds : xl ≤ n ∧ yl ≤ n ∧ m ≤ n ∧ a ≤ n ∧ md ≤ n ∧ np ≤ n + n ∧ pn ≤ n + n := by omega
  obtain ⟨bn1, bn2, bn3, bn4, bn5, bn6, bn7⟩ := bnds
  have smd : ((a : Int) + (b : Int)) / 2 = (md : Int) := by omega
  have snp : (md : Int) + (m : Int) = (np : Int) := by omega
  have spn : (np : Int) - 1 = (pn : Int) := by omega
  have hbn := hlen.1
  have hul := hlen.2
  obtain ⟨bM, hbM⟩ : ∃ bM, decide (md < m) = bM := ⟨_, rfl⟩
  have HBM : Hid (decide (md < m) = bM) := hbM
  clear ih hs ha hm hb hx hy hus hx1 hy1 hx0 hy0 hN hst hr0 hor hnp hpn hlen hpk hnum hxl hyl
  go_enter Try.func92, Try.ntmps92
  go_upto_if 140 with (fail)
  go_cut [20, 21] from 141 to 146 (fun x y W => x = .int .i64 (st : Int) ∧ y = .int .i64 (r0 : Int) ∧ W = w)
  case first =>
    cases bM
    · have hno : ¬ md < m := by have h := HBM.out; simp at h; omega
      have hI : ¬ (md : Int) < (m : Int) := by omega
      have e1 : st = a ∧ r0 = m := by
        rcases HOR.out with ⟨h, _⟩ | ⟨_, h⟩
        · exact absurd h hno
        · exact h
      have HE : Hid (st = a ∧ r0 = m) := e1
      clear e1 hno
      go_wp2_with (fail)
      go_meet
      case rel => exact ⟨by rw [HE.out.1], by rw [HE.out.2], rfl⟩
    · have hyes : md < m := by have h := HBM.out; simp at h; exact h
      have hI : (md : Int) < (m : Int) := by omega
      have e1 : st = np - b ∧ r0 = md := by
        rcases HOR.out with ⟨_, h⟩ | ⟨h, _⟩
        · exact h
        · exact absurd hyes h
      have HE : Hid (r0 = md) := e1.2
      have hn1 := HN.out
      have snb : (np : Int) - (b : Int) = (st : Int) := by have h1 := e1.1; omega
      have hstn : st ≤ n + n := by have h1 := e1.1; omega
      clear e1 hyes hn1
      go_wp2_with (fail)
      go_meet
      case rel => exact ⟨rfl, by rw [HE.out], rfl⟩
  obtain ⟨rfl, rfl, rfl⟩ := hcut
  clear hbM
  rename World => wc
  go_wp2_with (fail)
  go_loopw [20, 21] (fun iv jv W => ∃ i j : Nat, iv = .int .i64 (i : Int) ∧ jv = .int .i64 (j : Int) ∧ Hid (Bis (pAll us pn) st r0 i j) ∧ SW w0 B g n c us W) (fun iv jv _ => (intOf jv).toNat - (intOf iv).toNat)
  case atStart => exact ⟨st, r0, rfl, rfl, h0, HS.out.1⟩
  case round =>
    obtain ⟨i, j, rfl, rfl, HB, hsw⟩ := hrel
    rename World => wk
    have HJ : Hid (SW w0 B g n c us wk) := hsw
    clear hsw
    have hbb : st ≤ i ∧ i ≤ j ∧ j ≤ r0 := ⟨HB.out.1, HB.out.2.1, HB.out.2.2.1⟩
    have hrm : r0 ≤ n := by
      have h1 := HOR.out
      omega
    by_cases hlt : i < j
    · obtain ⟨h, hh⟩ : ∃ h, (i + j) / 2 = h := ⟨_, rfl⟩
      have hij : i ≤ h ∧ h < j := by omega
      have hk := HPK.out h (by omega) (by omega)
      obtain ⟨pc, hpc⟩ : ∃ pc, pn - h = pc := ⟨_, rfl⟩
      rw [hpc] at hk
      have HPC : Hid (pn - h = pc) := hpc
      have hhp : h ≤ pn := hk.2.2
      have hhn : h < n := by omega
      have hpn : pc < n := by omega
      have sh : ((i : Int) + (j : Int)) / 2 = (h : Int) := by omega
      obtain ⟨x, hx⟩ : ∃ x, us[h]? = some x := by
        refine ⟨_, List.getElem?_eq_getElem ?_⟩
        have h1 := HJ.out.len
        omega
      obtain ⟨y, hy⟩ : ∃ y, us[pc]? = some y := by
        refine ⟨_, List.getElem?_eq_getElem ?_⟩
        have h1 := HJ.out.len
        omega
      have HY : Hid (us[h]? = some x ∧ us[pc]? = some y ∧ pAll us pn h = !decide (y.fid < x.fid)) := ⟨hx, hy, by unfold pAll; rw [hpc, fidAt_is hy, fidAt_is hx]⟩
      clear hx hy hk hpc
      go_upto_region 35 with (fail)
      clear hh
      go_cut [171] from 158 to 171 (fun t W => t = .bool (!decide (y.fid < x.fid)) ∧ SW w0 B g n c us W)
      case first =>
        have HVX : ∀ W, Below wk.drew.heap.size wk.drew W → NodeAt W g (0 + h * 5) x := fun W hb => (HJ.out.below ((Below.refl _ _).drew.trans hb)).node HY.out.1
        have HVY : ∀ W, Below wk.drew.heap.size wk.drew W → NodeAt W g (0 + pc * 5) y := fun W hb => (HJ.out.below ((Below.refl _ _).drew.trans hb)).node HY.out.2.1
        refine wp_region_vals (VS3 g n c pn h pc x y) (by kernel_rfl) (by kernel_rfl) (VS3_stays g n c pn h pc x y) ?_ ?_
        · intro j hj
          match j, hj with
          | 0, _ =>
            refine StepAt.by rfl fun a' W hf hb hd => ?_
            exact .inl ⟨want_none, does_move ((hf.keeps 4 (by kernel_rfl)).trans rfl) ⟨Below.refl _ _, rfl⟩⟩
          | 1, _ =>
            refine StepAt.by rfl fun a' W hf hb hd => ?_
            exact .inl ⟨want_none, does_move ((hf.keeps 0 (by kernel_rfl)).trans rfl) ⟨Below.refl _ _, rfl⟩⟩
          | 2, _ =>
            refine StepAt.by rfl fun a' W hf hb hd => ?_
            exact .inl ⟨want_none, does_move ((hf.keeps 22 (by kernel_rfl)).trans rfl) ⟨Below.refl _ _, rfl⟩⟩
          | 3, _ =>
            refine StepAt.by rfl fun a' W hf hb hd => ?_
            exact .inl ⟨want_none, does_move ((hf.keeps 23 (by kernel_rfl)).trans rfl) ⟨Below.refl _ _, rfl⟩⟩
          | 4, _ =>
            refine StepAt.by rfl fun a' W hf hb hd => ?_
            refine .inl ⟨want_none, ?_⟩
            exact does_run (run_subN (hd 2 (by kernel_rfl)) (hd 3 (by kernel_rfl)) (by omega) (by omega)) ⟨Below.refl _ _, congrArg (fun q : Nat => Value.int .i64 (q : Int)) HPC.out⟩
          | 5, _ =>
            refine StepAt.by rfl fun a' W hf hb hd => ?_
            exact .inl ⟨want_none, does_run (run_indexN (hd 1 (by kernel_rfl)) (hd 4 (by kernel_rfl)) (by omega)) ⟨Below.refl _ _, rfl⟩⟩
          | 6, _ =>
            refine StepAt.by rfl fun a' W hf hb hd => ?_
            exact .inl ⟨want_none, does_run (run_loadNd (hd 5 (by kernel_rfl)) (HVY W hb)) ⟨Below.refl _ _, rfl⟩⟩
          | 7, _ =>
            refine StepAt.by rfl fun a' W hf hb hd => ?_
            exact .inl ⟨want_none, does_move ((hf.keeps 0 (by kernel_rfl)).trans rfl) ⟨Below.refl _ _, rfl⟩⟩
          | 8, _ =>
            refine StepAt.by rfl fun a' W hf hb hd => ?_
            exact .inl ⟨want_none, does_move ((hf.keeps 23 (by kernel_rfl)).trans rfl) ⟨Below.refl _ _, rfl⟩⟩
          | 9, _ =>
            refine StepAt.by rfl fun a' W hf hb hd => ?_
            exact .inl ⟨want_none, does_run (run_indexN (hd 7 (by kernel_rfl)) (hd 8 (by kernel_rfl)) (by omega)) ⟨Below.refl _ _, rfl⟩⟩
          | 10, _ =>
            refine StepAt.by rfl fun a' W hf hb hd => ?_
            exact .inl ⟨want_none, does_run (run_loadNd (hd 9 (by kernel_rfl)) (HVX W hb)) ⟨Below.refl _ _, rfl⟩⟩
          | 11, _ =>
            refine StepAt.by rfl fun a' W hf hb hd => ?_
            refine .inl ⟨want_none, ?_⟩
            exact does_callV2 (enters_of Try.func53 (by kernel_rfl) (by kernel_rfl)) (hd 0 (by kernel_rfl)) (hd 6 (by kernel_rfl)) (hd 10 (by kernel_rfl)) ((cmpN_any y x W).mono fun e W2 ⟨he, hb2⟩ => ⟨_, he, hb2, rfl⟩)
          | 12, _ =>
            refine StepAt.by rfl fun a' W hf hb hd => ?_
            exact .inl ⟨want_none, does_run (run_lssI (hd 11 (by kernel_rfl)) rfl) ⟨Below.refl _ _, rfl⟩⟩
          | 13, _ =>
            refine StepAt.by rfl fun a' W hf hb hd => ?_
            exact .inl ⟨want_none, does_not (hd 12 (by kernel_rfl)) ⟨Below.refl _ _, rfl⟩⟩
          | k + 14, hi => exact absurd hi (Nat.not_lt.2 (Nat.le_add_left _ _))
        · intro a' W hf hb hv
          have hlast : a'.eval (.tmp 171) = .bool (!(decide (M.cmpI y.fid x.fid < 0))) := hv 13 (by decide)
          have hl := hf.lit (fun t => decide (158 ≤ t) && decide (t ≤ 171)) (by kernel_rfl)
          simp only [overL, Nat.reduceAdd, Nat.reduceLeDiff, decide_true, decide_false, Bool.and_true, Bool.and_false] at hl
          rw [hl]
          clear hl
          go_wp2_with (fail)
          go_meet
          case rel => exact ⟨hlast.trans (congrArg Value.bool (by rw [cmpI_ltN])), (HJ.out.below hb)⟩
      obtain ⟨rfl, hsw⟩ := hcut
      rename World => w4
      have H4 : Hid (SW w0 B g n c us w4) := hsw
      clear hsw
      by_cases hxy : y.fid < x.fid
      · have HU : Hid (Bis (pAll us pn) st r0 i h) := HB.out.down HF.out hij.1 hij.2 (by rw [HY.out.2.2, decide_eq_true hxy]; rfl)
        rw [show (!decide (y.fid < x.fid)) = false by rw [decide_eq_true hxy]; rfl]
        clear hxy
        go_wp2_with (fail)
        go_roundw
        case rel => exact ⟨i, h, rfl, rfl, HU, H4.out⟩
        case measure => simp [intOf]; omega
      · have HU : Hid (Bis (pAll us pn) st r0 (h + 1) j) := HB.out.up HF.out hij.1 hij.2 (by rw [HY.out.2.2, decide_eq_false hxy]; rfl)
        rw [show (!decide (y.fid < x.fid)) = true by rw [decide_eq_false hxy]; rfl]
        clear hxy
        go_wp2_with (fail)
        go_roundw
        case rel => exact ⟨h + 1, j, by go_num, rfl, HU, H4.out⟩
        case measure => simp [intOf]; omega
    · obtain rfl : i = j := by omega
      obtain ⟨hhv, hs1, hs2, hs3, hs4⟩ := HV.out i HB.out
      obtain ⟨en, hen⟩ : ∃ en, np - i = en := ⟨_, rfl⟩
      obtain ⟨d, hd⟩ : ∃ d, i - a = d := ⟨_, rfl⟩
      obtain ⟨e, he⟩ : ∃ e, md - i = e := ⟨_, rfl⟩
      rw [hd, he] at hhv
      have HH : Hid (Halves us P X Y R d e) := hhv
      have hnn := HN.out
      have HM : Hid (a + d = i ∧ i + e = md ∧ m + e = en ∧ md + (m - i) = en ∧ en ≤ b ∧ a < md ∧ md < b) := by
        show _ ∧ _
        omega
      have HLX : Hid (X.length = m - a ∧ Y.length = b - m ∧ P.length = a ∧ d ≤ X.length ∧ e ≤ Y.length ∧ X.length + Y.length ≤ N + 1) := by
        have h1 := HS.out.2.2
        have h2 := hhv.2.1
        have h3 := hhv.2.2.1
        show _ ∧ _
        omega
      have sen : (np : Int) - (i : Int) = (en : Int) := by omega
      have henn : en ≤ n := by omega
      have hin : i ≤ n := by omega
      have HW0 : Hid (SW w0 B g n c (P ++ (X ++ (Y ++ R))) wk) := by
        have h := HJ.out
        rw [HS.out.2.1] at h
        exact h
      obtain ⟨bA, hbA⟩ : ∃ q : Bool, (decide (i < m) && decide (m < en)) = q := ⟨_, rfl⟩
      obtain ⟨bB, hbB⟩ : ∃ q : Bool, (decide (a < i) && decide (i < md)) = q := ⟨_, rfl⟩
      obtain ⟨bC, hbC⟩ : ∃ q : Bool, (decide (md < en) && decide (en < b)) = q := ⟨_, rfl⟩
      have HBA : Hid ((decide (i < m) && decide (m < en)) = bA) := hbA
      have HBB : Hid ((decide (a < i) && decide (i < md)) = bB) := hbB
      have HBC : Hid ((decide (md < en) && decide (en < b)) = bC) := hbC
      clear hbA hbB hbC
      clear hhv hd he hen hs1 hs2 hs3 hs4 hnn hbb hlt
      go_upto_region 39 with (fail)
      go_cut [185] from 178 to 185 (fun t W => t = .bool bA ∧ W = wk)
      case first =>
        by_cases h1 : (i : Int) < (m : Int)
        · have hN : decide (i < m) = true := by simp; omega
          go_wp2_with (fail)
          go_meet
          case rel => exact ⟨congrArg Value.bool (by rw [← HBA.out, hN]; rfl), rfl⟩
        · have hN : decide (i < m) = false := by simp; omega
          go_wp2_with (fail)
          go_meet
          case rel => exact ⟨congrArg Value.bool (by rw [← HBA.out, hN]; rfl), rfl⟩
      obtain ⟨rfl, rfl⟩ := hcut
      rename World => wk
      go_upto_if 185 with (fail)
      go_cut [] from 186 to 191 (fun W => Hid (SW w0 B g n c (P ++ (X.take d ++ (Y.take e ++ (X.drop d ++ (Y.drop e ++ R))))) W))
      case first =>
        have HNO : Hid (bA = false → SW w0 B g n c (P ++ (X.take d ++ (Y.take e ++ (X.drop d ++ (Y.drop e ++ R))))) wk) := by
          intro hb
          have hm1 := HM.out
          have hl1 := HLX.out
          have hA := HBA.out
          rw [hb] at hA
          have key : P ++ (X.take d ++ (Y.take e ++ (X.drop d ++ (Y.drop e ++ R)))) = P ++ (X ++ (Y ++ R)) := by
            refine no_turn ?_
            rcases Bool.and_eq_false_iff.1 hA with hb | hb
            · left; simp at hb; omega
            · right; simp at hb; omega
          rw [key]
          exact HW0.out
        cases bA
        · have HR := HNO.out rfl
          have HRH : Hid _ := HR
          clear HR
          go_wp2_with (fail)
          go_meet
          case rel => exact HRH
        · have hA := Bool.and_eq_true_iff.1 HBA.out
          have h1 : i < m := by simpa using hA.1
          have h2 : m < en := by simpa using hA.2
          clear hA
          have hm1 := HM.out
          have hl1 := HLX.out
          go_wp2_with (fail)
          refine (rotate_any w0 B g n c i m en (P ++ X.take d) (X.drop d) (Y.take e) (Y.drop e ++ R) wk (by rw [take_turn]; exact HW0.out) (by rw [List.length_append, List.length_take]; omega) (by rw [List.length_append, List.length_take, List.length_drop]; omega) (by rw [List.length_append, List.length_take, List.length_drop, List.length_take]; omega) (by rw [List.length_drop]; omega) (by rw [List.length_take]; omega) hn).mono ?_
          rintro e9 w5 ⟨rfl, hsw⟩
          have HR : Hid (SW w0 B g n c (P ++ (X.take d ++ (Y.take e ++ (X.drop d ++ (Y.drop e ++ R))))) w5) := by
            show SW _ _ _ _ _ _ _
            simpa using hsw
          clear hsw hm1 hl1
          go_wp2_with (fail)
          go_meet
          case rel => exact HR
      have HA := hcut
      clear hcut
      rename World => wa
      go_upto_region 41 with (fail)
      go_cut [199] from 192 to 199 (fun t W => t = .bool bB ∧ W = wa)
      case first =>
        by_cases h1 : (a : Int) < (i : Int)
        · have hN : decide (a < i) = true := by simp; omega
          go_wp2_with (fail)
          go_meet
          case rel => exact ⟨congrArg Value.bool (by rw [← HBB.out, hN]; rfl), rfl⟩
        · have hN : decide (a < i) = false := by simp; omega
          go_wp2_with (fail)
          go_meet
          case rel => exact ⟨congrArg Value.bool (by rw [← HBB.out, hN]; rfl), rfl⟩
      obtain ⟨rfl, rfl⟩ := hcut
      rename World => wa
      go_upto_if 199 with (fail)
      go_cut [] from 200 to 205 (fun W => Hid (∃ Z1, Z1.Perm (X.take d ++ Y.take e) ∧ Up Z1 ∧ SW w0 B g n c (P ++ (Z1 ++ (X.drop d ++ (Y.drop e ++ R)))) W))
      case first =>
        have HNO : Hid (bB = false → ∃ Z1, Z1.Perm (X.take d ++ Y.take e) ∧ Up Z1 ∧ SW w0 B g n c (P ++ (Z1 ++ (X.drop d ++ (Y.drop e ++ R)))) wa) := by
          intro hb
          have hm1 := HM.out
          have hA := HBB.out
          rw [hb] at hA
          refine ⟨X.take d ++ Y.take e, List.Perm.refl _, ?_, by rw [List.append_assoc]; exact HA.out⟩
          rcases Bool.and_eq_false_iff.1 hA with hb | hb
          · simp at hb
            have : d = 0 := by omega
            rw [this, List.take_zero, List.nil_append]
            exact up_take HH.out.2.2.2.2.1 e
          · simp at hb
            have : e = 0 := by omega
            rw [this, List.take_zero, List.append_nil]
            exact up_take HH.out.2.2.2.1 d
        cases bB
        · have HR := HNO.out rfl
          have HRH : Hid _ := HR
          clear HR
          go_wp2_with (fail)
          go_meet
          case rel => exact HRH
        · have hA := Bool.and_eq_true_iff.1 HBB.out
          have h1 : a < i := by simpa using hA.1
          have h2 : i < md := by simpa using hA.2
          clear hA
          have hm1 := HM.out
          have hl1 := HLX.out
          go_wp2_with (fail)
          refine (IH.out w0 B g n c a i md P (X.take d) (Y.take e) (X.drop d ++ (Y.drop e ++ R)) wa (by rw [List.length_take, List.length_take]; omega) HA.out (by omega) (by rw [List.length_take]; omega) (by rw [List.length_take, List.length_take]; omega) (by rw [List.length_take]; omega) (by rw [List.length_take]; omega) (up_take HH.out.2.2.2.1 d) (up_take HH.out.2.2.2.2.1 e) hn).mono ?_
          rintro e9 w5 ⟨rfl, hsw⟩
          have HR : Hid (∃ Z1, Z1.Perm (X.take d ++ Y.take e) ∧ Up Z1 ∧ SW w0 B g n c (P ++ (Z1 ++ (X.drop d ++ (Y.drop e ++ R)))) w5) := hsw
          clear hsw hm1 hl1
          go_wp2_with (fail)
          go_meet
          case rel => exact HR
      have HZ := hcut
      clear hcut
      rename World => wb
      obtain ⟨Z1, zp, zu, zs⟩ := HZ.out
      have HZ1 : Hid (Z1.Perm (X.take d ++ Y.take e) ∧ Up Z1 ∧ SW w0 B g n c (P ++ (Z1 ++ (X.drop d ++ (Y.drop e ++ R)))) wb ∧ P.length + Z1.length = md) := by
        refine ⟨zp, zu, zs, ?_⟩
        have h1 := zp.length_eq
        rw [List.length_append, List.length_take, List.length_take] at h1
        have hm1 := HM.out
        have hl1 := HLX.out
        omega
      clear zp zu zs HZ
      have HNO : Hid (bC = false → ∃ Z, Z.Perm (X ++ Y) ∧ Up Z ∧ SW w0 B g n c (P ++ (Z ++ R)) wb) := by
        intro hb
        have hm1 := HM.out
        have hl1 := HLX.out
        have hA := HBC.out
        rw [hb] at hA
        have hu2 : Up (X.drop d ++ Y.drop e) := by
          rcases Bool.and_eq_false_iff.1 hA with hb | hb
          · simp at hb
            have : X.drop d = [] := List.drop_eq_nil_of_le (by omega)
            rw [this, List.nil_append]
            exact up_drop HH.out.2.2.2.2.1 e
          · simp at hb
            have : Y.drop e = [] := List.drop_eq_nil_of_le (by omega)
            rw [this, List.append_nil]
            exact up_drop HH.out.2.2.2.1 d
        obtain ⟨q1, q2⟩ := halves_end HH.out HZ1.out.1 HZ1.out.2.1 (List.Perm.refl (X.drop d ++ Y.drop e)) hu2
        refine ⟨_, q1, q2, ?_⟩
        have h := HZ1.out.2.2.1
        simpa using h
      go_upto_region 43 with (fail)
      go_cut [213] from 206 to 213 (fun t W => t = .bool bC ∧ W = wb)
      case first =>
        by_cases h1 : (md : Int) < (en : Int)
        · have hN : decide (md < en) = true := by simp; omega
          go_wp2_with (fail)
          go_meet
          case rel => exact ⟨congrArg Value.bool (by rw [← HBC.out, hN]; rfl), rfl⟩
        · have hN : decide (md < en) = false := by simp; omega
          go_wp2_with (fail)
          go_meet
          case rel => exact ⟨congrArg Value.bool (by rw [← HBC.out, hN]; rfl), rfl⟩
      obtain ⟨rfl, rfl⟩ := hcut
      rename World => wb
      cases bC
      · have HR := HNO.out rfl
        have HRH : Hid _ := HR
        clear HR
        go_wp2_with (fail)
        go_end0
        exact ⟨rfl, HRH.out⟩
      · have hA := Bool.and_eq_true_iff.1 HBC.out
        have h1 : md < en := by simpa using hA.1
        have h2 : en < b := by simpa using hA.2
        clear hA
        have hm1 := HM.out
        have hl1 := HLX.out
        have hz1 := HZ1.out.2.2.2
        go_wp2_with (fail)
        refine (IH.out w0 B g n c md en b (P ++ Z1) (X.drop d) (Y.drop e) R wb (by rw [List.length_drop, List.length_drop]; omega) (by have h := HZ1.out.2.2.1; simpa using h) (by rw [List.length_append]; omega) (by rw [List.length_append, List.length_drop]; omega) (by rw [List.length_append, List.length_drop, List.length_drop]; omega) (by rw [List.length_drop]; omega) (by rw [List.length_drop]; omega) (up_drop HH.out.2.2.2.1 d) (up_drop HH.out.2.2.2.2.1 e) hn).mono ?_
        rintro e9 w5 ⟨rfl, Z2, p2, u2, hsw⟩
        have HR : Hid (∃ Z, Z.Perm (X ++ Y) ∧ Up Z ∧ SW w0 B g n c (P ++ (Z ++ R)) w5) := by
          obtain ⟨q1, q2⟩ := halves_end HH.out HZ1.out.1 HZ1.out.2.1 p2 u2
          refine ⟨_, q1, q2, ?_⟩
          simpa using hsw
        clear p2 u2 hsw hm1 hl1 hz1
        go_wp2_with (fail)
        go_end0
        exact ⟨rfl, HR.out⟩
theorem symMerge_any : ∀ (N : Nat) (w0 : World) (B g n c a m b : Nat) (P X Y R : List NV) (w : World), X.length + Y.length ≤ N → SW w0 B g n c (P ++ (X ++ (Y ++ R))) w → a = P.length → m = P.length + X.length → b = P.length + X.length + Y.length → 0 < X.length → 0 < Y.length → Up X → Up Y → n ≤ 140737488355328 →
    Calls Try.prog 92 #[.slice (some ⟨g, 0, none⟩) n c, .int .i64 (a : Int), .int .i64 (m : Int), .int .i64 (b : Int), .func (.func 53) #[] #[]] w fun e w' => e = .returned (.tuple #[]) ∧ ∃ Z, Z.Perm (X ++ Y) ∧ Up Z ∧ SW w0 B g n c (P ++ (Z ++ R)) w'
  | 0, _, _, _, _, _, _, _, _, _, _, _, _, _, hN, _, _, _, _, hx0, _, _, _, _ => absurd hN (by omega)
  | N + 1, w0, B, g, n, c, a, m, b, P, X, Y, R, w, hN, hs, ha, hm, hb, hx0, hy0, hx, hy, hn => symMerge_step N (symMerge_any N) w0 B g n c a m b P X Y R w hN hs ha hm hb hx0 hy0 hx hy hn
end Go.Proofs.Ytjpdoblmdchmkad
