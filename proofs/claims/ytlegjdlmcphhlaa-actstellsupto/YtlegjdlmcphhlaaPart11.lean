/- TEXTS LAID TOGETHER: Refab, Refan, Refo, Mathp, Sameact -/
import Derived.Test.YtlegjdlmcphhlaaPart10
import Derived.Deep.CutRange
import Derived.Test.YtlegjdlmcphhlaaPart6
import Derived.Test.YtlegjdlmcphhlaaPart9
/-
  THE REFERENCE's Apply: acts that make.
-/
namespace Go.Proofs.Ytlegjdlmcphhlaa
open Go.RowKit

def VR17 (bm sv sa : Nat) (xs : List M.Nd) (a : AV) (v : NV) (x : M.Nd) (ver : Int) : Nat → Value → World → Prop
  | 0 => IsU (.map (some bm))
  | 1 => IsU (.func (.func 59) #[] #[.pointer (some ⟨sv, 0, none⟩)])
  | 2 => IsU (NV.val v)
  | 3 => IsU (.pointer (some ⟨sa, 3, none⟩))
  | 4 => IsU (.string (a.name))
  | 5 => IsU (.pointer (some ⟨sa, 1, none⟩))
  | 6 => IsU (.int .i64 (a.fid))
  | 7 => IsNd (withE x (M.putE x.ents (a.name, a.fid)))
  | 8 => IsNd (M.withV (withE x (M.putE x.ents (a.name, a.fid))) ver)
  | 9 => IsMp (M.putN xs (M.withV (withE x (M.putE x.ents (a.name, a.fid))) ver))
  | 10 => IsU (.func (.func 59) #[] #[.pointer (some ⟨sv, 0, none⟩)])
  | 11 => IsU (.pointer (some ⟨sa, 1, none⟩))
  | 12 => IsU (.int .i64 (a.fid))
  | 13 => IsU (.pointer (some ⟨sa, 0, none⟩))
  | 14 => IsU (.int .i64 (a.kind))
  | 15 => IsU (.bool ((a.kind : Int) == (2 : Int)))
  | 16 => IsU (NV.val ⟨a.fid, (a.kind == 2), none, 0, 0, none, 0, 0, 0⟩)
  | 17 => IsNd ⟨a.fid, a.kind == 2, [], [], ver⟩
  | 18 => IsMp (M.putN (M.putN xs (M.withV (withE x (M.putE x.ents (a.name, a.fid))) ver)) ⟨a.fid, a.kind == 2, [], [], ver⟩)
  | 19 => IsMp (M.putN (M.putN xs (M.withV (withE x (M.putE x.ents (a.name, a.fid))) ver)) ⟨a.fid, a.kind == 2, [], [], ver⟩)
  | 20 => IsU (.int .i64 (0))
  | _ => fun _ _ => True
theorem VR17_stays (bm sv sa : Nat) (xs : List M.Nd) (a : AV) (v : NV) (x : M.Nd) (ver : Int) : ∀ i, Stays (VR17 bm sv sa xs a v x ver i) := by
  intro i v W W' hb h
  match i, h with
  | 0, h => exact h
  | 1, h => exact h
  | 2, h => exact h
  | 3, h => exact h
  | 4, h => exact h
  | 5, h => exact h
  | 6, h => exact h
  | 7, h => exact isNd_below hb h
  | 8, h => exact isNd_below hb h
  | 9, h => exact isMp_below hb h
  | 10, h => exact h
  | 11, h => exact h
  | 12, h => exact h
  | 13, h => exact h
  | 14, h => exact h
  | 15, h => exact h
  | 16, h => exact h
  | 17, h => exact isNd_below hb h
  | 18, h => exact isMp_below hb h
  | 19, h => exact isMp_below hb h
  | 20, h => exact h
  | k + 21, h => trivial

set_option maxRecDepth 8000 in
set_option maxHeartbeats 8000000 in
theorem refMake_any (bm : Nat) (xs : List M.Nd) (a : AV) (ac : M.Act) (ver : Int) (w : World) (ht : TMap w bm xs) (ha : ContA w a ac) (hri : M.Rise xs) (hsm : ∀ x ∈ xs, Small x) (hsn : a.name.size ≤ maxLen) (hs1 : ∀ x ∈ xs, (x.ents.length + 1) * 24 ≤ 140737488355328) (hk : a.kind = 1) :
    Calls Try.prog 36 #[.map (some bm), a.val, .int .i64 ver] w (AppliedM w (M.bringS xs ac ver)) := by
  have HT : Hid (TMap w bm xs ∧ ContA w a ac ∧ True) := ⟨ht, ha, trivial⟩
  have HK : Hid (a.fid = ac.fid ∧ a.dir = ac.dir ∧ a.name = ac.name ∧ a.to = ac.to ∧ a.toName = ac.toName) := ⟨ha.2.1, ha.2.2.1, ha.2.2.2.1, ha.2.2.2.2.1, ha.2.2.2.2.2.1⟩
  have HSM : Hid (∀ x ∈ xs, Small x) := hsm
  have HRI : Hid (M.Rise xs) := hri
  have HW : Hid _ := apw_start w a ver
  have HS1 : Hid (∀ x ∈ xs, (x.ents.length + 1) * 24 ≤ 140737488355328) := hs1
  have HKK : Hid (a.kind = ac.kind) := ha.1
  have k1 : (a.kind == 1) = true := by simp [hk]
  have k2 : (a.kind == 2) = false := by simp [hk]
  have k3 : (a.kind == 3) = false := by simp [hk]
  have k4 : (a.kind == 4) = false := by simp [hk]
  have k5 : (a.kind == 5) = false := by simp [hk]
  clear ht ha hk hri hsm hs1
  go_enter Try.func36, Try.ntmps36
  go_upto_region 1 with (fail)
  go_cut [8] from 24 to 24 (fun v W => v = .func (.func 59) #[] #[.pointer (some ⟨w.heap.size + 1, 0, none⟩)] ∧ ApW w a ver W)
  case first =>
    go_wp2_with (fail)
    go_meet
    case rel => exact ⟨rfl, HW.out _ rfl⟩
  obtain ⟨rfl, hw1⟩ := hcut
  rename World => w1
  obtain ⟨a0, a1, a2, a3, a4, a5, a6, af, az⟩ := hw1.2.1.facts
  have H1 : Hid (ApW w a ver w1 ∧ TMap w1 bm xs ∧ ContA w1 a ac) := ⟨hw1, HT.out.1.below (Nat.le_refl _) hw1.1, HT.out.2.1.below (Nat.le_refl _) hw1.1⟩
  clear hw1 HW
  go_wp2_with (fail)
  refine (refDir_any bm xs a.dir w1 H1.out.2.1).mono ?_
  rintro e w2 ⟨v, rfl, hdc, hb2⟩
  have H2 : Hid (ApW w a ver w2 ∧ TMap w2 bm xs ∧ ContA w2 a ac) := ⟨H1.out.1.next hb2, H1.out.2.1.below (Nat.le_refl _) hb2, H1.out.2.2.below (Nat.le_refl _) hb2⟩
  have HDC : Hid ((M.dirS xs a.dir).1 = 0 → Cont w2 v (M.dirS xs a.dir).2) := hdc
  clear hb2 hdc H1 a0 a1 a2 a3 a4 a5 a6 af az
  obtain ⟨a0, a1, a2, a3, a4, a5, a6, af, az⟩ := H2.out.1.2.1.facts
  by_cases hd0 : (M.dirS xs a.dir).1 = 0
  case' neg =>
    have e1 : ((M.dirS xs a.dir).1 != 0) = true := by simp [hd0]
    have HS : Hid ((M.bringS xs ac ver).1 = (M.dirS xs a.dir).1 ∧ (M.dirS xs a.dir).1 ≠ 0) := ⟨by unfold M.bringS; rw [HK.out.2.1] at hd0 ⊢; rw [if_pos hd0], hd0⟩
    clear hd0
    go_wp2_with (fail)
    go_ret2
    exact AppliedM.no HS.out.1 HS.out.2 (H2.out.1.1.trans (((Below.refl _ _).alloc (Nat.le_refl _) _).mono H2.out.1.1.size))
  obtain ⟨x, hx⟩ : ∃ x, (M.dirS xs a.dir).2 = x := ⟨_, rfl⟩
  have HDX : Hid (M.dirS xs a.dir = (0, x)) := by show _ = _; rw [← hx, ← hd0]
  have hfx : M.find xs a.dir = some x := by rw [← hx]; exact (M.dir_ok hd0).1
  have HCX : Hid (Cont w2 v x ∧ Small x ∧ M.RsE x.ents ∧ (x.ents.length + 1) * 24 ≤ 140737488355328) := ⟨by rw [← hx]; exact HDC.out hd0, HSM.out x (M.find_mem hfx).1, HRI.out.2 x (M.find_mem hfx).1, HS1.out x (M.find_mem hfx).1⟩
  rw [hd0]
  clear hd0 hx hfx HDC
  have HWN : Hid (∀ W, W = w2.alloc (.cells #[.int .i64 v.fid, .bool v.dir, .slice v.dA v.dn v.dc, .slice v.eA v.en v.ec, .int .i64 v.ver] 26) → Below w2.heap.size w2 W ∧ Box W w2.heap.size v) := by
    rintro W rfl
    exact ⟨(Below.refl _ _).alloc (Nat.le_refl _) _, Box.new w2 v⟩
  go_wp2_with (fail)
  obtain ⟨q1, q2⟩ := HWN.out _ rfl
  refine (refRoom_any v x a.name _ (HCX.out.1.below (Nat.le_refl _) q1) HCX.out.2.1 hsn).mono ?_
  rintro e w3 ⟨rfl, hb3⟩
  have h23 : Below w2.heap.size w2 w3 := q1.trans (hb3.mono q1.size)
  have H3 : Hid (ApW w a ver w3 ∧ TMap w3 bm xs ∧ Box w3 w2.heap.size v ∧ Cont w3 v x) := ⟨H2.out.1.next h23, H2.out.2.1.below (Nat.le_refl _) h23, q2.below hb3 (lt_of_block q2), HCX.out.1.below (Nat.le_refl _) h23⟩
  clear q1 q2 hb3 h23 H2 HWN a0 a1 a2 a3 a4 a5 a6 af az
  obtain ⟨a0, a1, a2, a3, a4, a5, a6, af, az⟩ := H3.out.1.2.1.facts
  by_cases hfr : M.freeS x a.name = 0
  case' neg =>
    have e1 : (M.freeS x a.name != 0) = true := by simp [hfr]
    have HS : Hid ((M.bringS xs ac ver).1 = M.freeS x a.name ∧ M.freeS x a.name ≠ 0) := ⟨by unfold M.bringS; rw [← HK.out.2.1, ← HK.out.2.2.1, HDX.out, if_neg (by simp), if_pos hfr], hfr⟩
    clear hfr
    go_wp2_with (fail)
    go_ret2
    exact AppliedM.no HS.out.1 HS.out.2 H3.out.1.1
  have HBR : Hid (M.bringS xs ac ver = if a.fid = 0 ∨ (M.find xs a.fid).isSome = true then (13, []) else if 24 ≤ xs.length then (5, []) else (0, M.putN (M.putN xs (M.withV (withE x (M.putE x.ents (a.name, a.fid))) ver)) ⟨a.fid, a.kind == 2, [], [], ver⟩)) := by
    show _ = _
    have e2 : (a.kind == 2) = decide (ac.kind = 2) := by rw [HKK.out]; rfl
    unfold M.bringS
    rw [← HK.out.1, ← HK.out.2.1, ← HK.out.2.2.1, HDX.out, if_neg (by simp), if_neg (by simp [hfr]), e2]
    rfl
  rw [hfr]
  clear hfr
  rcases IMap.ask H3.out.2.1 a.fid with ⟨hf, hl⟩ | ⟨vf, xf, hf, hcf, hl⟩
  case' inr =>
    have hl1 := hl true
    simp only [if_true] at hl1
    have HS : Hid ((M.bringS xs ac ver).1 = 13) := by show _ = _; rw [HBR.out, hf]; simp
    clear hl hf hcf
    go_wp2_with (fail)
    go_ret2
    exact AppliedM.no HS.out (by decide) (H3.out.1.1.trans (((Below.refl _ _).alloc (Nat.le_refl _) _).mono H3.out.1.1.size))
  have hl1 := hl true
  simp only [if_true] at hl1
  generalize NV.zero = vz at hl1
  by_cases hf0 : a.fid = 0
  case' pos =>
    have e1 : (a.fid == 0) = true := by simp [hf0]
    have HS : Hid ((M.bringS xs ac ver).1 = 13) := by show _ = _; rw [HBR.out, if_pos (.inl hf0)]
    clear hl hf hf0
    go_wp2_with (fail)
    go_ret2
    exact AppliedM.no HS.out (by decide) (H3.out.1.1.trans (((Below.refl _ _).alloc (Nat.le_refl _) _).mono H3.out.1.1.size))
  have e1 : (a.fid == 0) = false := by simp [hf0]
  have HB2 : Hid (M.bringS xs ac ver = if 24 ≤ xs.length then (5, []) else (0, M.putN (M.putN xs (M.withV (withE x (M.putE x.ents (a.name, a.fid))) ver)) ⟨a.fid, a.kind == 2, [], [], ver⟩)) := by
    show _ = _; rw [HBR.out, hf, if_neg (by simp [hf0])]
  clear hl hf hf0 HBR
  have HN5 : Hid (∀ W, W = w3.alloc (.cells #[.int .i64 vz.fid, .bool vz.dir, .slice vz.dA vz.dn vz.dc, .slice vz.eA vz.en vz.ec, .int .i64 vz.ver] 26) → Below w3.heap.size w3 W) := by
    rintro W rfl; exact (Below.refl _ _).alloc (Nat.le_refl _) _
  obtain ⟨es, clock, hbm, hes⟩ := (H3.out.2.1.below (Nat.le_refl _) (HN5.out _ rfl)).count HRI.out.1
  have hlen := run_len_map (P := Try.prog) (w := w3.alloc (.cells #[.int .i64 vz.fid, .bool vz.dir, .slice vz.dA vz.dn vz.dc, .slice vz.eA vz.en vz.ec, .int .i64 vz.ver] 26)) 30 3 bm es clock (by kernel_rfl) hbm
  rw [hes] at hlen
  clear hbm hes
  by_cases h24 : 24 ≤ xs.length
  · have h24' : (24 : Int) ≤ (xs.length : Int) := by omega
    have HS : Hid ((M.bringS xs ac ver).1 = 5) := by show _ = _; rw [HB2.out, if_pos h24]
    clear h24
    go_wp2_with (fail)
    go_ret2
    exact AppliedM.no HS.out (by decide) (H3.out.1.1.trans ((HN5.out _ rfl).mono H3.out.1.1.size))
  · have h24' : ¬ (24 : Int) ≤ (xs.length : Int) := by omega
    have HS : Hid (M.bringS xs ac ver = (0, M.putN (M.putN xs (M.withV (withE x (M.putE x.ents (a.name, a.fid))) ver)) ⟨a.fid, a.kind == 2, [], [], ver⟩)) := by show _ = _; rw [HB2.out, if_neg h24]
    clear h24
    have HSX : Hid (Small x ∧ M.RsE x.ents ∧ (x.ents.length + 1) * 24 ≤ 140737488355328) := HCX.out.2
    go_upto_region 17 with (fail)
    have hb5 := HN5.out _ rfl
    have hbd : ∀ W5 : World, Below w3.heap.size w3 W5 → ∀ W, Below W5.drew.heap.size W5.drew W → Below w3.heap.size w3 W := fun W5 h5 W hb => h5.trans (((Below.refl _ _).drew.trans hb).mono h5.size)
    have HA := fun W hb => (H3.out.1.next (hbd _ hb5 W hb)).2.1
    have HV := fun W hb => (H3.out.1.next (hbd _ hb5 W hb)).ver
    have HM := fun W hb => H3.out.2.1.below (Nat.le_refl _) (hbd _ hb5 W hb)
    have HN := fun W hb => H3.out.2.2.1.below (hbd _ hb5 W hb) (lt_of_block H3.out.2.2.1)
    have HCN := fun W hb => H3.out.2.2.2.below (Nat.le_refl _) (hbd _ hb5 W hb)
    have HEND : Hid (∀ W5 W : World, Below w3.heap.size w3 W5 → Below W5.heap.size W5 W → Below w.heap.size w W) := fun W5 W h5 hb => H3.out.1.1.trans ((h5.trans (hb.mono h5.size)).mono H3.out.1.1.size)
    refine wp_region_vals (VR17 bm (w.heap.size + 1) w.heap.size xs a v x ver) (by kernel_rfl) (by kernel_rfl) (VR17_stays bm (w.heap.size + 1) w.heap.size xs a v x ver) ?_ ?_
    · intro i hi
      match i, hi with
      | 0, _ =>
        refine StepAt.by rfl fun a' W hf hb hd => ?_
        exact .inl ⟨want_none, does_move ((hf.keeps 0 (by kernel_rfl)).trans rfl) ⟨Below.refl _ _, rfl⟩⟩
      | 1, _ =>
        refine StepAt.by rfl fun a' W hf hb hd => ?_
        exact .inl ⟨want_none, does_move ((hf.keeps 8 (by kernel_rfl)).trans rfl) ⟨Below.refl _ _, rfl⟩⟩
      | 2, _ =>
        refine StepAt.by rfl fun a' W hf hb hd => ?_
        exact .inl ⟨want_none, does_rn (run_load26 ((hf.keeps 9 (by kernel_rfl)).trans rfl) (HN W hb)) ⟨Below.refl _ _, rfl⟩⟩
      | 3, _ =>
        refine StepAt.by rfl fun a' W hf hb hd => ?_
        exact .inl ⟨want_none, does_rn (run_fieldA ((hf.keeps 4 (by kernel_rfl)).trans rfl) (by decide)) ⟨Below.refl _ _, rfl⟩⟩
      | 4, _ =>
        refine StepAt.by rfl fun a' W hf hb hd => ?_
        exact .inl ⟨want_none, does_rn (run_load9 (hd 3 (by kernel_rfl)) (BoxA.facts (HA W hb)).2.2.2.1) ⟨Below.refl _ _, rfl⟩⟩
      | 5, _ =>
        refine StepAt.by rfl fun a' W hf hb hd => ?_
        exact .inl ⟨want_none, does_rn (run_fieldA ((hf.keeps 4 (by kernel_rfl)).trans rfl) (by decide)) ⟨Below.refl _ _, rfl⟩⟩
      | 6, _ =>
        refine StepAt.by rfl fun a' W hf hb hd => ?_
        exact .inl ⟨want_none, does_rn (run_load3 (hd 5 (by kernel_rfl)) (BoxA.facts (HA W hb)).2.1) ⟨Below.refl _ _, rfl⟩⟩
      | 7, _ =>
        refine StepAt.by rfl fun a' W hf hb hd => ?_
        refine .inl ⟨want_none, ?_⟩
        exact does_call3 (enters_of Try.func27 (by kernel_rfl) (by kernel_rfl)) (hd 2 (by kernel_rfl)) (hd 4 (by kernel_rfl)) (hd 6 (by kernel_rfl)) ((refEnter_any v x a.name a.fid W (HCN W hb) HSX.out.2.1 HSX.out.1 HSX.out.2.2).mono fun e W' ⟨v', he, hc, hb'⟩ => ⟨_, he, hb', v', rfl, hc⟩)
      | 8, _ =>
        refine StepAt.by rfl fun a' W hf hb hd => ?_
        refine .inl ⟨want_none, ?_⟩
        obtain ⟨v1, e1, hc1⟩ := hd 7 (by kernel_rfl)
        exact does_callC (enters_of Try.func59 (by kernel_rfl) (by kernel_rfl)) (hd 1 (by kernel_rfl)) e1 ((refVer_any v1 (w.heap.size + 1) ver W (HV W hb)).mono fun e W' ⟨he, hb'⟩ => ⟨_, he, hb', ⟨v1.fid, v1.dir, v1.dA, v1.dn, v1.dc, v1.eA, v1.en, v1.ec, ver⟩, rfl, (contV hc1 ver).below (Nat.le_refl _) hb'⟩)
      | 9, _ =>
        refine StepAt.by rfl fun a' W hf hb hd => ?_
        refine .inl ⟨want_none, ?_⟩
        obtain ⟨v1, e1, hc1⟩ := hd 8 (by kernel_rfl)
        have e0 := hd 0 (by kernel_rfl)
        have ht0 := HM W hb
        exact does_call2 (enters_of Try.func13 (by kernel_rfl) (by kernel_rfl)) e0 e1 ((with_any _ _ v1 _ W ht0 hc1).mono fun e W' ⟨b, he, ht, hb'⟩ => ⟨_, he, hb', b, rfl, ht⟩)
      | 10, _ =>
        refine StepAt.by rfl fun a' W hf hb hd => ?_
        exact .inl ⟨want_none, does_move ((hf.keeps 8 (by kernel_rfl)).trans rfl) ⟨Below.refl _ _, rfl⟩⟩
      | 11, _ =>
        refine StepAt.by rfl fun a' W hf hb hd => ?_
        exact .inl ⟨want_none, does_rn (run_fieldA ((hf.keeps 4 (by kernel_rfl)).trans rfl) (by decide)) ⟨Below.refl _ _, rfl⟩⟩
      | 12, _ =>
        refine StepAt.by rfl fun a' W hf hb hd => ?_
        exact .inl ⟨want_none, does_rn (run_load3 (hd 11 (by kernel_rfl)) (BoxA.facts (HA W hb)).2.1) ⟨Below.refl _ _, rfl⟩⟩
      | 13, _ =>
        refine StepAt.by rfl fun a' W hf hb hd => ?_
        exact .inl ⟨want_none, does_rn (run_fieldA ((hf.keeps 4 (by kernel_rfl)).trans rfl) (by decide)) ⟨Below.refl _ _, rfl⟩⟩
      | 14, _ =>
        refine StepAt.by rfl fun a' W hf hb hd => ?_
        exact .inl ⟨want_none, does_rn (run_load3 (hd 13 (by kernel_rfl)) (BoxA.facts (HA W hb)).1) ⟨Below.refl _ _, rfl⟩⟩
      | 15, _ =>
        refine StepAt.by rfl fun a' W hf hb hd => ?_
        exact .inl ⟨want_none, does_rn (run_eqN (hd 14 (by kernel_rfl)) rfl) ⟨Below.refl _ _, rfl⟩⟩
      | 16, _ =>
        refine StepAt.by rfl fun a' W hf hb hd => ?_
        refine .inl ⟨want_none, ?_⟩
        exact does_rn (run_buildN (hd 12 (by kernel_rfl)) (hd 15 (by kernel_rfl))) ⟨Below.refl _ _, rfl⟩
      | 17, _ =>
        refine StepAt.by rfl fun a' W hf hb hd => ?_
        refine .inl ⟨want_none, ?_⟩
        exact does_callC (enters_of Try.func59 (by kernel_rfl) (by kernel_rfl)) (hd 10 (by kernel_rfl)) (hd 16 (by kernel_rfl)) ((refVer_any ⟨a.fid, (a.kind == 2), none, 0, 0, none, 0, 0, 0⟩ (w.heap.size + 1) ver W (HV W hb)).mono fun e W' ⟨he, hb'⟩ => ⟨_, he, hb', ⟨a.fid, a.kind == 2, none, 0, 0, none, 0, 0, ver⟩, rfl, rfl, rfl, rfl, ⟨rfl, .inl rfl⟩, ⟨rfl, .inl rfl⟩⟩)
      | 18, _ =>
        refine StepAt.by rfl fun a' W hf hb hd => ?_
        refine .inl ⟨want_none, ?_⟩
        obtain ⟨v1, e1, hc1⟩ := hd 17 (by kernel_rfl)
        obtain ⟨b0, e0, ht0⟩ := hd 9 (by kernel_rfl)
        exact does_call2 (enters_of Try.func13 (by kernel_rfl) (by kernel_rfl)) e0 e1 ((with_any _ _ v1 _ W ht0 hc1).mono fun e W' ⟨b, he, ht, hb'⟩ => ⟨_, he, hb', b, rfl, ht⟩)
      | 19, _ =>
        refine StepAt.by rfl fun a' W hf hb hd => ?_
        exact .inl ⟨want_none, does_assign rfl ⟨Below.refl _ _, (hd 18 (by kernel_rfl))⟩⟩
      | 20, _ =>
        refine StepAt.by rfl fun a' W hf hb hd => ?_
        exact .inl ⟨want_none, does_assign rfl ⟨Below.refl _ _, rfl⟩⟩
      | k + 21, hi => exact absurd hi (Nat.not_lt.2 (Nat.le_add_left _ _))
    · intro a' W hf hb hv
      obtain ⟨b6, e6, ht6⟩ := hv 19 (by decide)
      have e7 : a'.eval (.tmp 7) = .int .i64 (0) := hv 20 (by decide)
      have hl := hf.lit (fun t => decide (63 ≤ t) && decide (t ≤ 81) || decide (t = 6) || decide (t = 7)) (by kernel_rfl)
      simp only [overL, Nat.reduceAdd, Nat.reduceLeDiff, Nat.reduceEqDiff, decide_true, decide_false, Bool.and_true, Bool.and_false, Bool.or_true, Bool.or_false] at hl
      have e6' : a'.eval (.tmp 6) = .map (some b6) := e6
      rw [hl, e6', e7]
      have HF : Hid (TMap W b6 _ ∧ Below _ _ W) := ⟨ht6, hb⟩
      clear hl hf hb hv e6 e6' e7 ht6
      go_wp2_with (fail)
      go_ret2
      exact AppliedM.yes HS.out HF.out.1 (HEND.out _ _ (HN5.out _ rfl) HF.out.2)

set_option maxRecDepth 8000 in
set_option maxHeartbeats 8000000 in
theorem refMkdir_any (bm : Nat) (xs : List M.Nd) (a : AV) (ac : M.Act) (ver : Int) (w : World) (ht : TMap w bm xs) (ha : ContA w a ac) (hri : M.Rise xs) (hsm : ∀ x ∈ xs, Small x) (hsn : a.name.size ≤ maxLen) (hs1 : ∀ x ∈ xs, (x.ents.length + 1) * 24 ≤ 140737488355328) (hk : a.kind = 2) :
    Calls Try.prog 36 #[.map (some bm), a.val, .int .i64 ver] w (AppliedM w (M.bringS xs ac ver)) := by
  have HT : Hid (TMap w bm xs ∧ ContA w a ac ∧ True) := ⟨ht, ha, trivial⟩
  have HK : Hid (a.fid = ac.fid ∧ a.dir = ac.dir ∧ a.name = ac.name ∧ a.to = ac.to ∧ a.toName = ac.toName) := ⟨ha.2.1, ha.2.2.1, ha.2.2.2.1, ha.2.2.2.2.1, ha.2.2.2.2.2.1⟩
  have HSM : Hid (∀ x ∈ xs, Small x) := hsm
  have HRI : Hid (M.Rise xs) := hri
  have HW : Hid _ := apw_start w a ver
  have HS1 : Hid (∀ x ∈ xs, (x.ents.length + 1) * 24 ≤ 140737488355328) := hs1
  have HKK : Hid (a.kind = ac.kind) := ha.1
  have k1 : (a.kind == 1) = false := by simp [hk]
  have k2 : (a.kind == 2) = true := by simp [hk]
  have k3 : (a.kind == 3) = false := by simp [hk]
  have k4 : (a.kind == 4) = false := by simp [hk]
  have k5 : (a.kind == 5) = false := by simp [hk]
  clear ht ha hk hri hsm hs1
  go_enter Try.func36, Try.ntmps36
  go_upto_region 1 with (fail)
  go_cut [8] from 24 to 24 (fun v W => v = .func (.func 59) #[] #[.pointer (some ⟨w.heap.size + 1, 0, none⟩)] ∧ ApW w a ver W)
  case first =>
    go_wp2_with (fail)
    go_meet
    case rel => exact ⟨rfl, HW.out _ rfl⟩
  obtain ⟨rfl, hw1⟩ := hcut
  rename World => w1
  obtain ⟨a0, a1, a2, a3, a4, a5, a6, af, az⟩ := hw1.2.1.facts
  have H1 : Hid (ApW w a ver w1 ∧ TMap w1 bm xs ∧ ContA w1 a ac) := ⟨hw1, HT.out.1.below (Nat.le_refl _) hw1.1, HT.out.2.1.below (Nat.le_refl _) hw1.1⟩
  clear hw1 HW
  go_wp2_with (fail)
  refine (refDir_any bm xs a.dir w1 H1.out.2.1).mono ?_
  rintro e w2 ⟨v, rfl, hdc, hb2⟩
  have H2 : Hid (ApW w a ver w2 ∧ TMap w2 bm xs ∧ ContA w2 a ac) := ⟨H1.out.1.next hb2, H1.out.2.1.below (Nat.le_refl _) hb2, H1.out.2.2.below (Nat.le_refl _) hb2⟩
  have HDC : Hid ((M.dirS xs a.dir).1 = 0 → Cont w2 v (M.dirS xs a.dir).2) := hdc
  clear hb2 hdc H1 a0 a1 a2 a3 a4 a5 a6 af az
  obtain ⟨a0, a1, a2, a3, a4, a5, a6, af, az⟩ := H2.out.1.2.1.facts
  by_cases hd0 : (M.dirS xs a.dir).1 = 0
  case' neg =>
    have e1 : ((M.dirS xs a.dir).1 != 0) = true := by simp [hd0]
    have HS : Hid ((M.bringS xs ac ver).1 = (M.dirS xs a.dir).1 ∧ (M.dirS xs a.dir).1 ≠ 0) := ⟨by unfold M.bringS; rw [HK.out.2.1] at hd0 ⊢; rw [if_pos hd0], hd0⟩
    clear hd0
    go_wp2_with (fail)
    go_ret2
    exact AppliedM.no HS.out.1 HS.out.2 (H2.out.1.1.trans (((Below.refl _ _).alloc (Nat.le_refl _) _).mono H2.out.1.1.size))
  obtain ⟨x, hx⟩ : ∃ x, (M.dirS xs a.dir).2 = x := ⟨_, rfl⟩
  have HDX : Hid (M.dirS xs a.dir = (0, x)) := by show _ = _; rw [← hx, ← hd0]
  have hfx : M.find xs a.dir = some x := by rw [← hx]; exact (M.dir_ok hd0).1
  have HCX : Hid (Cont w2 v x ∧ Small x ∧ M.RsE x.ents ∧ (x.ents.length + 1) * 24 ≤ 140737488355328) := ⟨by rw [← hx]; exact HDC.out hd0, HSM.out x (M.find_mem hfx).1, HRI.out.2 x (M.find_mem hfx).1, HS1.out x (M.find_mem hfx).1⟩
  rw [hd0]
  clear hd0 hx hfx HDC
  have HWN : Hid (∀ W, W = w2.alloc (.cells #[.int .i64 v.fid, .bool v.dir, .slice v.dA v.dn v.dc, .slice v.eA v.en v.ec, .int .i64 v.ver] 26) → Below w2.heap.size w2 W ∧ Box W w2.heap.size v) := by
    rintro W rfl
    exact ⟨(Below.refl _ _).alloc (Nat.le_refl _) _, Box.new w2 v⟩
  go_wp2_with (fail)
  obtain ⟨q1, q2⟩ := HWN.out _ rfl
  refine (refRoom_any v x a.name _ (HCX.out.1.below (Nat.le_refl _) q1) HCX.out.2.1 hsn).mono ?_
  rintro e w3 ⟨rfl, hb3⟩
  have h23 : Below w2.heap.size w2 w3 := q1.trans (hb3.mono q1.size)
  have H3 : Hid (ApW w a ver w3 ∧ TMap w3 bm xs ∧ Box w3 w2.heap.size v ∧ Cont w3 v x) := ⟨H2.out.1.next h23, H2.out.2.1.below (Nat.le_refl _) h23, q2.below hb3 (lt_of_block q2), HCX.out.1.below (Nat.le_refl _) h23⟩
  clear q1 q2 hb3 h23 H2 HWN a0 a1 a2 a3 a4 a5 a6 af az
  obtain ⟨a0, a1, a2, a3, a4, a5, a6, af, az⟩ := H3.out.1.2.1.facts
  by_cases hfr : M.freeS x a.name = 0
  case' neg =>
    have e1 : (M.freeS x a.name != 0) = true := by simp [hfr]
    have HS : Hid ((M.bringS xs ac ver).1 = M.freeS x a.name ∧ M.freeS x a.name ≠ 0) := ⟨by unfold M.bringS; rw [← HK.out.2.1, ← HK.out.2.2.1, HDX.out, if_neg (by simp), if_pos hfr], hfr⟩
    clear hfr
    go_wp2_with (fail)
    go_ret2
    exact AppliedM.no HS.out.1 HS.out.2 H3.out.1.1
  have HBR : Hid (M.bringS xs ac ver = if a.fid = 0 ∨ (M.find xs a.fid).isSome = true then (13, []) else if 24 ≤ xs.length then (5, []) else (0, M.putN (M.putN xs (M.withV (withE x (M.putE x.ents (a.name, a.fid))) ver)) ⟨a.fid, a.kind == 2, [], [], ver⟩)) := by
    show _ = _
    have e2 : (a.kind == 2) = decide (ac.kind = 2) := by rw [HKK.out]; rfl
    unfold M.bringS
    rw [← HK.out.1, ← HK.out.2.1, ← HK.out.2.2.1, HDX.out, if_neg (by simp), if_neg (by simp [hfr]), e2]
    rfl
  rw [hfr]
  clear hfr
  rcases IMap.ask H3.out.2.1 a.fid with ⟨hf, hl⟩ | ⟨vf, xf, hf, hcf, hl⟩
  case' inr =>
    have hl1 := hl true
    simp only [if_true] at hl1
    have HS : Hid ((M.bringS xs ac ver).1 = 13) := by show _ = _; rw [HBR.out, hf]; simp
    clear hl hf hcf
    go_wp2_with (fail)
    go_ret2
    exact AppliedM.no HS.out (by decide) (H3.out.1.1.trans (((Below.refl _ _).alloc (Nat.le_refl _) _).mono H3.out.1.1.size))
  have hl1 := hl true
  simp only [if_true] at hl1
  generalize NV.zero = vz at hl1
  by_cases hf0 : a.fid = 0
  case' pos =>
    have e1 : (a.fid == 0) = true := by simp [hf0]
    have HS : Hid ((M.bringS xs ac ver).1 = 13) := by show _ = _; rw [HBR.out, if_pos (.inl hf0)]
    clear hl hf hf0
    go_wp2_with (fail)
    go_ret2
    exact AppliedM.no HS.out (by decide) (H3.out.1.1.trans (((Below.refl _ _).alloc (Nat.le_refl _) _).mono H3.out.1.1.size))
  have e1 : (a.fid == 0) = false := by simp [hf0]
  have HB2 : Hid (M.bringS xs ac ver = if 24 ≤ xs.length then (5, []) else (0, M.putN (M.putN xs (M.withV (withE x (M.putE x.ents (a.name, a.fid))) ver)) ⟨a.fid, a.kind == 2, [], [], ver⟩)) := by
    show _ = _; rw [HBR.out, hf, if_neg (by simp [hf0])]
  clear hl hf hf0 HBR
  have HN5 : Hid (∀ W, W = w3.alloc (.cells #[.int .i64 vz.fid, .bool vz.dir, .slice vz.dA vz.dn vz.dc, .slice vz.eA vz.en vz.ec, .int .i64 vz.ver] 26) → Below w3.heap.size w3 W) := by
    rintro W rfl; exact (Below.refl _ _).alloc (Nat.le_refl _) _
  obtain ⟨es, clock, hbm, hes⟩ := (H3.out.2.1.below (Nat.le_refl _) (HN5.out _ rfl)).count HRI.out.1
  have hlen := run_len_map (P := Try.prog) (w := w3.alloc (.cells #[.int .i64 vz.fid, .bool vz.dir, .slice vz.dA vz.dn vz.dc, .slice vz.eA vz.en vz.ec, .int .i64 vz.ver] 26)) 30 3 bm es clock (by kernel_rfl) hbm
  rw [hes] at hlen
  clear hbm hes
  by_cases h24 : 24 ≤ xs.length
  · have h24' : (24 : Int) ≤ (xs.length : Int) := by omega
    have HS : Hid ((M.bringS xs ac ver).1 = 5) := by show _ = _; rw [HB2.out, if_pos h24]
    clear h24
    go_wp2_with (fail)
    go_ret2
    exact AppliedM.no HS.out (by decide) (H3.out.1.1.trans ((HN5.out _ rfl).mono H3.out.1.1.size))
  · have h24' : ¬ (24 : Int) ≤ (xs.length : Int) := by omega
    have HS : Hid (M.bringS xs ac ver = (0, M.putN (M.putN xs (M.withV (withE x (M.putE x.ents (a.name, a.fid))) ver)) ⟨a.fid, a.kind == 2, [], [], ver⟩)) := by show _ = _; rw [HB2.out, if_neg h24]
    clear h24
    have HSX : Hid (Small x ∧ M.RsE x.ents ∧ (x.ents.length + 1) * 24 ≤ 140737488355328) := HCX.out.2
    go_upto_region 17 with (fail)
    have hb5 := HN5.out _ rfl
    have hbd : ∀ W5 : World, Below w3.heap.size w3 W5 → ∀ W, Below W5.drew.heap.size W5.drew W → Below w3.heap.size w3 W := fun W5 h5 W hb => h5.trans (((Below.refl _ _).drew.trans hb).mono h5.size)
    have HA := fun W hb => (H3.out.1.next (hbd _ hb5 W hb)).2.1
    have HV := fun W hb => (H3.out.1.next (hbd _ hb5 W hb)).ver
    have HM := fun W hb => H3.out.2.1.below (Nat.le_refl _) (hbd _ hb5 W hb)
    have HN := fun W hb => H3.out.2.2.1.below (hbd _ hb5 W hb) (lt_of_block H3.out.2.2.1)
    have HCN := fun W hb => H3.out.2.2.2.below (Nat.le_refl _) (hbd _ hb5 W hb)
    have HEND : Hid (∀ W5 W : World, Below w3.heap.size w3 W5 → Below W5.heap.size W5 W → Below w.heap.size w W) := fun W5 W h5 hb => H3.out.1.1.trans ((h5.trans (hb.mono h5.size)).mono H3.out.1.1.size)
    refine wp_region_vals (VR17 bm (w.heap.size + 1) w.heap.size xs a v x ver) (by kernel_rfl) (by kernel_rfl) (VR17_stays bm (w.heap.size + 1) w.heap.size xs a v x ver) ?_ ?_
    · intro i hi
      match i, hi with
      | 0, _ =>
        refine StepAt.by rfl fun a' W hf hb hd => ?_
        exact .inl ⟨want_none, does_move ((hf.keeps 0 (by kernel_rfl)).trans rfl) ⟨Below.refl _ _, rfl⟩⟩
      | 1, _ =>
        refine StepAt.by rfl fun a' W hf hb hd => ?_
        exact .inl ⟨want_none, does_move ((hf.keeps 8 (by kernel_rfl)).trans rfl) ⟨Below.refl _ _, rfl⟩⟩
      | 2, _ =>
        refine StepAt.by rfl fun a' W hf hb hd => ?_
        exact .inl ⟨want_none, does_rn (run_load26 ((hf.keeps 9 (by kernel_rfl)).trans rfl) (HN W hb)) ⟨Below.refl _ _, rfl⟩⟩
      | 3, _ =>
        refine StepAt.by rfl fun a' W hf hb hd => ?_
        exact .inl ⟨want_none, does_rn (run_fieldA ((hf.keeps 4 (by kernel_rfl)).trans rfl) (by decide)) ⟨Below.refl _ _, rfl⟩⟩
      | 4, _ =>
        refine StepAt.by rfl fun a' W hf hb hd => ?_
        exact .inl ⟨want_none, does_rn (run_load9 (hd 3 (by kernel_rfl)) (BoxA.facts (HA W hb)).2.2.2.1) ⟨Below.refl _ _, rfl⟩⟩
      | 5, _ =>
        refine StepAt.by rfl fun a' W hf hb hd => ?_
        exact .inl ⟨want_none, does_rn (run_fieldA ((hf.keeps 4 (by kernel_rfl)).trans rfl) (by decide)) ⟨Below.refl _ _, rfl⟩⟩
      | 6, _ =>
        refine StepAt.by rfl fun a' W hf hb hd => ?_
        exact .inl ⟨want_none, does_rn (run_load3 (hd 5 (by kernel_rfl)) (BoxA.facts (HA W hb)).2.1) ⟨Below.refl _ _, rfl⟩⟩
      | 7, _ =>
        refine StepAt.by rfl fun a' W hf hb hd => ?_
        refine .inl ⟨want_none, ?_⟩
        exact does_call3 (enters_of Try.func27 (by kernel_rfl) (by kernel_rfl)) (hd 2 (by kernel_rfl)) (hd 4 (by kernel_rfl)) (hd 6 (by kernel_rfl)) ((refEnter_any v x a.name a.fid W (HCN W hb) HSX.out.2.1 HSX.out.1 HSX.out.2.2).mono fun e W' ⟨v', he, hc, hb'⟩ => ⟨_, he, hb', v', rfl, hc⟩)
      | 8, _ =>
        refine StepAt.by rfl fun a' W hf hb hd => ?_
        refine .inl ⟨want_none, ?_⟩
        obtain ⟨v1, e1, hc1⟩ := hd 7 (by kernel_rfl)
        exact does_callC (enters_of Try.func59 (by kernel_rfl) (by kernel_rfl)) (hd 1 (by kernel_rfl)) e1 ((refVer_any v1 (w.heap.size + 1) ver W (HV W hb)).mono fun e W' ⟨he, hb'⟩ => ⟨_, he, hb', ⟨v1.fid, v1.dir, v1.dA, v1.dn, v1.dc, v1.eA, v1.en, v1.ec, ver⟩, rfl, (contV hc1 ver).below (Nat.le_refl _) hb'⟩)
      | 9, _ =>
        refine StepAt.by rfl fun a' W hf hb hd => ?_
        refine .inl ⟨want_none, ?_⟩
        obtain ⟨v1, e1, hc1⟩ := hd 8 (by kernel_rfl)
        have e0 := hd 0 (by kernel_rfl)
        have ht0 := HM W hb
        exact does_call2 (enters_of Try.func13 (by kernel_rfl) (by kernel_rfl)) e0 e1 ((with_any _ _ v1 _ W ht0 hc1).mono fun e W' ⟨b, he, ht, hb'⟩ => ⟨_, he, hb', b, rfl, ht⟩)
      | 10, _ =>
        refine StepAt.by rfl fun a' W hf hb hd => ?_
        exact .inl ⟨want_none, does_move ((hf.keeps 8 (by kernel_rfl)).trans rfl) ⟨Below.refl _ _, rfl⟩⟩
      | 11, _ =>
        refine StepAt.by rfl fun a' W hf hb hd => ?_
        exact .inl ⟨want_none, does_rn (run_fieldA ((hf.keeps 4 (by kernel_rfl)).trans rfl) (by decide)) ⟨Below.refl _ _, rfl⟩⟩
      | 12, _ =>
        refine StepAt.by rfl fun a' W hf hb hd => ?_
        exact .inl ⟨want_none, does_rn (run_load3 (hd 11 (by kernel_rfl)) (BoxA.facts (HA W hb)).2.1) ⟨Below.refl _ _, rfl⟩⟩
      | 13, _ =>
        refine StepAt.by rfl fun a' W hf hb hd => ?_
        exact .inl ⟨want_none, does_rn (run_fieldA ((hf.keeps 4 (by kernel_rfl)).trans rfl) (by decide)) ⟨Below.refl _ _, rfl⟩⟩
      | 14, _ =>
        refine StepAt.by rfl fun a' W hf hb hd => ?_
        exact .inl ⟨want_none, does_rn (run_load3 (hd 13 (by kernel_rfl)) (BoxA.facts (HA W hb)).1) ⟨Below.refl _ _, rfl⟩⟩
      | 15, _ =>
        refine StepAt.by rfl fun a' W hf hb hd => ?_
        exact .inl ⟨want_none, does_rn (run_eqN (hd 14 (by kernel_rfl)) rfl) ⟨Below.refl _ _, rfl⟩⟩
      | 16, _ =>
        refine StepAt.by rfl fun a' W hf hb hd => ?_
        refine .inl ⟨want_none, ?_⟩
        exact does_rn (run_buildN (hd 12 (by kernel_rfl)) (hd 15 (by kernel_rfl))) ⟨Below.refl _ _, rfl⟩
      | 17, _ =>
        refine StepAt.by rfl fun a' W hf hb hd => ?_
        refine .inl ⟨want_none, ?_⟩
        exact does_callC (enters_of Try.func59 (by kernel_rfl) (by kernel_rfl)) (hd 10 (by kernel_rfl)) (hd 16 (by kernel_rfl)) ((refVer_any ⟨a.fid, (a.kind == 2), none, 0, 0, none, 0, 0, 0⟩ (w.heap.size + 1) ver W (HV W hb)).mono fun e W' ⟨he, hb'⟩ => ⟨_, he, hb', ⟨a.fid, a.kind == 2, none, 0, 0, none, 0, 0, ver⟩, rfl, rfl, rfl, rfl, ⟨rfl, .inl rfl⟩, ⟨rfl, .inl rfl⟩⟩)
      | 18, _ =>
        refine StepAt.by rfl fun a' W hf hb hd => ?_
        refine .inl ⟨want_none, ?_⟩
        obtain ⟨v1, e1, hc1⟩ := hd 17 (by kernel_rfl)
        obtain ⟨b0, e0, ht0⟩ := hd 9 (by kernel_rfl)
        exact does_call2 (enters_of Try.func13 (by kernel_rfl) (by kernel_rfl)) e0 e1 ((with_any _ _ v1 _ W ht0 hc1).mono fun e W' ⟨b, he, ht, hb'⟩ => ⟨_, he, hb', b, rfl, ht⟩)
      | 19, _ =>
        refine StepAt.by rfl fun a' W hf hb hd => ?_
        exact .inl ⟨want_none, does_assign rfl ⟨Below.refl _ _, (hd 18 (by kernel_rfl))⟩⟩
      | 20, _ =>
        refine StepAt.by rfl fun a' W hf hb hd => ?_
        exact .inl ⟨want_none, does_assign rfl ⟨Below.refl _ _, rfl⟩⟩
      | k + 21, hi => exact absurd hi (Nat.not_lt.2 (Nat.le_add_left _ _))
    · intro a' W hf hb hv
      obtain ⟨b6, e6, ht6⟩ := hv 19 (by decide)
      have e7 : a'.eval (.tmp 7) = .int .i64 (0) := hv 20 (by decide)
      have hl := hf.lit (fun t => decide (63 ≤ t) && decide (t ≤ 81) || decide (t = 6) || decide (t = 7)) (by kernel_rfl)
      simp only [overL, Nat.reduceAdd, Nat.reduceLeDiff, Nat.reduceEqDiff, decide_true, decide_false, Bool.and_true, Bool.and_false, Bool.or_true, Bool.or_false] at hl
      have e6' : a'.eval (.tmp 6) = .map (some b6) := e6
      rw [hl, e6', e7]
      have HF : Hid (TMap W b6 _ ∧ Below _ _ W) := ⟨ht6, hb⟩
      clear hl hf hb hv e6 e6' e7 ht6
      go_wp2_with (fail)
      go_ret2
      exact AppliedM.yes HS.out HF.out.1 (HEND.out _ _ (HN5.out _ rfl) HF.out.2)
end Go.Proofs.Ytlegjdlmcphhlaa
/-
  THE REFERENCE's Apply: acts that rename.
-/
namespace Go.Proofs.Ytlegjdlmcphhlaa
open Go.RowKit

theorem put_over {xs : List M.Nd} (hr : M.RsN xs) {F T : M.Nd} (h : F.fid = T.fid) : M.putN (M.putN xs F) T = M.putN xs T := by
  refine ext_find (rs_put _ (rs_put _ hr)) (rs_put _ hr) fun t => ?_
  by_cases e : t = T.fid
  · subst e
    rw [findN_put, findN_put]
  · rw [findN_other _ _ t e, findN_other _ _ t e, findN_other _ _ t (by rw [h]; exact e)]

set_option maxRecDepth 8000 in
set_option maxHeartbeats 8000000 in
theorem refRename_any (bm : Nat) (xs : List M.Nd) (a : AV) (ac : M.Act) (ver : Int) (w : World) (ht : TMap w bm xs) (ha : ContA w a ac) (hri : M.Rise xs) (hsm : ∀ x ∈ xs, Small x) (hst : a.toName.size ≤ maxLen) (hs1 : ∀ x ∈ xs, (x.ents.length + 1) * 24 ≤ 140737488355328) (hN : ((allF xs).length + 2) * 8 ≤ 140737488355328) (hk : a.kind = 5) :
    Calls Try.prog 36 #[.map (some bm), a.val, .int .i64 ver] w (AppliedM w (M.renameS xs ac ver)) := by
  have HT : Hid (TMap w bm xs ∧ ContA w a ac ∧ True) := ⟨ht, ha, trivial⟩
  have HK : Hid (a.fid = ac.fid ∧ a.dir = ac.dir ∧ a.name = ac.name ∧ a.to = ac.to ∧ a.toName = ac.toName) := ⟨ha.2.1, ha.2.2.1, ha.2.2.2.1, ha.2.2.2.2.1, ha.2.2.2.2.2.1⟩
  have HSM : Hid (∀ x ∈ xs, Small x) := hsm
  have HRI : Hid (M.Rise xs) := hri
  have HW : Hid _ := apw_start w a ver
  have HS1 : Hid (∀ x ∈ xs, (x.ents.length + 1) * 24 ≤ 140737488355328) := hs1
  have k1 : (a.kind == 1) = false := by simp [hk]
  have k2 : (a.kind == 2) = false := by simp [hk]
  have k3 : (a.kind == 3) = false := by simp [hk]
  have k4 : (a.kind == 4) = false := by simp [hk]
  have k5 : (a.kind == 5) = true := by simp [hk]
  clear ht ha hk hri hsm hs1
  go_enter Try.func36, Try.ntmps36
  go_upto_region 1 with (fail)
  go_cut [8] from 24 to 24 (fun v W => v = .func (.func 59) #[] #[.pointer (some ⟨w.heap.size + 1, 0, none⟩)] ∧ ApW w a ver W)
  case first =>
    go_wp2_with (fail)
    go_meet
    case rel => exact ⟨rfl, HW.out _ rfl⟩
  obtain ⟨rfl, hw1⟩ := hcut
  rename World => w1
  obtain ⟨a0, a1, a2, a3, a4, a5, a6, af, az⟩ := hw1.2.1.facts
  have H1 : Hid (ApW w a ver w1 ∧ TMap w1 bm xs ∧ ContA w1 a ac) := ⟨hw1, HT.out.1.below (Nat.le_refl _) hw1.1, HT.out.2.1.below (Nat.le_refl _) hw1.1⟩
  clear hw1 HW
  go_wp2_with (fail)
  refine (refDir_any bm xs a.dir w1 H1.out.2.1).mono ?_
  rintro e w2 ⟨v, rfl, hdc, hb2⟩
  have H2 : Hid (ApW w a ver w2 ∧ TMap w2 bm xs ∧ ContA w2 a ac) := ⟨H1.out.1.next hb2, H1.out.2.1.below (Nat.le_refl _) hb2, H1.out.2.2.below (Nat.le_refl _) hb2⟩
  have HDC : Hid ((M.dirS xs a.dir).1 = 0 → Cont w2 v (M.dirS xs a.dir).2) := hdc
  clear hb2 hdc H1 a0 a1 a2 a3 a4 a5 a6 af az
  obtain ⟨a0, a1, a2, a3, a4, a5, a6, af, az⟩ := H2.out.1.2.1.facts
  by_cases hd0 : (M.dirS xs a.dir).1 = 0
  case' neg =>
    have e1 : ((M.dirS xs a.dir).1 != 0) = true := by simp [hd0]
    have HS : Hid ((M.renameS xs ac ver).1 = (M.dirS xs a.dir).1 ∧ (M.dirS xs a.dir).1 ≠ 0) := ⟨by unfold M.renameS; rw [HK.out.2.1] at hd0 ⊢; rw [hold_err hd0, if_pos hd0], hd0⟩
    clear hd0
    go_wp2_with (fail)
    go_ret2
    exact AppliedM.no HS.out.1 HS.out.2 (H2.out.1.1.trans (((Below.refl _ _).alloc (Nat.le_refl _) _).mono H2.out.1.1.size))
  obtain ⟨x, hx⟩ : ∃ x, (M.dirS xs a.dir).2 = x := ⟨_, rfl⟩
  have HDX : Hid (M.dirS xs a.dir = (0, x)) := by show _ = _; rw [← hx, ← hd0]
  have hfx : M.find xs a.dir = some x := by rw [← hx]; exact (M.dir_ok hd0).1
  have HCX : Hid (Cont w2 v x ∧ Small x ∧ M.RsE x.ents) := ⟨by rw [← hx]; exact HDC.out hd0, HSM.out x (M.find_mem hfx).1, HRI.out.2 x (M.find_mem hfx).1⟩
  rw [hd0]
  clear hd0 hx hfx HDC
  have HWN : Hid (∀ W, W = w2.alloc (.cells #[.int .i64 v.fid, .bool v.dir, .slice v.dA v.dn v.dc, .slice v.eA v.en v.ec, .int .i64 v.ver] 26) → Below w2.heap.size w2 W ∧ Box W w2.heap.size v) := by
    rintro W rfl
    exact ⟨(Below.refl _ _).alloc (Nat.le_refl _) _, Box.new w2 v⟩
  go_wp2_with (fail)
  obtain ⟨q1, q2⟩ := HWN.out _ rfl
  refine (refEntry_any v x a.name _ (HCX.out.1.below (Nat.le_refl _) q1) HCX.out.2.1).mono ?_
  rintro e w3 ⟨rfl, hb3⟩
  have h23 : Below w2.heap.size w2 w3 := q1.trans (hb3.mono q1.size)
  have H3 : Hid (ApW w a ver w3 ∧ TMap w3 bm xs ∧ ContA w3 a ac ∧ Box w3 w2.heap.size v ∧ Cont w3 v x) := ⟨H2.out.1.next h23, H2.out.2.1.below (Nat.le_refl _) h23, H2.out.2.2.below (Nat.le_refl _) h23, q2.below hb3 (lt_of_block q2), HCX.out.1.below (Nat.le_refl _) h23⟩
  have HN2 : Hid (w2.heap.size < w3.heap.size ∧ w.heap.size + 1 < w2.heap.size) := ⟨lt_of_block (q2.below hb3 (lt_of_block q2)), lt_of_block H2.out.1.2.2⟩
  clear q1 q2 hb3 h23 H2 HWN a0 a1 a2 a3 a4 a5 a6 af az
  obtain ⟨a0, a1, a2, a3, a4, a5, a6, af, az⟩ := H3.out.1.2.1.facts
  rcases hlk : M.look x.ents a.name with _ | en
  case' none =>
    have HS : Hid ((M.renameS xs ac ver).1 = 6) := by show _ = _; unfold M.renameS; rw [← HK.out.1, ← HK.out.2.1, ← HK.out.2.2.1, hold_none HDX.out hlk]; rfl
    clear hlk
    go_wp2_with (fail)
    go_ret2
    exact AppliedM.no HS.out (by decide) H3.out.1.1
  obtain ⟨en1, en2⟩ := en
  have hgd : (((some (en1, en2) : Option (ByteArray × Int)).map (·.2)).getD 0) = en2 := rfl
  have hgs : (some (en1, en2) : Option (ByteArray × Int)).isSome = true := rfl
  rw [hgd, hgs]
  clear hgd hgs
  by_cases hen : en2 = a.fid
  case' neg =>
    have e1 : (en2 != a.fid) = true := by simp [hen]
    have HS : Hid ((M.renameS xs ac ver).1 = 13) := by show _ = _; unfold M.renameS; rw [← HK.out.1, ← HK.out.2.1, ← HK.out.2.2.1, hold_other HDX.out hlk hen]; rfl
    clear hlk hen
    go_wp2_with (fail)
    go_ret2
    exact AppliedM.no HS.out (by decide) H3.out.1.1
  have e1 : (en2 != a.fid) = false := by simp [hen]
  have HHO : Hid (M.holdS xs ac.dir ac.name ac.fid = (0, x)) := by
    rw [← HK.out.1, ← HK.out.2.1, ← HK.out.2.2.1]
    exact hold_yes HDX.out hlk hen
  clear hlk hen
  obtain ⟨vf, fb, hl1, HFB⟩ : ∃ (vf : NV) (fb : Bool), (Instr.lookup 30 (.map (some bm)) (.int .i64 a.fid) true).run Try.prog w3 = .ok (.tuple #[vf.val, .bool fb]) w3 ∧ Hid ((M.find xs a.fid).isSome = fb) := by
    rcases IMap.ask H3.out.2.1 a.fid with ⟨hf, hl⟩ | ⟨vf, xf, hf, hcf, hl⟩
    · exact ⟨NV.zero, false, hl true, by show _ = _; rw [hf]; rfl⟩
    · exact ⟨vf, true, hl true, by show _ = _; rw [hf]; rfl⟩
  have HN5 : Hid (∀ W, W = w3.alloc (.cells #[.int .i64 vf.fid, .bool vf.dir, .slice vf.dA vf.dn vf.dc, .slice vf.eA vf.en vf.ec, .int .i64 vf.ver] 26) → Below w3.heap.size w3 W ∧ W.heap.size = w3.heap.size + 1) := by
    rintro W rfl; exact ⟨(Below.refl _ _).alloc (Nat.le_refl _) _, by simp⟩
  go_wp2_with (fail)
  obtain ⟨q5, q6⟩ := HN5.out _ rfl
  refine (refDir_any bm xs a.to _ (H3.out.2.1.below (Nat.le_refl _) q5)).mono ?_
  rintro e w6 ⟨vt, rfl, hdt, hb6⟩
  have h36 : Below w3.heap.size w3 w6 := q5.trans (hb6.mono q5.size)
  have H6 : Hid (ApW w a ver w6 ∧ TMap w6 bm xs ∧ Box w6 w2.heap.size v ∧ Cont w6 v x) := ⟨H3.out.1.next h36, H3.out.2.1.below (Nat.le_refl _) h36, H3.out.2.2.2.1.below h36 (lt_of_block H3.out.2.2.2.1), H3.out.2.2.2.2.below (Nat.le_refl _) h36⟩
  have HDT : Hid ((M.dirS xs a.to).1 = 0 → Cont w6 vt (M.dirS xs a.to).2) := hdt
  clear q5 q6 hb6 h36 hdt H3 HN5 hl1 a0 a1 a2 a3 a4 a5 a6 af az
  obtain ⟨a0, a1, a2, a3, a4, a5, a6, af, az⟩ := H6.out.1.2.1.facts
  by_cases hd0 : (M.dirS xs a.to).1 = 0
  case' neg =>
    have e2 : ((M.dirS xs a.to).1 != 0) = true := by simp [hd0]
    have HS : Hid ((M.renameS xs ac ver).1 = (M.dirS xs a.to).1 ∧ (M.dirS xs a.to).1 ≠ 0) := ⟨by unfold M.renameS; rw [HK.out.2.2.2.1] at hd0 ⊢; rw [HHO.out, if_neg (by simp), if_pos hd0], hd0⟩
    clear hd0
    go_wp2_with (fail)
    go_ret2
    exact AppliedM.no HS.out.1 HS.out.2 (H6.out.1.1.trans (((Below.refl _ _).alloc (Nat.le_refl _) _).mono H6.out.1.1.size))
  obtain ⟨xt, hxt⟩ : ∃ xt, (M.dirS xs a.to).2 = xt := ⟨_, rfl⟩
  have HTX : Hid (M.dirS xs a.to = (0, xt)) := by show _ = _; rw [← hxt, ← hd0]
  have hft : M.find xs a.to = some xt := by rw [← hxt]; exact (M.dir_ok hd0).1
  have HCT : Hid (Cont w6 vt xt ∧ Small xt ∧ M.RsE xt.ents ∧ xt ∈ xs) := ⟨by rw [← hxt]; exact HDT.out hd0, HSM.out xt (M.find_mem hft).1, HRI.out.2 xt (M.find_mem hft).1, (M.find_mem hft).1⟩
  rw [hd0]
  clear hd0 hxt hft HDT
  have HFR : Hid (M.fromS xs ac = withE x (M.dropE x.ents a.name) ∧ M.toS xs ac = (if a.to = a.dir then withE x (M.dropE x.ents a.name) else xt)) := by
    have h1 : M.fromS xs ac = withE x (M.dropE x.ents a.name) := by unfold M.fromS; rw [HHO.out, ← HK.out.2.2.1]; rfl
    refine ⟨h1, ?_⟩
    unfold M.toS
    rw [h1, ← HK.out.2.2.2.1, ← HK.out.2.1, HTX.out]
  have HWT : Hid (∀ W, W = w6.alloc (.cells #[.int .i64 vt.fid, .bool vt.dir, .slice vt.dA vt.dn vt.dc, .slice vt.eA vt.en vt.ec, .int .i64 vt.ver] 26) → Below w6.heap.size w6 W ∧ Box W w6.heap.size vt) := by
    rintro W rfl
    exact ⟨(Below.refl _ _).alloc (Nat.le_refl _) _, Box.new w6 vt⟩
  go_upto_if 174 with (fail)
  go_cut [178] from 174 to 178 (fun _ W => Below w6.heap.size w6 W ∧ ∃ (vo : NV) (xo : M.Nd), Box W w6.heap.size vo ∧ Cont W vo xo ∧ xo = M.toS xs ac ∧ Small xo ∧ M.RsE xo.ents ∧ (xo.ents.length + 1) * 24 ≤ 140737488355328)
  case first =>
    by_cases htd : a.to = a.dir
    · have t1 : (a.to == a.dir) = true := by simp [htd]
      have HEQ : Hid (xt = x ∧ M.toS xs ac = withE x (M.dropE x.ents a.name)) := by
        refine ⟨?_, by rw [HFR.out.2, if_pos htd]⟩
        have h1 := HTX.out
        rw [htd, HDX.out] at h1
        exact (Prod.mk.inj h1).2.symm
      have SMD : Hid (Small (withE xt (M.dropE xt.ents a.name)) ∧ M.RsE (withE xt (M.dropE xt.ents a.name)).ents ∧ ((withE xt (M.dropE xt.ents a.name)).ents.length + 1) * 24 ≤ 140737488355328) := by
        have h1 : (M.dropE xt.ents a.name).length ≤ xt.ents.length := List.length_filter_le _ _
        have h2 := HS1.out xt HCT.out.2.2.2
        refine ⟨⟨HCT.out.2.1.1, ?_⟩, rs_dropE a.name HCT.out.2.2.1, ?_⟩
        · show (M.dropE xt.ents a.name).length * 24 ≤ _; omega
        · show ((M.dropE xt.ents a.name).length + 1) * 24 ≤ _; omega
      clear htd
      go_wp2_with (fail)
      obtain ⟨q1, q2⟩ := HWT.out _ rfl
      refine (refLeave_own vt xt a.name _ (HCT.out.1.below (Nat.le_refl _) q1) HCT.out.2.1).mono ?_
      rintro e w7 ⟨Ao, mo, co, rfl, hoo, hb7⟩
      have h67 : Below w6.heap.size w6 w7 := q1.trans (hb7.mono q1.size)
      have hbx := q2.below hb7 (lt_of_block q2)
      obtain ⟨z0, z1, z2, z3, z4, zf, zz⟩ := hbx.facts
      have hs6 : w6.heap.size < (w6.alloc (.cells #[.int .i64 vt.fid, .bool vt.dir, .slice vt.dA vt.dn vt.dc, .slice vt.eA vt.en vt.ec, .int .i64 vt.ver] 26)).heap.size := by simp
      obtain ⟨vo, hvo⟩ : ∃ vo : NV, vo = ⟨vt.fid, vt.dir, vt.dA, vt.dn, vt.dc, Ao, mo, co, vt.ver⟩ := ⟨_, rfl⟩
      have hbp : Below w6.heap.size w6 (put5 w7 w6.heap.size 0 vo) := put5_below h67 (Nat.le_refl _) _ _
      have hcp := HCT.out.1.below (Nat.le_refl _) hbp
      have hcv : Cont (put5 w7 w6.heap.size 0 vo) vo (withE xt (M.dropE xt.ents a.name)) := by
        have hrow := Row.ofOwn (cs := entCells) ent_len (by decide) (put5_own hoo hs6 0 vo)
        rw [hvo] at hcp hrow ⊢
        exact ⟨hcp.1, hcp.2.1, hcp.2.2.1, hcp.2.2.2.1, hrow⟩
      rw [← hvo]
      have HR : Hid (Below w6.heap.size w6 (put5 w7 w6.heap.size 0 vo) ∧ Box (put5 w7 w6.heap.size 0 vo) w6.heap.size vo ∧ Cont (put5 w7 w6.heap.size 0 vo) vo (withE xt (M.dropE xt.ents a.name))) := ⟨hbp, put5_box hbx vo, hcv⟩
      clear q1 q2 hoo hb7 h67 hbx hbp hcp hcv hvo hs6
      go_wp2_with (fail)
      go_meet
      case rel => exact ⟨HR.out.1, vo, _, HR.out.2.1, HR.out.2.2, by rw [HEQ.out.2, HEQ.out.1], SMD.out⟩
    · have t1 : (a.to == a.dir) = false := by simp [htd]
      have HEQ : Hid (M.toS xs ac = xt) := by show _ = _; rw [HFR.out.2, if_neg htd]
      clear htd
      go_wp2_with (fail)
      go_meet
      case rel => exact ⟨(HWT.out _ rfl).1, vt, xt, (HWT.out _ rfl).2, HCT.out.1.below (Nat.le_refl _) (HWT.out _ rfl).1, HEQ.out.symm, HCT.out.2.1, HCT.out.2.2.1, HS1.out xt HCT.out.2.2.2⟩
  obtain ⟨hb8, vo, xo, hbo, hco, hxo, hso, hro, hlo⟩ := hcut
  rename World => w8
  have H8 : Hid (ApW w a ver w8 ∧ TMap w8 bm xs ∧ Box w8 w2.heap.size v ∧ Cont w8 v x ∧ Box w8 w6.heap.size vo ∧ Cont w8 vo xo) := ⟨H6.out.1.next hb8, H6.out.2.1.below (Nat.le_refl _) hb8, H6.out.2.2.1.below hb8 (lt_of_block H6.out.2.2.1), H6.out.2.2.2.below (Nat.le_refl _) hb8, hbo, hco⟩
  have HSO : Hid (Small xo ∧ M.RsE xo.ents ∧ (xo.ents.length + 1) * 24 ≤ 140737488355328) := ⟨hso, hro, hlo⟩
  have HXO : Hid (M.toS xs ac = xo) := hxo.symm
  clear hb8 hbo hco hxo hso hro hlo H6 HWT a0 a1 a2 a3 a4 a5 a6 af az
  obtain ⟨a0, a1, a2, a3, a4, a5, a6, af, az⟩ := H8.out.1.2.1.facts
  obtain ⟨z0, z1, z2, z3, z4, zf, zz⟩ := H8.out.2.2.2.2.1.facts
  have HREN : Hid (M.renameS xs ac ver = if M.freeS xo a.toName ≠ 0 then (M.freeS xo a.toName, []) else (if (M.find xs a.fid).isNone then (12, []) else (@ite _ (M.Reach xs a.fid a.to) (Classical.propDecidable _) (11, []) (0, M.putN (M.putN xs (M.withV (withE x (M.dropE x.ents a.name)) ver)) (M.withV (withE xo (M.putE xo.ents (a.toName, a.fid))) ver))))) := by
    show _ = _
    unfold M.renameS
    rw [HHO.out, if_neg (by simp), ← HK.out.2.2.2.1, HTX.out, if_neg (by simp), HXO.out, HFR.out.1, ← HK.out.1, ← HK.out.2.2.2.2]
    rfl
  go_wp2_with (fail)
  refine (refRoom_any vo xo a.toName w8 H8.out.2.2.2.2.2 HSO.out.1 hst).mono ?_
  rintro e w9 ⟨rfl, hb9⟩
  have H9 : Hid (ApW w a ver w9 ∧ TMap w9 bm xs ∧ Box w9 w2.heap.size v ∧ Cont w9 v x ∧ Box w9 w6.heap.size vo ∧ Cont w9 vo xo) := ⟨H8.out.1.next hb9, H8.out.2.1.below (Nat.le_refl _) hb9, H8.out.2.2.1.below hb9 (lt_of_block H8.out.2.2.1), H8.out.2.2.2.1.below (Nat.le_refl _) hb9, H8.out.2.2.2.2.1.below hb9 (lt_of_block H8.out.2.2.2.2.1), H8.out.2.2.2.2.2.below (Nat.le_refl _) hb9⟩
  clear hb9 H8 a0 a1 a2 a3 a4 a5 a6 af az z0 z1 z2 z3 z4 zf zz
  obtain ⟨a0, a1, a2, a3, a4, a5, a6, af, az⟩ := H9.out.1.2.1.facts
  by_cases hfr : M.freeS xo a.toName = 0
  case' neg =>
    have e2 : (M.freeS xo a.toName != 0) = true := by simp [hfr]
    have HS : Hid ((M.renameS xs ac ver).1 = M.freeS xo a.toName ∧ M.freeS xo a.toName ≠ 0) := ⟨by rw [HREN.out, if_pos hfr], hfr⟩
    clear hfr
    go_wp2_with (fail)
    go_ret2
    exact AppliedM.no HS.out.1 HS.out.2 H9.out.1.1
  have HR2 : Hid (M.renameS xs ac ver = if (M.find xs a.fid).isNone then (12, []) else (@ite _ (M.Reach xs a.fid a.to) (Classical.propDecidable _) (11, []) (0, M.putN (M.putN xs (M.withV (withE x (M.dropE x.ents a.name)) ver)) (M.withV (withE xo (M.putE xo.ents (a.toName, a.fid))) ver)))) := by
    show _ = _; rw [HREN.out, if_neg (by simp [hfr])]
  rw [hfr]
  clear hfr HREN
  cases fb
  case' false =>
    have HS : Hid ((M.renameS xs ac ver).1 = 12) := by
      show _ = _
      rw [HR2.out, if_pos (by have h := HFB.out; cases hq : M.find xs a.fid with | none => rfl | some q => rw [hq] at h; cases h)]
    go_wp2_with (fail)
    go_ret2
    exact AppliedM.no HS.out (by decide) H9.out.1.1
  have HR3 : Hid (M.renameS xs ac ver = @ite _ (M.Reach xs a.fid a.to) (Classical.propDecidable _) (11, []) (0, M.putN (M.putN xs (M.withV (withE x (M.dropE x.ents a.name)) ver)) (M.withV (withE xo (M.putE xo.ents (a.toName, a.fid))) ver))) := by
    show _ = _
    rw [HR2.out, if_neg (by have h := HFB.out; cases hq : M.find xs a.fid with | none => rw [hq] at h; cases h | some q => simp)]
  clear HR2
  go_wp2_with (fail)
  refine (refWithin_any bm xs a.to a.fid w9 H9.out.2.1 HSM.out hN).mono ?_
  rintro e w10 ⟨rb, rfl, hwi, hb10⟩
  have H10 : Hid (ApW w a ver w10 ∧ TMap w10 bm xs ∧ Box w10 w2.heap.size v ∧ Cont w10 v x ∧ Box w10 w6.heap.size vo ∧ Cont w10 vo xo) := ⟨H9.out.1.next hb10, H9.out.2.1.below (Nat.le_refl _) hb10, H9.out.2.2.1.below hb10 (lt_of_block H9.out.2.2.1), H9.out.2.2.2.1.below (Nat.le_refl _) hb10, H9.out.2.2.2.2.1.below hb10 (lt_of_block H9.out.2.2.2.2.1), H9.out.2.2.2.2.2.below (Nat.le_refl _) hb10⟩
  have HWI : Hid (rb = true ↔ M.Reach xs a.fid a.to) := hwi
  clear hb10 hwi H9 a0 a1 a2 a3 a4 a5 a6 af az
  obtain ⟨a0, a1, a2, a3, a4, a5, a6, af, az⟩ := H10.out.1.2.1.facts
  cases rb
  case' true =>
    have HS : Hid ((M.renameS xs ac ver).1 = 11) := by show _ = _; rw [HR3.out, if_pos (HWI.out.1 rfl)]
    go_wp2_with (fail)
    go_ret2
    exact AppliedM.no HS.out (by decide) H10.out.1.1
  have HR4 : Hid (M.renameS xs ac ver = (0, M.putN (M.putN xs (M.withV (withE x (M.dropE x.ents a.name)) ver)) (M.withV (withE xo (M.putE xo.ents (a.toName, a.fid))) ver))) := by
    show _ = _
    rw [HR3.out, if_neg (fun h => by have := HWI.out.2 h; cases this)]
  clear HR3 HWI
  by_cases htd : a.to = a.dir
  · have t1 : (a.to != a.dir) = false := by simp [htd]
    have HS : Hid (M.renameS xs ac ver = (0, M.putN xs (M.withV (withE xo (M.putE xo.ents (a.toName, a.fid))) ver))) := by
      show _ = _
      rw [HR4.out, put_over HRI.out.1]
      rw [← HXO.out, HFR.out.2, if_pos htd]
      rfl
    have HQ : Hid (ApW w a ver w10 ∧ TMap w10 bm xs ∧ Box w10 w6.heap.size vo ∧ Cont w10 vo xo) := ⟨H10.out.1, H10.out.2.1, H10.out.2.2.2.2.1, H10.out.2.2.2.2.2⟩
    obtain ⟨z0, z1, z2, z3, z4, zf, zz⟩ := HQ.out.2.2.1.facts
    clear htd
    go_wp2_with (fail)
    refine (refEnter_any vo xo a.toName a.fid _ HQ.out.2.2.2 HSO.out.2.1 HSO.out.1 HSO.out.2.2).mono ?_
    rintro e w20 ⟨v20, rfl, hc20, hb20⟩
    have H20 : Hid (ApW w a ver w20 ∧ TMap w20 bm xs ∧ Cont w20 v20 (withE xo (M.putE xo.ents (a.toName, a.fid)))) := ⟨HQ.out.1.next hb20, HQ.out.2.1.below (Nat.le_refl _) hb20, hc20⟩
    clear hc20 hb20
    obtain ⟨f20, d20, dA20, dn20, dc20, eA20, en20, ec20, ve20⟩ := v20
    go_wp2_with (fail)
    refine (refVer_any ⟨f20, d20, dA20, dn20, dc20, eA20, en20, ec20, ve20⟩ (w.heap.size + 1) ver _ H20.out.1.ver).mono ?_
    rintro e w21 ⟨rfl, hb21⟩
    have H21 : Hid (Below w.heap.size w w21 ∧ TMap w21 bm xs ∧ Cont w21 ⟨f20, d20, dA20, dn20, dc20, eA20, en20, ec20, ver⟩ (M.withV (withE xo (M.putE xo.ents (a.toName, a.fid))) ver)) := ⟨H20.out.1.1.trans (hb21.mono H20.out.1.1.size), H20.out.2.1.below (Nat.le_refl _) hb21, contV (H20.out.2.2.below (Nat.le_refl _) hb21) ver⟩
    clear hb21
    go_wp2_with (fail)
    refine (with_any bm _ ⟨f20, d20, dA20, dn20, dc20, eA20, en20, ec20, ver⟩ _ w21 H21.out.2.1 H21.out.2.2).mono ?_
    rintro e w22 ⟨b22, rfl, ht22, hb22⟩
    have H22 : Hid (Below w.heap.size w w22 ∧ TMap w22 b22 (M.putN xs (M.withV (withE xo (M.putE xo.ents (a.toName, a.fid))) ver))) := ⟨H21.out.1.trans (hb22.mono H21.out.1.size), ht22⟩
    clear ht22 hb22
    go_wp2_with (fail)
    go_ret2
    exact AppliedM.yes HS.out H22.out.2 H22.out.1
  · have t1 : (a.to != a.dir) = true := by simp [htd]
    clear htd
    obtain ⟨z0, z1, z2, z3, z4, zf, zz⟩ := H10.out.2.2.1.facts
    go_wp2_with (fail)
    refine (refLeave_any v x a.name w10 H10.out.2.2.2.1 HCX.out.2.1).mono ?_
    rintro e w11 ⟨v11, rfl, hc11, hb11⟩
    have H11 : Hid (ApW w a ver w11 ∧ TMap w11 bm xs ∧ Box w11 w6.heap.size vo ∧ Cont w11 vo xo ∧ Cont w11 v11 (withE x (M.dropE x.ents a.name))) := ⟨H10.out.1.next hb11, H10.out.2.1.below (Nat.le_refl _) hb11, H10.out.2.2.2.2.1.below hb11 (lt_of_block H10.out.2.2.2.2.1), H10.out.2.2.2.2.2.below (Nat.le_refl _) hb11, hc11⟩
    clear hc11 hb11 H10 a0 a1 a2 a3 a4 a5 a6 af az z0 z1 z2 z3 z4 zf zz
    obtain ⟨f11, d11, dA11, dn11, dc11, eA11, en11, ec11, ve11⟩ := v11
    go_wp2_with (fail)
    refine (refVer_any ⟨f11, d11, dA11, dn11, dc11, eA11, en11, ec11, ve11⟩ (w.heap.size + 1) ver _ H11.out.1.ver).mono ?_
    rintro e w12 ⟨rfl, hb12⟩
    have H12 : Hid (ApW w a ver w12 ∧ TMap w12 bm xs ∧ Box w12 w6.heap.size vo ∧ Cont w12 vo xo ∧ Cont w12 ⟨f11, d11, dA11, dn11, dc11, eA11, en11, ec11, ver⟩ (M.withV (withE x (M.dropE x.ents a.name)) ver)) := ⟨H11.out.1.next hb12, H11.out.2.1.below (Nat.le_refl _) hb12, H11.out.2.2.1.below hb12 (lt_of_block H11.out.2.2.1), H11.out.2.2.2.1.below (Nat.le_refl _) hb12, contV (H11.out.2.2.2.2.below (Nat.le_refl _) hb12) ver⟩
    clear hb12 H11
    go_wp2_with (fail)
    refine (with_any bm xs ⟨f11, d11, dA11, dn11, dc11, eA11, en11, ec11, ver⟩ _ w12 H12.out.2.1 H12.out.2.2.2.2).mono ?_
    rintro e w13 ⟨b13, rfl, ht13, hb13⟩
    have HQ : Hid (ApW w a ver w13 ∧ TMap w13 b13 (M.putN xs (M.withV (withE x (M.dropE x.ents a.name)) ver)) ∧ Box w13 w6.heap.size vo ∧ Cont w13 vo xo) := ⟨H12.out.1.next hb13, ht13, H12.out.2.2.1.below hb13 (lt_of_block H12.out.2.2.1), H12.out.2.2.2.1.below (Nat.le_refl _) hb13⟩
    clear ht13 hb13 H12
    obtain ⟨a0, a1, a2, a3, a4, a5, a6, af, az⟩ := HQ.out.1.2.1.facts
    obtain ⟨z0, z1, z2, z3, z4, zf, zz⟩ := HQ.out.2.2.1.facts
    go_wp2_with (fail)
    refine (refEnter_any vo xo a.toName a.fid _ HQ.out.2.2.2 HSO.out.2.1 HSO.out.1 HSO.out.2.2).mono ?_
    rintro e w20 ⟨v20, rfl, hc20, hb20⟩
    have H20 : Hid (ApW w a ver w20 ∧ TMap w20 b13 (M.putN xs (M.withV (withE x (M.dropE x.ents a.name)) ver)) ∧ Cont w20 v20 (withE xo (M.putE xo.ents (a.toName, a.fid)))) := ⟨HQ.out.1.next hb20, HQ.out.2.1.below (Nat.le_refl _) hb20, hc20⟩
    clear hc20 hb20
    obtain ⟨f20, d20, dA20, dn20, dc20, eA20, en20, ec20, ve20⟩ := v20
    go_wp2_with (fail)
    refine (refVer_any ⟨f20, d20, dA20, dn20, dc20, eA20, en20, ec20, ve20⟩ (w.heap.size + 1) ver _ H20.out.1.ver).mono ?_
    rintro e w21 ⟨rfl, hb21⟩
    have H21 : Hid (Below w.heap.size w w21 ∧ TMap w21 b13 (M.putN xs (M.withV (withE x (M.dropE x.ents a.name)) ver)) ∧ Cont w21 ⟨f20, d20, dA20, dn20, dc20, eA20, en20, ec20, ver⟩ (M.withV (withE xo (M.putE xo.ents (a.toName, a.fid))) ver)) := ⟨H20.out.1.1.trans (hb21.mono H20.out.1.1.size), H20.out.2.1.below (Nat.le_refl _) hb21, contV (H20.out.2.2.below (Nat.le_refl _) hb21) ver⟩
    clear hb21
    go_wp2_with (fail)
    refine (with_any b13 _ ⟨f20, d20, dA20, dn20, dc20, eA20, en20, ec20, ver⟩ _ w21 H21.out.2.1 H21.out.2.2).mono ?_
    rintro e w22 ⟨b22, rfl, ht22, hb22⟩
    have H22 : Hid (Below w.heap.size w w22 ∧ TMap w22 b22 (M.putN (M.putN xs (M.withV (withE x (M.dropE x.ents a.name)) ver)) (M.withV (withE xo (M.putE xo.ents (a.toName, a.fid))) ver))) := ⟨H21.out.1.trans (hb22.mono H21.out.1.size), ht22⟩
    clear ht22 hb22
    go_wp2_with (fail)
    go_ret2
    exact AppliedM.yes HR4.out H22.out.2 H22.out.1
end Go.Proofs.Ytlegjdlmcphhlaa
/-
  THE REFERENCE's Apply, of any act.
-/
namespace Go.Proofs.Ytlegjdlmcphhlaa
open Go.RowKit

theorem refApply_any (bm : Nat) (xs : List M.Nd) (a : AV) (ac : M.Act) (ver : Int) (w : World) (ht : TMap w bm xs) (ha : ContA w a ac) (hri : M.Rise xs) (hsm : ∀ x ∈ xs, Small x) (hs1 : ∀ x ∈ xs, (x.ents.length + 1) * 24 ≤ 140737488355328) (hN : ((allF xs).length + 2) * 8 ≤ 140737488355328) (hsn : a.name.size ≤ maxLen) (hst : a.toName.size ≤ maxLen) :
    Calls Try.prog 36 #[.map (some bm), a.val, .int .i64 ver] w (AppliedM w (M.applyS xs ac ver)) := by
  have hk := ha.1
  by_cases h1 : a.kind = 1
  · have e : M.applyS xs ac ver = M.bringS xs ac ver := by unfold M.applyS; rw [if_pos (.inl (by rw [← hk]; exact h1))]
    rw [e]
    exact refMake_any bm xs a ac ver w ht ha hri hsm hsn hs1 h1
  by_cases h2 : a.kind = 2
  · have e : M.applyS xs ac ver = M.bringS xs ac ver := by unfold M.applyS; rw [if_pos (.inr (by rw [← hk]; exact h2))]
    rw [e]
    exact refMkdir_any bm xs a ac ver w ht ha hri hsm hsn hs1 h2
  have h12 : ¬ (ac.kind = 1 ∨ ac.kind = 2) := by rw [← hk]; exact fun h => h.elim h1 h2
  by_cases h3 : a.kind = 3
  · have e : M.applyS xs ac ver = M.storeS xs ac ver := by unfold M.applyS; rw [if_neg h12, if_pos (by rw [← hk]; exact h3)]
    rw [e]
    exact refStore_any bm xs a ac ver w ht ha h3
  by_cases h4 : a.kind = 4
  · have e : M.applyS xs ac ver = M.removeS xs ac ver := by unfold M.applyS; rw [if_neg h12, if_neg (by rw [← hk]; exact h3), if_pos (by rw [← hk]; exact h4)]
    rw [e]
    exact refRemove_any bm xs a ac ver w ht ha hri hsm h4
  by_cases h5 : a.kind = 5
  · have e : M.applyS xs ac ver = M.renameS xs ac ver := by unfold M.applyS; rw [if_neg h12, if_neg (by rw [← hk]; exact h3), if_neg (by rw [← hk]; exact h4), if_pos (by rw [← hk]; exact h5)]
    rw [e]
    exact refRename_any bm xs a ac ver w ht ha hri hsm hst hs1 hN h5
  have e : M.applyS xs ac ver = (1, []) := by unfold M.applyS; rw [if_neg h12, if_neg (by rw [← hk]; exact h3), if_neg (by rw [← hk]; exact h4), if_neg (by rw [← hk]; exact h5)]
  rw [e]
  exact refNone_any bm xs a ac ver w ht ha h1 h2 h3 h4 h5
end Go.Proofs.Ytlegjdlmcphhlaa
/-
  PLAIN MATHEMATICS: an act makes at most one entry more.
-/
namespace Go.Proofs.Ytlegjdlmcphhlaa
open M

/-- how many entries there are in all -/
def cnt (xs : List Nd) : Nat := (allF xs).length
theorem cnt_nil : cnt [] = 0 := rfl
theorem cnt_cons (x : Nd) (xs : List Nd) : cnt (x :: xs) = x.ents.length + cnt xs := by unfold cnt allF; rw [List.flatMap_cons, List.length_append, List.length_map]
theorem cnt_append (xs ys : List Nd) : cnt (xs ++ ys) = cnt xs + cnt ys := by unfold cnt allF; rw [List.flatMap_append, List.length_append]
theorem cnt_filter_le (p : Nd → Bool) : ∀ xs : List Nd, cnt (xs.filter p) ≤ cnt xs
  | [] => Nat.le_refl _
  | x :: xs => by
    have ih := cnt_filter_le p xs
    rw [cnt_cons, List.filter_cons]
    split
    · rw [cnt_cons]; omega
    · omega
theorem cnt_mem {xs : List Nd} {x : Nd} (h : x ∈ xs) : x.ents.length ≤ cnt xs := by
  induction xs with
  | nil => cases h
  | cons y ys ih =>
    rw [cnt_cons]
    rcases List.mem_cons.1 h with h | h
    · subst h; omega
    · have := ih h; omega
theorem ltI_no (a : Int) : ltI a a = false := by simp [ltI]
theorem ltI_asym {a b : Int} (h : ltI a b = true) : ltI b a = false := by
  simp only [ltI, decide_eq_true_eq] at h
  simp only [ltI, decide_eq_false_iff_not]
  omega
theorem cnt_two (k : Int) : ∀ xs : List Nd, cnt (xs.filter fun y => ltI y.fid k) + cnt (xs.filter fun y => ltI k y.fid) ≤ cnt xs
  | [] => Nat.le_refl _
  | x :: xs => by
    have ih := cnt_two k xs
    rw [cnt_cons, List.filter_cons, List.filter_cons]
    cases h1 : ltI x.fid k
    · cases h2 : ltI k x.fid
      · simp only [Bool.false_eq_true, if_false]; omega
      · simp only [Bool.false_eq_true, if_false, if_true]; rw [cnt_cons]; omega
    · rw [ltI_asym h1]
      simp only [Bool.false_eq_true, if_false, if_true]; rw [cnt_cons]; omega
theorem cnt_three (k : Int) : ∀ {xs : List Nd} {y : Nd}, y ∈ xs → y.fid = k → cnt (xs.filter fun y => ltI y.fid k) + cnt (xs.filter fun y => ltI k y.fid) + y.ents.length ≤ cnt xs
  | [], y, h, _ => by cases h
  | x :: xs, y, h, hk => by
    rw [cnt_cons, List.filter_cons, List.filter_cons]
    by_cases hxk : x.fid = k
    · rw [hxk, ltI_no]
      simp only [Bool.false_eq_true, if_false]
      rcases List.mem_cons.1 h with h | h
      · subst h; have := cnt_two k xs; omega
      · have := cnt_three k h hk; omega
    · have hyx : y ∈ xs := by
        rcases List.mem_cons.1 h with h | h
        · subst h; exact absurd hk hxk
        · exact h
      have ih := cnt_three k hyx hk
      cases h1 : ltI x.fid k
      · cases h2 : ltI k x.fid
        · simp only [Bool.false_eq_true, if_false]; omega
        · simp only [Bool.false_eq_true, if_false, if_true]; rw [cnt_cons]; omega
      · rw [ltI_asym h1]
        simp only [Bool.false_eq_true, if_false, if_true]; rw [cnt_cons]; omega
theorem putN_eq (xs : List Nd) (x : Nd) : putN xs x = xs.filter (fun y => ltI y.fid x.fid) ++ x :: xs.filter (fun y => ltI x.fid y.fid) := rfl
/-- in the place of one with no fewer entries, but for k -/
theorem cnt_put {xs : List Nd} {x y : Nd} {k : Nat} (hy : find xs x.fid = some y) (h : x.ents.length ≤ y.ents.length + k) : cnt (putN xs x) ≤ cnt xs + k := by
  have := cnt_three x.fid (find_mem hy).1 (find_mem hy).2
  rw [putN_eq, cnt_append, cnt_cons]
  omega
theorem cnt_put0 (xs : List Nd) {x : Nd} (h : x.ents = []) : cnt (putN xs x) ≤ cnt xs := by
  have := cnt_two x.fid xs
  rw [putN_eq, cnt_append, cnt_cons, h]
  simp only [List.length_nil]
  omega
theorem cnt_bring {xs : List Nd} (ac : M.Act) (v : Int) : cnt (M.bringS xs ac v).2 ≤ cnt xs + 1 := by
  by_cases h1 : (M.dirS xs ac.dir).1 = 0
  case' neg => rw [bring_dir h1]; exact Nat.zero_le _
  by_cases h2 : M.freeS (M.dirS xs ac.dir).2 ac.name = 0
  case' neg => rw [bring_free h1 h2]; exact Nat.zero_le _
  by_cases h3 : ac.fid = 0 ∨ (M.find xs ac.fid).isSome
  case' pos => rw [bring_stale h1 h2 h3]; exact Nat.zero_le _
  by_cases h4 : 24 ≤ xs.length
  case' pos => rw [bring_many h1 h2 h3 h4]; exact Nat.zero_le _
  rw [bring_ok h1 h2 h3 h4]
  have hd := M.dir_ok h1
  have e1 : (M.dirS xs ac.dir).2.fid = ac.dir := (M.find_mem hd.1).2
  refine Nat.le_trans (cnt_put0 _ rfl) (cnt_put (y := (M.dirS xs ac.dir).2) ?_ (M.putE_len _ _))
  show M.find xs (M.dirS xs ac.dir).2.fid = _
  rw [e1]; exact hd.1
theorem cnt_store {xs : List Nd} (ac : M.Act) (v : Int) : cnt (M.storeS xs ac v).2 ≤ cnt xs + 1 := by
  unfold M.storeS
  cases hx : M.find xs ac.fid with
  | none => exact Nat.zero_le _
  | some x =>
    simp only
    split
    · exact Nat.zero_le _
    · split
      · exact Nat.zero_le _
      · refine cnt_put (y := x) ?_ (Nat.le_succ _)
        show M.find xs x.fid = _
        rw [(M.find_mem hx).2]; exact hx
theorem cnt_remove {xs : List Nd} (ac : M.Act) (v : Int) : cnt (M.removeS xs ac v).2 ≤ cnt xs + 1 := by
  by_cases h1 : (M.holdS xs ac.dir ac.name ac.fid).1 = 0
  case' neg => rw [remove_hold h1]; exact Nat.zero_le _
  cases hx : M.find xs ac.fid with
  | none => rw [remove_away h1 hx]; exact Nat.zero_le _
  | some x =>
    by_cases he : 0 < x.ents.length
    case' pos => rw [remove_full h1 hx he]; exact Nat.zero_le _
    rw [remove_ok h1 hx he]
    have ho := hold_ok h1
    have hd := M.dir_ok (xs := xs) (f := ac.dir) (by rw [ho.1])
    rw [ho.1] at hd
    refine Nat.le_trans (cnt_filter_le _ _) (cnt_put (y := (M.holdS xs ac.dir ac.name ac.fid).2) ?_ ?_)
    · show M.find xs (M.holdS xs ac.dir ac.name ac.fid).2.fid = _
      rw [(M.find_mem hd.1).2]; exact hd.1
    · exact Nat.le_trans (List.length_filter_le _ _) (Nat.le_succ _)
theorem cnt_rename {xs : List Nd} (h : Good xs) (ac : M.Act) (v : Int) : cnt (M.renameS xs ac v).2 ≤ cnt xs + 1 := by
  by_cases h1 : (M.holdS xs ac.dir ac.name ac.fid).1 = 0
  case' neg => rw [rename_hold h1]; exact Nat.zero_le _
  by_cases h2 : (M.dirS xs ac.to).1 = 0
  case' neg => rw [rename_dir h1 h2]; exact Nat.zero_le _
  by_cases h3 : M.freeS (M.toS xs ac) ac.toName = 0
  case' neg => rw [rename_free h1 h2 h3]; exact Nat.zero_le _
  by_cases h4 : M.find xs ac.fid = none
  case' pos => rw [rename_away h1 h2 h3 h4]; exact Nat.zero_le _
  by_cases h5 : M.Reach xs ac.fid ac.to
  case' pos => rw [rename_loop h1 h2 h3 h4 h5]; exact Nat.zero_le _
  rw [rename_ok h1 h2 h3 h4 h5]
  have hf := from_good h h1
  have ht := to_good h h1 h2
  have c1 : cnt (M.putN xs (M.withV (M.fromS xs ac) v)) ≤ cnt xs + 0 := cnt_put (y := (M.holdS xs ac.dir ac.name ac.fid).2) hf.1 (List.length_filter_le _ _)
  refine Nat.le_trans ?_ (Nat.add_le_add_right c1 1)
  have e0 : (M.withV (withE (M.toS xs ac) (M.putE (M.toS xs ac).ents (ac.toName, ac.fid))) v).fid = ac.to := ht.2.1
  by_cases e : ac.to = ac.dir
  · refine cnt_put (y := M.withV (M.fromS xs ac) v) ?_ ?_
    · have e1 : (M.withV (M.fromS xs ac) v).fid = ac.to := hf.2.1.trans e.symm
      rw [e0, ← e1]
      exact M.put_find (fun y : Nd => y.fid) xs M.ordI (M.withV (M.fromS xs ac) v)
    · have e2 : M.toS xs ac = M.fromS xs ac := by unfold M.toS; rw [if_pos e]
      rw [e2]
      exact M.putE_len _ _
  · have hd := M.dir_ok h2
    have e2 : M.toS xs ac = (M.dirS xs ac.to).2 := by unfold M.toS; rw [if_neg e]
    refine cnt_put (y := (M.dirS xs ac.to).2) ?_ ?_
    · rw [e0]
      have := M.put_find_other (fun y : Nd => y.fid) xs M.ordI (M.withV (M.fromS xs ac) v) ac.to (by show ac.to ≠ (M.fromS xs ac).fid; rw [hf.2.1]; exact e)
      unfold M.find M.putN at *
      rw [this]; exact hd.1
    · rw [e2]
      exact M.putE_len _ _
theorem cnt_apply {xs : List Nd} (h : Good xs) (ac : M.Act) (v : Int) : cnt (M.applyS xs ac v).2 ≤ cnt xs + 1 := by
  unfold M.applyS
  split
  · exact cnt_bring ac v
  · split
    · exact cnt_store ac v
    · split
      · exact cnt_remove ac v
      · split
        · exact cnt_rename h ac v
        · exact Nat.zero_le _
/-- a tree that is fit for all that is asked of it -/
def Fit (xs : List Nd) (N : Nat) : Prop := Good xs ∧ cnt xs ≤ N
theorem Fit.next {xs : List Nd} {N : Nat} (h : Fit xs N) (ac : M.Act) (v : Int) : Fit (M.applyS xs ac v).2 (N + 1) := ⟨good_apply h.1 ac v, Nat.le_trans (cnt_apply h.1 ac v) (Nat.add_le_add_right h.2 1)⟩
theorem Fit.mono {xs : List Nd} {N N' : Nat} (h : Fit xs N) (hn : N ≤ N') : Fit xs N' := ⟨h.1, Nat.le_trans h.2 hn⟩
theorem Fit.wide {xs : List Nd} {N : Nat} (h : Fit xs N) (hN : N ≤ 4000000) : (∀ x ∈ xs, (x.ents.length + 1) * 24 ≤ 140737488355328) ∧ ((allF xs).length + 2) * 8 ≤ 140737488355328 := by
  have h2 : (allF xs).length ≤ N := h.2
  refine ⟨fun x hx => ?_, by omega⟩
  have := cnt_mem hx
  have := h.2
  omega
end Go.Proofs.Ytlegjdlmcphhlaa
/-
  THE REFERENCE's SameAct, of an act and its copy.
-/
namespace Go.Proofs.Ytlegjdlmcphhlaa
open Go.RowKit

theorem two_boxesA (w : World) (a b : AV) (W : World) (hW : W = (w.alloc (.cells #[.int .i64 a.kind, .int .i64 a.fid, .int .i64 a.dir, .string a.name, .int .i64 a.to, .string a.toName, .slice a.dA a.dn a.dc] 59)).alloc (.cells #[.int .i64 b.kind, .int .i64 b.fid, .int .i64 b.dir, .string b.name, .int .i64 b.to, .string b.toName, .slice b.dA b.dn b.dc] 59)) : Below w.heap.size w W := by
  subst hW
  exact ((Below.refl _ _).alloc (Nat.le_refl _) _).alloc (by simp) _
set_option maxRecDepth 4000 in
set_option maxHeartbeats 2000000 in
theorem sameAct_any (a b : AV) (x : M.Act) (w : World) (ha : ContA w a x) (hb : ContA w b x) :
    Calls Try.prog 31 #[a.val, b.val] w fun e w' => e = .returned (.bool true) ∧ Below w.heap.size w w' := by
  obtain ⟨k1, f1, d1, n1, t1, m1, A1, l1, c1⟩ := a
  obtain ⟨k2, f2, d2, n2, t2, m2, A2, l2, c2⟩ := b
  obtain ⟨rfl, rfl, rfl, rfl, rfl, rfl, hb1⟩ := ha
  obtain ⟨e1, e2, e3, e4, e5, e6, hb2⟩ := hb
  simp only at e1 e2 e3 e4 e5 e6 hb1 hb2
  subst e1 e2 e3 e4 e5 e6
  have HW : Hid _ := two_boxesA w ⟨x.kind, x.fid, x.dir, x.name, x.to, x.toName, A1, l1, c1⟩ ⟨x.kind, x.fid, x.dir, x.name, x.to, x.toName, A2, l2, c2⟩
  have hwb := two_boxesA w ⟨x.kind, x.fid, x.dir, x.name, x.to, x.toName, A1, l1, c1⟩ ⟨x.kind, x.fid, x.dir, x.name, x.to, x.toName, A2, l2, c2⟩ _ rfl
  have q1 := conv_byts (c := c1) (hb1.below (Nat.le_refl _) hwb)
  have q2 := conv_byts (c := c2) (hb2.below (Nat.le_refl _) hwb)
  simp only at q1 q2
  have y1 := raw_yes x.name
  have y2 := raw_yes x.toName
  have y3 := raw_yes (txt x.data)
  clear hb1 hb2 hwb
  go_enter Try.func31, Try.ntmps31
  go_wp2
  go_ret
  exact ⟨ret_bool (by simp), HW.out _ rfl⟩
end Go.Proofs.Ytlegjdlmcphhlaa
