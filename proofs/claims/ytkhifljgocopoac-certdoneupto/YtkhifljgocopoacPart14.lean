/- TEXTS LAID TOGETHER: Refab, Refan, Refo, Soft -/
import Derived.Test.YtkhifljgocopoacPart11
import Derived.Deep.CutRange
import Derived.Test.YtkhifljgocopoacPart13
import Derived.Test.YtkhifljgocopoacPart9
/-
  THE REFERENCE's Apply: acts that make.
-/
namespace Go.Proofs.Ytkhifljgocopoac
open Go.RowKit

def VR17 (bm sv sa : Nat) (xs : List M.Nd) (a : AV) (v : NV) (x : M.Nd) (ver : Int) : Nat → Value → World → Prop
  | 0 => IsU (.map (some bm))
  | 1 => IsU (.func (.func 23) #[] #[.pointer (some ⟨sv, 0, none⟩)])
  | 2 => IsU (NV.val v)
  | 3 => IsU (.pointer (some ⟨sa, 3, none⟩))
  | 4 => IsU (.string (a.name))
  | 5 => IsU (.pointer (some ⟨sa, 1, none⟩))
  | 6 => IsU (.int .i64 (a.fid))
  | 7 => IsNd (withE x (M.putE x.ents (a.name, a.fid)))
  | 8 => IsNd (M.withV (withE x (M.putE x.ents (a.name, a.fid))) ver)
  | 9 => IsMp (M.putN xs (M.withV (withE x (M.putE x.ents (a.name, a.fid))) ver))
  | 10 => IsU (.func (.func 23) #[] #[.pointer (some ⟨sv, 0, none⟩)])
  | 11 => IsU (.pointer (some ⟨sa, 1, none⟩))
  | 12 => IsU (.int .i64 (a.fid))
  | 13 => IsU (.pointer (some ⟨sa, 0, none⟩))
  | 14 => IsU (.int .i64 (a.kind))
  | 15 => IsU (.bool ((a.kind : Int) == (2 : Int)))
  | 16 => IsU (NV.val ⟨a.fid, (a.kind == 2), none, 0, 0, none, 0, 0, 0⟩)
  | 17 => IsNd ⟨a.fid, a.kind == 2, [], [], ver⟩
  | 18 => IsMp (M.putN (M.putN xs (M.withV (withE x (M.putE x.ents (a.name, a.fid))) ver)) ⟨a.fid, a.kind == 2, [], [], ver⟩)
  | 19 => IsMp (M.putN (M.putN xs (M.withV (withE x (M.putE x.ents (a.name, a.fid))) ver)) ⟨a.fid, a.kind == 2, [], [], ver⟩)
  | 20 => IsU (.int .i64 (0))
  | _ => fun _ _ => True
theorem VR17_stays (bm sv sa : Nat) (xs : List M.Nd) (a : AV) (v : NV) (x : M.Nd) (ver : Int) : ∀ i, Stays (VR17 bm sv sa xs a v x ver i) := by
  intro i v W W' hb h
  match i, h with
  | 0, h => exact h
  | 1, h => exact h
  | 2, h => exact h
  | 3, h => exact h
  | 4, h => exact h
  | 5, h => exact h
  | 6, h => exact h
  | 7, h => exact isNd_below hb h
  | 8, h => exact isNd_below hb h
  | 9, h => exact isMp_below hb h
  | 10, h => exact h
  | 11, h => exact h
  | 12, h => exact h
  | 13, h => exact h
  | 14, h => exact h
  | 15, h => exact h
  | 16, h => exact h
  | 17, h => exact isNd_below hb h
  | 18, h => exact isMp_below hb h
  | 19, h => exact isMp_below hb h
  | 20, h => exact h
  | k + 21, h => trivial

set_option maxRecDepth 8000 in
set_option maxHeartbeats 8000000 in
theorem refMake_any (bm : Nat) (xs : List M.Nd) (a : AV) (ac : M.Act) (ver : Int) (w : World) (ht : TMap w bm xs) (ha : ContA w a ac) (hri : M.Rise xs) (hsm : ∀ x ∈ xs, Small x) (hsn : a.name.size ≤ maxLen) (hs1 : ∀ x ∈ xs, (x.ents.length + 1) * 24 ≤ 140737488355328) (hk : a.kind = 1) :
    Calls Try.prog 15 #[.map (some bm), a.val, .int .i64 ver] w (AppliedM w (M.bringS xs ac ver)) := by
  have HT : Hid (TMap w bm xs ∧ ContA w a ac ∧ True) := ⟨ht, ha, trivial⟩
  have HK : Hid (a.fid = ac.fid ∧ a.dir = ac.dir ∧ a.name = ac.name ∧ a.to = ac.to ∧ a.toName = ac.toName) := ⟨ha.2.1, ha.2.2.1, ha.2.2.2.1, ha.2.2.2.2.1, ha.2.2.2.2.2.1⟩
  have HSM : Hid (∀ x ∈ xs, Small x) := hsm
  have HRI : Hid (M.Rise xs) := hri
  have HW : Hid _ := apw_start w a ver
  have HS1 : Hid (∀ x ∈ xs, (x.ents.length + 1) * 24 ≤ 140737488355328) := hs1
  have HKK : Hid (a.kind = ac.kind) := ha.1
  have k1 : (a.kind == 1) = true := by simp [hk]
  have k2 : (a.kind == 2) = false := by simp [hk]
  have k3 : (a.kind == 3) = false := by simp [hk]
  have k4 : (a.kind == 4) = false := by simp [hk]
  have k5 : (a.kind == 5) = false := by simp [hk]
  clear ht ha hk hri hsm hs1
  go_enter Try.func15, Try.ntmps15
  go_upto_region 1 with (fail)
  go_cut [8] from 24 to 24 (fun v W => v = .func (.func 23) #[] #[.pointer (some ⟨w.heap.size + 1, 0, none⟩)] ∧ ApW w a ver W)
  case first =>
    go_wp2_with (fail)
    go_meet
    case rel => exact ⟨rfl, HW.out _ rfl⟩
  obtain ⟨rfl, hw1⟩ := hcut
  rename World => w1
  obtain ⟨a0, a1, a2, a3, a4, a5, a6, af, az⟩ := hw1.2.1.facts
  have H1 : Hid (ApW w a ver w1 ∧ TMap w1 bm xs ∧ ContA w1 a ac) := ⟨hw1, HT.out.1.below (Nat.le_refl _) hw1.1, HT.out.2.1.below (Nat.le_refl _) hw1.1⟩
  clear hw1 HW
  go_wp2_with (fail)
  refine (refDir_any bm xs a.dir w1 H1.out.2.1).mono ?_
  rintro e w2 ⟨v, rfl, hdc, hb2⟩
  have H2 : Hid (ApW w a ver w2 ∧ TMap w2 bm xs ∧ ContA w2 a ac) := ⟨H1.out.1.next hb2, H1.out.2.1.below (Nat.le_refl _) hb2, H1.out.2.2.below (Nat.le_refl _) hb2⟩
  have HDC : Hid ((M.dirS xs a.dir).1 = 0 → Cont w2 v (M.dirS xs a.dir).2) := hdc
  clear hb2 hdc H1 a0 a1 a2 a3 a4 a5 a6 af az
  obtain ⟨a0, a1, a2, a3, a4, a5, a6, af, az⟩ := H2.out.1.2.1.facts
  by_cases hd0 : (M.dirS xs a.dir).1 = 0
  case' neg =>
    have e1 : ((M.dirS xs a.dir).1 != 0) = true := by simp [hd0]
    have HS : Hid ((M.bringS xs ac ver).1 = (M.dirS xs a.dir).1 ∧ (M.dirS xs a.dir).1 ≠ 0) := ⟨by unfold M.bringS; rw [HK.out.2.1] at hd0 ⊢; rw [if_pos hd0], hd0⟩
    clear hd0
    go_wp2_with (fail)
    go_ret2
    exact AppliedM.no HS.out.1 HS.out.2 (H2.out.1.1.trans (((Below.refl _ _).alloc (Nat.le_refl _) _).mono H2.out.1.1.size))
  obtain ⟨x, hx⟩ : ∃ x, (M.dirS xs a.dir).2 = x := ⟨_, rfl⟩
  have HDX : Hid (M.dirS xs a.dir = (0, x)) := by show _ = _; rw [← hx, ← hd0]
  have hfx : M.find xs a.dir = some x := by rw [← hx]; exact (M.dir_ok hd0).1
  have HCX : Hid (Cont w2 v x ∧ Small x ∧ M.RsE x.ents ∧ (x.ents.length + 1) * 24 ≤ 140737488355328) := ⟨by rw [← hx]; exact HDC.out hd0, HSM.out x (M.find_mem hfx).1, HRI.out.2 x (M.find_mem hfx).1, HS1.out x (M.find_mem hfx).1⟩
  rw [hd0]
  clear hd0 hx hfx HDC
  have HWN : Hid (∀ W, W = w2.alloc (.cells #[.int .i64 v.fid, .bool v.dir, .slice v.dA v.dn v.dc, .slice v.eA v.en v.ec, .int .i64 v.ver] 56) → Below w2.heap.size w2 W ∧ Box W w2.heap.size v) := by
    rintro W rfl
    exact ⟨(Below.refl _ _).alloc (Nat.le_refl _) _, Box.new w2 v⟩
  go_wp2_with (fail)
  obtain ⟨q1, q2⟩ := HWN.out _ rfl
  refine (refRoom_any v x a.name _ (HCX.out.1.below (Nat.le_refl _) q1) HCX.out.2.1 hsn).mono ?_
  rintro e w3 ⟨rfl, hb3⟩
  have h23 : Below w2.heap.size w2 w3 := q1.trans (hb3.mono q1.size)
  have H3 : Hid (ApW w a ver w3 ∧ TMap w3 bm xs ∧ Box w3 w2.heap.size v ∧ Cont w3 v x) := ⟨H2.out.1.next h23, H2.out.2.1.below (Nat.le_refl _) h23, q2.below hb3 (lt_of_block q2), HCX.out.1.below (Nat.le_refl _) h23⟩
  clear q1 q2 hb3 h23 H2 HWN a0 a1 a2 a3 a4 a5 a6 af az
  obtain ⟨a0, a1, a2, a3, a4, a5, a6, af, az⟩ := H3.out.1.2.1.facts
  by_cases hfr : M.freeS x a.name = 0
  case' neg =>
    have e1 : (M.freeS x a.name != 0) = true := by simp [hfr]
    have HS : Hid ((M.bringS xs ac ver).1 = M.freeS x a.name ∧ M.freeS x a.name ≠ 0) := ⟨by unfold M.bringS; rw [← HK.out.2.1, ← HK.out.2.2.1, HDX.out, if_neg (by simp), if_pos hfr], hfr⟩
    clear hfr
    go_wp2_with (fail)
    go_ret2
    exact AppliedM.no HS.out.1 HS.out.2 H3.out.1.1
  have HBR : Hid (M.bringS xs ac ver = if a.fid = 0 ∨ (M.find xs a.fid).isSome = true then (13, []) else if 24 ≤ xs.length then (5, []) else (0, M.putN (M.putN xs (M.withV (withE x (M.putE x.ents (a.name, a.fid))) ver)) ⟨a.fid, a.kind == 2, [], [], ver⟩)) := by
    show _ = _
    have e2 : (a.kind == 2) = decide (ac.kind = 2) := by rw [HKK.out]; rfl
    unfold M.bringS
    rw [← HK.out.1, ← HK.out.2.1, ← HK.out.2.2.1, HDX.out, if_neg (by simp), if_neg (by simp [hfr]), e2]
    rfl
  rw [hfr]
  clear hfr
  rcases IMap.ask H3.out.2.1 a.fid with ⟨hf, hl⟩ | ⟨vf, xf, hf, hcf, hl⟩
  case' inr =>
    have hl1 := hl true
    simp only [if_true] at hl1
    have HS : Hid ((M.bringS xs ac ver).1 = 13) := by show _ = _; rw [HBR.out, hf]; simp
    clear hl hf hcf
    go_wp2_with (fail)
    go_ret2
    exact AppliedM.no HS.out (by decide) (H3.out.1.1.trans (((Below.refl _ _).alloc (Nat.le_refl _) _).mono H3.out.1.1.size))
  have hl1 := hl true
  simp only [if_true] at hl1
  generalize NV.zero = vz at hl1
  by_cases hf0 : a.fid = 0
  case' pos =>
    have e1 : (a.fid == 0) = true := by simp [hf0]
    have HS : Hid ((M.bringS xs ac ver).1 = 13) := by show _ = _; rw [HBR.out, if_pos (.inl hf0)]
    clear hl hf hf0
    go_wp2_with (fail)
    go_ret2
    exact AppliedM.no HS.out (by decide) (H3.out.1.1.trans (((Below.refl _ _).alloc (Nat.le_refl _) _).mono H3.out.1.1.size))
  have e1 : (a.fid == 0) = false := by simp [hf0]
  have HB2 : Hid (M.bringS xs ac ver = if 24 ≤ xs.length then (5, []) else (0, M.putN (M.putN xs (M.withV (withE x (M.putE x.ents (a.name, a.fid))) ver)) ⟨a.fid, a.kind == 2, [], [], ver⟩)) := by
    show _ = _; rw [HBR.out, hf, if_neg (by simp [hf0])]
  clear hl hf hf0 HBR
  have HN5 : Hid (∀ W, W = w3.alloc (.cells #[.int .i64 vz.fid, .bool vz.dir, .slice vz.dA vz.dn vz.dc, .slice vz.eA vz.en vz.ec, .int .i64 vz.ver] 56) → Below w3.heap.size w3 W) := by
    rintro W rfl; exact (Below.refl _ _).alloc (Nat.le_refl _) _
  obtain ⟨es, clock, hbm, hes⟩ := (H3.out.2.1.below (Nat.le_refl _) (HN5.out _ rfl)).count HRI.out.1
  have hlen := run_len_map (P := Try.prog) (w := w3.alloc (.cells #[.int .i64 vz.fid, .bool vz.dir, .slice vz.dA vz.dn vz.dc, .slice vz.eA vz.en vz.ec, .int .i64 vz.ver] 56)) 30 3 bm es clock (by kernel_rfl) hbm
  rw [hes] at hlen
  clear hbm hes
  by_cases h24 : 24 ≤ xs.length
  · have h24' : (24 : Int) ≤ (xs.length : Int) := by omega
    have HS : Hid ((M.bringS xs ac ver).1 = 5) := by show _ = _; rw [HB2.out, if_pos h24]
    clear h24
    go_wp2_with (fail)
    go_ret2
    exact AppliedM.no HS.out (by decide) (H3.out.1.1.trans ((HN5.out _ rfl).mono H3.out.1.1.size))
  · have h24' : ¬ (24 : Int) ≤ (xs.length : Int) := by omega
    have HS : Hid (M.bringS xs ac ver = (0, M.putN (M.putN xs (M.withV (withE x (M.putE x.ents (a.name, a.fid))) ver)) ⟨a.fid, a.kind == 2, [], [], ver⟩)) := by show _ = _; rw [HB2.out, if_neg h24]
    clear h24
    have HSX : Hid (Small x ∧ M.RsE x.ents ∧ (x.ents.length + 1) * 24 ≤ 140737488355328) := HCX.out.2
    go_upto_region 17 with (fail)
    have hb5 := HN5.out _ rfl
    have hbd : ∀ W5 : World, Below w3.heap.size w3 W5 → ∀ W, Below W5.drew.heap.size W5.drew W → Below w3.heap.size w3 W := fun W5 h5 W hb => h5.trans (((Below.refl _ _).drew.trans hb).mono h5.size)
    have HA := fun W hb => (H3.out.1.next (hbd _ hb5 W hb)).2.1
    have HV := fun W hb => (H3.out.1.next (hbd _ hb5 W hb)).ver
    have HM := fun W hb => H3.out.2.1.below (Nat.le_refl _) (hbd _ hb5 W hb)
    have HN := fun W hb => H3.out.2.2.1.below (hbd _ hb5 W hb) (lt_of_block H3.out.2.2.1)
    have HCN := fun W hb => H3.out.2.2.2.below (Nat.le_refl _) (hbd _ hb5 W hb)
    have HEND : Hid (∀ W5 W : World, Below w3.heap.size w3 W5 → Below W5.heap.size W5 W → Below w.heap.size w W) := fun W5 W h5 hb => H3.out.1.1.trans ((h5.trans (hb.mono h5.size)).mono H3.out.1.1.size)
    refine wp_region_vals (VR17 bm (w.heap.size + 1) w.heap.size xs a v x ver) (by kernel_rfl) (by kernel_rfl) (VR17_stays bm (w.heap.size + 1) w.heap.size xs a v x ver) ?_ ?_
    · intro i hi
      match i, hi with
      | 0, _ =>
        refine StepAt.by rfl fun a' W hf hb hd => ?_
        exact .inl ⟨want_none, does_move ((hf.keeps 0 (by kernel_rfl)).trans rfl) ⟨Below.refl _ _, rfl⟩⟩
      | 1, _ =>
        refine StepAt.by rfl fun a' W hf hb hd => ?_
        exact .inl ⟨want_none, does_move ((hf.keeps 8 (by kernel_rfl)).trans rfl) ⟨Below.refl _ _, rfl⟩⟩
      | 2, _ =>
        refine StepAt.by rfl fun a' W hf hb hd => ?_
        exact .inl ⟨want_none, does_rn (run_load26 ((hf.keeps 9 (by kernel_rfl)).trans rfl) (HN W hb)) ⟨Below.refl _ _, rfl⟩⟩
      | 3, _ =>
        refine StepAt.by rfl fun a' W hf hb hd => ?_
        exact .inl ⟨want_none, does_rn (run_fieldA ((hf.keeps 4 (by kernel_rfl)).trans rfl) (by decide)) ⟨Below.refl _ _, rfl⟩⟩
      | 4, _ =>
        refine StepAt.by rfl fun a' W hf hb hd => ?_
        exact .inl ⟨want_none, does_rn (run_load9 (hd 3 (by kernel_rfl)) (BoxA.facts (HA W hb)).2.2.2.1) ⟨Below.refl _ _, rfl⟩⟩
      | 5, _ =>
        refine StepAt.by rfl fun a' W hf hb hd => ?_
        exact .inl ⟨want_none, does_rn (run_fieldA ((hf.keeps 4 (by kernel_rfl)).trans rfl) (by decide)) ⟨Below.refl _ _, rfl⟩⟩
      | 6, _ =>
        refine StepAt.by rfl fun a' W hf hb hd => ?_
        exact .inl ⟨want_none, does_rn (run_load3 (hd 5 (by kernel_rfl)) (BoxA.facts (HA W hb)).2.1) ⟨Below.refl _ _, rfl⟩⟩
      | 7, _ =>
        refine StepAt.by rfl fun a' W hf hb hd => ?_
        refine .inl ⟨want_none, ?_⟩
        exact does_call3 (enters_of Try.func27 (by kernel_rfl) (by kernel_rfl)) (hd 2 (by kernel_rfl)) (hd 4 (by kernel_rfl)) (hd 6 (by kernel_rfl)) ((refEnter_any v x a.name a.fid W (HCN W hb) HSX.out.2.1 HSX.out.1 HSX.out.2.2).mono fun e W' ⟨v', he, hc, hb'⟩ => ⟨_, he, hb', v', rfl, hc⟩)
      | 8, _ =>
        refine StepAt.by rfl fun a' W hf hb hd => ?_
        refine .inl ⟨want_none, ?_⟩
        obtain ⟨v1, e1, hc1⟩ := hd 7 (by kernel_rfl)
        exact does_callC (enters_of Try.func23 (by kernel_rfl) (by kernel_rfl)) (hd 1 (by kernel_rfl)) e1 ((refVer_any v1 (w.heap.size + 1) ver W (HV W hb)).mono fun e W' ⟨he, hb'⟩ => ⟨_, he, hb', ⟨v1.fid, v1.dir, v1.dA, v1.dn, v1.dc, v1.eA, v1.en, v1.ec, ver⟩, rfl, (contV hc1 ver).below (Nat.le_refl _) hb'⟩)
      | 9, _ =>
        refine StepAt.by rfl fun a' W hf hb hd => ?_
        refine .inl ⟨want_none, ?_⟩
        obtain ⟨v1, e1, hc1⟩ := hd 8 (by kernel_rfl)
        have e0 := hd 0 (by kernel_rfl)
        have ht0 := HM W hb
        exact does_call2 (enters_of Try.func26 (by kernel_rfl) (by kernel_rfl)) e0 e1 ((with_any _ _ v1 _ W ht0 hc1).mono fun e W' ⟨b, he, ht, hb'⟩ => ⟨_, he, hb', b, rfl, ht⟩)
      | 10, _ =>
        refine StepAt.by rfl fun a' W hf hb hd => ?_
        exact .inl ⟨want_none, does_move ((hf.keeps 8 (by kernel_rfl)).trans rfl) ⟨Below.refl _ _, rfl⟩⟩
      | 11, _ =>
        refine StepAt.by rfl fun a' W hf hb hd => ?_
        exact .inl ⟨want_none, does_rn (run_fieldA ((hf.keeps 4 (by kernel_rfl)).trans rfl) (by decide)) ⟨Below.refl _ _, rfl⟩⟩
      | 12, _ =>
        refine StepAt.by rfl fun a' W hf hb hd => ?_
        exact .inl ⟨want_none, does_rn (run_load3 (hd 11 (by kernel_rfl)) (BoxA.facts (HA W hb)).2.1) ⟨Below.refl _ _, rfl⟩⟩
      | 13, _ =>
        refine StepAt.by rfl fun a' W hf hb hd => ?_
        exact .inl ⟨want_none, does_rn (run_fieldA ((hf.keeps 4 (by kernel_rfl)).trans rfl) (by decide)) ⟨Below.refl _ _, rfl⟩⟩
      | 14, _ =>
        refine StepAt.by rfl fun a' W hf hb hd => ?_
        exact .inl ⟨want_none, does_rn (run_load3 (hd 13 (by kernel_rfl)) (BoxA.facts (HA W hb)).1) ⟨Below.refl _ _, rfl⟩⟩
      | 15, _ =>
        refine StepAt.by rfl fun a' W hf hb hd => ?_
        exact .inl ⟨want_none, does_rn (run_eqN (hd 14 (by kernel_rfl)) rfl) ⟨Below.refl _ _, rfl⟩⟩
      | 16, _ =>
        refine StepAt.by rfl fun a' W hf hb hd => ?_
        refine .inl ⟨want_none, ?_⟩
        exact does_rn (run_buildN (hd 12 (by kernel_rfl)) (hd 15 (by kernel_rfl))) ⟨Below.refl _ _, rfl⟩
      | 17, _ =>
        refine StepAt.by rfl fun a' W hf hb hd => ?_
        refine .inl ⟨want_none, ?_⟩
        exact does_callC (enters_of Try.func23 (by kernel_rfl) (by kernel_rfl)) (hd 10 (by kernel_rfl)) (hd 16 (by kernel_rfl)) ((refVer_any ⟨a.fid, (a.kind == 2), none, 0, 0, none, 0, 0, 0⟩ (w.heap.size + 1) ver W (HV W hb)).mono fun e W' ⟨he, hb'⟩ => ⟨_, he, hb', ⟨a.fid, a.kind == 2, none, 0, 0, none, 0, 0, ver⟩, rfl, rfl, rfl, rfl, ⟨rfl, .inl rfl⟩, ⟨rfl, .inl rfl⟩⟩)
      | 18, _ =>
        refine StepAt.by rfl fun a' W hf hb hd => ?_
        refine .inl ⟨want_none, ?_⟩
        obtain ⟨v1, e1, hc1⟩ := hd 17 (by kernel_rfl)
        obtain ⟨b0, e0, ht0⟩ := hd 9 (by kernel_rfl)
        exact does_call2 (enters_of Try.func26 (by kernel_rfl) (by kernel_rfl)) e0 e1 ((with_any _ _ v1 _ W ht0 hc1).mono fun e W' ⟨b, he, ht, hb'⟩ => ⟨_, he, hb', b, rfl, ht⟩)
      | 19, _ =>
        refine StepAt.by rfl fun a' W hf hb hd => ?_
        exact .inl ⟨want_none, does_assign rfl ⟨Below.refl _ _, (hd 18 (by kernel_rfl))⟩⟩
      | 20, _ =>
        refine StepAt.by rfl fun a' W hf hb hd => ?_
        exact .inl ⟨want_none, does_assign rfl ⟨Below.refl _ _, rfl⟩⟩
      | k + 21, hi => exact absurd hi (Nat.not_lt.2 (Nat.le_add_left _ _))
    · intro a' W hf hb hv
      obtain ⟨b6, e6, ht6⟩ := hv 19 (by decide)
      have e7 : a'.eval (.tmp 7) = .int .i64 (0) := hv 20 (by decide)
      have hl := hf.lit (fun t => decide (63 ≤ t) && decide (t ≤ 81) || decide (t = 6) || decide (t = 7)) (by kernel_rfl)
      simp only [overL, Nat.reduceAdd, Nat.reduceLeDiff, Nat.reduceEqDiff, decide_true, decide_false, Bool.and_true, Bool.and_false, Bool.or_true, Bool.or_false] at hl
      have e6' : a'.eval (.tmp 6) = .map (some b6) := e6
      rw [hl, e6', e7]
      have HF : Hid (TMap W b6 _ ∧ Below _ _ W) := ⟨ht6, hb⟩
      clear hl hf hb hv e6 e6' e7 ht6
      go_wp2_with (fail)
      go_ret2
      exact AppliedM.yes HS.out HF.out.1 (HEND.out _ _ (HN5.out _ rfl) HF.out.2)

set_option maxRecDepth 8000 in
set_option maxHeartbeats 8000000 in
theorem refMkdir_any (bm : Nat) (xs : List M.Nd) (a : AV) (ac : M.Act) (ver : Int) (w : World) (ht : TMap w bm xs) (ha : ContA w a ac) (hri : M.Rise xs) (hsm : ∀ x ∈ xs, Small x) (hsn : a.name.size ≤ maxLen) (hs1 : ∀ x ∈ xs, (x.ents.length + 1) * 24 ≤ 140737488355328) (hk : a.kind = 2) :
    Calls Try.prog 15 #[.map (some bm), a.val, .int .i64 ver] w (AppliedM w (M.bringS xs ac ver)) := by
  have HT : Hid (TMap w bm xs ∧ ContA w a ac ∧ True) := ⟨ht, ha, trivial⟩
  have HK : Hid (a.fid = ac.fid ∧ a.dir = ac.dir ∧ a.name = ac.name ∧ a.to = ac.to ∧ a.toName = ac.toName) := ⟨ha.2.1, ha.2.2.1, ha.2.2.2.1, ha.2.2.2.2.1, ha.2.2.2.2.2.1⟩
  have HSM : Hid (∀ x ∈ xs, Small x) := hsm
  have HRI : Hid (M.Rise xs) := hri
  have HW : Hid _ := apw_start w a ver
  have HS1 : Hid (∀ x ∈ xs, (x.ents.length + 1) * 24 ≤ 140737488355328) := hs1
  have HKK : Hid (a.kind = ac.kind) := ha.1
  have k1 : (a.kind == 1) = false := by simp [hk]
  have k2 : (a.kind == 2) = true := by simp [hk]
  have k3 : (a.kind == 3) = false := by simp [hk]
  have k4 : (a.kind == 4) = false := by simp [hk]
  have k5 : (a.kind == 5) = false := by simp [hk]
  clear ht ha hk hri hsm hs1
  go_enter Try.func15, Try.ntmps15
  go_upto_region 1 with (fail)
  go_cut [8] from 24 to 24 (fun v W => v = .func (.func 23) #[] #[.pointer (some ⟨w.heap.size + 1, 0, none⟩)] ∧ ApW w a ver W)
  case first =>
    go_wp2_with (fail)
    go_meet
    case rel => exact ⟨rfl, HW.out _ rfl⟩
  obtain ⟨rfl, hw1⟩ := hcut
  rename World => w1
  obtain ⟨a0, a1, a2, a3, a4, a5, a6, af, az⟩ := hw1.2.1.facts
  have H1 : Hid (ApW w a ver w1 ∧ TMap w1 bm xs ∧ ContA w1 a ac) := ⟨hw1, HT.out.1.below (Nat.le_refl _) hw1.1, HT.out.2.1.below (Nat.le_refl _) hw1.1⟩
  clear hw1 HW
  go_wp2_with (fail)
  refine (refDir_any bm xs a.dir w1 H1.out.2.1).mono ?_
  rintro e w2 ⟨v, rfl, hdc, hb2⟩
  have H2 : Hid (ApW w a ver w2 ∧ TMap w2 bm xs ∧ ContA w2 a ac) := ⟨H1.out.1.next hb2, H1.out.2.1.below (Nat.le_refl _) hb2, H1.out.2.2.below (Nat.le_refl _) hb2⟩
  have HDC : Hid ((M.dirS xs a.dir).1 = 0 → Cont w2 v (M.dirS xs a.dir).2) := hdc
  clear hb2 hdc H1 a0 a1 a2 a3 a4 a5 a6 af az
  obtain ⟨a0, a1, a2, a3, a4, a5, a6, af, az⟩ := H2.out.1.2.1.facts
  by_cases hd0 : (M.dirS xs a.dir).1 = 0
  case' neg =>
    have e1 : ((M.dirS xs a.dir).1 != 0) = true := by simp [hd0]
    have HS : Hid ((M.bringS xs ac ver).1 = (M.dirS xs a.dir).1 ∧ (M.dirS xs a.dir).1 ≠ 0) := ⟨by unfold M.bringS; rw [HK.out.2.1] at hd0 ⊢; rw [if_pos hd0], hd0⟩
    clear hd0
    go_wp2_with (fail)
    go_ret2
    exact AppliedM.no HS.out.1 HS.out.2 (H2.out.1.1.trans (((Below.refl _ _).alloc (Nat.le_refl _) _).mono H2.out.1.1.size))
  obtain ⟨x, hx⟩ : ∃ x, (M.dirS xs a.dir).2 = x := ⟨_, rfl⟩
  have HDX : Hid (M.dirS xs a.dir = (0, x)) := by show _ = _; rw [← hx, ← hd0]
  have hfx : M.find xs a.dir = some x := by rw [← hx]; exact (M.dir_ok hd0).1
  have HCX : Hid (Cont w2 v x ∧ Small x ∧ M.RsE x.ents ∧ (x.ents.length + 1) * 24 ≤ 140737488355328) := ⟨by rw [← hx]; exact HDC.out hd0, HSM.out x (M.find_mem hfx).1, HRI.out.2 x (M.find_mem hfx).1, HS1.out x (M.find_mem hfx).1⟩
  rw [hd0]
  clear hd0 hx hfx HDC
  have HWN : Hid (∀ W, W = w2.alloc (.cells #[.int .i64 v.fid, .bool v.dir, .slice v.dA v.dn v.dc, .slice v.eA v.en v.ec, .int .i64 v.ver] 56) → Below w2.heap.size w2 W ∧ Box W w2.heap.size v) := by
    rintro W rfl
    exact ⟨(Below.refl _ _).alloc (Nat.le_refl _) _, Box.new w2 v⟩
  go_wp2_with (fail)
  obtain ⟨q1, q2⟩ := HWN.out _ rfl
  refine (refRoom_any v x a.name _ (HCX.out.1.below (Nat.le_refl _) q1) HCX.out.2.1 hsn).mono ?_
  rintro e w3 ⟨rfl, hb3⟩
  have h23 : Below w2.heap.size w2 w3 := q1.trans (hb3.mono q1.size)
  have H3 : Hid (ApW w a ver w3 ∧ TMap w3 bm xs ∧ Box w3 w2.heap.size v ∧ Cont w3 v x) := ⟨H2.out.1.next h23, H2.out.2.1.below (Nat.le_refl _) h23, q2.below hb3 (lt_of_block q2), HCX.out.1.below (Nat.le_refl _) h23⟩
  clear q1 q2 hb3 h23 H2 HWN a0 a1 a2 a3 a4 a5 a6 af az
  obtain ⟨a0, a1, a2, a3, a4, a5, a6, af, az⟩ := H3.out.1.2.1.facts
  by_cases hfr : M.freeS x a.name = 0
  case' neg =>
    have e1 : (M.freeS x a.name != 0) = true := by simp [hfr]
    have HS : Hid ((M.bringS xs ac ver).1 = M.freeS x a.name ∧ M.freeS x a.name ≠ 0) := ⟨by unfold M.bringS; rw [← HK.out.2.1, ← HK.out.2.2.1, HDX.out, if_neg (by simp), if_pos hfr], hfr⟩
    clear hfr
    go_wp2_with (fail)
    go_ret2
    exact AppliedM.no HS.out.1 HS.out.2 H3.out.1.1
  have HBR : Hid (M.bringS xs ac ver = if a.fid = 0 ∨ (M.find xs a.fid).isSome = true then (13, []) else if 24 ≤ xs.length then (5, []) else (0, M.putN (M.putN xs (M.withV (withE x (M.putE x.ents (a.name, a.fid))) ver)) ⟨a.fid, a.kind == 2, [], [], ver⟩)) := by
    show _ = _
    have e2 : (a.kind == 2) = decide (ac.kind = 2) := by rw [HKK.out]; rfl
    unfold M.bringS
    rw [← HK.out.1, ← HK.out.2.1, ← HK.out.2.2.1, HDX.out, if_neg (by simp), if_neg (by simp [hfr]), e2]
    rfl
  rw [hfr]
  clear hfr
  rcases IMap.ask H3.out.2.1 a.fid with ⟨hf, hl⟩ | ⟨vf, xf, hf, hcf, hl⟩
  case' inr =>
    have hl1 := hl true
    simp only [if_true] at hl1
    have HS : Hid ((M.bringS xs ac ver).1 = 13) := by show _ = _; rw [HBR.out, hf]; simp
    clear hl hf hcf
    go_wp2_with (fail)
    go_ret2
    exact AppliedM.no HS.out (by decide) (H3.out.1.1.trans (((Below.refl _ _).alloc (Nat.le_refl _) _).mono H3.out.1.1.size))
  have hl1 := hl true
  simp only [if_true] at hl1
  generalize NV.zero = vz at hl1
  by_cases hf0 : a.fid = 0
  case' pos =>
    have e1 : (a.fid == 0) = true := by simp [hf0]
    have HS : Hid ((M.bringS xs ac ver).1 = 13) := by show _ = _; rw [HBR.out, if_pos (.inl hf0)]
    clear hl hf hf0
    go_wp2_with (fail)
    go_ret2
    exact AppliedM.no HS.out (by decide) (H3.out.1.1.trans (((Below.refl _ _).alloc (Nat.le_refl _) _).mono H3.out.1.1.size))
  have e1 : (a.fid == 0) = false := by simp [hf0]
  have HB2 : Hid (M.bringS xs ac ver = if 24 ≤ xs.length then (5, []) else (0, M.putN (M.putN xs (M.withV (withE x (M.putE x.ents (a.name, a.fid))) ver)) ⟨a.fid, a.kind == 2, [], [], ver⟩)) := by
    show _ = _; rw [HBR.out, hf, if_neg (by simp [hf0])]
  clear hl hf hf0 HBR
  have HN5 : Hid (∀ W, W = w3.alloc (.cells #[.int .i64 vz.fid, .bool vz.dir, .slice vz.dA vz.dn vz.dc, .slice vz.eA vz.en vz.ec, .int .i64 vz.ver] 56) → Below w3.heap.size w3 W) := by
    rintro W rfl; exact (Below.refl _ _).alloc (Nat.le_refl _) _
  obtain ⟨es, clock, hbm, hes⟩ := (H3.out.2.1.below (Nat.le_refl _) (HN5.out _ rfl)).count HRI.out.1
  have hlen := run_len_map (P := Try.prog) (w := w3.alloc (.cells #[.int .i64 vz.fid, .bool vz.dir, .slice vz.dA vz.dn vz.dc, .slice vz.eA vz.en vz.ec, .int .i64 vz.ver] 56)) 30 3 bm es clock (by kernel_rfl) hbm
  rw [hes] at hlen
  clear hbm hes
  by_cases h24 : 24 ≤ xs.length
  · have h24' : (24 : Int) ≤ (xs.length : Int) := by omega
    have HS : Hid ((M.bringS xs ac ver).1 = 5) := by show _ = _; rw [HB2.out, if_pos h24]
    clear h24
    go_wp2_with (fail)
    go_ret2
    exact AppliedM.no HS.out (by decide) (H3.out.1.1.trans ((HN5.out _ rfl).mono H3.out.1.1.size))
  · have h24' : ¬ (24 : Int) ≤ (xs.length : Int) := by omega
    have HS : Hid (M.bringS xs ac ver = (0, M.putN (M.putN xs (M.withV (withE x (M.putE x.ents (a.name, a.fid))) ver)) ⟨a.fid, a.kind == 2, [], [], ver⟩)) := by show _ = _; rw [HB2.out, if_neg h24]
    clear h24
    have HSX : Hid (Small x ∧ M.RsE x.ents ∧ (x.ents.length + 1) * 24 ≤ 140737488355328) := HCX.out.2
    go_upto_region 17 with (fail)
    have hb5 := HN5.out _ rfl
    have hbd : ∀ W5 : World, Below w3.heap.size w3 W5 → ∀ W, Below W5.drew.heap.size W5.drew W → Below w3.heap.size w3 W := fun W5 h5 W hb => h5.trans (((Below.refl _ _).drew.trans hb).mono h5.size)
    have HA := fun W hb => (H3.out.1.next (hbd _ hb5 W hb)).2.1
    have HV := fun W hb => (H3.out.1.next (hbd _ hb5 W hb)).ver
    have HM := fun W hb => H3.out.2.1.below (Nat.le_refl _) (hbd _ hb5 W hb)
    have HN := fun W hb => H3.out.2.2.1.below (hbd _ hb5 W hb) (lt_of_block H3.out.2.2.1)
    have HCN := fun W hb => H3.out.2.2.2.below (Nat.le_refl _) (hbd _ hb5 W hb)
    have HEND : Hid (∀ W5 W : World, Below w3.heap.size w3 W5 → Below W5.heap.size W5 W → Below w.heap.size w W) := fun W5 W h5 hb => H3.out.1.1.trans ((h5.trans (hb.mono h5.size)).mono H3.out.1.1.size)
    refine wp_region_vals (VR17 bm (w.heap.size + 1) w.heap.size xs a v x ver) (by kernel_rfl) (by kernel_rfl) (VR17_stays bm (w.heap.size + 1) w.heap.size xs a v x ver) ?_ ?_
    · intro i hi
      match i, hi with
      | 0, _ =>
        refine StepAt.by rfl fun a' W hf hb hd => ?_
        exact .inl ⟨want_none, does_move ((hf.keeps 0 (by kernel_rfl)).trans rfl) ⟨Below.refl _ _, rfl⟩⟩
      | 1, _ =>
        refine StepAt.by rfl fun a' W hf hb hd => ?_
        exact .inl ⟨want_none, does_move ((hf.keeps 8 (by kernel_rfl)).trans rfl) ⟨Below.refl _ _, rfl⟩⟩
      | 2, _ =>
        refine StepAt.by rfl fun a' W hf hb hd => ?_
        exact .inl ⟨want_none, does_rn (run_load26 ((hf.keeps 9 (by kernel_rfl)).trans rfl) (HN W hb)) ⟨Below.refl _ _, rfl⟩⟩
      | 3, _ =>
        refine StepAt.by rfl fun a' W hf hb hd => ?_
        exact .inl ⟨want_none, does_rn (run_fieldA ((hf.keeps 4 (by kernel_rfl)).trans rfl) (by decide)) ⟨Below.refl _ _, rfl⟩⟩
      | 4, _ =>
        refine StepAt.by rfl fun a' W hf hb hd => ?_
        exact .inl ⟨want_none, does_rn (run_load9 (hd 3 (by kernel_rfl)) (BoxA.facts (HA W hb)).2.2.2.1) ⟨Below.refl _ _, rfl⟩⟩
      | 5, _ =>
        refine StepAt.by rfl fun a' W hf hb hd => ?_
        exact .inl ⟨want_none, does_rn (run_fieldA ((hf.keeps 4 (by kernel_rfl)).trans rfl) (by decide)) ⟨Below.refl _ _, rfl⟩⟩
      | 6, _ =>
        refine StepAt.by rfl fun a' W hf hb hd => ?_
        exact .inl ⟨want_none, does_rn (run_load3 (hd 5 (by kernel_rfl)) (BoxA.facts (HA W hb)).2.1) ⟨Below.refl _ _, rfl⟩⟩
      | 7, _ =>
        refine StepAt.by rfl fun a' W hf hb hd => ?_
        refine .inl ⟨want_none, ?_⟩
        exact does_call3 (enters_of Try.func27 (by kernel_rfl) (by kernel_rfl)) (hd 2 (by kernel_rfl)) (hd 4 (by kernel_rfl)) (hd 6 (by kernel_rfl)) ((refEnter_any v x a.name a.fid W (HCN W hb) HSX.out.2.1 HSX.out.1 HSX.out.2.2).mono fun e W' ⟨v', he, hc, hb'⟩ => ⟨_, he, hb', v', rfl, hc⟩)
      | 8, _ =>
        refine StepAt.by rfl fun a' W hf hb hd => ?_
        refine .inl ⟨want_none, ?_⟩
        obtain ⟨v1, e1, hc1⟩ := hd 7 (by kernel_rfl)
        exact does_callC (enters_of Try.func23 (by kernel_rfl) (by kernel_rfl)) (hd 1 (by kernel_rfl)) e1 ((refVer_any v1 (w.heap.size + 1) ver W (HV W hb)).mono fun e W' ⟨he, hb'⟩ => ⟨_, he, hb', ⟨v1.fid, v1.dir, v1.dA, v1.dn, v1.dc, v1.eA, v1.en, v1.ec, ver⟩, rfl, (contV hc1 ver).below (Nat.le_refl _) hb'⟩)
      | 9, _ =>
        refine StepAt.by rfl fun a' W hf hb hd => ?_
        refine .inl ⟨want_none, ?_⟩
        obtain ⟨v1, e1, hc1⟩ := hd 8 (by kernel_rfl)
        have e0 := hd 0 (by kernel_rfl)
        have ht0 := HM W hb
        exact does_call2 (enters_of Try.func26 (by kernel_rfl) (by kernel_rfl)) e0 e1 ((with_any _ _ v1 _ W ht0 hc1).mono fun e W' ⟨b, he, ht, hb'⟩ => ⟨_, he, hb', b, rfl, ht⟩)
      | 10, _ =>
        refine StepAt.by rfl fun a' W hf hb hd => ?_
        exact .inl ⟨want_none, does_move ((hf.keeps 8 (by kernel_rfl)).trans rfl) ⟨Below.refl _ _, rfl⟩⟩
      | 11, _ =>
        refine StepAt.by rfl fun a' W hf hb hd => ?_
        exact .inl ⟨want_none, does_rn (run_fieldA ((hf.keeps 4 (by kernel_rfl)).trans rfl) (by decide)) ⟨Below.refl _ _, rfl⟩⟩
      | 12, _ =>
        refine StepAt.by rfl fun a' W hf hb hd => ?_
        exact .inl ⟨want_none, does_rn (run_load3 (hd 11 (by kernel_rfl)) (BoxA.facts (HA W hb)).2.1) ⟨Below.refl _ _, rfl⟩⟩
      | 13, _ =>
        refine StepAt.by rfl fun a' W hf hb hd => ?_
        exact .inl ⟨want_none, does_rn (run_fieldA ((hf.keeps 4 (by kernel_rfl)).trans rfl) (by decide)) ⟨Below.refl _ _, rfl⟩⟩
      | 14, _ =>
        refine StepAt.by rfl fun a' W hf hb hd => ?_
        exact .inl ⟨want_none, does_rn (run_load3 (hd 13 (by kernel_rfl)) (BoxA.facts (HA W hb)).1) ⟨Below.refl _ _, rfl⟩⟩
      | 15, _ =>
        refine StepAt.by rfl fun a' W hf hb hd => ?_
        exact .inl ⟨want_none, does_rn (run_eqN (hd 14 (by kernel_rfl)) rfl) ⟨Below.refl _ _, rfl⟩⟩
      | 16, _ =>
        refine StepAt.by rfl fun a' W hf hb hd => ?_
        refine .inl ⟨want_none, ?_⟩
        exact does_rn (run_buildN (hd 12 (by kernel_rfl)) (hd 15 (by kernel_rfl))) ⟨Below.refl _ _, rfl⟩
      | 17, _ =>
        refine StepAt.by rfl fun a' W hf hb hd => ?_
        refine .inl ⟨want_none, ?_⟩
        exact does_callC (enters_of Try.func23 (by kernel_rfl) (by kernel_rfl)) (hd 10 (by kernel_rfl)) (hd 16 (by kernel_rfl)) ((refVer_any ⟨a.fid, (a.kind == 2), none, 0, 0, none, 0, 0, 0⟩ (w.heap.size + 1) ver W (HV W hb)).mono fun e W' ⟨he, hb'⟩ => ⟨_, he, hb', ⟨a.fid, a.kind == 2, none, 0, 0, none, 0, 0, ver⟩, rfl, rfl, rfl, rfl, ⟨rfl, .inl rfl⟩, ⟨rfl, .inl rfl⟩⟩)
      | 18, _ =>
        refine StepAt.by rfl fun a' W hf hb hd => ?_
        refine .inl ⟨want_none, ?_⟩
        obtain ⟨v1, e1, hc1⟩ := hd 17 (by kernel_rfl)
        obtain ⟨b0, e0, ht0⟩ := hd 9 (by kernel_rfl)
        exact does_call2 (enters_of Try.func26 (by kernel_rfl) (by kernel_rfl)) e0 e1 ((with_any _ _ v1 _ W ht0 hc1).mono fun e W' ⟨b, he, ht, hb'⟩ => ⟨_, he, hb', b, rfl, ht⟩)
      | 19, _ =>
        refine StepAt.by rfl fun a' W hf hb hd => ?_
        exact .inl ⟨want_none, does_assign rfl ⟨Below.refl _ _, (hd 18 (by kernel_rfl))⟩⟩
      | 20, _ =>
        refine StepAt.by rfl fun a' W hf hb hd => ?_
        exact .inl ⟨want_none, does_assign rfl ⟨Below.refl _ _, rfl⟩⟩
      | k + 21, hi => exact absurd hi (Nat.not_lt.2 (Nat.le_add_left _ _))
    · intro a' W hf hb hv
      obtain ⟨b6, e6, ht6⟩ := hv 19 (by decide)
      have e7 : a'.eval (.tmp 7) = .int .i64 (0) := hv 20 (by decide)
      have hl := hf.lit (fun t => decide (63 ≤ t) && decide (t ≤ 81) || decide (t = 6) || decide (t = 7)) (by kernel_rfl)
      simp only [overL, Nat.reduceAdd, Nat.reduceLeDiff, Nat.reduceEqDiff, decide_true, decide_false, Bool.and_true, Bool.and_false, Bool.or_true, Bool.or_false] at hl
      have e6' : a'.eval (.tmp 6) = .map (some b6) := e6
      rw [hl, e6', e7]
      have HF : Hid (TMap W b6 _ ∧ Below _ _ W) := ⟨ht6, hb⟩
      clear hl hf hb hv e6 e6' e7 ht6
      go_wp2_with (fail)
      go_ret2
      exact AppliedM.yes HS.out HF.out.1 (HEND.out _ _ (HN5.out _ rfl) HF.out.2)
end Go.Proofs.Ytkhifljgocopoac
/-
  THE REFERENCE's Apply: acts that rename.
-/
namespace Go.Proofs.Ytkhifljgocopoac
open Go.RowKit

theorem put_over {xs : List M.Nd} (hr : M.RsN xs) {F T : M.Nd} (h : F.fid = T.fid) : M.putN (M.putN xs F) T = M.putN xs T := by
  refine ext_find (rs_put _ (rs_put _ hr)) (rs_put _ hr) fun t => ?_
  by_cases e : t = T.fid
  · subst e
    rw [findN_put, findN_put]
  · rw [findN_other _ _ t e, findN_other _ _ t e, findN_other _ _ t (by rw [h]; exact e)]

set_option maxRecDepth 8000 in
set_option maxHeartbeats 8000000 in
theorem refRename_any (bm : Nat) (xs : List M.Nd) (a : AV) (ac : M.Act) (ver : Int) (w : World) (ht : TMap w bm xs) (ha : ContA w a ac) (hri : M.Rise xs) (hsm : ∀ x ∈ xs, Small x) (hst : a.toName.size ≤ maxLen) (hs1 : ∀ x ∈ xs, (x.ents.length + 1) * 24 ≤ 140737488355328) (hN : ((allF xs).length + 2) * 8 ≤ 140737488355328) (hk : a.kind = 5) :
    Calls Try.prog 15 #[.map (some bm), a.val, .int .i64 ver] w (AppliedM w (M.renameS xs ac ver)) := by
  have HT : Hid (TMap w bm xs ∧ ContA w a ac ∧ True) := ⟨ht, ha, trivial⟩
  have HK : Hid (a.fid = ac.fid ∧ a.dir = ac.dir ∧ a.name = ac.name ∧ a.to = ac.to ∧ a.toName = ac.toName) := ⟨ha.2.1, ha.2.2.1, ha.2.2.2.1, ha.2.2.2.2.1, ha.2.2.2.2.2.1⟩
  have HSM : Hid (∀ x ∈ xs, Small x) := hsm
  have HRI : Hid (M.Rise xs) := hri
  have HW : Hid _ := apw_start w a ver
  have HS1 : Hid (∀ x ∈ xs, (x.ents.length + 1) * 24 ≤ 140737488355328) := hs1
  have k1 : (a.kind == 1) = false := by simp [hk]
  have k2 : (a.kind == 2) = false := by simp [hk]
  have k3 : (a.kind == 3) = false := by simp [hk]
  have k4 : (a.kind == 4) = false := by simp [hk]
  have k5 : (a.kind == 5) = true := by simp [hk]
  clear ht ha hk hri hsm hs1
  go_enter Try.func15, Try.ntmps15
  go_upto_region 1 with (fail)
  go_cut [8] from 24 to 24 (fun v W => v = .func (.func 23) #[] #[.pointer (some ⟨w.heap.size + 1, 0, none⟩)] ∧ ApW w a ver W)
  case first =>
    go_wp2_with (fail)
    go_meet
    case rel => exact ⟨rfl, HW.out _ rfl⟩
  obtain ⟨rfl, hw1⟩ := hcut
  rename World => w1
  obtain ⟨a0, a1, a2, a3, a4, a5, a6, af, az⟩ := hw1.2.1.facts
  have H1 : Hid (ApW w a ver w1 ∧ TMap w1 bm xs ∧ ContA w1 a ac) := ⟨hw1, HT.out.1.below (Nat.le_refl _) hw1.1, HT.out.2.1.below (Nat.le_refl _) hw1.1⟩
  clear hw1 HW
  go_wp2_with (fail)
  refine (refDir_any bm xs a.dir w1 H1.out.2.1).mono ?_
  rintro e w2 ⟨v, rfl, hdc, hb2⟩
  have H2 : Hid (ApW w a ver w2 ∧ TMap w2 bm xs ∧ ContA w2 a ac) := ⟨H1.out.1.next hb2, H1.out.2.1.below (Nat.le_refl _) hb2, H1.out.2.2.below (Nat.le_refl _) hb2⟩
  have HDC : Hid ((M.dirS xs a.dir).1 = 0 → Cont w2 v (M.dirS xs a.dir).2) := hdc
  clear hb2 hdc H1 a0 a1 a2 a3 a4 a5 a6 af az
  obtain ⟨a0, a1, a2, a3, a4, a5, a6, af, az⟩ := H2.out.1.2.1.facts
  by_cases hd0 : (M.dirS xs a.dir).1 = 0
  case' neg =>
    have e1 : ((M.dirS xs a.dir).1 != 0) = true := by simp [hd0]
    have HS : Hid ((M.renameS xs ac ver).1 = (M.dirS xs a.dir).1 ∧ (M.dirS xs a.dir).1 ≠ 0) := ⟨by unfold M.renameS; rw [HK.out.2.1] at hd0 ⊢; rw [hold_err hd0, if_pos hd0], hd0⟩
    clear hd0
    go_wp2_with (fail)
    go_ret2
    exact AppliedM.no HS.out.1 HS.out.2 (H2.out.1.1.trans (((Below.refl _ _).alloc (Nat.le_refl _) _).mono H2.out.1.1.size))
  obtain ⟨x, hx⟩ : ∃ x, (M.dirS xs a.dir).2 = x := ⟨_, rfl⟩
  have HDX : Hid (M.dirS xs a.dir = (0, x)) := by show _ = _; rw [← hx, ← hd0]
  have hfx : M.find xs a.dir = some x := by rw [← hx]; exact (M.dir_ok hd0).1
  have HCX : Hid (Cont w2 v x ∧ Small x ∧ M.RsE x.ents) := ⟨by rw [← hx]; exact HDC.out hd0, HSM.out x (M.find_mem hfx).1, HRI.out.2 x (M.find_mem hfx).1⟩
  rw [hd0]
  clear hd0 hx hfx HDC
  have HWN : Hid (∀ W, W = w2.alloc (.cells #[.int .i64 v.fid, .bool v.dir, .slice v.dA v.dn v.dc, .slice v.eA v.en v.ec, .int .i64 v.ver] 56) → Below w2.heap.size w2 W ∧ Box W w2.heap.size v) := by
    rintro W rfl
    exact ⟨(Below.refl _ _).alloc (Nat.le_refl _) _, Box.new w2 v⟩
  go_wp2_with (fail)
  obtain ⟨q1, q2⟩ := HWN.out _ rfl
  refine (refEntry_any v x a.name _ (HCX.out.1.below (Nat.le_refl _) q1) HCX.out.2.1).mono ?_
  rintro e w3 ⟨rfl, hb3⟩
  have h23 : Below w2.heap.size w2 w3 := q1.trans (hb3.mono q1.size)
  have H3 : Hid (ApW w a ver w3 ∧ TMap w3 bm xs ∧ ContA w3 a ac ∧ Box w3 w2.heap.size v ∧ Cont w3 v x) := ⟨H2.out.1.next h23, H2.out.2.1.below (Nat.le_refl _) h23, H2.out.2.2.below (Nat.le_refl _) h23, q2.below hb3 (lt_of_block q2), HCX.out.1.below (Nat.le_refl _) h23⟩
  have HN2 : Hid (w2.heap.size < w3.heap.size ∧ w.heap.size + 1 < w2.heap.size) := ⟨lt_of_block (q2.below hb3 (lt_of_block q2)), lt_of_block H2.out.1.2.2⟩
  clear q1 q2 hb3 h23 H2 HWN a0 a1 a2 a3 a4 a5 a6 af az
  obtain ⟨a0, a1, a2, a3, a4, a5, a6, af, az⟩ := H3.out.1.2.1.facts
  rcases hlk : M.look x.ents a.name with _ | en
  case' none =>
    have HS : Hid ((M.renameS xs ac ver).1 = 6) := by show _ = _; unfold M.renameS; rw [← HK.out.1, ← HK.out.2.1, ← HK.out.2.2.1, hold_none HDX.out hlk]; rfl
    clear hlk
    go_wp2_with (fail)
    go_ret2
    exact AppliedM.no HS.out (by decide) H3.out.1.1
  obtain ⟨en1, en2⟩ := en
  have hgd : (((some (en1, en2) : Option (ByteArray × Int)).map (·.2)).getD 0) = en2 := rfl
  have hgs : (some (en1, en2) : Option (ByteArray × Int)).isSome = true := rfl
  rw [hgd, hgs]
  clear hgd hgs
  by_cases hen : en2 = a.fid
  case' neg =>
    have e1 : (en2 != a.fid) = true := by simp [hen]
    have HS : Hid ((M.renameS xs ac ver).1 = 13) := by show _ = _; unfold M.renameS; rw [← HK.out.1, ← HK.out.2.1, ← HK.out.2.2.1, hold_other HDX.out hlk hen]; rfl
    clear hlk hen
    go_wp2_with (fail)
    go_ret2
    exact AppliedM.no HS.out (by decide) H3.out.1.1
  have e1 : (en2 != a.fid) = false := by simp [hen]
  have HHO : Hid (M.holdS xs ac.dir ac.name ac.fid = (0, x)) := by
    rw [← HK.out.1, ← HK.out.2.1, ← HK.out.2.2.1]
    exact hold_yes HDX.out hlk hen
  clear hlk hen
  obtain ⟨vf, fb, hl1, HFB⟩ : ∃ (vf : NV) (fb : Bool), (Instr.lookup 30 (.map (some bm)) (.int .i64 a.fid) true).run Try.prog w3 = .ok (.tuple #[vf.val, .bool fb]) w3 ∧ Hid ((M.find xs a.fid).isSome = fb) := by
    rcases IMap.ask H3.out.2.1 a.fid with ⟨hf, hl⟩ | ⟨vf, xf, hf, hcf, hl⟩
    · exact ⟨NV.zero, false, hl true, by show _ = _; rw [hf]; rfl⟩
    · exact ⟨vf, true, hl true, by show _ = _; rw [hf]; rfl⟩
  have HN5 : Hid (∀ W, W = w3.alloc (.cells #[.int .i64 vf.fid, .bool vf.dir, .slice vf.dA vf.dn vf.dc, .slice vf.eA vf.en vf.ec, .int .i64 vf.ver] 56) → Below w3.heap.size w3 W ∧ W.heap.size = w3.heap.size + 1) := by
    rintro W rfl; exact ⟨(Below.refl _ _).alloc (Nat.le_refl _) _, by simp⟩
  go_wp2_with (fail)
  obtain ⟨q5, q6⟩ := HN5.out _ rfl
  refine (refDir_any bm xs a.to _ (H3.out.2.1.below (Nat.le_refl _) q5)).mono ?_
  rintro e w6 ⟨vt, rfl, hdt, hb6⟩
  have h36 : Below w3.heap.size w3 w6 := q5.trans (hb6.mono q5.size)
  have H6 : Hid (ApW w a ver w6 ∧ TMap w6 bm xs ∧ Box w6 w2.heap.size v ∧ Cont w6 v x) := ⟨H3.out.1.next h36, H3.out.2.1.below (Nat.le_refl _) h36, H3.out.2.2.2.1.below h36 (lt_of_block H3.out.2.2.2.1), H3.out.2.2.2.2.below (Nat.le_refl _) h36⟩
  have HDT : Hid ((M.dirS xs a.to).1 = 0 → Cont w6 vt (M.dirS xs a.to).2) := hdt
  clear q5 q6 hb6 h36 hdt H3 HN5 hl1 a0 a1 a2 a3 a4 a5 a6 af az
  obtain ⟨a0, a1, a2, a3, a4, a5, a6, af, az⟩ := H6.out.1.2.1.facts
  by_cases hd0 : (M.dirS xs a.to).1 = 0
  case' neg =>
    have e2 : ((M.dirS xs a.to).1 != 0) = true := by simp [hd0]
    have HS : Hid ((M.renameS xs ac ver).1 = (M.dirS xs a.to).1 ∧ (M.dirS xs a.to).1 ≠ 0) := ⟨by unfold M.renameS; rw [HK.out.2.2.2.1] at hd0 ⊢; rw [HHO.out, if_neg (by simp), if_pos hd0], hd0⟩
    clear hd0
    go_wp2_with (fail)
    go_ret2
    exact AppliedM.no HS.out.1 HS.out.2 (H6.out.1.1.trans (((Below.refl _ _).alloc (Nat.le_refl _) _).mono H6.out.1.1.size))
  obtain ⟨xt, hxt⟩ : ∃ xt, (M.dirS xs a.to).2 = xt := ⟨_, rfl⟩
  have HTX : Hid (M.dirS xs a.to = (0, xt)) := by show _ = _; rw [← hxt, ← hd0]
  have hft : M.find xs a.to = some xt := by rw [← hxt]; exact (M.dir_ok hd0).1
  have HCT : Hid (Cont w6 vt xt ∧ Small xt ∧ M.RsE xt.ents ∧ xt ∈ xs) := ⟨by rw [← hxt]; exact HDT.out hd0, HSM.out xt (M.find_mem hft).1, HRI.out.2 xt (M.find_mem hft).1, (M.find_mem hft).1⟩
  rw [hd0]
  clear hd0 hxt hft HDT
  have HFR : Hid (M.fromS xs ac = withE x (M.dropE x.ents a.name) ∧ M.toS xs ac = (if a.to = a.dir then withE x (M.dropE x.ents a.name) else xt)) := by
    have h1 : M.fromS xs ac = withE x (M.dropE x.ents a.name) := by unfold M.fromS; rw [HHO.out, ← HK.out.2.2.1]; rfl
    refine ⟨h1, ?_⟩
    unfold M.toS
    rw [h1, ← HK.out.2.2.2.1, ← HK.out.2.1, HTX.out]
  have HWT : Hid (∀ W, W = w6.alloc (.cells #[.int .i64 vt.fid, .bool vt.dir, .slice vt.dA vt.dn vt.dc, .slice vt.eA vt.en vt.ec, .int .i64 vt.ver] 56) → Below w6.heap.size w6 W ∧ Box W w6.heap.size vt) := by
    rintro W rfl
    exact ⟨(Below.refl _ _).alloc (Nat.le_refl _) _, Box.new w6 vt⟩
  go_upto_if 174 with (fail)
  go_cut [178] from 174 to 178 (fun _ W => Below w6.heap.size w6 W ∧ ∃ (vo : NV) (xo : M.Nd), Box W w6.heap.size vo ∧ Cont W vo xo ∧ xo = M.toS xs ac ∧ Small xo ∧ M.RsE xo.ents ∧ (xo.ents.length + 1) * 24 ≤ 140737488355328)
  case first =>
    by_cases htd : a.to = a.dir
    · have t1 : (a.to == a.dir) = true := by simp [htd]
      have HEQ : Hid (xt = x ∧ M.toS xs ac = withE x (M.dropE x.ents a.name)) := by
        refine ⟨?_, by rw [HFR.out.2, if_pos htd]⟩
        have h1 := HTX.out
        rw [htd, HDX.out] at h1
        exact (Prod.mk.inj h1).2.symm
      have SMD : Hid (Small (withE xt (M.dropE xt.ents a.name)) ∧ M.RsE (withE xt (M.dropE xt.ents a.name)).ents ∧ ((withE xt (M.dropE xt.ents a.name)).ents.length + 1) * 24 ≤ 140737488355328) := by
        have h1 : (M.dropE xt.ents a.name).length ≤ xt.ents.length := List.length_filter_le _ _
        have h2 := HS1.out xt HCT.out.2.2.2
        refine ⟨⟨HCT.out.2.1.1, ?_⟩, rs_dropE a.name HCT.out.2.2.1, ?_⟩
        · show (M.dropE xt.ents a.name).length * 24 ≤ _; omega
        · show ((M.dropE xt.ents a.name).length + 1) * 24 ≤ _; omega
      clear htd
      go_wp2_with (fail)
      obtain ⟨q1, q2⟩ := HWT.out _ rfl
      refine (refLeave_own vt xt a.name _ (HCT.out.1.below (Nat.le_refl _) q1) HCT.out.2.1).mono ?_
      rintro e w7 ⟨Ao, mo, co, rfl, hoo, hb7⟩
      have h67 : Below w6.heap.size w6 w7 := q1.trans (hb7.mono q1.size)
      have hbx := q2.below hb7 (lt_of_block q2)
      obtain ⟨z0, z1, z2, z3, z4, zf, zz⟩ := hbx.facts
      have hs6 : w6.heap.size < (w6.alloc (.cells #[.int .i64 vt.fid, .bool vt.dir, .slice vt.dA vt.dn vt.dc, .slice vt.eA vt.en vt.ec, .int .i64 vt.ver] 56)).heap.size := by simp
      obtain ⟨vo, hvo⟩ : ∃ vo : NV, vo = ⟨vt.fid, vt.dir, vt.dA, vt.dn, vt.dc, Ao, mo, co, vt.ver⟩ := ⟨_, rfl⟩
      have hbp : Below w6.heap.size w6 (put5 w7 w6.heap.size 0 vo) := put5_below h67 (Nat.le_refl _) _ _
      have hcp := HCT.out.1.below (Nat.le_refl _) hbp
      have hcv : Cont (put5 w7 w6.heap.size 0 vo) vo (withE xt (M.dropE xt.ents a.name)) := by
        have hrow := Row.ofOwn (cs := entCells) ent_len (by decide) (put5_own hoo hs6 0 vo)
        rw [hvo] at hcp hrow ⊢
        exact ⟨hcp.1, hcp.2.1, hcp.2.2.1, hcp.2.2.2.1, hrow⟩
      rw [← hvo]
      have HR : Hid (Below w6.heap.size w6 (put5 w7 w6.heap.size 0 vo) ∧ Box (put5 w7 w6.heap.size 0 vo) w6.heap.size vo ∧ Cont (put5 w7 w6.heap.size 0 vo) vo (withE xt (M.dropE xt.ents a.name))) := ⟨hbp, put5_box hbx vo, hcv⟩
      clear q1 q2 hoo hb7 h67 hbx hbp hcp hcv hvo hs6
      go_wp2_with (fail)
      go_meet
      case rel => exact ⟨HR.out.1, vo, _, HR.out.2.1, HR.out.2.2, by rw [HEQ.out.2, HEQ.out.1], SMD.out⟩
    · have t1 : (a.to == a.dir) = false := by simp [htd]
      have HEQ : Hid (M.toS xs ac = xt) := by show _ = _; rw [HFR.out.2, if_neg htd]
      clear htd
      go_wp2_with (fail)
      go_meet
      case rel => exact ⟨(HWT.out _ rfl).1, vt, xt, (HWT.out _ rfl).2, HCT.out.1.below (Nat.le_refl _) (HWT.out _ rfl).1, HEQ.out.symm, HCT.out.2.1, HCT.out.2.2.1, HS1.out xt HCT.out.2.2.2⟩
  obtain ⟨hb8, vo, xo, hbo, hco, hxo, hso, hro, hlo⟩ := hcut
  rename World => w8
  have H8 : Hid (ApW w a ver w8 ∧ TMap w8 bm xs ∧ Box w8 w2.heap.size v ∧ Cont w8 v x ∧ Box w8 w6.heap.size vo ∧ Cont w8 vo xo) := ⟨H6.out.1.next hb8, H6.out.2.1.below (Nat.le_refl _) hb8, H6.out.2.2.1.below hb8 (lt_of_block H6.out.2.2.1), H6.out.2.2.2.below (Nat.le_refl _) hb8, hbo, hco⟩
  have HSO : Hid (Small xo ∧ M.RsE xo.ents ∧ (xo.ents.length + 1) * 24 ≤ 140737488355328) := ⟨hso, hro, hlo⟩
  have HXO : Hid (M.toS xs ac = xo) := hxo.symm
  clear hb8 hbo hco hxo hso hro hlo H6 HWT a0 a1 a2 a3 a4 a5 a6 af az
  obtain ⟨a0, a1, a2, a3, a4, a5, a6, af, az⟩ := H8.out.1.2.1.facts
  obtain ⟨z0, z1, z2, z3, z4, zf, zz⟩ := H8.out.2.2.2.2.1.facts
  have HREN : Hid (M.renameS xs ac ver = if M.freeS xo a.toName ≠ 0 then (M.freeS xo a.toName, []) else (if (M.find xs a.fid).isNone then (12, []) else (@ite _ (M.Reach xs a.fid a.to) (Classical.propDecidable _) (11, []) (0, M.putN (M.putN xs (M.withV (withE x (M.dropE x.ents a.name)) ver)) (M.withV (withE xo (M.putE xo.ents (a.toName, a.fid))) ver))))) := by
    show _ = _
    unfold M.renameS
    rw [HHO.out, if_neg (by simp), ← HK.out.2.2.2.1, HTX.out, if_neg (by simp), HXO.out, HFR.out.1, ← HK.out.1, ← HK.out.2.2.2.2]
    rfl
  go_wp2_with (fail)
  refine (refRoom_any vo xo a.toName w8 H8.out.2.2.2.2.2 HSO.out.1 hst).mono ?_
  rintro e w9 ⟨rfl, hb9⟩
  have H9 : Hid (ApW w a ver w9 ∧ TMap w9 bm xs ∧ Box w9 w2.heap.size v ∧ Cont w9 v x ∧ Box w9 w6.heap.size vo ∧ Cont w9 vo xo) := ⟨H8.out.1.next hb9, H8.out.2.1.below (Nat.le_refl _) hb9, H8.out.2.2.1.below hb9 (lt_of_block H8.out.2.2.1), H8.out.2.2.2.1.below (Nat.le_refl _) hb9, H8.out.2.2.2.2.1.below hb9 (lt_of_block H8.out.2.2.2.2.1), H8.out.2.2.2.2.2.below (Nat.le_refl _) hb9⟩
  clear hb9 H8 a0 a1 a2 a3 a4 a5 a6 af az z0 z1 z2 z3 z4 zf zz
  obtain ⟨a0, a1, a2, a3, a4, a5, a6, af, az⟩ := H9.out.1.2.1.facts
  by_cases hfr : M.freeS xo a.toName = 0
  case' neg =>
    have e2 : (M.freeS xo a.toName != 0) = true := by simp [hfr]
    have HS : Hid ((M.renameS xs ac ver).1 = M.freeS xo a.toName ∧ M.freeS xo a.toName ≠ 0) := ⟨by rw [HREN.out, if_pos hfr], hfr⟩
    clear hfr
    go_wp2_with (fail)
    go_ret2
    exact AppliedM.no HS.out.1 HS.out.2 H9.out.1.1
  have HR2 : Hid (M.renameS xs ac ver = if (M.find xs a.fid).isNone then (12, []) else (@ite _ (M.Reach xs a.fid a.to) (Classical.propDecidable _) (11, []) (0, M.putN (M.putN xs (M.withV (withE x (M.dropE x.ents a.name)) ver)) (M.withV (withE xo (M.putE xo.ents (a.toName, a.fid))) ver)))) := by
    show _ = _; rw [HREN.out, if_neg (by simp [hfr])]
  rw [hfr]
  clear hfr HREN
  cases fb
  case' false =>
    have HS : Hid ((M.renameS xs ac ver).1 = 12) := by
      show _ = _
      rw [HR2.out, if_pos (by have h := HFB.out; cases hq : M.find xs a.fid with | none => rfl | some q => rw [hq] at h; cases h)]
    go_wp2_with (fail)
    go_ret2
    exact AppliedM.no HS.out (by decide) H9.out.1.1
  have HR3 : Hid (M.renameS xs ac ver = @ite _ (M.Reach xs a.fid a.to) (Classical.propDecidable _) (11, []) (0, M.putN (M.putN xs (M.withV (withE x (M.dropE x.ents a.name)) ver)) (M.withV (withE xo (M.putE xo.ents (a.toName, a.fid))) ver))) := by
    show _ = _
    rw [HR2.out, if_neg (by have h := HFB.out; cases hq : M.find xs a.fid with | none => rw [hq] at h; cases h | some q => simp)]
  clear HR2
  go_wp2_with (fail)
  refine (refWithin_any bm xs a.to a.fid w9 H9.out.2.1 HSM.out hN).mono ?_
  rintro e w10 ⟨rb, rfl, hwi, hb10⟩
  have H10 : Hid (ApW w a ver w10 ∧ TMap w10 bm xs ∧ Box w10 w2.heap.size v ∧ Cont w10 v x ∧ Box w10 w6.heap.size vo ∧ Cont w10 vo xo) := ⟨H9.out.1.next hb10, H9.out.2.1.below (Nat.le_refl _) hb10, H9.out.2.2.1.below hb10 (lt_of_block H9.out.2.2.1), H9.out.2.2.2.1.below (Nat.le_refl _) hb10, H9.out.2.2.2.2.1.below hb10 (lt_of_block H9.out.2.2.2.2.1), H9.out.2.2.2.2.2.below (Nat.le_refl _) hb10⟩
  have HWI : Hid (rb = true ↔ M.Reach xs a.fid a.to) := hwi
  clear hb10 hwi H9 a0 a1 a2 a3 a4 a5 a6 af az
  obtain ⟨a0, a1, a2, a3, a4, a5, a6, af, az⟩ := H10.out.1.2.1.facts
  cases rb
  case' true =>
    have HS : Hid ((M.renameS xs ac ver).1 = 11) := by show _ = _; rw [HR3.out, if_pos (HWI.out.1 rfl)]
    go_wp2_with (fail)
    go_ret2
    exact AppliedM.no HS.out (by decide) H10.out.1.1
  have HR4 : Hid (M.renameS xs ac ver = (0, M.putN (M.putN xs (M.withV (withE x (M.dropE x.ents a.name)) ver)) (M.withV (withE xo (M.putE xo.ents (a.toName, a.fid))) ver))) := by
    show _ = _
    rw [HR3.out, if_neg (fun h => by have := HWI.out.2 h; cases this)]
  clear HR3 HWI
  by_cases htd : a.to = a.dir
  · have t1 : (a.to != a.dir) = false := by simp [htd]
    have HS : Hid (M.renameS xs ac ver = (0, M.putN xs (M.withV (withE xo (M.putE xo.ents (a.toName, a.fid))) ver))) := by
      show _ = _
      rw [HR4.out, put_over HRI.out.1]
      rw [← HXO.out, HFR.out.2, if_pos htd]
      rfl
    have HQ : Hid (ApW w a ver w10 ∧ TMap w10 bm xs ∧ Box w10 w6.heap.size vo ∧ Cont w10 vo xo) := ⟨H10.out.1, H10.out.2.1, H10.out.2.2.2.2.1, H10.out.2.2.2.2.2⟩
    obtain ⟨z0, z1, z2, z3, z4, zf, zz⟩ := HQ.out.2.2.1.facts
    clear htd
    go_wp2_with (fail)
    refine (refEnter_any vo xo a.toName a.fid _ HQ.out.2.2.2 HSO.out.2.1 HSO.out.1 HSO.out.2.2).mono ?_
    rintro e w20 ⟨v20, rfl, hc20, hb20⟩
    have H20 : Hid (ApW w a ver w20 ∧ TMap w20 bm xs ∧ Cont w20 v20 (withE xo (M.putE xo.ents (a.toName, a.fid)))) := ⟨HQ.out.1.next hb20, HQ.out.2.1.below (Nat.le_refl _) hb20, hc20⟩
    clear hc20 hb20
    obtain ⟨f20, d20, dA20, dn20, dc20, eA20, en20, ec20, ve20⟩ := v20
    go_wp2_with (fail)
    refine (refVer_any ⟨f20, d20, dA20, dn20, dc20, eA20, en20, ec20, ve20⟩ (w.heap.size + 1) ver _ H20.out.1.ver).mono ?_
    rintro e w21 ⟨rfl, hb21⟩
    have H21 : Hid (Below w.heap.size w w21 ∧ TMap w21 bm xs ∧ Cont w21 ⟨f20, d20, dA20, dn20, dc20, eA20, en20, ec20, ver⟩ (M.withV (withE xo (M.putE xo.ents (a.toName, a.fid))) ver)) := ⟨H20.out.1.1.trans (hb21.mono H20.out.1.1.size), H20.out.2.1.below (Nat.le_refl _) hb21, contV (H20.out.2.2.below (Nat.le_refl _) hb21) ver⟩
    clear hb21
    go_wp2_with (fail)
    refine (with_any bm _ ⟨f20, d20, dA20, dn20, dc20, eA20, en20, ec20, ver⟩ _ w21 H21.out.2.1 H21.out.2.2).mono ?_
    rintro e w22 ⟨b22, rfl, ht22, hb22⟩
    have H22 : Hid (Below w.heap.size w w22 ∧ TMap w22 b22 (M.putN xs (M.withV (withE xo (M.putE xo.ents (a.toName, a.fid))) ver))) := ⟨H21.out.1.trans (hb22.mono H21.out.1.size), ht22⟩
    clear ht22 hb22
    go_wp2_with (fail)
    go_ret2
    exact AppliedM.yes HS.out H22.out.2 H22.out.1
  · have t1 : (a.to != a.dir) = true := by simp [htd]
    clear htd
    obtain ⟨z0, z1, z2, z3, z4, zf, zz⟩ := H10.out.2.2.1.facts
    go_wp2_with (fail)
    refine (refLeave_any v x a.name w10 H10.out.2.2.2.1 HCX.out.2.1).mono ?_
    rintro e w11 ⟨v11, rfl, hc11, hb11⟩
    have H11 : Hid (ApW w a ver w11 ∧ TMap w11 bm xs ∧ Box w11 w6.heap.size vo ∧ Cont w11 vo xo ∧ Cont w11 v11 (withE x (M.dropE x.ents a.name))) := ⟨H10.out.1.next hb11, H10.out.2.1.below (Nat.le_refl _) hb11, H10.out.2.2.2.2.1.below hb11 (lt_of_block H10.out.2.2.2.2.1), H10.out.2.2.2.2.2.below (Nat.le_refl _) hb11, hc11⟩
    clear hc11 hb11 H10 a0 a1 a2 a3 a4 a5 a6 af az z0 z1 z2 z3 z4 zf zz
    obtain ⟨f11, d11, dA11, dn11, dc11, eA11, en11, ec11, ve11⟩ := v11
    go_wp2_with (fail)
    refine (refVer_any ⟨f11, d11, dA11, dn11, dc11, eA11, en11, ec11, ve11⟩ (w.heap.size + 1) ver _ H11.out.1.ver).mono ?_
    rintro e w12 ⟨rfl, hb12⟩
    have H12 : Hid (ApW w a ver w12 ∧ TMap w12 bm xs ∧ Box w12 w6.heap.size vo ∧ Cont w12 vo xo ∧ Cont w12 ⟨f11, d11, dA11, dn11, dc11, eA11, en11, ec11, ver⟩ (M.withV (withE x (M.dropE x.ents a.name)) ver)) := ⟨H11.out.1.next hb12, H11.out.2.1.below (Nat.le_refl _) hb12, H11.out.2.2.1.below hb12 (lt_of_block H11.out.2.2.1), H11.out.2.2.2.1.below (Nat.le_refl _) hb12, contV (H11.out.2.2.2.2.below (Nat.le_refl _) hb12) ver⟩
    clear hb12 H11
    go_wp2_with (fail)
    refine (with_any bm xs ⟨f11, d11, dA11, dn11, dc11, eA11, en11, ec11, ver⟩ _ w12 H12.out.2.1 H12.out.2.2.2.2).mono ?_
    rintro e w13 ⟨b13, rfl, ht13, hb13⟩
    have HQ : Hid (ApW w a ver w13 ∧ TMap w13 b13 (M.putN xs (M.withV (withE x (M.dropE x.ents a.name)) ver)) ∧ Box w13 w6.heap.size vo ∧ Cont w13 vo xo) := ⟨H12.out.1.next hb13, ht13, H12.out.2.2.1.below hb13 (lt_of_block H12.out.2.2.1), H12.out.2.2.2.1.below (Nat.le_refl _) hb13⟩
    clear ht13 hb13 H12
    obtain ⟨a0, a1, a2, a3, a4, a5, a6, af, az⟩ := HQ.out.1.2.1.facts
    obtain ⟨z0, z1, z2, z3, z4, zf, zz⟩ := HQ.out.2.2.1.facts
    go_wp2_with (fail)
    refine (refEnter_any vo xo a.toName a.fid _ HQ.out.2.2.2 HSO.out.2.1 HSO.out.1 HSO.out.2.2).mono ?_
    rintro e w20 ⟨v20, rfl, hc20, hb20⟩
    have H20 : Hid (ApW w a ver w20 ∧ TMap w20 b13 (M.putN xs (M.withV (withE x (M.dropE x.ents a.name)) ver)) ∧ Cont w20 v20 (withE xo (M.putE xo.ents (a.toName, a.fid)))) := ⟨HQ.out.1.next hb20, HQ.out.2.1.below (Nat.le_refl _) hb20, hc20⟩
    clear hc20 hb20
    obtain ⟨f20, d20, dA20, dn20, dc20, eA20, en20, ec20, ve20⟩ := v20
    go_wp2_with (fail)
    refine (refVer_any ⟨f20, d20, dA20, dn20, dc20, eA20, en20, ec20, ve20⟩ (w.heap.size + 1) ver _ H20.out.1.ver).mono ?_
    rintro e w21 ⟨rfl, hb21⟩
    have H21 : Hid (Below w.heap.size w w21 ∧ TMap w21 b13 (M.putN xs (M.withV (withE x (M.dropE x.ents a.name)) ver)) ∧ Cont w21 ⟨f20, d20, dA20, dn20, dc20, eA20, en20, ec20, ver⟩ (M.withV (withE xo (M.putE xo.ents (a.toName, a.fid))) ver)) := ⟨H20.out.1.1.trans (hb21.mono H20.out.1.1.size), H20.out.2.1.below (Nat.le_refl _) hb21, contV (H20.out.2.2.below (Nat.le_refl _) hb21) ver⟩
    clear hb21
    go_wp2_with (fail)
    refine (with_any b13 _ ⟨f20, d20, dA20, dn20, dc20, eA20, en20, ec20, ver⟩ _ w21 H21.out.2.1 H21.out.2.2).mono ?_
    rintro e w22 ⟨b22, rfl, ht22, hb22⟩
    have H22 : Hid (Below w.heap.size w w22 ∧ TMap w22 b22 (M.putN (M.putN xs (M.withV (withE x (M.dropE x.ents a.name)) ver)) (M.withV (withE xo (M.putE xo.ents (a.toName, a.fid))) ver))) := ⟨H21.out.1.trans (hb22.mono H21.out.1.size), ht22⟩
    clear ht22 hb22
    go_wp2_with (fail)
    go_ret2
    exact AppliedM.yes HR4.out H22.out.2 H22.out.1
end Go.Proofs.Ytkhifljgocopoac
/-
  THE REFERENCE's Apply, of any act.
-/
namespace Go.Proofs.Ytkhifljgocopoac
open Go.RowKit

theorem refApply_any (bm : Nat) (xs : List M.Nd) (a : AV) (ac : M.Act) (ver : Int) (w : World) (ht : TMap w bm xs) (ha : ContA w a ac) (hri : M.Rise xs) (hsm : ∀ x ∈ xs, Small x) (hs1 : ∀ x ∈ xs, (x.ents.length + 1) * 24 ≤ 140737488355328) (hN : ((allF xs).length + 2) * 8 ≤ 140737488355328) (hsn : a.name.size ≤ maxLen) (hst : a.toName.size ≤ maxLen) :
    Calls Try.prog 15 #[.map (some bm), a.val, .int .i64 ver] w (AppliedM w (M.applyS xs ac ver)) := by
  have hk := ha.1
  by_cases h1 : a.kind = 1
  · have e : M.applyS xs ac ver = M.bringS xs ac ver := by unfold M.applyS; rw [if_pos (.inl (by rw [← hk]; exact h1))]
    rw [e]
    exact refMake_any bm xs a ac ver w ht ha hri hsm hsn hs1 h1
  by_cases h2 : a.kind = 2
  · have e : M.applyS xs ac ver = M.bringS xs ac ver := by unfold M.applyS; rw [if_pos (.inr (by rw [← hk]; exact h2))]
    rw [e]
    exact refMkdir_any bm xs a ac ver w ht ha hri hsm hsn hs1 h2
  have h12 : ¬ (ac.kind = 1 ∨ ac.kind = 2) := by rw [← hk]; exact fun h => h.elim h1 h2
  by_cases h3 : a.kind = 3
  · have e : M.applyS xs ac ver = M.storeS xs ac ver := by unfold M.applyS; rw [if_neg h12, if_pos (by rw [← hk]; exact h3)]
    rw [e]
    exact refStore_any bm xs a ac ver w ht ha h3
  by_cases h4 : a.kind = 4
  · have e : M.applyS xs ac ver = M.removeS xs ac ver := by unfold M.applyS; rw [if_neg h12, if_neg (by rw [← hk]; exact h3), if_pos (by rw [← hk]; exact h4)]
    rw [e]
    exact refRemove_any bm xs a ac ver w ht ha hri hsm h4
  by_cases h5 : a.kind = 5
  · have e : M.applyS xs ac ver = M.renameS xs ac ver := by unfold M.applyS; rw [if_neg h12, if_neg (by rw [← hk]; exact h3), if_neg (by rw [← hk]; exact h4), if_pos (by rw [← hk]; exact h5)]
    rw [e]
    exact refRename_any bm xs a ac ver w ht ha hri hsm hst hs1 hN h5
  have e : M.applyS xs ac ver = (1, []) := by unfold M.applyS; rw [if_neg h12, if_neg (by rw [← hk]; exact h3), if_neg (by rw [← hk]; exact h4), if_neg (by rw [← hk]; exact h5)]
  rw [e]
  exact refNone_any bm xs a ac ver w ht ha h1 h2 h3 h4 h5
end Go.Proofs.Ytkhifljgocopoac
/-
  A REGION THAT DRAWS ITS ORDER, WITH OPERATIONS THAT MAY WRITE INTO WHAT THE REGION ITSELF MADE ('append' onto an 'append'):
  what is said of a value must last only till it is used up.
-/
namespace Go.Proofs.Ytkhifljgocopoac
open Go.RowKit

/-- operation i uses what operation j made: it waits for it as for data -/
def usesD (o : Oper) (j : Nat) : Bool := o.after.any fun e => Region.binds .any e && e.on == j && (match e.ground with | .data => true | _ => false)
theorem waits_of_uses {o : Oper} {j : Nat} (h : usesD o j = true) : waits o j = true := by
  unfold usesD at h
  unfold waits
  rw [Array.any_eq_true'] at h ⊢
  obtain ⟨e, he, hb⟩ := h
  simp only [Bool.and_eq_true] at hb
  exact ⟨e, he, by simp only [Bool.and_eq_true]; exact hb.1⟩
/-- whoever comes up as i has u behind it -/
def before (ops : Array Oper) : Nat → Nat → Nat → Bool
  | 0, _, _ => false
  | n + 1, i, u => match ops[i]? with
    | some o => o.after.any fun e => Region.binds .any e && (e.on == u || before ops n e.on u)
    | none => false
theorem before_listed {ops : Array Oper} {listed : Array Bool} (hc : ∀ j o, ops[j]? = some o → listed.getD j true = true → ∀ i, waits o i = true → listed.getD i true = true) :
    ∀ (n i u : Nat), (∀ o, ops[i]? = some o → ∀ j, waits o j = true → listed.getD j true = true) → before ops n i u = true → listed.getD u true = true
  | 0, _, _, _, h => by cases h
  | n + 1, i, u, hw, h => by
    unfold before at h
    cases ho : ops[i]? with
    | none => rw [ho] at h; cases h
    | some o =>
      rw [ho] at h
      obtain ⟨e, he, hb⟩ := Array.any_eq_true'.1 h
      simp only [Bool.and_eq_true, Bool.or_eq_true, beq_iff_eq] at hb
      have hwe : waits o e.on = true := by
        unfold waits
        rw [Array.any_eq_true']
        exact ⟨e, he, by simp [hb.1]⟩
      have hl := hw o ho e.on hwe
      rcases hb.2 with h1 | h1
      · rw [← h1]; exact hl
      · exact before_listed hc n e.on u (fun o' ho' j hj => hc e.on o' ho' hl j hj) h1

/-- some operation that is not yet listed uses j, or none ever does -/
def Live (ops : Array Oper) (listed : Array Bool) (j : Nat) : Prop :=
  (∃ (u : Nat) (o : Oper), ops[u]? = some o ∧ usesD o j = true ∧ listed.getD u true = false) ∨ ∀ (u : Nat) (o : Oper), ops[u]? = some o → usesD o j = false
/-- when i has come up, what j made may still be used -/
def mustKeep (ops : Array Oper) (i j : Nat) : Bool :=
  !(((List.range ops.size).any fun u => match ops[u]? with | some o => usesD o j | none => false) && (List.range ops.size).all fun u => match ops[u]? with | some o => !usesD o j || u == i || before ops ops.size i u | none => true) && !before ops ops.size j i

def SoftAt (P : Program) (ops : Array Oper) (Q : Exit → Act → World → Prop) (a0 : Act) (w0 : World) (V : Nat → Value → World → Prop) (i : Nat) : Prop :=
  ∀ o, ops[i]? = some o → ∀ a w, FramedAt ops i a0 a → Below w0.heap.size w0 w → (∀ j, usesD o j = true → V j (a.eval (.tmp (slotAt ops j))) w) →
    ∀ K : Act → World → Prop, Hid (∀ v w', Below w0.heap.size w w' → (∀ j, j ≠ i → mustKeep ops i j = true → ∀ u, V j u w → V j u w') → V i v w' → K (a.put o.dst v) w') →
      if Region.wanted o (yielded ops a.tmps) = true then Oper.wp P o a w K Q else K (a.put o.dst undef) w

theorem wpAny_soft {P : Program} {ops : Array Oper} {Q : Exit → Act → World → Prop} {a0 : Act} {w0 : World} {V : Nat → Value → World → Prop} (ht : tidy ops a0.tmps.size = true) (steps : ∀ i, i < ops.size → SoftAt P ops Q a0 w0 V i)
    (last : ∀ a w, Framed ops a0 a → Below w0.heap.size w0 w → (∀ j, j < ops.size → (∀ (u : Nat) (o : Oper), ops[u]? = some o → usesD o j = false) → V j (a.eval (.tmp (slotAt ops j))) w) → Q .normal a w) :
    ∀ (fuel : Nat) (listed : Array Bool) (a : Act) (w : World), listed.size = ops.size → unlisted listed ≤ fuel → FramedBy ops listed a0 a → Below w0.heap.size w0 w →
      (∀ j, j < ops.size → listed.getD j true = true → Live ops listed j → V j (a.eval (.tmp (slotAt ops j))) w) → wpAny P .any ops Q fuel listed a w := by
  have hdone : ∀ (listed : Array Bool), listed.size = ops.size → Region.ready .any ops listed = [] → ∀ j, j < ops.size → listed.getD j true = true := by
    intro listed hsz hr j
    induction j using Nat.strongRecOn with
    | ind j ih =>
      intro hj
      cases hb : listed.getD j true with
      | true => rfl
      | false =>
        have ho : ops[j]? = some ops[j] := Array.getElem?_eq_getElem hj
        have hm : j ∈ Region.ready .any ops listed := by
          rw [mem_ready]
          refine ⟨hb, _, ho, fun e he _ => ?_⟩
          have hlt := (tidy_at ht ho).1 e he
          have h1 := ih e.on hlt (by omega)
          have h2 : e.on < listed.size := by omega
          simp only [Array.getD_eq_getD_getElem?, Array.getElem?_eq_getElem h2, Option.getD_some] at h1 ⊢
          exact h1
        rw [hr] at hm
        cases hm
  intro fuel
  induction fuel with
  | zero =>
    intro listed a w hsz hu hf hb hV
    have hall : ∀ j, listed.getD j true = true := by
      intro j
      have h0 : listed.toList.filter (fun b => !b) = [] := List.eq_nil_of_length_eq_zero (by simpa [unlisted] using hu)
      rw [List.filter_eq_nil_iff] at h0
      rcases Nat.lt_or_ge j listed.size with h | h
      · have := h0 listed[j] (by simp)
        simp [h] at this ⊢
        exact this
      · simp [h]
    refine ⟨?_, last a w hf.all hb fun j hj hno => hV j hj (hall j) (.inr hno)⟩
    unfold Region.ready
    rw [List.filter_eq_nil_iff]
    intro j _
    rw [hall j]
    simp
  | succ fuel ih =>
    intro listed a w hsz hu hf hb hV
    refine ⟨fun hr => last a w hf.all hb fun j hj hno => hV j hj (hdone listed hsz hr j hj) (.inr hno), fun i hi => ?_⟩
    obtain ⟨hun, o, ho, hall⟩ := mem_ready.1 hi
    have hilt : i < ops.size := (Array.getElem?_eq_some_iff.1 ho).1
    obtain ⟨hback, d, hd, hdlt, hslot, _⟩ := tidy_at ht ho
    refine wpOp_step ho fun K' hK => ?_
    have hlw : ∀ j, waits o j = true → listed.getD j true = true := by
      intro j hj
      obtain ⟨e, he, hbe⟩ := Array.any_eq_true'.1 hj
      simp only [Bool.and_eq_true, beq_iff_eq] at hbe
      have h1 := hall e he hbe.1
      have h2 := hback e he
      rw [← hbe.2]
      have h3 : e.on < listed.size := by omega
      simp only [Array.getD_eq_getD_getElem?, Array.getElem?_eq_getElem h3, Option.getD_some] at h1 ⊢
      exact h1
    have hjlt : ∀ j, waits o j = true → j < ops.size := by
      intro j hj
      obtain ⟨e, he, hbe⟩ := Array.any_eq_true'.1 hj
      simp only [Bool.and_eq_true, beq_iff_eq] at hbe
      have h2 := hback e he
      omega
    refine steps i hilt o ho a w (hf.at_ hun) hb (fun j hj => hV j (hjlt j (waits_of_uses hj)) (hlw j (waits_of_uses hj)) (.inl ⟨i, o, ho, hj, hun⟩)) K' ?_
    intro v w' hw0 hkeep hv
    refine hK _ _ (ih _ _ _ (by simp [hsz]) (by have := unlisted_set hun; omega) (hf.put ho hsz hlw v) (hb.trans hw0) fun j hj hl hlive => ?_)
    by_cases hji : j = i
    · subst hji
      have : (a.put o.dst v).eval (.tmp (slotAt ops j)) = v := by
        rw [hslot, hd]
        have hlt : d < a.tmps.size := by rw [hf.size]; exact hdlt
        simp [Act.eval, Act.put, hlt]
      rw [this]
      exact hv
    · have hoj : ops[j]? = some ops[j] := Array.getElem?_eq_getElem hj
      have hne := tidy_ne ht hoj ho hji
      rw [Act.eval_put (by intro d' hd' e; injection e with e; rw [hd] at hd'; injection hd' with hd'; rw [hslot] at hne; exact hne (e.trans hd'.symm))]
      rw [getD_set_ne true (Ne.symm hji)] at hl
      have hlive0 : Live ops listed j := by
        rcases hlive with ⟨u, ou, hou, hus, hnl⟩ | h
        · refine .inl ⟨u, ou, hou, hus, ?_⟩
          by_cases hui : u = i
          · subst hui; exact hun
          · rw [getD_set_ne true (Ne.symm hui)] at hnl; exact hnl
        · exact .inr h
      have hVj := hV j hj hl hlive0
      refine hkeep j hji ?_ _ hVj
      cases hmk : mustKeep ops i j with
      | true => rfl
      | false =>
        unfold mustKeep at hmk
        exfalso
        rw [Bool.and_eq_false_iff] at hmk
        rcases hmk with hmk | hmk
        case inr =>
          simp only [Bool.not_eq_false'] at hmk
          have := before_listed hf.closed ops.size j i (fun o' ho' q hq => hf.closed j o' ho' hl q hq) hmk
          rw [this] at hun
          cases hun
        simp only [Bool.not_eq_false', Bool.and_eq_true] at hmk
        obtain ⟨h2, h3⟩ := hmk
        rcases hlive with ⟨u, ou, hou, hus, hnl⟩ | hno
        · rw [List.all_eq_true] at h3
          have h4 := h3 u (List.mem_range.2 (Array.getElem?_eq_some_iff.1 hou).1)
          simp only [hou, hus, Bool.not_true, Bool.false_or, Bool.or_eq_true, beq_iff_eq] at h4
          rcases h4 with h4 | h4
          · subst h4
            have hlt : u < listed.size := by omega
            simp [hlt] at hnl
          · have hl2 := before_listed hf.closed ops.size i u (fun o' ho' q hq => by rw [ho] at ho'; injection ho' with ho'; subst ho'; exact hlw q hq) h4
            by_cases hui : u = i
            · subst hui; rw [hl2] at hun; cases hun
            · rw [getD_set_ne true (Ne.symm hui), hl2] at hnl; cases hnl
        · rw [List.any_eq_true] at h2
          obtain ⟨u, hu2, h5⟩ := h2
          cases hou : ops[u]? with
          | none => rw [hou] at h5; cases h5
          | some ou => rw [hou] at h5; simp only [hno u ou hou] at h5; cases h5

/-- THE RULE. -/
theorem wp_region_soft {P : Program} {ops : Array Oper} {Q : Exit → Act → World → Prop} {a0 : Act} {w0 : World} (V : Nat → Value → World → Prop) {id : Nat} (hm : P.follows .mixedOrders = true)
    (ht : tidy ops a0.tmps.size = true) (steps : ∀ i, i < ops.size → SoftAt P ops Q a0 w0.drew V i)
    (last : ∀ a w, Framed ops a0 a → Below w0.heap.size w0 w → (∀ j, j < ops.size → (∀ (u : Nat) (o : Oper), ops[u]? = some o → usesD o j = false) → V j (a.eval (.tmp (slotAt ops j))) w) → Q .normal a w) :
    (Code.region id ops true).wp P Q a0 w0 := by
  refine wp_region_any hm ?_
  refine wpAny_soft (w0 := w0.drew) ht steps (fun a w hf hb hv => last a w hf ((Below.refl _ _).drew.trans hb) hv) _ _ _ _ (by simp) ?_ ?_ (Below.refl _ _) ?_
  · simp [unlisted]
  · refine ⟨rfl, rfl, fun _ _ => rfl, fun j o hj hl => ?_⟩
    have hlt := (Array.getElem?_eq_some_iff.1 hj).1
    simp [hlt] at hl
  · intro j hj hl
    simp [hj] at hl

theorem SoftAt.by {P : Program} {ops : Array Oper} {Q : Exit → Act → World → Prop} {a0 : Act} {w0 : World} {V : Nat → Value → World → Prop} {i : Nat} {o : Oper} (ho : ops[i]? = some o)
    (h : ∀ a w, FramedAt ops i a0 a → Below w0.heap.size w0 w → (∀ j, usesD o j = true → V j (a.eval (.tmp (slotAt ops j))) w) →
      (Region.wanted o (yielded ops a.tmps) = true ∧ Does P o a w (fun v w' => Below w0.heap.size w w' ∧ (∀ j, j ≠ i → mustKeep ops i j = true → ∀ u, V j u w → V j u w') ∧ V i v w')) ∨ (Region.wanted o (yielded ops a.tmps) = false ∧ V i undef w)) : SoftAt P ops Q a0 w0 V i := by
  intro o' ho' a w hf hb hd K hK
  have e : o = o' := Option.some.inj (ho.symm.trans ho')
  subst e
  rcases h a w hf hb hd with ⟨hw, hr⟩ | ⟨hw, hv⟩
  · rw [if_pos hw]
    unfold Oper.wp
    rcases hr with ⟨v, w', hr, hb', hk', hv⟩ | ⟨f, args, w', hr, hc⟩
    · rw [hr]
      exact hK.out v w' hb' hk' hv
    · rw [hr]
      refine Calls.mono hc ?_
      rintro e w'' ⟨r, rfl, hb', hk', hv⟩
      exact hK.out r w'' hb' hk' hv
  · rw [hw]
    exact hK.out undef w (Below.refl _ _) (fun _ _ _ _ h => h) hv
end Go.Proofs.Ytkhifljgocopoac
