/- TEXTS LAID TOGETHER: Refab, Krefab -/
import Derived.Test.YtcjobmbbikfnaacPart10
import Derived.Deep.CutRange
import Derived.Test.YtcjobmbbikfnaacPart11
/-
  THE REFERENCE's Apply: acts that make.
-/
namespace Go.Proofs.Ytcjobmbbikfnaac
open Go.RowKit

def VR17 (bm sv sa : Nat) (xs : List M.Nd) (a : AV) (v : NV) (x : M.Nd) (ver : Int) : Nat → Value → World → Prop
  | 0 => IsU (.map (some bm))
  | 1 => IsU (.func (.func 23) #[] #[.pointer (some ⟨sv, 0, none⟩)])
  | 2 => IsU (NV.val v)
  | 3 => IsU (.pointer (some ⟨sa, 3, none⟩))
  | 4 => IsU (.string (a.name))
  | 5 => IsU (.pointer (some ⟨sa, 1, none⟩))
  | 6 => IsU (.int .i64 (a.fid))
  | 7 => IsNd (withE x (M.putE x.ents (a.name, a.fid)))
  | 8 => IsNd (M.withV (withE x (M.putE x.ents (a.name, a.fid))) ver)
  | 9 => IsMp (M.putN xs (M.withV (withE x (M.putE x.ents (a.name, a.fid))) ver))
  | 10 => IsU (.func (.func 23) #[] #[.pointer (some ⟨sv, 0, none⟩)])
  | 11 => IsU (.pointer (some ⟨sa, 1, none⟩))
  | 12 => IsU (.int .i64 (a.fid))
  | 13 => IsU (.pointer (some ⟨sa, 0, none⟩))
  | 14 => IsU (.int .i64 (a.kind))
  | 15 => IsU (.bool ((a.kind : Int) == (2 : Int)))
  | 16 => IsU (NV.val ⟨a.fid, (a.kind == 2), none, 0, 0, none, 0, 0, 0⟩)
  | 17 => IsNd ⟨a.fid, a.kind == 2, [], [], ver⟩
  | 18 => IsMp (M.putN (M.putN xs (M.withV (withE x (M.putE x.ents (a.name, a.fid))) ver)) ⟨a.fid, a.kind == 2, [], [], ver⟩)
  | 19 => IsMp (M.putN (M.putN xs (M.withV (withE x (M.putE x.ents (a.name, a.fid))) ver)) ⟨a.fid, a.kind == 2, [], [], ver⟩)
  | 20 => IsU (.int .i64 (0))
  | _ => fun _ _ => True
theorem VR17_stays (bm sv sa : Nat) (xs : List M.Nd) (a : AV) (v : NV) (x : M.Nd) (ver : Int) : ∀ i, Stays (VR17 bm sv sa xs a v x ver i) := by
  intro i v W W' hb h
  match i, h with
  | 0, h => exact h
  | 1, h => exact h
  | 2, h => exact h
  | 3, h => exact h
  | 4, h => exact h
  | 5, h => exact h
  | 6, h => exact h
  | 7, h => exact isNd_below hb h
  | 8, h => exact isNd_below hb h
  | 9, h => exact isMp_below hb h
  | 10, h => exact h
  | 11, h => exact h
  | 12, h => exact h
  | 13, h => exact h
  | 14, h => exact h
  | 15, h => exact h
  | 16, h => exact h
  | 17, h => exact isNd_below hb h
  | 18, h => exact isMp_below hb h
  | 19, h => exact isMp_below hb h
  | 20, h => exact h
  | k + 21, h => trivial

set_option maxRecDepth 8000 in
set_option maxHeartbeats 8000000 in
theorem refMake_any (bm : Nat) (xs : List M.Nd) (a : AV) (ac : M.Act) (ver : Int) (w : World) (ht : TMap w bm xs) (ha : ContA w a ac) (hri : M.Rise xs) (hsm : ∀ x ∈ xs, Small x) (hsn : a.name.size ≤ maxLen) (hs1 : ∀ x ∈ xs, (x.ents.length + 1) * 24 ≤ 140737488355328) (hk : a.kind = 1) :
    Calls Try.prog 15 #[.map (some bm), a.val, .int .i64 ver] w (AppliedM w (M.bringS xs ac ver)) := by
  have HT : Hid (TMap w bm xs ∧ ContA w a ac ∧ True) := ⟨ht, ha, trivial⟩
  have HK : Hid (a.fid = ac.fid ∧ a.dir = ac.dir ∧ a.name = ac.name ∧ a.to = ac.to ∧ a.toName = ac.toName) := ⟨ha.2.1, ha.2.2.1, ha.2.2.2.1, ha.2.2.2.2.1, ha.2.2.2.2.2.1⟩
  have HSM : Hid (∀ x ∈ xs, Small x) := hsm
  have HRI : Hid (M.Rise xs) := hri
  have HW : Hid _ := apw_start w a ver
  have HS1 : Hid (∀ x ∈ xs, (x.ents.length + 1) * 24 ≤ 140737488355328) := hs1
  have HKK : Hid (a.kind = ac.kind) := ha.1
  have k1 : (a.kind == 1) = true := by simp [hk]
  have k2 : (a.kind == 2) = false := by simp [hk]
  have k3 : (a.kind == 3) = false := by simp [hk]
  have k4 : (a.kind == 4) = false := by simp [hk]
  have k5 : (a.kind == 5) = false := by simp [hk]
  clear ht ha hk hri hsm hs1
  go_enter Try.func15, Try.ntmps15
  go_upto_region 1 with (fail)
  go_cut [8] from 24 to 24 (fun v W => v = .func (.func 23) #[] #[.pointer (some ⟨w.heap.size + 1, 0, none⟩)] ∧ ApW w a ver W)
  case first =>
    go_wp2_with (fail)
    go_meet
    case rel => exact ⟨rfl, HW.out _ rfl⟩
  obtain ⟨rfl, hw1⟩ := hcut
  rename World => w1
  obtain ⟨a0, a1, a2, a3, a4, a5, a6, af, az⟩ := hw1.2.1.facts
  have H1 : Hid (ApW w a ver w1 ∧ TMap w1 bm xs ∧ ContA w1 a ac) := ⟨hw1, HT.out.1.below (Nat.le_refl _) hw1.1, HT.out.2.1.below (Nat.le_refl _) hw1.1⟩
  clear hw1 HW
  go_wp2_with (fail)
  refine (refDir_any bm xs a.dir w1 H1.out.2.1).mono ?_
  rintro e w2 ⟨v, rfl, hdc, hb2⟩
  have H2 : Hid (ApW w a ver w2 ∧ TMap w2 bm xs ∧ ContA w2 a ac) := ⟨H1.out.1.next hb2, H1.out.2.1.below (Nat.le_refl _) hb2, H1.out.2.2.below (Nat.le_refl _) hb2⟩
  have HDC : Hid ((M.dirS xs a.dir).1 = 0 → Cont w2 v (M.dirS xs a.dir).2) := hdc
  clear hb2 hdc H1 a0 a1 a2 a3 a4 a5 a6 af az
  obtain ⟨a0, a1, a2, a3, a4, a5, a6, af, az⟩ := H2.out.1.2.1.facts
  by_cases hd0 : (M.dirS xs a.dir).1 = 0
  case' neg =>
    have e1 : ((M.dirS xs a.dir).1 != 0) = true := by simp [hd0]
    have HS : Hid ((M.bringS xs ac ver).1 = (M.dirS xs a.dir).1 ∧ (M.dirS xs a.dir).1 ≠ 0) := ⟨by unfold M.bringS; rw [HK.out.2.1] at hd0 ⊢; rw [if_pos hd0], hd0⟩
    clear hd0
    go_wp2_with (fail)
    go_ret2
    exact AppliedM.no HS.out.1 HS.out.2 (H2.out.1.1.trans (((Below.refl _ _).alloc (Nat.le_refl _) _).mono H2.out.1.1.size))
  obtain ⟨x, hx⟩ : ∃ x, (M.dirS xs a.dir).2 = x := ⟨_, rfl⟩
  have HDX : Hid (M.dirS xs a.dir = (0, x)) := by show _ = _; rw [← hx, ← hd0]
  have hfx : M.find xs a.dir = some x := by rw [← hx]; exact (M.dir_ok hd0).1
  have HCX : Hid (Cont w2 v x ∧ Small x ∧ M.RsE x.ents ∧ (x.ents.length + 1) * 24 ≤ 140737488355328) := ⟨by rw [← hx]; exact HDC.out hd0, HSM.out x (M.find_mem hfx).1, HRI.out.2 x (M.find_mem hfx).1, HS1.out x (M.find_mem hfx).1⟩
  rw [hd0]
  clear hd0 hx hfx HDC
  have HWN : Hid (∀ W, W = w2.alloc (.cells #[.int .i64 v.fid, .bool v.dir, .slice v.dA v.dn v.dc, .slice v.eA v.en v.ec, .int .i64 v.ver] 56) → Below w2.heap.size w2 W ∧ Box W w2.heap.size v) := by
    rintro W rfl
    exact ⟨(Below.refl _ _).alloc (Nat.le_refl _) _, Box.new w2 v⟩
  go_wp2_with (fail)
  obtain ⟨q1, q2⟩ := HWN.out _ rfl
  refine (refRoom_any v x a.name _ (HCX.out.1.below (Nat.le_refl _) q1) HCX.out.2.1 hsn).mono ?_
  rintro e w3 ⟨rfl, hb3⟩
  have h23 : Below w2.heap.size w2 w3 := q1.trans (hb3.mono q1.size)
  have H3 : Hid (ApW w a ver w3 ∧ TMap w3 bm xs ∧ Box w3 w2.heap.size v ∧ Cont w3 v x) := ⟨H2.out.1.next h23, H2.out.2.1.below (Nat.le_refl _) h23, q2.below hb3 (lt_of_block q2), HCX.out.1.below (Nat.le_refl _) h23⟩
  clear q1 q2 hb3 h23 H2 HWN a0 a1 a2 a3 a4 a5 a6 af az
  obtain ⟨a0, a1, a2, a3, a4, a5, a6, af, az⟩ := H3.out.1.2.1.facts
  by_cases hfr : M.freeS x a.name = 0
  case' neg =>
    have e1 : (M.freeS x a.name != 0) = true := by simp [hfr]
    have HS : Hid ((M.bringS xs ac ver).1 = M.freeS x a.name ∧ M.freeS x a.name ≠ 0) := ⟨by unfold M.bringS; rw [← HK.out.2.1, ← HK.out.2.2.1, HDX.out, if_neg (by simp), if_pos hfr], hfr⟩
    clear hfr
    go_wp2_with (fail)
    go_ret2
    exact AppliedM.no HS.out.1 HS.out.2 H3.out.1.1
  have HBR : Hid (M.bringS xs ac ver = if a.fid = 0 ∨ (M.find xs a.fid).isSome = true then (13, []) else if 24 ≤ xs.length then (5, []) else (0, M.putN (M.putN xs (M.withV (withE x (M.putE x.ents (a.name, a.fid))) ver)) ⟨a.fid, a.kind == 2, [], [], ver⟩)) := by
    show _ = _
    have e2 : (a.kind == 2) = decide (ac.kind = 2) := by rw [HKK.out]; rfl
    unfold M.bringS
    rw [← HK.out.1, ← HK.out.2.1, ← HK.out.2.2.1, HDX.out, if_neg (by simp), if_neg (by simp [hfr]), e2]
    rfl
  rw [hfr]
  clear hfr
  rcases IMap.ask H3.out.2.1 a.fid with ⟨hf, hl⟩ | ⟨vf, xf, hf, hcf, hl⟩
  case' inr =>
    have hl1 := hl true
    simp only [if_true] at hl1
    have HS : Hid ((M.bringS xs ac ver).1 = 13) := by show _ = _; rw [HBR.out, hf]; simp
    clear hl hf hcf
    go_wp2_with (fail)
    go_ret2
    exact AppliedM.no HS.out (by decide) (H3.out.1.1.trans (((Below.refl _ _).alloc (Nat.le_refl _) _).mono H3.out.1.1.size))
  have hl1 := hl true
  simp only [if_true] at hl1
  generalize NV.zero = vz at hl1
  by_cases hf0 : a.fid = 0
  case' pos =>
    have e1 : (a.fid == 0) = true := by simp [hf0]
    have HS : Hid ((M.bringS xs ac ver).1 = 13) := by show _ = _; rw [HBR.out, if_pos (.inl hf0)]
    clear hl hf hf0
    go_wp2_with (fail)
    go_ret2
    exact AppliedM.no HS.out (by decide) (H3.out.1.1.trans (((Below.refl _ _).alloc (Nat.le_refl _) _).mono H3.out.1.1.size))
  have e1 : (a.fid == 0) = false := by simp [hf0]
  have HB2 : Hid (M.bringS xs ac ver = if 24 ≤ xs.length then (5, []) else (0, M.putN (M.putN xs (M.withV (withE x (M.putE x.ents (a.name, a.fid))) ver)) ⟨a.fid, a.kind == 2, [], [], ver⟩)) := by
    show _ = _; rw [HBR.out, hf, if_neg (by simp [hf0])]
  clear hl hf hf0 HBR
  have HN5 : Hid (∀ W, W = w3.alloc (.cells #[.int .i64 vz.fid, .bool vz.dir, .slice vz.dA vz.dn vz.dc, .slice vz.eA vz.en vz.ec, .int .i64 vz.ver] 56) → Below w3.heap.size w3 W) := by
    rintro W rfl; exact (Below.refl _ _).alloc (Nat.le_refl _) _
  obtain ⟨es, clock, hbm, hes⟩ := (H3.out.2.1.below (Nat.le_refl _) (HN5.out _ rfl)).count HRI.out.1
  have hlen := run_len_map (P := Try.prog) (w := w3.alloc (.cells #[.int .i64 vz.fid, .bool vz.dir, .slice vz.dA vz.dn vz.dc, .slice vz.eA vz.en vz.ec, .int .i64 vz.ver] 56)) 30 3 bm es clock (by kernel_rfl) hbm
  rw [hes] at hlen
  clear hbm hes
  by_cases h24 : 24 ≤ xs.length
  · have h24' : (24 : Int) ≤ (xs.length : Int) := by omega
    have HS : Hid ((M.bringS xs ac ver).1 = 5) := by show _ = _; rw [HB2.out, if_pos h24]
    clear h24
    go_wp2_with (fail)
    go_ret2
    exact AppliedM.no HS.out (by decide) (H3.out.1.1.trans ((HN5.out _ rfl).mono H3.out.1.1.size))
  · have h24' : ¬ (24 : Int) ≤ (xs.length : Int) := by omega
    have HS : Hid (M.bringS xs ac ver = (0, M.putN (M.putN xs (M.withV (withE x (M.putE x.ents (a.name, a.fid))) ver)) ⟨a.fid, a.kind == 2, [], [], ver⟩)) := by show _ = _; rw [HB2.out, if_neg h24]
    clear h24
    have HSX : Hid (Small x ∧ M.RsE x.ents ∧ (x.ents.length + 1) * 24 ≤ 140737488355328) := HCX.out.2
    go_upto_region 17 with (fail)
    have hb5 := HN5.out _ rfl
    have hbd : ∀ W5 : World, Below w3.heap.size w3 W5 → ∀ W, Below W5.drew.heap.size W5.drew W → Below w3.heap.size w3 W := fun W5 h5 W hb => h5.trans (((Below.refl _ _).drew.trans hb).mono h5.size)
    have HA := fun W hb => (H3.out.1.next (hbd _ hb5 W hb)).2.1
    have HV := fun W hb => (H3.out.1.next (hbd _ hb5 W hb)).ver
    have HM := fun W hb => H3.out.2.1.below (Nat.le_refl _) (hbd _ hb5 W hb)
    have HN := fun W hb => H3.out.2.2.1.below (hbd _ hb5 W hb) (lt_of_block H3.out.2.2.1)
    have HCN := fun W hb => H3.out.2.2.2.below (Nat.le_refl _) (hbd _ hb5 W hb)
    have HEND : Hid (∀ W5 W : World, Below w3.heap.size w3 W5 → Below W5.heap.size W5 W → Below w.heap.size w W) := fun W5 W h5 hb => H3.out.1.1.trans ((h5.trans (hb.mono h5.size)).mono H3.out.1.1.size)
    refine wp_region_vals (VR17 bm (w.heap.size + 1) w.heap.size xs a v x ver) (by kernel_rfl) (by kernel_rfl) (VR17_stays bm (w.heap.size + 1) w.heap.size xs a v x ver) ?_ ?_
    · intro i hi
      match i, hi with
      | 0, _ =>
        refine StepAt.by rfl fun a' W hf hb hd => ?_
        exact .inl ⟨want_none, does_move ((hf.keeps 0 (by kernel_rfl)).trans rfl) ⟨Below.refl _ _, rfl⟩⟩
      | 1, _ =>
        refine StepAt.by rfl fun a' W hf hb hd => ?_
        exact .inl ⟨want_none, does_move ((hf.keeps 8 (by kernel_rfl)).trans rfl) ⟨Below.refl _ _, rfl⟩⟩
      | 2, _ =>
        refine StepAt.by rfl fun a' W hf hb hd => ?_
        exact .inl ⟨want_none, does_rn (run_load26 ((hf.keeps 9 (by kernel_rfl)).trans rfl) (HN W hb)) ⟨Below.refl _ _, rfl⟩⟩
      | 3, _ =>
        refine StepAt.by rfl fun a' W hf hb hd => ?_
        exact .inl ⟨want_none, does_rn (run_fieldA ((hf.keeps 4 (by kernel_rfl)).trans rfl) (by decide)) ⟨Below.refl _ _, rfl⟩⟩
      | 4, _ =>
        refine StepAt.by rfl fun a' W hf hb hd => ?_
        exact .inl ⟨want_none, does_rn (run_load9 (hd 3 (by kernel_rfl)) (BoxA.facts (HA W hb)).2.2.2.1) ⟨Below.refl _ _, rfl⟩⟩
      | 5, _ =>
        refine StepAt.by rfl fun a' W hf hb hd => ?_
        exact .inl ⟨want_none, does_rn (run_fieldA ((hf.keeps 4 (by kernel_rfl)).trans rfl) (by decide)) ⟨Below.refl _ _, rfl⟩⟩
      | 6, _ =>
        refine StepAt.by rfl fun a' W hf hb hd => ?_
        exact .inl ⟨want_none, does_rn (run_load3 (hd 5 (by kernel_rfl)) (BoxA.facts (HA W hb)).2.1) ⟨Below.refl _ _, rfl⟩⟩
      | 7, _ =>
        refine StepAt.by rfl fun a' W hf hb hd => ?_
        refine .inl ⟨want_none, ?_⟩
        exact does_call3 (enters_of Try.func27 (by kernel_rfl) (by kernel_rfl)) (hd 2 (by kernel_rfl)) (hd 4 (by kernel_rfl)) (hd 6 (by kernel_rfl)) ((refEnter_any v x a.name a.fid W (HCN W hb) HSX.out.2.1 HSX.out.1 HSX.out.2.2).mono fun e W' ⟨v', he, hc, hb'⟩ => ⟨_, he, hb', v', rfl, hc⟩)
      | 8, _ =>
        refine StepAt.by rfl fun a' W hf hb hd => ?_
        refine .inl ⟨want_none, ?_⟩
        obtain ⟨v1, e1, hc1⟩ := hd 7 (by kernel_rfl)
        exact does_callC (enters_of Try.func23 (by kernel_rfl) (by kernel_rfl)) (hd 1 (by kernel_rfl)) e1 ((refVer_any v1 (w.heap.size + 1) ver W (HV W hb)).mono fun e W' ⟨he, hb'⟩ => ⟨_, he, hb', ⟨v1.fid, v1.dir, v1.dA, v1.dn, v1.dc, v1.eA, v1.en, v1.ec, ver⟩, rfl, (contV hc1 ver).below (Nat.le_refl _) hb'⟩)
      | 9, _ =>
        refine StepAt.by rfl fun a' W hf hb hd => ?_
        refine .inl ⟨want_none, ?_⟩
        obtain ⟨v1, e1, hc1⟩ := hd 8 (by kernel_rfl)
        have e0 := hd 0 (by kernel_rfl)
        have ht0 := HM W hb
        exact does_call2 (enters_of Try.func26 (by kernel_rfl) (by kernel_rfl)) e0 e1 ((with_any _ _ v1 _ W ht0 hc1).mono fun e W' ⟨b, he, ht, hb'⟩ => ⟨_, he, hb', b, rfl, ht⟩)
      | 10, _ =>
        refine StepAt.by rfl fun a' W hf hb hd => ?_
        exact .inl ⟨want_none, does_move ((hf.keeps 8 (by kernel_rfl)).trans rfl) ⟨Below.refl _ _, rfl⟩⟩
      | 11, _ =>
        refine StepAt.by rfl fun a' W hf hb hd => ?_
        exact .inl ⟨want_none, does_rn (run_fieldA ((hf.keeps 4 (by kernel_rfl)).trans rfl) (by decide)) ⟨Below.refl _ _, rfl⟩⟩
      | 12, _ =>
        refine StepAt.by rfl fun a' W hf hb hd => ?_
        exact .inl ⟨want_none, does_rn (run_load3 (hd 11 (by kernel_rfl)) (BoxA.facts (HA W hb)).2.1) ⟨Below.refl _ _, rfl⟩⟩
      | 13, _ =>
        refine StepAt.by rfl fun a' W hf hb hd => ?_
        exact .inl ⟨want_none, does_rn (run_fieldA ((hf.keeps 4 (by kernel_rfl)).trans rfl) (by decide)) ⟨Below.refl _ _, rfl⟩⟩
      | 14, _ =>
        refine StepAt.by rfl fun a' W hf hb hd => ?_
        exact .inl ⟨want_none, does_rn (run_load3 (hd 13 (by kernel_rfl)) (BoxA.facts (HA W hb)).1) ⟨Below.refl _ _, rfl⟩⟩
      | 15, _ =>
        refine StepAt.by rfl fun a' W hf hb hd => ?_
        exact .inl ⟨want_none, does_rn (run_eqN (hd 14 (by kernel_rfl)) rfl) ⟨Below.refl _ _, rfl⟩⟩
      | 16, _ =>
        refine StepAt.by rfl fun a' W hf hb hd => ?_
        refine .inl ⟨want_none, ?_⟩
        exact does_rn (run_buildN (hd 12 (by kernel_rfl)) (hd 15 (by kernel_rfl))) ⟨Below.refl _ _, rfl⟩
      | 17, _ =>
        refine StepAt.by rfl fun a' W hf hb hd => ?_
        refine .inl ⟨want_none, ?_⟩
        exact does_callC (enters_of Try.func23 (by kernel_rfl) (by kernel_rfl)) (hd 10 (by kernel_rfl)) (hd 16 (by kernel_rfl)) ((refVer_any ⟨a.fid, (a.kind == 2), none, 0, 0, none, 0, 0, 0⟩ (w.heap.size + 1) ver W (HV W hb)).mono fun e W' ⟨he, hb'⟩ => ⟨_, he, hb', ⟨a.fid, a.kind == 2, none, 0, 0, none, 0, 0, ver⟩, rfl, rfl, rfl, rfl, ⟨rfl, .inl rfl⟩, ⟨rfl, .inl rfl⟩⟩)
      | 18, _ =>
        refine StepAt.by rfl fun a' W hf hb hd => ?_
        refine .inl ⟨want_none, ?_⟩
        obtain ⟨v1, e1, hc1⟩ := hd 17 (by kernel_rfl)
        obtain ⟨b0, e0, ht0⟩ := hd 9 (by kernel_rfl)
        exact does_call2 (enters_of Try.func26 (by kernel_rfl) (by kernel_rfl)) e0 e1 ((with_any _ _ v1 _ W ht0 hc1).mono fun e W' ⟨b, he, ht, hb'⟩ => ⟨_, he, hb', b, rfl, ht⟩)
      | 19, _ =>
        refine StepAt.by rfl fun a' W hf hb hd => ?_
        exact .inl ⟨want_none, does_assign rfl ⟨Below.refl _ _, (hd 18 (by kernel_rfl))⟩⟩
      | 20, _ =>
        refine StepAt.by rfl fun a' W hf hb hd => ?_
        exact .inl ⟨want_none, does_assign rfl ⟨Below.refl _ _, rfl⟩⟩
      | k + 21, hi => exact absurd hi (Nat.not_lt.2 (Nat.le_add_left _ _))
    · intro a' W hf hb hv
      obtain ⟨b6, e6, ht6⟩ := hv 19 (by decide)
      have e7 : a'.eval (.tmp 7) = .int .i64 (0) := hv 20 (by decide)
      have hl := hf.lit (fun t => decide (63 ≤ t) && decide (t ≤ 81) || decide (t = 6) || decide (t = 7)) (by kernel_rfl)
      simp only [overL, Nat.reduceAdd, Nat.reduceLeDiff, Nat.reduceEqDiff, decide_true, decide_false, Bool.and_true, Bool.and_false, Bool.or_true, Bool.or_false] at hl
      have e6' : a'.eval (.tmp 6) = .map (some b6) := e6
      rw [hl, e6', e7]
      have HF : Hid (TMap W b6 _ ∧ Below _ _ W) := ⟨ht6, hb⟩
      clear hl hf hb hv e6 e6' e7 ht6
      go_wp2_with (fail)
      go_ret2
      exact AppliedM.yes HS.out HF.out.1 (HEND.out _ _ (HN5.out _ rfl) HF.out.2)

set_option maxRecDepth 8000 in
set_option maxHeartbeats 8000000 in
theorem refMkdir_any (bm : Nat) (xs : List M.Nd) (a : AV) (ac : M.Act) (ver : Int) (w : World) (ht : TMap w bm xs) (ha : ContA w a ac) (hri : M.Rise xs) (hsm : ∀ x ∈ xs, Small x) (hsn : a.name.size ≤ maxLen) (hs1 : ∀ x ∈ xs, (x.ents.length + 1) * 24 ≤ 140737488355328) (hk : a.kind = 2) :
    Calls Try.prog 15 #[.map (some bm), a.val, .int .i64 ver] w (AppliedM w (M.bringS xs ac ver)) := by
  have HT : Hid (TMap w bm xs ∧ ContA w a ac ∧ True) := ⟨ht, ha, trivial⟩
  have HK : Hid (a.fid = ac.fid ∧ a.dir = ac.dir ∧ a.name = ac.name ∧ a.to = ac.to ∧ a.toName = ac.toName) := ⟨ha.2.1, ha.2.2.1, ha.2.2.2.1, ha.2.2.2.2.1, ha.2.2.2.2.2.1⟩
  have HSM : Hid (∀ x ∈ xs, Small x) := hsm
  have HRI : Hid (M.Rise xs) := hri
  have HW : Hid _ := apw_start w a ver
  have HS1 : Hid (∀ x ∈ xs, (x.ents.length + 1) * 24 ≤ 140737488355328) := hs1
  have HKK : Hid (a.kind = ac.kind) := ha.1
  have k1 : (a.kind == 1) = false := by simp [hk]
  have k2 : (a.kind == 2) = true := by simp [hk]
  have k3 : (a.kind == 3) = false := by simp [hk]
  have k4 : (a.kind == 4) = false := by simp [hk]
  have k5 : (a.kind == 5) = false := by simp [hk]
  clear ht ha hk hri hsm hs1
  go_enter Try.func15, Try.ntmps15
  go_upto_region 1 with (fail)
  go_cut [8] from 24 to 24 (fun v W => v = .func (.func 23) #[] #[.pointer (some ⟨w.heap.size + 1, 0, none⟩)] ∧ ApW w a ver W)
  case first =>
    go_wp2_with (fail)
    go_meet
    case rel => exact ⟨rfl, HW.out _ rfl⟩
  obtain ⟨rfl, hw1⟩ := hcut
  rename World => w1
  obtain ⟨a0, a1, a2, a3, a4, a5, a6, af, az⟩ := hw1.2.1.facts
  have H1 : Hid (ApW w a ver w1 ∧ TMap w1 bm xs ∧ ContA w1 a ac) := ⟨hw1, HT.out.1.below (Nat.le_refl _) hw1.1, HT.out.2.1.below (Nat.le_refl _) hw1.1⟩
  clear hw1 HW
  go_wp2_with (fail)
  refine (refDir_any bm xs a.dir w1 H1.out.2.1).mono ?_
  rintro e w2 ⟨v, rfl, hdc, hb2⟩
  have H2 : Hid (ApW w a ver w2 ∧ TMap w2 bm xs ∧ ContA w2 a ac) := ⟨H1.out.1.next hb2, H1.out.2.1.below (Nat.le_refl _) hb2, H1.out.2.2.below (Nat.le_refl _) hb2⟩
  have HDC : Hid ((M.dirS xs a.dir).1 = 0 → Cont w2 v (M.dirS xs a.dir).2) := hdc
  clear hb2 hdc H1 a0 a1 a2 a3 a4 a5 a6 af az
  obtain ⟨a0, a1, a2, a3, a4, a5, a6, af, az⟩ := H2.out.1.2.1.facts
  by_cases hd0 : (M.dirS xs a.dir).1 = 0
  case' neg =>
    have e1 : ((M.dirS xs a.dir).1 != 0) = true := by simp [hd0]
    have HS : Hid ((M.bringS xs ac ver).1 = (M.dirS xs a.dir).1 ∧ (M.dirS xs a.dir).1 ≠ 0) := ⟨by unfold M.bringS; rw [HK.out.2.1] at hd0 ⊢; rw [if_pos hd0], hd0⟩
    clear hd0
    go_wp2_with (fail)
    go_ret2
    exact AppliedM.no HS.out.1 HS.out.2 (H2.out.1.1.trans (((Below.refl _ _).alloc (Nat.le_refl _) _).mono H2.out.1.1.size))
  obtain ⟨x, hx⟩ : ∃ x, (M.dirS xs a.dir).2 = x := ⟨_, rfl⟩
  have HDX : Hid (M.dirS xs a.dir = (0, x)) := by show _ = _; rw [← hx, ← hd0]
  have hfx : M.find xs a.dir = some x := by rw [← hx]; exact (M.dir_ok hd0).1
  have HCX : Hid (Cont w2 v x ∧ Small x ∧ M.RsE x.ents ∧ (x.ents.length + 1) * 24 ≤ 140737488355328) := ⟨by rw [← hx]; exact HDC.out hd0, HSM.out x (M.find_mem hfx).1, HRI.out.2 x (M.find_mem hfx).1, HS1.out x (M.find_mem hfx).1⟩
  rw [hd0]
  clear hd0 hx hfx HDC
  have HWN : Hid (∀ W, W = w2.alloc (.cells #[.int .i64 v.fid, .bool v.dir, .slice v.dA v.dn v.dc, .slice v.eA v.en v.ec, .int .i64 v.ver] 56) → Below w2.heap.size w2 W ∧ Box W w2.heap.size v) := by
    rintro W rfl
    exact ⟨(Below.refl _ _).alloc (Nat.le_refl _) _, Box.new w2 v⟩
  go_wp2_with (fail)
  obtain ⟨q1, q2⟩ := HWN.out _ rfl
  refine (refRoom_any v x a.name _ (HCX.out.1.below (Nat.le_refl _) q1) HCX.out.2.1 hsn).mono ?_
  rintro e w3 ⟨rfl, hb3⟩
  have h23 : Below w2.heap.size w2 w3 := q1.trans (hb3.mono q1.size)
  have H3 : Hid (ApW w a ver w3 ∧ TMap w3 bm xs ∧ Box w3 w2.heap.size v ∧ Cont w3 v x) := ⟨H2.out.1.next h23, H2.out.2.1.below (Nat.le_refl _) h23, q2.below hb3 (lt_of_block q2), HCX.out.1.below (Nat.le_refl _) h23⟩
  clear q1 q2 hb3 h23 H2 HWN a0 a1 a2 a3 a4 a5 a6 af az
  obtain ⟨a0, a1, a2, a3, a4, a5, a6, af, az⟩ := H3.out.1.2.1.facts
  by_cases hfr : M.freeS x a.name = 0
  case' neg =>
    have e1 : (M.freeS x a.name != 0) = true := by simp [hfr]
    have HS : Hid ((M.bringS xs ac ver).1 = M.freeS x a.name ∧ M.freeS x a.name ≠ 0) := ⟨by unfold M.bringS; rw [← HK.out.2.1, ← HK.out.2.2.1, HDX.out, if_neg (by simp), if_pos hfr], hfr⟩
    clear hfr
    go_wp2_with (fail)
    go_ret2
    exact AppliedM.no HS.out.1 HS.out.2 H3.out.1.1
  have HBR : Hid (M.bringS xs ac ver = if a.fid = 0 ∨ (M.find xs a.fid).isSome = true then (13, []) else if 24 ≤ xs.length then (5, []) else (0, M.putN (M.putN xs (M.withV (withE x (M.putE x.ents (a.name, a.fid))) ver)) ⟨a.fid, a.kind == 2, [], [], ver⟩)) := by
    show _ = _
    have e2 : (a.kind == 2) = decide (ac.kind = 2) := by rw [HKK.out]; rfl
    unfold M.bringS
    rw [← HK.out.1, ← HK.out.2.1, ← HK.out.2.2.1, HDX.out, if_neg (by simp), if_neg (by simp [hfr]), e2]
    rfl
  rw [hfr]
  clear hfr
  rcases IMap.ask H3.out.2.1 a.fid with ⟨hf, hl⟩ | ⟨vf, xf, hf, hcf, hl⟩
  case' inr =>
    have hl1 := hl true
    simp only [if_true] at hl1
    have HS : Hid ((M.bringS xs ac ver).1 = 13) := by show _ = _; rw [HBR.out, hf]; simp
    clear hl hf hcf
    go_wp2_with (fail)
    go_ret2
    exact AppliedM.no HS.out (by decide) (H3.out.1.1.trans (((Below.refl _ _).alloc (Nat.le_refl _) _).mono H3.out.1.1.size))
  have hl1 := hl true
  simp only [if_true] at hl1
  generalize NV.zero = vz at hl1
  by_cases hf0 : a.fid = 0
  case' pos =>
    have e1 : (a.fid == 0) = true := by simp [hf0]
    have HS : Hid ((M.bringS xs ac ver).1 = 13) := by show _ = _; rw [HBR.out, if_pos (.inl hf0)]
    clear hl hf hf0
    go_wp2_with (fail)
    go_ret2
    exact AppliedM.no HS.out (by decide) (H3.out.1.1.trans (((Below.refl _ _).alloc (Nat.le_refl _) _).mono H3.out.1.1.size))
  have e1 : (a.fid == 0) = false := by simp [hf0]
  have HB2 : Hid (M.bringS xs ac ver = if 24 ≤ xs.length then (5, []) else (0, M.putN (M.putN xs (M.withV (withE x (M.putE x.ents (a.name, a.fid))) ver)) ⟨a.fid, a.kind == 2, [], [], ver⟩)) := by
    show _ = _; rw [HBR.out, hf, if_neg (by simp [hf0])]
  clear hl hf hf0 HBR
  have HN5 : Hid (∀ W, W = w3.alloc (.cells #[.int .i64 vz.fid, .bool vz.dir, .slice vz.dA vz.dn vz.dc, .slice vz.eA vz.en vz.ec, .int .i64 vz.ver] 56) → Below w3.heap.size w3 W) := by
    rintro W rfl; exact (Below.refl _ _).alloc (Nat.le_refl _) _
  obtain ⟨es, clock, hbm, hes⟩ := (H3.out.2.1.below (Nat.le_refl _) (HN5.out _ rfl)).count HRI.out.1
  have hlen := run_len_map (P := Try.prog) (w := w3.alloc (.cells #[.int .i64 vz.fid, .bool vz.dir, .slice vz.dA vz.dn vz.dc, .slice vz.eA vz.en vz.ec, .int .i64 vz.ver] 56)) 30 3 bm es clock (by kernel_rfl) hbm
  rw [hes] at hlen
  clear hbm hes
  by_cases h24 : 24 ≤ xs.length
  · have h24' : (24 : Int) ≤ (xs.length : Int) := by omega
    have HS : Hid ((M.bringS xs ac ver).1 = 5) := by show _ = _; rw [HB2.out, if_pos h24]
    clear h24
    go_wp2_with (fail)
    go_ret2
    exact AppliedM.no HS.out (by decide) (H3.out.1.1.trans ((HN5.out _ rfl).mono H3.out.1.1.size))
  · have h24' : ¬ (24 : Int) ≤ (xs.length : Int) := by omega
    have HS : Hid (M.bringS xs ac ver = (0, M.putN (M.putN xs (M.withV (withE x (M.putE x.ents (a.name, a.fid))) ver)) ⟨a.fid, a.kind == 2, [], [], ver⟩)) := by show _ = _; rw [HB2.out, if_neg h24]
    clear h24
    have HSX : Hid (Small x ∧ M.RsE x.ents ∧ (x.ents.length + 1) * 24 ≤ 140737488355328) := HCX.out.2
    go_upto_region 17 with (fail)
    have hb5 := HN5.out _ rfl
    have hbd : ∀ W5 : World, Below w3.heap.size w3 W5 → ∀ W, Below W5.drew.heap.size W5.drew W → Below w3.heap.size w3 W := fun W5 h5 W hb => h5.trans (((Below.refl _ _).drew.trans hb).mono h5.size)
    have HA := fun W hb => (H3.out.1.next (hbd _ hb5 W hb)).2.1
    have HV := fun W hb => (H3.out.1.next (hbd _ hb5 W hb)).ver
    have HM := fun W hb => H3.out.2.1.below (Nat.le_refl _) (hbd _ hb5 W hb)
    have HN := fun W hb => H3.out.2.2.1.below (hbd _ hb5 W hb) (lt_of_block H3.out.2.2.1)
    have HCN := fun W hb => H3.out.2.2.2.below (Nat.le_refl _) (hbd _ hb5 W hb)
    have HEND : Hid (∀ W5 W : World, Below w3.heap.size w3 W5 → Below W5.heap.size W5 W → Below w.heap.size w W) := fun W5 W h5 hb => H3.out.1.1.trans ((h5.trans (hb.mono h5.size)).mono H3.out.1.1.size)
    refine wp_region_vals (VR17 bm (w.heap.size + 1) w.heap.size xs a v x ver) (by kernel_rfl) (by kernel_rfl) (VR17_stays bm (w.heap.size + 1) w.heap.size xs a v x ver) ?_ ?_
    · intro i hi
      match i, hi with
      | 0, _ =>
        refine StepAt.by rfl fun a' W hf hb hd => ?_
        exact .inl ⟨want_none, does_move ((hf.keeps 0 (by kernel_rfl)).trans rfl) ⟨Below.refl _ _, rfl⟩⟩
      | 1, _ =>
        refine StepAt.by rfl fun a' W hf hb hd => ?_
        exact .inl ⟨want_none, does_move ((hf.keeps 8 (by kernel_rfl)).trans rfl) ⟨Below.refl _ _, rfl⟩⟩
      | 2, _ =>
        refine StepAt.by rfl fun a' W hf hb hd => ?_
        exact .inl ⟨want_none, does_rn (run_load26 ((hf.keeps 9 (by kernel_rfl)).trans rfl) (HN W hb)) ⟨Below.refl _ _, rfl⟩⟩
      | 3, _ =>
        refine StepAt.by rfl fun a' W hf hb hd => ?_
        exact .inl ⟨want_none, does_rn (run_fieldA ((hf.keeps 4 (by kernel_rfl)).trans rfl) (by decide)) ⟨Below.refl _ _, rfl⟩⟩
      | 4, _ =>
        refine StepAt.by rfl fun a' W hf hb hd => ?_
        exact .inl ⟨want_none, does_rn (run_load9 (hd 3 (by kernel_rfl)) (BoxA.facts (HA W hb)).2.2.2.1) ⟨Below.refl _ _, rfl⟩⟩
      | 5, _ =>
        refine StepAt.by rfl fun a' W hf hb hd => ?_
        exact .inl ⟨want_none, does_rn (run_fieldA ((hf.keeps 4 (by kernel_rfl)).trans rfl) (by decide)) ⟨Below.refl _ _, rfl⟩⟩
      | 6, _ =>
        refine StepAt.by rfl fun a' W hf hb hd => ?_
        exact .inl ⟨want_none, does_rn (run_load3 (hd 5 (by kernel_rfl)) (BoxA.facts (HA W hb)).2.1) ⟨Below.refl _ _, rfl⟩⟩
      | 7, _ =>
        refine StepAt.by rfl fun a' W hf hb hd => ?_
        refine .inl ⟨want_none, ?_⟩
        exact does_call3 (enters_of Try.func27 (by kernel_rfl) (by kernel_rfl)) (hd 2 (by kernel_rfl)) (hd 4 (by kernel_rfl)) (hd 6 (by kernel_rfl)) ((refEnter_any v x a.name a.fid W (HCN W hb) HSX.out.2.1 HSX.out.1 HSX.out.2.2).mono fun e W' ⟨v', he, hc, hb'⟩ => ⟨_, he, hb', v', rfl, hc⟩)
      | 8, _ =>
        refine StepAt.by rfl fun a' W hf hb hd => ?_
        refine .inl ⟨want_none, ?_⟩
        obtain ⟨v1, e1, hc1⟩ := hd 7 (by kernel_rfl)
        exact does_callC (enters_of Try.func23 (by kernel_rfl) (by kernel_rfl)) (hd 1 (by kernel_rfl)) e1 ((refVer_any v1 (w.heap.size + 1) ver W (HV W hb)).mono fun e W' ⟨he, hb'⟩ => ⟨_, he, hb', ⟨v1.fid, v1.dir, v1.dA, v1.dn, v1.dc, v1.eA, v1.en, v1.ec, ver⟩, rfl, (contV hc1 ver).below (Nat.le_refl _) hb'⟩)
      | 9, _ =>
        refine StepAt.by rfl fun a' W hf hb hd => ?_
        refine .inl ⟨want_none, ?_⟩
        obtain ⟨v1, e1, hc1⟩ := hd 8 (by kernel_rfl)
        have e0 := hd 0 (by kernel_rfl)
        have ht0 := HM W hb
        exact does_call2 (enters_of Try.func26 (by kernel_rfl) (by kernel_rfl)) e0 e1 ((with_any _ _ v1 _ W ht0 hc1).mono fun e W' ⟨b, he, ht, hb'⟩ => ⟨_, he, hb', b, rfl, ht⟩)
      | 10, _ =>
        refine StepAt.by rfl fun a' W hf hb hd => ?_
        exact .inl ⟨want_none, does_move ((hf.keeps 8 (by kernel_rfl)).trans rfl) ⟨Below.refl _ _, rfl⟩⟩
      | 11, _ =>
        refine StepAt.by rfl fun a' W hf hb hd => ?_
        exact .inl ⟨want_none, does_rn (run_fieldA ((hf.keeps 4 (by kernel_rfl)).trans rfl) (by decide)) ⟨Below.refl _ _, rfl⟩⟩
      | 12, _ =>
        refine StepAt.by rfl fun a' W hf hb hd => ?_
        exact .inl ⟨want_none, does_rn (run_load3 (hd 11 (by kernel_rfl)) (BoxA.facts (HA W hb)).2.1) ⟨Below.refl _ _, rfl⟩⟩
      | 13, _ =>
        refine StepAt.by rfl fun a' W hf hb hd => ?_
        exact .inl ⟨want_none, does_rn (run_fieldA ((hf.keeps 4 (by kernel_rfl)).trans rfl) (by decide)) ⟨Below.refl _ _, rfl⟩⟩
      | 14, _ =>
        refine StepAt.by rfl fun a' W hf hb hd => ?_
        exact .inl ⟨want_none, does_rn (run_load3 (hd 13 (by kernel_rfl)) (BoxA.facts (HA W hb)).1) ⟨Below.refl _ _, rfl⟩⟩
      | 15, _ =>
        refine StepAt.by rfl fun a' W hf hb hd => ?_
        exact .inl ⟨want_none, does_rn (run_eqN (hd 14 (by kernel_rfl)) rfl) ⟨Below.refl _ _, rfl⟩⟩
      | 16, _ =>
        refine StepAt.by rfl fun a' W hf hb hd => ?_
        refine .inl ⟨want_none, ?_⟩
        exact does_rn (run_buildN (hd 12 (by kernel_rfl)) (hd 15 (by kernel_rfl))) ⟨Below.refl _ _, rfl⟩
      | 17, _ =>
        refine StepAt.by rfl fun a' W hf hb hd => ?_
        refine .inl ⟨want_none, ?_⟩
        exact does_callC (enters_of Try.func23 (by kernel_rfl) (by kernel_rfl)) (hd 10 (by kernel_rfl)) (hd 16 (by kernel_rfl)) ((refVer_any ⟨a.fid, (a.kind == 2), none, 0, 0, none, 0, 0, 0⟩ (w.heap.size + 1) ver W (HV W hb)).mono fun e W' ⟨he, hb'⟩ => ⟨_, he, hb', ⟨a.fid, a.kind == 2, none, 0, 0, none, 0, 0, ver⟩, rfl, rfl, rfl, rfl, ⟨rfl, .inl rfl⟩, ⟨rfl, .inl rfl⟩⟩)
      | 18, _ =>
        refine StepAt.by rfl fun a' W hf hb hd => ?_
        refine .inl ⟨want_none, ?_⟩
        obtain ⟨v1, e1, hc1⟩ := hd 17 (by kernel_rfl)
        obtain ⟨b0, e0, ht0⟩ := hd 9 (by kernel_rfl)
        exact does_call2 (enters_of Try.func26 (by kernel_rfl) (by kernel_rfl)) e0 e1 ((with_any _ _ v1 _ W ht0 hc1).mono fun e W' ⟨b, he, ht, hb'⟩ => ⟨_, he, hb', b, rfl, ht⟩)
      | 19, _ =>
        refine StepAt.by rfl fun a' W hf hb hd => ?_
        exact .inl ⟨want_none, does_assign rfl ⟨Below.refl _ _, (hd 18 (by kernel_rfl))⟩⟩
      | 20, _ =>
        refine StepAt.by rfl fun a' W hf hb hd => ?_
        exact .inl ⟨want_none, does_assign rfl ⟨Below.refl _ _, rfl⟩⟩
      | k + 21, hi => exact absurd hi (Nat.not_lt.2 (Nat.le_add_left _ _))
    · intro a' W hf hb hv
      obtain ⟨b6, e6, ht6⟩ := hv 19 (by decide)
      have e7 : a'.eval (.tmp 7) = .int .i64 (0) := hv 20 (by decide)
      have hl := hf.lit (fun t => decide (63 ≤ t) && decide (t ≤ 81) || decide (t = 6) || decide (t = 7)) (by kernel_rfl)
      simp only [overL, Nat.reduceAdd, Nat.reduceLeDiff, Nat.reduceEqDiff, decide_true, decide_false, Bool.and_true, Bool.and_false, Bool.or_true, Bool.or_false] at hl
      have e6' : a'.eval (.tmp 6) = .map (some b6) := e6
      rw [hl, e6', e7]
      have HF : Hid (TMap W b6 _ ∧ Below _ _ W) := ⟨ht6, hb⟩
      clear hl hf hb hv e6 e6' e7 ht6
      go_wp2_with (fail)
      go_ret2
      exact AppliedM.yes HS.out HF.out.1 (HEND.out _ _ (HN5.out _ rfl) HF.out.2)
end Go.Proofs.Ytcjobmbbikfnaac
/-
  TREES WHOSE LISTS STAY: acts that make.
-/
namespace Go.Proofs.Ytcjobmbbikfnaac
open Go.RowKit
open Go.ChangeMaps (setBlock)
variable [Inhabited BaseN]

def VR17K (bm sv sa : Nat) (xs : List M.Nd) (a : AV) (v : NV) (x : M.Nd) (ver : Int) : Nat → Value → World → Prop
  | 0 => IsU (.map (some bm))
  | 1 => IsU (.func (.func 23) #[] #[.pointer (some ⟨sv, 0, none⟩)])
  | 2 => IsU (NV.val v)
  | 3 => IsU (.pointer (some ⟨sa, 3, none⟩))
  | 4 => IsU (.string (a.name))
  | 5 => IsU (.pointer (some ⟨sa, 1, none⟩))
  | 6 => IsU (.int .i64 (a.fid))
  | 7 => IsNdK (withE x (M.putE x.ents (a.name, a.fid)))
  | 8 => IsNdK (M.withV (withE x (M.putE x.ents (a.name, a.fid))) ver)
  | 9 => IsMpK (M.putN xs (M.withV (withE x (M.putE x.ents (a.name, a.fid))) ver))
  | 10 => IsU (.func (.func 23) #[] #[.pointer (some ⟨sv, 0, none⟩)])
  | 11 => IsU (.pointer (some ⟨sa, 1, none⟩))
  | 12 => IsU (.int .i64 (a.fid))
  | 13 => IsU (.pointer (some ⟨sa, 0, none⟩))
  | 14 => IsU (.int .i64 (a.kind))
  | 15 => IsU (.bool ((a.kind : Int) == (2 : Int)))
  | 16 => IsU (NV.val ⟨a.fid, (a.kind == 2), none, 0, 0, none, 0, 0, 0⟩)
  | 17 => IsNdK ⟨a.fid, a.kind == 2, [], [], ver⟩
  | 18 => IsMpK (M.putN (M.putN xs (M.withV (withE x (M.putE x.ents (a.name, a.fid))) ver)) ⟨a.fid, a.kind == 2, [], [], ver⟩)
  | 19 => IsMpK (M.putN (M.putN xs (M.withV (withE x (M.putE x.ents (a.name, a.fid))) ver)) ⟨a.fid, a.kind == 2, [], [], ver⟩)
  | 20 => IsU (.int .i64 (0))
  | _ => fun _ _ => True
theorem VR17_staysK (bm sv sa : Nat) (xs : List M.Nd) (a : AV) (v : NV) (x : M.Nd) (ver : Int) : ∀ i, Stays (VR17K bm sv sa xs a v x ver i) := by
  intro i v W W' hb h
  match i, h with
  | 0, h => exact h
  | 1, h => exact h
  | 2, h => exact h
  | 3, h => exact h
  | 4, h => exact h
  | 5, h => exact h
  | 6, h => exact h
  | 7, h => exact isNdK_below hb h
  | 8, h => exact isNdK_below hb h
  | 9, h => exact isMpK_below hb h
  | 10, h => exact h
  | 11, h => exact h
  | 12, h => exact h
  | 13, h => exact h
  | 14, h => exact h
  | 15, h => exact h
  | 16, h => exact h
  | 17, h => exact isNdK_below hb h
  | 18, h => exact isMpK_below hb h
  | 19, h => exact isMpK_below hb h
  | 20, h => exact h
  | k + 21, h => trivial

set_option maxRecDepth 8000 in
set_option maxHeartbeats 8000000 in
theorem refMakeK_any (bm : Nat) (xs : List M.Nd) (a : AV) (ac : M.Act) (ver : Int) (w : World) (ht : TMapK w bm xs) (ha : ContA w a ac) (hri : M.Rise xs) (hsm : ∀ x ∈ xs, Small x) (hsn : a.name.size ≤ maxLen) (hs1 : ∀ x ∈ xs, (x.ents.length + 1) * 24 ≤ 140737488355328) (hk : a.kind = 1) :
    Calls Try.prog 15 #[.map (some bm), a.val, .int .i64 ver] w (AppliedMK w (M.bringS xs ac ver)) := by
  have HT : Hid (TMapK w bm xs ∧ ContA w a ac ∧ True) := ⟨ht, ha, trivial⟩
  have HK : Hid (a.fid = ac.fid ∧ a.dir = ac.dir ∧ a.name = ac.name ∧ a.to = ac.to ∧ a.toName = ac.toName) := ⟨ha.2.1, ha.2.2.1, ha.2.2.2.1, ha.2.2.2.2.1, ha.2.2.2.2.2.1⟩
  have HSM : Hid (∀ x ∈ xs, Small x) := hsm
  have HRI : Hid (M.Rise xs) := hri
  have HW : Hid _ := apw_start w a ver
  have HS1 : Hid (∀ x ∈ xs, (x.ents.length + 1) * 24 ≤ 140737488355328) := hs1
  have HKK : Hid (a.kind = ac.kind) := ha.1
  have k1 : (a.kind == 1) = true := by simp [hk]
  have k2 : (a.kind == 2) = false := by simp [hk]
  have k3 : (a.kind == 3) = false := by simp [hk]
  have k4 : (a.kind == 4) = false := by simp [hk]
  have k5 : (a.kind == 5) = false := by simp [hk]
  clear ht ha hk hri hsm hs1
  go_enter Try.func15, Try.ntmps15
  go_upto_region 1 with (fail)
  go_cut [8] from 24 to 24 (fun v W => v = .func (.func 23) #[] #[.pointer (some ⟨w.heap.size + 1, 0, none⟩)] ∧ ApW w a ver W)
  case first =>
    go_wp2_with (fail)
    go_meet
    case rel => exact ⟨rfl, HW.out _ rfl⟩
  obtain ⟨rfl, hw1⟩ := hcut
  rename World => w1
  obtain ⟨a0, a1, a2, a3, a4, a5, a6, af, az⟩ := hw1.2.1.facts
  have H1 : Hid (ApW w a ver w1 ∧ TMapK w1 bm xs ∧ ContA w1 a ac) := ⟨hw1, HT.out.1.below (Nat.le_refl _) hw1.1, HT.out.2.1.below (Nat.le_refl _) hw1.1⟩
  clear hw1 HW
  go_wp2_with (fail)
  refine (refDirK_any bm xs a.dir w1 H1.out.2.1).mono ?_
  rintro e w2 ⟨v, rfl, hdc, hb2⟩
  have H2 : Hid (ApW w a ver w2 ∧ TMapK w2 bm xs ∧ ContA w2 a ac) := ⟨H1.out.1.next hb2, H1.out.2.1.below (Nat.le_refl _) hb2, H1.out.2.2.below (Nat.le_refl _) hb2⟩
  have HDC : Hid ((M.dirS xs a.dir).1 = 0 → ContK w2 v (M.dirS xs a.dir).2) := hdc
  clear hb2 hdc H1 a0 a1 a2 a3 a4 a5 a6 af az
  obtain ⟨a0, a1, a2, a3, a4, a5, a6, af, az⟩ := H2.out.1.2.1.facts
  by_cases hd0 : (M.dirS xs a.dir).1 = 0
  case' neg =>
    have e1 : ((M.dirS xs a.dir).1 != 0) = true := by simp [hd0]
    have HS : Hid ((M.bringS xs ac ver).1 = (M.dirS xs a.dir).1 ∧ (M.dirS xs a.dir).1 ≠ 0) := ⟨by unfold M.bringS; rw [HK.out.2.1] at hd0 ⊢; rw [if_pos hd0], hd0⟩
    clear hd0
    go_wp2_with (fail)
    go_ret2
    exact AppliedMK.no HS.out.1 HS.out.2 (H2.out.1.1.trans (((Below.refl _ _).alloc (Nat.le_refl _) _).mono H2.out.1.1.size))
  obtain ⟨x, hx⟩ : ∃ x, (M.dirS xs a.dir).2 = x := ⟨_, rfl⟩
  have HDX : Hid (M.dirS xs a.dir = (0, x)) := by show _ = _; rw [← hx, ← hd0]
  have hfx : M.find xs a.dir = some x := by rw [← hx]; exact (M.dir_ok hd0).1
  have HCX : Hid (ContK w2 v x ∧ Small x ∧ M.RsE x.ents ∧ (x.ents.length + 1) * 24 ≤ 140737488355328) := ⟨by rw [← hx]; exact HDC.out hd0, HSM.out x (M.find_mem hfx).1, HRI.out.2 x (M.find_mem hfx).1, HS1.out x (M.find_mem hfx).1⟩
  rw [hd0]
  clear hd0 hx hfx HDC
  have HWN : Hid (∀ W, W = w2.alloc (.cells #[.int .i64 v.fid, .bool v.dir, .slice v.dA v.dn v.dc, .slice v.eA v.en v.ec, .int .i64 v.ver] 56) → Below w2.heap.size w2 W ∧ Box W w2.heap.size v) := by
    rintro W rfl
    exact ⟨(Below.refl _ _).alloc (Nat.le_refl _) _, Box.new w2 v⟩
  go_wp2_with (fail)
  obtain ⟨q1, q2⟩ := HWN.out _ rfl
  refine (refRoomK_any v x a.name _ (HCX.out.1.below (Nat.le_refl _) q1) HCX.out.2.1 hsn).mono ?_
  rintro e w3 ⟨rfl, hb3⟩
  have h23 : Below w2.heap.size w2 w3 := q1.trans (hb3.mono q1.size)
  have H3 : Hid (ApW w a ver w3 ∧ TMapK w3 bm xs ∧ Box w3 w2.heap.size v ∧ ContK w3 v x) := ⟨H2.out.1.next h23, H2.out.2.1.below (Nat.le_refl _) h23, q2.below hb3 (lt_of_block q2), HCX.out.1.below (Nat.le_refl _) h23⟩
  clear q1 q2 hb3 h23 H2 HWN a0 a1 a2 a3 a4 a5 a6 af az
  obtain ⟨a0, a1, a2, a3, a4, a5, a6, af, az⟩ := H3.out.1.2.1.facts
  by_cases hfr : M.freeS x a.name = 0
  case' neg =>
    have e1 : (M.freeS x a.name != 0) = true := by simp [hfr]
    have HS : Hid ((M.bringS xs ac ver).1 = M.freeS x a.name ∧ M.freeS x a.name ≠ 0) := ⟨by unfold M.bringS; rw [← HK.out.2.1, ← HK.out.2.2.1, HDX.out, if_neg (by simp), if_pos hfr], hfr⟩
    clear hfr
    go_wp2_with (fail)
    go_ret2
    exact AppliedMK.no HS.out.1 HS.out.2 H3.out.1.1
  have HBR : Hid (M.bringS xs ac ver = if a.fid = 0 ∨ (M.find xs a.fid).isSome = true then (13, []) else if 24 ≤ xs.length then (5, []) else (0, M.putN (M.putN xs (M.withV (withE x (M.putE x.ents (a.name, a.fid))) ver)) ⟨a.fid, a.kind == 2, [], [], ver⟩)) := by
    show _ = _
    have e2 : (a.kind == 2) = decide (ac.kind = 2) := by rw [HKK.out]; rfl
    unfold M.bringS
    rw [← HK.out.1, ← HK.out.2.1, ← HK.out.2.2.1, HDX.out, if_neg (by simp), if_neg (by simp [hfr]), e2]
    rfl
  rw [hfr]
  clear hfr
  rcases IMap.askK H3.out.2.1 a.fid with ⟨hf, hl⟩ | ⟨vf, xf, hf, hcf, hl⟩
  case' inr =>
    have hl1 := hl true
    simp only [if_true] at hl1
    have HS : Hid ((M.bringS xs ac ver).1 = 13) := by show _ = _; rw [HBR.out, hf]; simp
    clear hl hf hcf
    go_wp2_with (fail)
    go_ret2
    exact AppliedMK.no HS.out (by decide) (H3.out.1.1.trans (((Below.refl _ _).alloc (Nat.le_refl _) _).mono H3.out.1.1.size))
  have hl1 := hl true
  simp only [if_true] at hl1
  generalize NV.zero = vz at hl1
  by_cases hf0 : a.fid = 0
  case' pos =>
    have e1 : (a.fid == 0) = true := by simp [hf0]
    have HS : Hid ((M.bringS xs ac ver).1 = 13) := by show _ = _; rw [HBR.out, if_pos (.inl hf0)]
    clear hl hf hf0
    go_wp2_with (fail)
    go_ret2
    exact AppliedMK.no HS.out (by decide) (H3.out.1.1.trans (((Below.refl _ _).alloc (Nat.le_refl _) _).mono H3.out.1.1.size))
  have e1 : (a.fid == 0) = false := by simp [hf0]
  have HB2 : Hid (M.bringS xs ac ver = if 24 ≤ xs.length then (5, []) else (0, M.putN (M.putN xs (M.withV (withE x (M.putE x.ents (a.name, a.fid))) ver)) ⟨a.fid, a.kind == 2, [], [], ver⟩)) := by
    show _ = _; rw [HBR.out, hf, if_neg (by simp [hf0])]
  clear hl hf hf0 HBR
  have HN5 : Hid (∀ W, W = w3.alloc (.cells #[.int .i64 vz.fid, .bool vz.dir, .slice vz.dA vz.dn vz.dc, .slice vz.eA vz.en vz.ec, .int .i64 vz.ver] 56) → Below w3.heap.size w3 W) := by
    rintro W rfl; exact (Below.refl _ _).alloc (Nat.le_refl _) _
  obtain ⟨es, clock, hbm, hes⟩ := (H3.out.2.1.below (Nat.le_refl _) (HN5.out _ rfl)).count HRI.out.1
  have hlen := run_len_map (P := Try.prog) (w := w3.alloc (.cells #[.int .i64 vz.fid, .bool vz.dir, .slice vz.dA vz.dn vz.dc, .slice vz.eA vz.en vz.ec, .int .i64 vz.ver] 56)) 30 3 bm es clock (by kernel_rfl) hbm
  rw [hes] at hlen
  clear hbm hes
  by_cases h24 : 24 ≤ xs.length
  · have h24' : (24 : Int) ≤ (xs.length : Int) := by omega
    have HS : Hid ((M.bringS xs ac ver).1 = 5) := by show _ = _; rw [HB2.out, if_pos h24]
    clear h24
    go_wp2_with (fail)
    go_ret2
    exact AppliedMK.no HS.out (by decide) (H3.out.1.1.trans ((HN5.out _ rfl).mono H3.out.1.1.size))
  · have h24' : ¬ (24 : Int) ≤ (xs.length : Int) := by omega
    have HS : Hid (M.bringS xs ac ver = (0, M.putN (M.putN xs (M.withV (withE x (M.putE x.ents (a.name, a.fid))) ver)) ⟨a.fid, a.kind == 2, [], [], ver⟩)) := by show _ = _; rw [HB2.out, if_neg h24]
    clear h24
    have HSX : Hid (Small x ∧ M.RsE x.ents ∧ (x.ents.length + 1) * 24 ≤ 140737488355328) := HCX.out.2
    go_upto_region 17 with (fail)
    have hb5 := HN5.out _ rfl
    have hbd : ∀ W5 : World, Below w3.heap.size w3 W5 → ∀ W, Below W5.drew.heap.size W5.drew W → Below w3.heap.size w3 W := fun W5 h5 W hb => h5.trans (((Below.refl _ _).drew.trans hb).mono h5.size)
    have HA := fun W hb => (H3.out.1.next (hbd _ hb5 W hb)).2.1
    have HV := fun W hb => (H3.out.1.next (hbd _ hb5 W hb)).ver
    have HM := fun W hb => H3.out.2.1.below (Nat.le_refl _) (hbd _ hb5 W hb)
    have HN := fun W hb => H3.out.2.2.1.below (hbd _ hb5 W hb) (lt_of_block H3.out.2.2.1)
    have HCN := fun W hb => H3.out.2.2.2.below (Nat.le_refl _) (hbd _ hb5 W hb)
    have HEND : Hid (∀ W5 W : World, Below w3.heap.size w3 W5 → Below W5.heap.size W5 W → Below w.heap.size w W) := fun W5 W h5 hb => H3.out.1.1.trans ((h5.trans (hb.mono h5.size)).mono H3.out.1.1.size)
    refine wp_region_vals (VR17K bm (w.heap.size + 1) w.heap.size xs a v x ver) (by kernel_rfl) (by kernel_rfl) (VR17_staysK bm (w.heap.size + 1) w.heap.size xs a v x ver) ?_ ?_
    · intro i hi
      match i, hi with
      | 0, _ =>
        refine StepAt.by rfl fun a' W hf hb hd => ?_
        exact .inl ⟨want_none, does_move ((hf.keeps 0 (by kernel_rfl)).trans rfl) ⟨Below.refl _ _, rfl⟩⟩
      | 1, _ =>
        refine StepAt.by rfl fun a' W hf hb hd => ?_
        exact .inl ⟨want_none, does_move ((hf.keeps 8 (by kernel_rfl)).trans rfl) ⟨Below.refl _ _, rfl⟩⟩
      | 2, _ =>
        refine StepAt.by rfl fun a' W hf hb hd => ?_
        exact .inl ⟨want_none, does_rn (run_load26 ((hf.keeps 9 (by kernel_rfl)).trans rfl) (HN W hb)) ⟨Below.refl _ _, rfl⟩⟩
      | 3, _ =>
        refine StepAt.by rfl fun a' W hf hb hd => ?_
        exact .inl ⟨want_none, does_rn (run_fieldA ((hf.keeps 4 (by kernel_rfl)).trans rfl) (by decide)) ⟨Below.refl _ _, rfl⟩⟩
      | 4, _ =>
        refine StepAt.by rfl fun a' W hf hb hd => ?_
        exact .inl ⟨want_none, does_rn (run_load9 (hd 3 (by kernel_rfl)) (BoxA.facts (HA W hb)).2.2.2.1) ⟨Below.refl _ _, rfl⟩⟩
      | 5, _ =>
        refine StepAt.by rfl fun a' W hf hb hd => ?_
        exact .inl ⟨want_none, does_rn (run_fieldA ((hf.keeps 4 (by kernel_rfl)).trans rfl) (by decide)) ⟨Below.refl _ _, rfl⟩⟩
      | 6, _ =>
        refine StepAt.by rfl fun a' W hf hb hd => ?_
        exact .inl ⟨want_none, does_rn (run_load3 (hd 5 (by kernel_rfl)) (BoxA.facts (HA W hb)).2.1) ⟨Below.refl _ _, rfl⟩⟩
      | 7, _ =>
        refine StepAt.by rfl fun a' W hf hb hd => ?_
        refine .inl ⟨want_none, ?_⟩
        exact does_call3 (enters_of Try.func27 (by kernel_rfl) (by kernel_rfl)) (hd 2 (by kernel_rfl)) (hd 4 (by kernel_rfl)) (hd 6 (by kernel_rfl)) ((refEnterK_any v x a.name a.fid W (HCN W hb) HSX.out.2.1 HSX.out.1 HSX.out.2.2).mono fun e W' ⟨v', he, hc, hb'⟩ => ⟨_, he, hb', v', rfl, hc⟩)
      | 8, _ =>
        refine StepAt.by rfl fun a' W hf hb hd => ?_
        refine .inl ⟨want_none, ?_⟩
        obtain ⟨v1, e1, hc1⟩ := hd 7 (by kernel_rfl)
        exact does_callC (enters_of Try.func23 (by kernel_rfl) (by kernel_rfl)) (hd 1 (by kernel_rfl)) e1 ((refVer_any v1 (w.heap.size + 1) ver W (HV W hb)).mono fun e W' ⟨he, hb'⟩ => ⟨_, he, hb', ⟨v1.fid, v1.dir, v1.dA, v1.dn, v1.dc, v1.eA, v1.en, v1.ec, ver⟩, rfl, (contVK hc1 ver).below (Nat.le_refl _) hb'⟩)
      | 9, _ =>
        refine StepAt.by rfl fun a' W hf hb hd => ?_
        refine .inl ⟨want_none, ?_⟩
        obtain ⟨v1, e1, hc1⟩ := hd 8 (by kernel_rfl)
        have e0 := hd 0 (by kernel_rfl)
        have ht0 := HM W hb
        exact does_call2 (enters_of Try.func26 (by kernel_rfl) (by kernel_rfl)) e0 e1 ((withK_any _ _ v1 _ W ht0 hc1).mono fun e W' ⟨b, he, ht, hb'⟩ => ⟨_, he, hb', b, rfl, ht⟩)
      | 10, _ =>
        refine StepAt.by rfl fun a' W hf hb hd => ?_
        exact .inl ⟨want_none, does_move ((hf.keeps 8 (by kernel_rfl)).trans rfl) ⟨Below.refl _ _, rfl⟩⟩
      | 11, _ =>
        refine StepAt.by rfl fun a' W hf hb hd => ?_
        exact .inl ⟨want_none, does_rn (run_fieldA ((hf.keeps 4 (by kernel_rfl)).trans rfl) (by decide)) ⟨Below.refl _ _, rfl⟩⟩
      | 12, _ =>
        refine StepAt.by rfl fun a' W hf hb hd => ?_
        exact .inl ⟨want_none, does_rn (run_load3 (hd 11 (by kernel_rfl)) (BoxA.facts (HA W hb)).2.1) ⟨Below.refl _ _, rfl⟩⟩
      | 13, _ =>
        refine StepAt.by rfl fun a' W hf hb hd => ?_
        exact .inl ⟨want_none, does_rn (run_fieldA ((hf.keeps 4 (by kernel_rfl)).trans rfl) (by decide)) ⟨Below.refl _ _, rfl⟩⟩
      | 14, _ =>
        refine StepAt.by rfl fun a' W hf hb hd => ?_
        exact .inl ⟨want_none, does_rn (run_load3 (hd 13 (by kernel_rfl)) (BoxA.facts (HA W hb)).1) ⟨Below.refl _ _, rfl⟩⟩
      | 15, _ =>
        refine StepAt.by rfl fun a' W hf hb hd => ?_
        exact .inl ⟨want_none, does_rn (run_eqN (hd 14 (by kernel_rfl)) rfl) ⟨Below.refl _ _, rfl⟩⟩
      | 16, _ =>
        refine StepAt.by rfl fun a' W hf hb hd => ?_
        refine .inl ⟨want_none, ?_⟩
        exact does_rn (run_buildN (hd 12 (by kernel_rfl)) (hd 15 (by kernel_rfl))) ⟨Below.refl _ _, rfl⟩
      | 17, _ =>
        refine StepAt.by rfl fun a' W hf hb hd => ?_
        refine .inl ⟨want_none, ?_⟩
        exact does_callC (enters_of Try.func23 (by kernel_rfl) (by kernel_rfl)) (hd 10 (by kernel_rfl)) (hd 16 (by kernel_rfl)) ((refVer_any ⟨a.fid, (a.kind == 2), none, 0, 0, none, 0, 0, 0⟩ (w.heap.size + 1) ver W (HV W hb)).mono fun e W' ⟨he, hb'⟩ => ⟨_, he, hb', ⟨a.fid, a.kind == 2, none, 0, 0, none, 0, 0, ver⟩, rfl, ⟨rfl, rfl, rfl, ⟨rfl, .inl rfl⟩, ⟨rfl, .inl rfl⟩⟩, .inl rfl, .inl rfl⟩)
      | 18, _ =>
        refine StepAt.by rfl fun a' W hf hb hd => ?_
        refine .inl ⟨want_none, ?_⟩
        obtain ⟨v1, e1, hc1⟩ := hd 17 (by kernel_rfl)
        obtain ⟨b0, e0, ht0⟩ := hd 9 (by kernel_rfl)
        exact does_call2 (enters_of Try.func26 (by kernel_rfl) (by kernel_rfl)) e0 e1 ((withK_any _ _ v1 _ W ht0 hc1).mono fun e W' ⟨b, he, ht, hb'⟩ => ⟨_, he, hb', b, rfl, ht⟩)
      | 19, _ =>
        refine StepAt.by rfl fun a' W hf hb hd => ?_
        exact .inl ⟨want_none, does_assign rfl ⟨Below.refl _ _, (hd 18 (by kernel_rfl))⟩⟩
      | 20, _ =>
        refine StepAt.by rfl fun a' W hf hb hd => ?_
        exact .inl ⟨want_none, does_assign rfl ⟨Below.refl _ _, rfl⟩⟩
      | k + 21, hi => exact absurd hi (Nat.not_lt.2 (Nat.le_add_left _ _))
    · intro a' W hf hb hv
      obtain ⟨b6, e6, ht6⟩ := hv 19 (by decide)
      have e7 : a'.eval (.tmp 7) = .int .i64 (0) := hv 20 (by decide)
      have hl := hf.lit (fun t => decide (63 ≤ t) && decide (t ≤ 81) || decide (t = 6) || decide (t = 7)) (by kernel_rfl)
      simp only [overL, Nat.reduceAdd, Nat.reduceLeDiff, Nat.reduceEqDiff, decide_true, decide_false, Bool.and_true, Bool.and_false, Bool.or_true, Bool.or_false] at hl
      have e6' : a'.eval (.tmp 6) = .map (some b6) := e6
      rw [hl, e6', e7]
      have HF : Hid (TMapK W b6 _ ∧ Below _ _ W) := ⟨ht6, hb⟩
      clear hl hf hb hv e6 e6' e7 ht6
      go_wp2_with (fail)
      go_ret2
      exact AppliedMK.yes HS.out HF.out.1 (HEND.out _ _ (HN5.out _ rfl) HF.out.2)

set_option maxRecDepth 8000 in
set_option maxHeartbeats 8000000 in
theorem refMkdirK_any (bm : Nat) (xs : List M.Nd) (a : AV) (ac : M.Act) (ver : Int) (w : World) (ht : TMapK w bm xs) (ha : ContA w a ac) (hri : M.Rise xs) (hsm : ∀ x ∈ xs, Small x) (hsn : a.name.size ≤ maxLen) (hs1 : ∀ x ∈ xs, (x.ents.length + 1) * 24 ≤ 140737488355328) (hk : a.kind = 2) :
    Calls Try.prog 15 #[.map (some bm), a.val, .int .i64 ver] w (AppliedMK w (M.bringS xs ac ver)) := by
  have HT : Hid (TMapK w bm xs ∧ ContA w a ac ∧ True) := ⟨ht, ha, trivial⟩
  have HK : Hid (a.fid = ac.fid ∧ a.dir = ac.dir ∧ a.name = ac.name ∧ a.to = ac.to ∧ a.toName = ac.toName) := ⟨ha.2.1, ha.2.2.1, ha.2.2.2.1, ha.2.2.2.2.1, ha.2.2.2.2.2.1⟩
  have HSM : Hid (∀ x ∈ xs, Small x) := hsm
  have HRI : Hid (M.Rise xs) := hri
  have HW : Hid _ := apw_start w a ver
  have HS1 : Hid (∀ x ∈ xs, (x.ents.length + 1) * 24 ≤ 140737488355328) := hs1
  have HKK : Hid (a.kind = ac.kind) := ha.1
  have k1 : (a.kind == 1) = false := by simp [hk]
  have k2 : (a.kind == 2) = true := by simp [hk]
  have k3 : (a.kind == 3) = false := by simp [hk]
  have k4 : (a.kind == 4) = false := by simp [hk]
  have k5 : (a.kind == 5) = false := by simp [hk]
  clear ht ha hk hri hsm hs1
  go_enter Try.func15, Try.ntmps15
  go_upto_region 1 with (fail)
  go_cut [8] from 24 to 24 (fun v W => v = .func (.func 23) #[] #[.pointer (some ⟨w.heap.size + 1, 0, none⟩)] ∧ ApW w a ver W)
  case first =>
    go_wp2_with (fail)
    go_meet
    case rel => exact ⟨rfl, HW.out _ rfl⟩
  obtain ⟨rfl, hw1⟩ := hcut
  rename World => w1
  obtain ⟨a0, a1, a2, a3, a4, a5, a6, af, az⟩ := hw1.2.1.facts
  have H1 : Hid (ApW w a ver w1 ∧ TMapK w1 bm xs ∧ ContA w1 a ac) := ⟨hw1, HT.out.1.below (Nat.le_refl _) hw1.1, HT.out.2.1.below (Nat.le_refl _) hw1.1⟩
  clear hw1 HW
  go_wp2_with (fail)
  refine (refDirK_any bm xs a.dir w1 H1.out.2.1).mono ?_
  rintro e w2 ⟨v, rfl, hdc, hb2⟩
  have H2 : Hid (ApW w a ver w2 ∧ TMapK w2 bm xs ∧ ContA w2 a ac) := ⟨H1.out.1.next hb2, H1.out.2.1.below (Nat.le_refl _) hb2, H1.out.2.2.below (Nat.le_refl _) hb2⟩
  have HDC : Hid ((M.dirS xs a.dir).1 = 0 → ContK w2 v (M.dirS xs a.dir).2) := hdc
  clear hb2 hdc H1 a0 a1 a2 a3 a4 a5 a6 af az
  obtain ⟨a0, a1, a2, a3, a4, a5, a6, af, az⟩ := H2.out.1.2.1.facts
  by_cases hd0 : (M.dirS xs a.dir).1 = 0
  case' neg =>
    have e1 : ((M.dirS xs a.dir).1 != 0) = true := by simp [hd0]
    have HS : Hid ((M.bringS xs ac ver).1 = (M.dirS xs a.dir).1 ∧ (M.dirS xs a.dir).1 ≠ 0) := ⟨by unfold M.bringS; rw [HK.out.2.1] at hd0 ⊢; rw [if_pos hd0], hd0⟩
    clear hd0
    go_wp2_with (fail)
    go_ret2
    exact AppliedMK.no HS.out.1 HS.out.2 (H2.out.1.1.trans (((Below.refl _ _).alloc (Nat.le_refl _) _).mono H2.out.1.1.size))
  obtain ⟨x, hx⟩ : ∃ x, (M.dirS xs a.dir).2 = x := ⟨_, rfl⟩
  have HDX : Hid (M.dirS xs a.dir = (0, x)) := by show _ = _; rw [← hx, ← hd0]
  have hfx : M.find xs a.dir = some x := by rw [← hx]; exact (M.dir_ok hd0).1
  have HCX : Hid (ContK w2 v x ∧ Small x ∧ M.RsE x.ents ∧ (x.ents.length + 1) * 24 ≤ 140737488355328) := ⟨by rw [← hx]; exact HDC.out hd0, HSM.out x (M.find_mem hfx).1, HRI.out.2 x (M.find_mem hfx).1, HS1.out x (M.find_mem hfx).1⟩
  rw [hd0]
  clear hd0 hx hfx HDC
  have HWN : Hid (∀ W, W = w2.alloc (.cells #[.int .i64 v.fid, .bool v.dir, .slice v.dA v.dn v.dc, .slice v.eA v.en v.ec, .int .i64 v.ver] 56) → Below w2.heap.size w2 W ∧ Box W w2.heap.size v) := by
    rintro W rfl
    exact ⟨(Below.refl _ _).alloc (Nat.le_refl _) _, Box.new w2 v⟩
  go_wp2_with (fail)
  obtain ⟨q1, q2⟩ := HWN.out _ rfl
  refine (refRoomK_any v x a.name _ (HCX.out.1.below (Nat.le_refl _) q1) HCX.out.2.1 hsn).mono ?_
  rintro e w3 ⟨rfl, hb3⟩
  have h23 : Below w2.heap.size w2 w3 := q1.trans (hb3.mono q1.size)
  have H3 : Hid (ApW w a ver w3 ∧ TMapK w3 bm xs ∧ Box w3 w2.heap.size v ∧ ContK w3 v x) := ⟨H2.out.1.next h23, H2.out.2.1.below (Nat.le_refl _) h23, q2.below hb3 (lt_of_block q2), HCX.out.1.below (Nat.le_refl _) h23⟩
  clear q1 q2 hb3 h23 H2 HWN a0 a1 a2 a3 a4 a5 a6 af az
  obtain ⟨a0, a1, a2, a3, a4, a5, a6, af, az⟩ := H3.out.1.2.1.facts
  by_cases hfr : M.freeS x a.name = 0
  case' neg =>
    have e1 : (M.freeS x a.name != 0) = true := by simp [hfr]
    have HS : Hid ((M.bringS xs ac ver).1 = M.freeS x a.name ∧ M.freeS x a.name ≠ 0) := ⟨by unfold M.bringS; rw [← HK.out.2.1, ← HK.out.2.2.1, HDX.out, if_neg (by simp), if_pos hfr], hfr⟩
    clear hfr
    go_wp2_with (fail)
    go_ret2
    exact AppliedMK.no HS.out.1 HS.out.2 H3.out.1.1
  have HBR : Hid (M.bringS xs ac ver = if a.fid = 0 ∨ (M.find xs a.fid).isSome = true then (13, []) else if 24 ≤ xs.length then (5, []) else (0, M.putN (M.putN xs (M.withV (withE x (M.putE x.ents (a.name, a.fid))) ver)) ⟨a.fid, a.kind == 2, [], [], ver⟩)) := by
    show _ = _
    have e2 : (a.kind == 2) = decide (ac.kind = 2) := by rw [HKK.out]; rfl
    unfold M.bringS
    rw [← HK.out.1, ← HK.out.2.1, ← HK.out.2.2.1, HDX.out, if_neg (by simp), if_neg (by simp [hfr]), e2]
    rfl
  rw [hfr]
  clear hfr
  rcases IMap.askK H3.out.2.1 a.fid with ⟨hf, hl⟩ | ⟨vf, xf, hf, hcf, hl⟩
  case' inr =>
    have hl1 := hl true
    simp only [if_true] at hl1
    have HS : Hid ((M.bringS xs ac ver).1 = 13) := by show _ = _; rw [HBR.out, hf]; simp
    clear hl hf hcf
    go_wp2_with (fail)
    go_ret2
    exact AppliedMK.no HS.out (by decide) (H3.out.1.1.trans (((Below.refl _ _).alloc (Nat.le_refl _) _).mono H3.out.1.1.size))
  have hl1 := hl true
  simp only [if_true] at hl1
  generalize NV.zero = vz at hl1
  by_cases hf0 : a.fid = 0
  case' pos =>
    have e1 : (a.fid == 0) = true := by simp [hf0]
    have HS : Hid ((M.bringS xs ac ver).1 = 13) := by show _ = _; rw [HBR.out, if_pos (.inl hf0)]
    clear hl hf hf0
    go_wp2_with (fail)
    go_ret2
    exact AppliedMK.no HS.out (by decide) (H3.out.1.1.trans (((Below.refl _ _).alloc (Nat.le_refl _) _).mono H3.out.1.1.size))
  have e1 : (a.fid == 0) = false := by simp [hf0]
  have HB2 : Hid (M.bringS xs ac ver = if 24 ≤ xs.length then (5, []) else (0, M.putN (M.putN xs (M.withV (withE x (M.putE x.ents (a.name, a.fid))) ver)) ⟨a.fid, a.kind == 2, [], [], ver⟩)) := by
    show _ = _; rw [HBR.out, hf, if_neg (by simp [hf0])]
  clear hl hf hf0 HBR
  have HN5 : Hid (∀ W, W = w3.alloc (.cells #[.int .i64 vz.fid, .bool vz.dir, .slice vz.dA vz.dn vz.dc, .slice vz.eA vz.en vz.ec, .int .i64 vz.ver] 56) → Below w3.heap.size w3 W) := by
    rintro W rfl; exact (Below.refl _ _).alloc (Nat.le_refl _) _
  obtain ⟨es, clock, hbm, hes⟩ := (H3.out.2.1.below (Nat.le_refl _) (HN5.out _ rfl)).count HRI.out.1
  have hlen := run_len_map (P := Try.prog) (w := w3.alloc (.cells #[.int .i64 vz.fid, .bool vz.dir, .slice vz.dA vz.dn vz.dc, .slice vz.eA vz.en vz.ec, .int .i64 vz.ver] 56)) 30 3 bm es clock (by kernel_rfl) hbm
  rw [hes] at hlen
  clear hbm hes
  by_cases h24 : 24 ≤ xs.length
  · have h24' : (24 : Int) ≤ (xs.length : Int) := by omega
    have HS : Hid ((M.bringS xs ac ver).1 = 5) := by show _ = _; rw [HB2.out, if_pos h24]
    clear h24
    go_wp2_with (fail)
    go_ret2
    exact AppliedMK.no HS.out (by decide) (H3.out.1.1.trans ((HN5.out _ rfl).mono H3.out.1.1.size))
  · have h24' : ¬ (24 : Int) ≤ (xs.length : Int) := by omega
    have HS : Hid (M.bringS xs ac ver = (0, M.putN (M.putN xs (M.withV (withE x (M.putE x.ents (a.name, a.fid))) ver)) ⟨a.fid, a.kind == 2, [], [], ver⟩)) := by show _ = _; rw [HB2.out, if_neg h24]
    clear h24
    have HSX : Hid (Small x ∧ M.RsE x.ents ∧ (x.ents.length + 1) * 24 ≤ 140737488355328) := HCX.out.2
    go_upto_region 17 with (fail)
    have hb5 := HN5.out _ rfl
    have hbd : ∀ W5 : World, Below w3.heap.size w3 W5 → ∀ W, Below W5.drew.heap.size W5.drew W → Below w3.heap.size w3 W := fun W5 h5 W hb => h5.trans (((Below.refl _ _).drew.trans hb).mono h5.size)
    have HA := fun W hb => (H3.out.1.next (hbd _ hb5 W hb)).2.1
    have HV := fun W hb => (H3.out.1.next (hbd _ hb5 W hb)).ver
    have HM := fun W hb => H3.out.2.1.below (Nat.le_refl _) (hbd _ hb5 W hb)
    have HN := fun W hb => H3.out.2.2.1.below (hbd _ hb5 W hb) (lt_of_block H3.out.2.2.1)
    have HCN := fun W hb => H3.out.2.2.2.below (Nat.le_refl _) (hbd _ hb5 W hb)
    have HEND : Hid (∀ W5 W : World, Below w3.heap.size w3 W5 → Below W5.heap.size W5 W → Below w.heap.size w W) := fun W5 W h5 hb => H3.out.1.1.trans ((h5.trans (hb.mono h5.size)).mono H3.out.1.1.size)
    refine wp_region_vals (VR17K bm (w.heap.size + 1) w.heap.size xs a v x ver) (by kernel_rfl) (by kernel_rfl) (VR17_staysK bm (w.heap.size + 1) w.heap.size xs a v x ver) ?_ ?_
    · intro i hi
      match i, hi with
      | 0, _ =>
        refine StepAt.by rfl fun a' W hf hb hd => ?_
        exact .inl ⟨want_none, does_move ((hf.keeps 0 (by kernel_rfl)).trans rfl) ⟨Below.refl _ _, rfl⟩⟩
      | 1, _ =>
        refine StepAt.by rfl fun a' W hf hb hd => ?_
        exact .inl ⟨want_none, does_move ((hf.keeps 8 (by kernel_rfl)).trans rfl) ⟨Below.refl _ _, rfl⟩⟩
      | 2, _ =>
        refine StepAt.by rfl fun a' W hf hb hd => ?_
        exact .inl ⟨want_none, does_rn (run_load26 ((hf.keeps 9 (by kernel_rfl)).trans rfl) (HN W hb)) ⟨Below.refl _ _, rfl⟩⟩
      | 3, _ =>
        refine StepAt.by rfl fun a' W hf hb hd => ?_
        exact .inl ⟨want_none, does_rn (run_fieldA ((hf.keeps 4 (by kernel_rfl)).trans rfl) (by decide)) ⟨Below.refl _ _, rfl⟩⟩
      | 4, _ =>
        refine StepAt.by rfl fun a' W hf hb hd => ?_
        exact .inl ⟨want_none, does_rn (run_load9 (hd 3 (by kernel_rfl)) (BoxA.facts (HA W hb)).2.2.2.1) ⟨Below.refl _ _, rfl⟩⟩
      | 5, _ =>
        refine StepAt.by rfl fun a' W hf hb hd => ?_
        exact .inl ⟨want_none, does_rn (run_fieldA ((hf.keeps 4 (by kernel_rfl)).trans rfl) (by decide)) ⟨Below.refl _ _, rfl⟩⟩
      | 6, _ =>
        refine StepAt.by rfl fun a' W hf hb hd => ?_
        exact .inl ⟨want_none, does_rn (run_load3 (hd 5 (by kernel_rfl)) (BoxA.facts (HA W hb)).2.1) ⟨Below.refl _ _, rfl⟩⟩
      | 7, _ =>
        refine StepAt.by rfl fun a' W hf hb hd => ?_
        refine .inl ⟨want_none, ?_⟩
        exact does_call3 (enters_of Try.func27 (by kernel_rfl) (by kernel_rfl)) (hd 2 (by kernel_rfl)) (hd 4 (by kernel_rfl)) (hd 6 (by kernel_rfl)) ((refEnterK_any v x a.name a.fid W (HCN W hb) HSX.out.2.1 HSX.out.1 HSX.out.2.2).mono fun e W' ⟨v', he, hc, hb'⟩ => ⟨_, he, hb', v', rfl, hc⟩)
      | 8, _ =>
        refine StepAt.by rfl fun a' W hf hb hd => ?_
        refine .inl ⟨want_none, ?_⟩
        obtain ⟨v1, e1, hc1⟩ := hd 7 (by kernel_rfl)
        exact does_callC (enters_of Try.func23 (by kernel_rfl) (by kernel_rfl)) (hd 1 (by kernel_rfl)) e1 ((refVer_any v1 (w.heap.size + 1) ver W (HV W hb)).mono fun e W' ⟨he, hb'⟩ => ⟨_, he, hb', ⟨v1.fid, v1.dir, v1.dA, v1.dn, v1.dc, v1.eA, v1.en, v1.ec, ver⟩, rfl, (contVK hc1 ver).below (Nat.le_refl _) hb'⟩)
      | 9, _ =>
        refine StepAt.by rfl fun a' W hf hb hd => ?_
        refine .inl ⟨want_none, ?_⟩
        obtain ⟨v1, e1, hc1⟩ := hd 8 (by kernel_rfl)
        have e0 := hd 0 (by kernel_rfl)
        have ht0 := HM W hb
        exact does_call2 (enters_of Try.func26 (by kernel_rfl) (by kernel_rfl)) e0 e1 ((withK_any _ _ v1 _ W ht0 hc1).mono fun e W' ⟨b, he, ht, hb'⟩ => ⟨_, he, hb', b, rfl, ht⟩)
      | 10, _ =>
        refine StepAt.by rfl fun a' W hf hb hd => ?_
        exact .inl ⟨want_none, does_move ((hf.keeps 8 (by kernel_rfl)).trans rfl) ⟨Below.refl _ _, rfl⟩⟩
      | 11, _ =>
        refine StepAt.by rfl fun a' W hf hb hd => ?_
        exact .inl ⟨want_none, does_rn (run_fieldA ((hf.keeps 4 (by kernel_rfl)).trans rfl) (by decide)) ⟨Below.refl _ _, rfl⟩⟩
      | 12, _ =>
        refine StepAt.by rfl fun a' W hf hb hd => ?_
        exact .inl ⟨want_none, does_rn (run_load3 (hd 11 (by kernel_rfl)) (BoxA.facts (HA W hb)).2.1) ⟨Below.refl _ _, rfl⟩⟩
      | 13, _ =>
        refine StepAt.by rfl fun a' W hf hb hd => ?_
        exact .inl ⟨want_none, does_rn (run_fieldA ((hf.keeps 4 (by kernel_rfl)).trans rfl) (by decide)) ⟨Below.refl _ _, rfl⟩⟩
      | 14, _ =>
        refine StepAt.by rfl fun a' W hf hb hd => ?_
        exact .inl ⟨want_none, does_rn (run_load3 (hd 13 (by kernel_rfl)) (BoxA.facts (HA W hb)).1) ⟨Below.refl _ _, rfl⟩⟩
      | 15, _ =>
        refine StepAt.by rfl fun a' W hf hb hd => ?_
        exact .inl ⟨want_none, does_rn (run_eqN (hd 14 (by kernel_rfl)) rfl) ⟨Below.refl _ _, rfl⟩⟩
      | 16, _ =>
        refine StepAt.by rfl fun a' W hf hb hd => ?_
        refine .inl ⟨want_none, ?_⟩
        exact does_rn (run_buildN (hd 12 (by kernel_rfl)) (hd 15 (by kernel_rfl))) ⟨Below.refl _ _, rfl⟩
      | 17, _ =>
        refine StepAt.by rfl fun a' W hf hb hd => ?_
        refine .inl ⟨want_none, ?_⟩
        exact does_callC (enters_of Try.func23 (by kernel_rfl) (by kernel_rfl)) (hd 10 (by kernel_rfl)) (hd 16 (by kernel_rfl)) ((refVer_any ⟨a.fid, (a.kind == 2), none, 0, 0, none, 0, 0, 0⟩ (w.heap.size + 1) ver W (HV W hb)).mono fun e W' ⟨he, hb'⟩ => ⟨_, he, hb', ⟨a.fid, a.kind == 2, none, 0, 0, none, 0, 0, ver⟩, rfl, ⟨rfl, rfl, rfl, ⟨rfl, .inl rfl⟩, ⟨rfl, .inl rfl⟩⟩, .inl rfl, .inl rfl⟩)
      | 18, _ =>
        refine StepAt.by rfl fun a' W hf hb hd => ?_
        refine .inl ⟨want_none, ?_⟩
        obtain ⟨v1, e1, hc1⟩ := hd 17 (by kernel_rfl)
        obtain ⟨b0, e0, ht0⟩ := hd 9 (by kernel_rfl)
        exact does_call2 (enters_of Try.func26 (by kernel_rfl) (by kernel_rfl)) e0 e1 ((withK_any _ _ v1 _ W ht0 hc1).mono fun e W' ⟨b, he, ht, hb'⟩ => ⟨_, he, hb', b, rfl, ht⟩)
      | 19, _ =>
        refine StepAt.by rfl fun a' W hf hb hd => ?_
        exact .inl ⟨want_none, does_assign rfl ⟨Below.refl _ _, (hd 18 (by kernel_rfl))⟩⟩
      | 20, _ =>
        refine StepAt.by rfl fun a' W hf hb hd => ?_
        exact .inl ⟨want_none, does_assign rfl ⟨Below.refl _ _, rfl⟩⟩
      | k + 21, hi => exact absurd hi (Nat.not_lt.2 (Nat.le_add_left _ _))
    · intro a' W hf hb hv
      obtain ⟨b6, e6, ht6⟩ := hv 19 (by decide)
      have e7 : a'.eval (.tmp 7) = .int .i64 (0) := hv 20 (by decide)
      have hl := hf.lit (fun t => decide (63 ≤ t) && decide (t ≤ 81) || decide (t = 6) || decide (t = 7)) (by kernel_rfl)
      simp only [overL, Nat.reduceAdd, Nat.reduceLeDiff, Nat.reduceEqDiff, decide_true, decide_false, Bool.and_true, Bool.and_false, Bool.or_true, Bool.or_false] at hl
      have e6' : a'.eval (.tmp 6) = .map (some b6) := e6
      rw [hl, e6', e7]
      have HF : Hid (TMapK W b6 _ ∧ Below _ _ W) := ⟨ht6, hb⟩
      clear hl hf hb hv e6 e6' e7 ht6
      go_wp2_with (fail)
      go_ret2
      exact AppliedMK.yes HS.out HF.out.1 (HEND.out _ _ (HN5.out _ rfl) HF.out.2)
end Go.Proofs.Ytcjobmbbikfnaac
