/- TEXTS LAID TOGETHER: Refan, Krefan, Krefo, Kof, Certa, Certs -/
import Derived.Test.YtcjobmbbikfnaacPart10
import Derived.Deep.CutRange
import Derived.Test.YtcjobmbbikfnaacPart11
import Derived.Test.YtcjobmbbikfnaacPart12
import Derived.Test.YtcjobmbbikfnaacPart9
/-
  THE REFERENCE's Apply: acts that rename.
-/
namespace Go.Proofs.Ytcjobmbbikfnaac
open Go.RowKit

theorem put_over {xs : List M.Nd} (hr : M.RsN xs) {F T : M.Nd} (h : F.fid = T.fid) : M.putN (M.putN xs F) T = M.putN xs T := by
  refine ext_find (rs_put _ (rs_put _ hr)) (rs_put _ hr) fun t => ?_
  by_cases e : t = T.fid
  · subst e
    rw [findN_put, findN_put]
  · rw [findN_other _ _ t e, findN_other _ _ t e, findN_other _ _ t (by rw [h]; exact e)]

set_option maxRecDepth 8000 in
set_option maxHeartbeats 8000000 in
theorem refRename_any (bm : Nat) (xs : List M.Nd) (a : AV) (ac : M.Act) (ver : Int) (w : World) (ht : TMap w bm xs) (ha : ContA w a ac) (hri : M.Rise xs) (hsm : ∀ x ∈ xs, Small x) (hst : a.toName.size ≤ maxLen) (hs1 : ∀ x ∈ xs, (x.ents.length + 1) * 24 ≤ 140737488355328) (hN : ((allF xs).length + 2) * 8 ≤ 140737488355328) (hk : a.kind = 5) :
    Calls Try.prog 15 #[.map (some bm), a.val, .int .i64 ver] w (AppliedM w (M.renameS xs ac ver)) := by
  have HT : Hid (TMap w bm xs ∧ ContA w a ac ∧ True) := ⟨ht, ha, trivial⟩
  have HK : Hid (a.fid = ac.fid ∧ a.dir = ac.dir ∧ a.name = ac.name ∧ a.to = ac.to ∧ a.toName = ac.toName) := ⟨ha.2.1, ha.2.2.1, ha.2.2.2.1, ha.2.2.2.2.1, ha.2.2.2.2.2.1⟩
  have HSM : Hid (∀ x ∈ xs, Small x) := hsm
  have HRI : Hid (M.Rise xs) := hri
  have HW : Hid _ := apw_start w a ver
  have HS1 : Hid (∀ x ∈ xs, (x.ents.length + 1) * 24 ≤ 140737488355328) := hs1
  have k1 : (a.kind == 1) = false := by simp [hk]
  have k2 : (a.kind == 2) = false := by simp [hk]
  have k3 : (a.kind == 3) = false := by simp [hk]
  have k4 : (a.kind == 4) = false := by simp [hk]
  have k5 : (a.kind == 5) = true := by simp [hk]
  clear ht ha hk hri hsm hs1
  go_enter Try.func15, Try.ntmps15
  go_upto_region 1 with (fail)
  go_cut [8] from 24 to 24 (fun v W => v = .func (.func 23) #[] #[.pointer (some ⟨w.heap.size + 1, 0, none⟩)] ∧ ApW w a ver W)
  case first =>
    go_wp2_with (fail)
    go_meet
    case rel => exact ⟨rfl, HW.out _ rfl⟩
  obtain ⟨rfl, hw1⟩ := hcut
  rename World => w1
  obtain ⟨a0, a1, a2, a3, a4, a5, a6, af, az⟩ := hw1.2.1.facts
  have H1 : Hid (ApW w a ver w1 ∧ TMap w1 bm xs ∧ ContA w1 a ac) := ⟨hw1, HT.out.1.below (Nat.le_refl _) hw1.1, HT.out.2.1.below (Nat.le_refl _) hw1.1⟩
  clear hw1 HW
  go_wp2_with (fail)
  refine (refDir_any bm xs a.dir w1 H1.out.2.1).mono ?_
  rintro e w2 ⟨v, rfl, hdc, hb2⟩
  have H2 : Hid (ApW w a ver w2 ∧ TMap w2 bm xs ∧ ContA w2 a ac) := ⟨H1.out.1.next hb2, H1.out.2.1.below (Nat.le_refl _) hb2, H1.out.2.2.below (Nat.le_refl _) hb2⟩
  have HDC : Hid ((M.dirS xs a.dir).1 = 0 → Cont w2 v (M.dirS xs a.dir).2) := hdc
  clear hb2 hdc H1 a0 a1 a2 a3 a4 a5 a6 af az
  obtain ⟨a0, a1, a2, a3, a4, a5, a6, af, az⟩ := H2.out.1.2.1.facts
  by_cases hd0 : (M.dirS xs a.dir).1 = 0
  case' neg =>
    have e1 : ((M.dirS xs a.dir).1 != 0) = true := by simp [hd0]
    have HS : Hid ((M.renameS xs ac ver).1 = (M.dirS xs a.dir).1 ∧ (M.dirS xs a.dir).1 ≠ 0) := ⟨by unfold M.renameS; rw [HK.out.2.1] at hd0 ⊢; rw [hold_err hd0, if_pos hd0], hd0⟩
    clear hd0
    go_wp2_with (fail)
    go_ret2
    exact AppliedM.no HS.out.1 HS.out.2 (H2.out.1.1.trans (((Below.refl _ _).alloc (Nat.le_refl _) _).mono H2.out.1.1.size))
  obtain ⟨x, hx⟩ : ∃ x, (M.dirS xs a.dir).2 = x := ⟨_, rfl⟩
  have HDX : Hid (M.dirS xs a.dir = (0, x)) := by show _ = _; rw [← hx, ← hd0]
  have hfx : M.find xs a.dir = some x := by rw [← hx]; exact (M.dir_ok hd0).1
  have HCX : Hid (Cont w2 v x ∧ Small x ∧ M.RsE x.ents) := ⟨by rw [← hx]; exact HDC.out hd0, HSM.out x (M.find_mem hfx).1, HRI.out.2 x (M.find_mem hfx).1⟩
  rw [hd0]
  clear hd0 hx hfx HDC
  have HWN : Hid (∀ W, W = w2.alloc (.cells #[.int .i64 v.fid, .bool v.dir, .slice v.dA v.dn v.dc, .slice v.eA v.en v.ec, .int .i64 v.ver] 56) → Below w2.heap.size w2 W ∧ Box W w2.heap.size v) := by
    rintro W rfl
    exact ⟨(Below.refl _ _).alloc (Nat.le_refl _) _, Box.new w2 v⟩
  go_wp2_with (fail)
  obtain ⟨q1, q2⟩ := HWN.out _ rfl
  refine (refEntry_any v x a.name _ (HCX.out.1.below (Nat.le_refl _) q1) HCX.out.2.1).mono ?_
  rintro e w3 ⟨rfl, hb3⟩
  have h23 : Below w2.heap.size w2 w3 := q1.trans (hb3.mono q1.size)
  have H3 : Hid (ApW w a ver w3 ∧ TMap w3 bm xs ∧ ContA w3 a ac ∧ Box w3 w2.heap.size v ∧ Cont w3 v x) := ⟨H2.out.1.next h23, H2.out.2.1.below (Nat.le_refl _) h23, H2.out.2.2.below (Nat.le_refl _) h23, q2.below hb3 (lt_of_block q2), HCX.out.1.below (Nat.le_refl _) h23⟩
  have HN2 : Hid (w2.heap.size < w3.heap.size ∧ w.heap.size + 1 < w2.heap.size) := ⟨lt_of_block (q2.below hb3 (lt_of_block q2)), lt_of_block H2.out.1.2.2⟩
  clear q1 q2 hb3 h23 H2 HWN a0 a1 a2 a3 a4 a5 a6 af az
  obtain ⟨a0, a1, a2, a3, a4, a5, a6, af, az⟩ := H3.out.1.2.1.facts
  rcases hlk : M.look x.ents a.name with _ | en
  case' none =>
    have HS : Hid ((M.renameS xs ac ver).1 = 6) := by show _ = _; unfold M.renameS; rw [← HK.out.1, ← HK.out.2.1, ← HK.out.2.2.1, hold_none HDX.out hlk]; rfl
    clear hlk
    go_wp2_with (fail)
    go_ret2
    exact AppliedM.no HS.out (by decide) H3.out.1.1
  obtain ⟨en1, en2⟩ := en
  have hgd : (((some (en1, en2) : Option (ByteArray × Int)).map (·.2)).getD 0) = en2 := rfl
  have hgs : (some (en1, en2) : Option (ByteArray × Int)).isSome = true := rfl
  rw [hgd, hgs]
  clear hgd hgs
  by_cases hen : en2 = a.fid
  case' neg =>
    have e1 : (en2 != a.fid) = true := by simp [hen]
    have HS : Hid ((M.renameS xs ac ver).1 = 13) := by show _ = _; unfold M.renameS; rw [← HK.out.1, ← HK.out.2.1, ← HK.out.2.2.1, hold_other HDX.out hlk hen]; rfl
    clear hlk hen
    go_wp2_with (fail)
    go_ret2
    exact AppliedM.no HS.out (by decide) H3.out.1.1
  have e1 : (en2 != a.fid) = false := by simp [hen]
  have HHO : Hid (M.holdS xs ac.dir ac.name ac.fid = (0, x)) := by
    rw [← HK.out.1, ← HK.out.2.1, ← HK.out.2.2.1]
    exact hold_yes HDX.out hlk hen
  clear hlk hen
  obtain ⟨vf, fb, hl1, HFB⟩ : ∃ (vf : NV) (fb : Bool), (Instr.lookup 30 (.map (some bm)) (.int .i64 a.fid) true).run Try.prog w3 = .ok (.tuple #[vf.val, .bool fb]) w3 ∧ Hid ((M.find xs a.fid).isSome = fb) := by
    rcases IMap.ask H3.out.2.1 a.fid with ⟨hf, hl⟩ | ⟨vf, xf, hf, hcf, hl⟩
    · exact ⟨NV.zero, false, hl true, by show _ = _; rw [hf]; rfl⟩
    · exact ⟨vf, true, hl true, by show _ = _; rw [hf]; rfl⟩
  have HN5 : Hid (∀ W, W = w3.alloc (.cells #[.int .i64 vf.fid, .bool vf.dir, .slice vf.dA vf.dn vf.dc, .slice vf.eA vf.en vf.ec, .int .i64 vf.ver] 56) → Below w3.heap.size w3 W ∧ W.heap.size = w3.heap.size + 1) := by
    rintro W rfl; exact ⟨(Below.refl _ _).alloc (Nat.le_refl _) _, by simp⟩
  go_wp2_with (fail)
  obtain ⟨q5, q6⟩ := HN5.out _ rfl
  refine (refDir_any bm xs a.to _ (H3.out.2.1.below (Nat.le_refl _) q5)).mono ?_
  rintro e w6 ⟨vt, rfl, hdt, hb6⟩
  have h36 : Below w3.heap.size w3 w6 := q5.trans (hb6.mono q5.size)
  have H6 : Hid (ApW w a ver w6 ∧ TMap w6 bm xs ∧ Box w6 w2.heap.size v ∧ Cont w6 v x) := ⟨H3.out.1.next h36, H3.out.2.1.below (Nat.le_refl _) h36, H3.out.2.2.2.1.below h36 (lt_of_block H3.out.2.2.2.1), H3.out.2.2.2.2.below (Nat.le_refl _) h36⟩
  have HDT : Hid ((M.dirS xs a.to).1 = 0 → Cont w6 vt (M.dirS xs a.to).2) := hdt
  clear q5 q6 hb6 h36 hdt H3 HN5 hl1 a0 a1 a2 a3 a4 a5 a6 af az
  obtain ⟨a0, a1, a2, a3, a4, a5, a6, af, az⟩ := H6.out.1.2.1.facts
  by_cases hd0 : (M.dirS xs a.to).1 = 0
  case' neg =>
    have e2 : ((M.dirS xs a.to).1 != 0) = true := by simp [hd0]
    have HS : Hid ((M.renameS xs ac ver).1 = (M.dirS xs a.to).1 ∧ (M.dirS xs a.to).1 ≠ 0) := ⟨by unfold M.renameS; rw [HK.out.2.2.2.1] at hd0 ⊢; rw [HHO.out, if_neg (by simp), if_pos hd0], hd0⟩
    clear hd0
    go_wp2_with (fail)
    go_ret2
    exact AppliedM.no HS.out.1 HS.out.2 (H6.out.1.1.trans (((Below.refl _ _).alloc (Nat.le_refl _) _).mono H6.out.1.1.size))
  obtain ⟨xt, hxt⟩ : ∃ xt, (M.dirS xs a.to).2 = xt := ⟨_, rfl⟩
  have HTX : Hid (M.dirS xs a.to = (0, xt)) := by show _ = _; rw [← hxt, ← hd0]
  have hft : M.find xs a.to = some xt := by rw [← hxt]; exact (M.dir_ok hd0).1
  have HCT : Hid (Cont w6 vt xt ∧ Small xt ∧ M.RsE xt.ents ∧ xt ∈ xs) := ⟨by rw [← hxt]; exact HDT.out hd0, HSM.out xt (M.find_mem hft).1, HRI.out.2 xt (M.find_mem hft).1, (M.find_mem hft).1⟩
  rw [hd0]
  clear hd0 hxt hft HDT
  have HFR : Hid (M.fromS xs ac = withE x (M.dropE x.ents a.name) ∧ M.toS xs ac = (if a.to = a.dir then withE x (M.dropE x.ents a.name) else xt)) := by
    have h1 : M.fromS xs ac = withE x (M.dropE x.ents a.name) := by unfold M.fromS; rw [HHO.out, ← HK.out.2.2.1]; rfl
    refine ⟨h1, ?_⟩
    unfold M.toS
    rw [h1, ← HK.out.2.2.2.1, ← HK.out.2.1, HTX.out]
  have HWT : Hid (∀ W, W = w6.alloc (.cells #[.int .i64 vt.fid, .bool vt.dir, .slice vt.dA vt.dn vt.dc, .slice vt.eA vt.en vt.ec, .int .i64 vt.ver] 56) → Below w6.heap.size w6 W ∧ Box W w6.heap.size vt) := by
    rintro W rfl
    exact ⟨(Below.refl _ _).alloc (Nat.le_refl _) _, Box.new w6 vt⟩
  go_upto_if 174 with (fail)
  go_cut [178] from 174 to 178 (fun _ W => Below w6.heap.size w6 W ∧ ∃ (vo : NV) (xo : M.Nd), Box W w6.heap.size vo ∧ Cont W vo xo ∧ xo = M.toS xs ac ∧ Small xo ∧ M.RsE xo.ents ∧ (xo.ents.length + 1) * 24 ≤ 140737488355328)
  case first =>
    by_cases htd : a.to = a.dir
    · have t1 : (a.to == a.dir) = true := by simp [htd]
      have HEQ : Hid (xt = x ∧ M.toS xs ac = withE x (M.dropE x.ents a.name)) := by
        refine ⟨?_, by rw [HFR.out.2, if_pos htd]⟩
        have h1 := HTX.out
        rw [htd, HDX.out] at h1
        exact (Prod.mk.inj h1).2.symm
      have SMD : Hid (Small (withE xt (M.dropE xt.ents a.name)) ∧ M.RsE (withE xt (M.dropE xt.ents a.name)).ents ∧ ((withE xt (M.dropE xt.ents a.name)).ents.length + 1) * 24 ≤ 140737488355328) := by
        have h1 : (M.dropE xt.ents a.name).length ≤ xt.ents.length := List.length_filter_le _ _
        have h2 := HS1.out xt HCT.out.2.2.2
        refine ⟨⟨HCT.out.2.1.1, ?_⟩, rs_dropE a.name HCT.out.2.2.1, ?_⟩
        · show (M.dropE xt.ents a.name).length * 24 ≤ _; omega
        · show ((M.dropE xt.ents a.name).length + 1) * 24 ≤ _; omega
      clear htd
      go_wp2_with (fail)
      obtain ⟨q1, q2⟩ := HWT.out _ rfl
      refine (refLeave_own vt xt a.name _ (HCT.out.1.below (Nat.le_refl _) q1) HCT.out.2.1).mono ?_
      rintro e w7 ⟨Ao, mo, co, rfl, hoo, hb7⟩
      have h67 : Below w6.heap.size w6 w7 := q1.trans (hb7.mono q1.size)
      have hbx := q2.below hb7 (lt_of_block q2)
      obtain ⟨z0, z1, z2, z3, z4, zf, zz⟩ := hbx.facts
      have hs6 : w6.heap.size < (w6.alloc (.cells #[.int .i64 vt.fid, .bool vt.dir, .slice vt.dA vt.dn vt.dc, .slice vt.eA vt.en vt.ec, .int .i64 vt.ver] 56)).heap.size := by simp
      obtain ⟨vo, hvo⟩ : ∃ vo : NV, vo = ⟨vt.fid, vt.dir, vt.dA, vt.dn, vt.dc, Ao, mo, co, vt.ver⟩ := ⟨_, rfl⟩
      have hbp : Below w6.heap.size w6 (put5 w7 w6.heap.size 0 vo) := put5_below h67 (Nat.le_refl _) _ _
      have hcp := HCT.out.1.below (Nat.le_refl _) hbp
      have hcv : Cont (put5 w7 w6.heap.size 0 vo) vo (withE xt (M.dropE xt.ents a.name)) := by
        have hrow := Row.ofOwn (cs := entCells) ent_len (by decide) (put5_own hoo hs6 0 vo)
        rw [hvo] at hcp hrow ⊢
        exact ⟨hcp.1, hcp.2.1, hcp.2.2.1, hcp.2.2.2.1, hrow⟩
      rw [← hvo]
      have HR : Hid (Below w6.heap.size w6 (put5 w7 w6.heap.size 0 vo) ∧ Box (put5 w7 w6.heap.size 0 vo) w6.heap.size vo ∧ Cont (put5 w7 w6.heap.size 0 vo) vo (withE xt (M.dropE xt.ents a.name))) := ⟨hbp, put5_box hbx vo, hcv⟩
      clear q1 q2 hoo hb7 h67 hbx hbp hcp hcv hvo hs6
      go_wp2_with (fail)
      go_meet
      case rel => exact ⟨HR.out.1, vo, _, HR.out.2.1, HR.out.2.2, by rw [HEQ.out.2, HEQ.out.1], SMD.out⟩
    · have t1 : (a.to == a.dir) = false := by simp [htd]
      have HEQ : Hid (M.toS xs ac = xt) := by show _ = _; rw [HFR.out.2, if_neg htd]
      clear htd
      go_wp2_with (fail)
      go_meet
      case rel => exact ⟨(HWT.out _ rfl).1, vt, xt, (HWT.out _ rfl).2, HCT.out.1.below (Nat.le_refl _) (HWT.out _ rfl).1, HEQ.out.symm, HCT.out.2.1, HCT.out.2.2.1, HS1.out xt HCT.out.2.2.2⟩
  obtain ⟨hb8, vo, xo, hbo, hco, hxo, hso, hro, hlo⟩ := hcut
  rename World => w8
  have H8 : Hid (ApW w a ver w8 ∧ TMap w8 bm xs ∧ Box w8 w2.heap.size v ∧ Cont w8 v x ∧ Box w8 w6.heap.size vo ∧ Cont w8 vo xo) := ⟨H6.out.1.next hb8, H6.out.2.1.below (Nat.le_refl _) hb8, H6.out.2.2.1.below hb8 (lt_of_block H6.out.2.2.1), H6.out.2.2.2.below (Nat.le_refl _) hb8, hbo, hco⟩
  have HSO : Hid (Small xo ∧ M.RsE xo.ents ∧ (xo.ents.length + 1) * 24 ≤ 140737488355328) := ⟨hso, hro, hlo⟩
  have HXO : Hid (M.toS xs ac = xo) := hxo.symm
  clear hb8 hbo hco hxo hso hro hlo H6 HWT a0 a1 a2 a3 a4 a5 a6 af az
  obtain ⟨a0, a1, a2, a3, a4, a5, a6, af, az⟩ := H8.out.1.2.1.facts
  obtain ⟨z0, z1, z2, z3, z4, zf, zz⟩ := H8.out.2.2.2.2.1.facts
  have HREN : Hid (M.renameS xs ac ver = if M.freeS xo a.toName ≠ 0 then (M.freeS xo a.toName, []) else (if (M.find xs a.fid).isNone then (12, []) else (@ite _ (M.Reach xs a.fid a.to) (Classical.propDecidable _) (11, []) (0, M.putN (M.putN xs (M.withV (withE x (M.dropE x.ents a.name)) ver)) (M.withV (withE xo (M.putE xo.ents (a.toName, a.fid))) ver))))) := by
    show _ = _
    unfold M.renameS
    rw [HHO.out, if_neg (by simp), ← HK.out.2.2.2.1, HTX.out, if_neg (by simp), HXO.out, HFR.out.1, ← HK.out.1, ← HK.out.2.2.2.2]
    rfl
  go_wp2_with (fail)
  refine (refRoom_any vo xo a.toName w8 H8.out.2.2.2.2.2 HSO.out.1 hst).mono ?_
  rintro e w9 ⟨rfl, hb9⟩
  have H9 : Hid (ApW w a ver w9 ∧ TMap w9 bm xs ∧ Box w9 w2.heap.size v ∧ Cont w9 v x ∧ Box w9 w6.heap.size vo ∧ Cont w9 vo xo) := ⟨H8.out.1.next hb9, H8.out.2.1.below (Nat.le_refl _) hb9, H8.out.2.2.1.below hb9 (lt_of_block H8.out.2.2.1), H8.out.2.2.2.1.below (Nat.le_refl _) hb9, H8.out.2.2.2.2.1.below hb9 (lt_of_block H8.out.2.2.2.2.1), H8.out.2.2.2.2.2.below (Nat.le_refl _) hb9⟩
  clear hb9 H8 a0 a1 a2 a3 a4 a5 a6 af az z0 z1 z2 z3 z4 zf zz
  obtain ⟨a0, a1, a2, a3, a4, a5, a6, af, az⟩ := H9.out.1.2.1.facts
  by_cases hfr : M.freeS xo a.toName = 0
  case' neg =>
    have e2 : (M.freeS xo a.toName != 0) = true := by simp [hfr]
    have HS : Hid ((M.renameS xs ac ver).1 = M.freeS xo a.toName ∧ M.freeS xo a.toName ≠ 0) := ⟨by rw [HREN.out, if_pos hfr], hfr⟩
    clear hfr
    go_wp2_with (fail)
    go_ret2
    exact AppliedM.no HS.out.1 HS.out.2 H9.out.1.1
  have HR2 : Hid (M.renameS xs ac ver = if (M.find xs a.fid).isNone then (12, []) else (@ite _ (M.Reach xs a.fid a.to) (Classical.propDecidable _) (11, []) (0, M.putN (M.putN xs (M.withV (withE x (M.dropE x.ents a.name)) ver)) (M.withV (withE xo (M.putE xo.ents (a.toName, a.fid))) ver)))) := by
    show _ = _; rw [HREN.out, if_neg (by simp [hfr])]
  rw [hfr]
  clear hfr HREN
  cases fb
  case' false =>
    have HS : Hid ((M.renameS xs ac ver).1 = 12) := by
      show _ = _
      rw [HR2.out, if_pos (by have h := HFB.out; cases hq : M.find xs a.fid with | none => rfl | some q => rw [hq] at h; cases h)]
    go_wp2_with (fail)
    go_ret2
    exact AppliedM.no HS.out (by decide) H9.out.1.1
  have HR3 : Hid (M.renameS xs ac ver = @ite _ (M.Reach xs a.fid a.to) (Classical.propDecidable _) (11, []) (0, M.putN (M.putN xs (M.withV (withE x (M.dropE x.ents a.name)) ver)) (M.withV (withE xo (M.putE xo.ents (a.toName, a.fid))) ver))) := by
    show _ = _
    rw [HR2.out, if_neg (by have h := HFB.out; cases hq : M.find xs a.fid with | none => rw [hq] at h; cases h | some q => simp)]
  clear HR2
  go_wp2_with (fail)
  refine (refWithin_any bm xs a.to a.fid w9 H9.out.2.1 HSM.out hN).mono ?_
  rintro e w10 ⟨rb, rfl, hwi, hb10⟩
  have H10 : Hid (ApW w a ver w10 ∧ TMap w10 bm xs ∧ Box w10 w2.heap.size v ∧ Cont w10 v x ∧ Box w10 w6.heap.size vo ∧ Cont w10 vo xo) := ⟨H9.out.1.next hb10, H9.out.2.1.below (Nat.le_refl _) hb10, H9.out.2.2.1.below hb10 (lt_of_block H9.out.2.2.1), H9.out.2.2.2.1.below (Nat.le_refl _) hb10, H9.out.2.2.2.2.1.below hb10 (lt_of_block H9.out.2.2.2.2.1), H9.out.2.2.2.2.2.below (Nat.le_refl _) hb10⟩
  have HWI : Hid (rb = true ↔ M.Reach xs a.fid a.to) := hwi
  clear hb10 hwi H9 a0 a1 a2 a3 a4 a5 a6 af az
  obtain ⟨a0, a1, a2, a3, a4, a5, a6, af, az⟩ := H10.out.1.2.1.facts
  cases rb
  case' true =>
    have HS : Hid ((M.renameS xs ac ver).1 = 11) := by show _ = _; rw [HR3.out, if_pos (HWI.out.1 rfl)]
    go_wp2_with (fail)
    go_ret2
    exact AppliedM.no HS.out (by decide) H10.out.1.1
  have HR4 : Hid (M.renameS xs ac ver = (0, M.putN (M.putN xs (M.withV (withE x (M.dropE x.ents a.name)) ver)) (M.withV (withE xo (M.putE xo.ents (a.toName, a.fid))) ver))) := by
    show _ = _
    rw [HR3.out, if_neg (fun h => by have := HWI.out.2 h; cases this)]
  clear HR3 HWI
  by_cases htd : a.to = a.dir
  · have t1 : (a.to != a.dir) = false := by simp [htd]
    have HS : Hid (M.renameS xs ac ver = (0, M.putN xs (M.withV (withE xo (M.putE xo.ents (a.toName, a.fid))) ver))) := by
      show _ = _
      rw [HR4.out, put_over HRI.out.1]
      rw [← HXO.out, HFR.out.2, if_pos htd]
      rfl
    have HQ : Hid (ApW w a ver w10 ∧ TMap w10 bm xs ∧ Box w10 w6.heap.size vo ∧ Cont w10 vo xo) := ⟨H10.out.1, H10.out.2.1, H10.out.2.2.2.2.1, H10.out.2.2.2.2.2⟩
    obtain ⟨z0, z1, z2, z3, z4, zf, zz⟩ := HQ.out.2.2.1.facts
    clear htd
    go_wp2_with (fail)
    refine (refEnter_any vo xo a.toName a.fid _ HQ.out.2.2.2 HSO.out.2.1 HSO.out.1 HSO.out.2.2).mono ?_
    rintro e w20 ⟨v20, rfl, hc20, hb20⟩
    have H20 : Hid (ApW w a ver w20 ∧ TMap w20 bm xs ∧ Cont w20 v20 (withE xo (M.putE xo.ents (a.toName, a.fid)))) := ⟨HQ.out.1.next hb20, HQ.out.2.1.below (Nat.le_refl _) hb20, hc20⟩
    clear hc20 hb20
    obtain ⟨f20, d20, dA20, dn20, dc20, eA20, en20, ec20, ve20⟩ := v20
    go_wp2_with (fail)
    refine (refVer_any ⟨f20, d20, dA20, dn20, dc20, eA20, en20, ec20, ve20⟩ (w.heap.size + 1) ver _ H20.out.1.ver).mono ?_
    rintro e w21 ⟨rfl, hb21⟩
    have H21 : Hid (Below w.heap.size w w21 ∧ TMap w21 bm xs ∧ Cont w21 ⟨f20, d20, dA20, dn20, dc20, eA20, en20, ec20, ver⟩ (M.withV (withE xo (M.putE xo.ents (a.toName, a.fid))) ver)) := ⟨H20.out.1.1.trans (hb21.mono H20.out.1.1.size), H20.out.2.1.below (Nat.le_refl _) hb21, contV (H20.out.2.2.below (Nat.le_refl _) hb21) ver⟩
    clear hb21
    go_wp2_with (fail)
    refine (with_any bm _ ⟨f20, d20, dA20, dn20, dc20, eA20, en20, ec20, ver⟩ _ w21 H21.out.2.1 H21.out.2.2).mono ?_
    rintro e w22 ⟨b22, rfl, ht22, hb22⟩
    have H22 : Hid (Below w.heap.size w w22 ∧ TMap w22 b22 (M.putN xs (M.withV (withE xo (M.putE xo.ents (a.toName, a.fid))) ver))) := ⟨H21.out.1.trans (hb22.mono H21.out.1.size), ht22⟩
    clear ht22 hb22
    go_wp2_with (fail)
    go_ret2
    exact AppliedM.yes HS.out H22.out.2 H22.out.1
  · have t1 : (a.to != a.dir) = true := by simp [htd]
    clear htd
    obtain ⟨z0, z1, z2, z3, z4, zf, zz⟩ := H10.out.2.2.1.facts
    go_wp2_with (fail)
    refine (refLeave_any v x a.name w10 H10.out.2.2.2.1 HCX.out.2.1).mono ?_
    rintro e w11 ⟨v11, rfl, hc11, hb11⟩
    have H11 : Hid (ApW w a ver w11 ∧ TMap w11 bm xs ∧ Box w11 w6.heap.size vo ∧ Cont w11 vo xo ∧ Cont w11 v11 (withE x (M.dropE x.ents a.name))) := ⟨H10.out.1.next hb11, H10.out.2.1.below (Nat.le_refl _) hb11, H10.out.2.2.2.2.1.below hb11 (lt_of_block H10.out.2.2.2.2.1), H10.out.2.2.2.2.2.below (Nat.le_refl _) hb11, hc11⟩
    clear hc11 hb11 H10 a0 a1 a2 a3 a4 a5 a6 af az z0 z1 z2 z3 z4 zf zz
    obtain ⟨f11, d11, dA11, dn11, dc11, eA11, en11, ec11, ve11⟩ := v11
    go_wp2_with (fail)
    refine (refVer_any ⟨f11, d11, dA11, dn11, dc11, eA11, en11, ec11, ve11⟩ (w.heap.size + 1) ver _ H11.out.1.ver).mono ?_
    rintro e w12 ⟨rfl, hb12⟩
    have H12 : Hid (ApW w a ver w12 ∧ TMap w12 bm xs ∧ Box w12 w6.heap.size vo ∧ Cont w12 vo xo ∧ Cont w12 ⟨f11, d11, dA11, dn11, dc11, eA11, en11, ec11, ver⟩ (M.withV (withE x (M.dropE x.ents a.name)) ver)) := ⟨H11.out.1.next hb12, H11.out.2.1.below (Nat.le_refl _) hb12, H11.out.2.2.1.below hb12 (lt_of_block H11.out.2.2.1), H11.out.2.2.2.1.below (Nat.le_refl _) hb12, contV (H11.out.2.2.2.2.below (Nat.le_refl _) hb12) ver⟩
    clear hb12 H11
    go_wp2_with (fail)
    refine (with_any bm xs ⟨f11, d11, dA11, dn11, dc11, eA11, en11, ec11, ver⟩ _ w12 H12.out.2.1 H12.out.2.2.2.2).mono ?_
    rintro e w13 ⟨b13, rfl, ht13, hb13⟩
    have HQ : Hid (ApW w a ver w13 ∧ TMap w13 b13 (M.putN xs (M.withV (withE x (M.dropE x.ents a.name)) ver)) ∧ Box w13 w6.heap.size vo ∧ Cont w13 vo xo) := ⟨H12.out.1.next hb13, ht13, H12.out.2.2.1.below hb13 (lt_of_block H12.out.2.2.1), H12.out.2.2.2.1.below (Nat.le_refl _) hb13⟩
    clear ht13 hb13 H12
    obtain ⟨a0, a1, a2, a3, a4, a5, a6, af, az⟩ := HQ.out.1.2.1.facts
    obtain ⟨z0, z1, z2, z3, z4, zf, zz⟩ := HQ.out.2.2.1.facts
    go_wp2_with (fail)
    refine (refEnter_any vo xo a.toName a.fid _ HQ.out.2.2.2 HSO.out.2.1 HSO.out.1 HSO.out.2.2).mono ?_
    rintro e w20 ⟨v20, rfl, hc20, hb20⟩
    have H20 : Hid (ApW w a ver w20 ∧ TMap w20 b13 (M.putN xs (M.withV (withE x (M.dropE x.ents a.name)) ver)) ∧ Cont w20 v20 (withE xo (M.putE xo.ents (a.toName, a.fid)))) := ⟨HQ.out.1.next hb20, HQ.out.2.1.below (Nat.le_refl _) hb20, hc20⟩
    clear hc20 hb20
    obtain ⟨f20, d20, dA20, dn20, dc20, eA20, en20, ec20, ve20⟩ := v20
    go_wp2_with (fail)
    refine (refVer_any ⟨f20, d20, dA20, dn20, dc20, eA20, en20, ec20, ve20⟩ (w.heap.size + 1) ver _ H20.out.1.ver).mono ?_
    rintro e w21 ⟨rfl, hb21⟩
    have H21 : Hid (Below w.heap.size w w21 ∧ TMap w21 b13 (M.putN xs (M.withV (withE x (M.dropE x.ents a.name)) ver)) ∧ Cont w21 ⟨f20, d20, dA20, dn20, dc20, eA20, en20, ec20, ver⟩ (M.withV (withE xo (M.putE xo.ents (a.toName, a.fid))) ver)) := ⟨H20.out.1.1.trans (hb21.mono H20.out.1.1.size), H20.out.2.1.below (Nat.le_refl _) hb21, contV (H20.out.2.2.below (Nat.le_refl _) hb21) ver⟩
    clear hb21
    go_wp2_with (fail)
    refine (with_any b13 _ ⟨f20, d20, dA20, dn20, dc20, eA20, en20, ec20, ver⟩ _ w21 H21.out.2.1 H21.out.2.2).mono ?_
    rintro e w22 ⟨b22, rfl, ht22, hb22⟩
    have H22 : Hid (Below w.heap.size w w22 ∧ TMap w22 b22 (M.putN (M.putN xs (M.withV (withE x (M.dropE x.ents a.name)) ver)) (M.withV (withE xo (M.putE xo.ents (a.toName, a.fid))) ver))) := ⟨H21.out.1.trans (hb22.mono H21.out.1.size), ht22⟩
    clear ht22 hb22
    go_wp2_with (fail)
    go_ret2
    exact AppliedM.yes HR4.out H22.out.2 H22.out.1
end Go.Proofs.Ytcjobmbbikfnaac
/-
  TREES WHOSE LISTS STAY: acts that rename.
-/
namespace Go.Proofs.Ytcjobmbbikfnaac
open Go.RowKit
open Go.ChangeMaps (setBlock)
variable [Inhabited BaseN]

set_option maxRecDepth 8000 in
set_option maxHeartbeats 8000000 in
theorem refRenameK_any (bm : Nat) (xs : List M.Nd) (a : AV) (ac : M.Act) (ver : Int) (w : World) (ht : TMapK w bm xs) (ha : ContA w a ac) (hri : M.Rise xs) (hsm : ∀ x ∈ xs, Small x) (hst : a.toName.size ≤ maxLen) (hs1 : ∀ x ∈ xs, (x.ents.length + 1) * 24 ≤ 140737488355328) (hN : ((allF xs).length + 2) * 8 ≤ 140737488355328) (hk : a.kind = 5) :
    Calls Try.prog 15 #[.map (some bm), a.val, .int .i64 ver] w (AppliedMK w (M.renameS xs ac ver)) := by
  have HT : Hid (TMapK w bm xs ∧ ContA w a ac ∧ True) := ⟨ht, ha, trivial⟩
  have HK : Hid (a.fid = ac.fid ∧ a.dir = ac.dir ∧ a.name = ac.name ∧ a.to = ac.to ∧ a.toName = ac.toName) := ⟨ha.2.1, ha.2.2.1, ha.2.2.2.1, ha.2.2.2.2.1, ha.2.2.2.2.2.1⟩
  have HSM : Hid (∀ x ∈ xs, Small x) := hsm
  have HRI : Hid (M.Rise xs) := hri
  have HW : Hid _ := apw_start w a ver
  have HS1 : Hid (∀ x ∈ xs, (x.ents.length + 1) * 24 ≤ 140737488355328) := hs1
  have k1 : (a.kind == 1) = false := by simp [hk]
  have k2 : (a.kind == 2) = false := by simp [hk]
  have k3 : (a.kind == 3) = false := by simp [hk]
  have k4 : (a.kind == 4) = false := by simp [hk]
  have k5 : (a.kind == 5) = true := by simp [hk]
  clear ht ha hk hri hsm hs1
  go_enter Try.func15, Try.ntmps15
  go_upto_region 1 with (fail)
  go_cut [8] from 24 to 24 (fun v W => v = .func (.func 23) #[] #[.pointer (some ⟨w.heap.size + 1, 0, none⟩)] ∧ ApW w a ver W)
  case first =>
    go_wp2_with (fail)
    go_meet
    case rel => exact ⟨rfl, HW.out _ rfl⟩
  obtain ⟨rfl, hw1⟩ := hcut
  rename World => w1
  obtain ⟨a0, a1, a2, a3, a4, a5, a6, af, az⟩ := hw1.2.1.facts
  have H1 : Hid (ApW w a ver w1 ∧ TMapK w1 bm xs ∧ ContA w1 a ac) := ⟨hw1, HT.out.1.below (Nat.le_refl _) hw1.1, HT.out.2.1.below (Nat.le_refl _) hw1.1⟩
  clear hw1 HW
  go_wp2_with (fail)
  refine (refDirK_any bm xs a.dir w1 H1.out.2.1).mono ?_
  rintro e w2 ⟨v, rfl, hdc, hb2⟩
  have H2 : Hid (ApW w a ver w2 ∧ TMapK w2 bm xs ∧ ContA w2 a ac) := ⟨H1.out.1.next hb2, H1.out.2.1.below (Nat.le_refl _) hb2, H1.out.2.2.below (Nat.le_refl _) hb2⟩
  have HDC : Hid ((M.dirS xs a.dir).1 = 0 → ContK w2 v (M.dirS xs a.dir).2) := hdc
  clear hb2 hdc H1 a0 a1 a2 a3 a4 a5 a6 af az
  obtain ⟨a0, a1, a2, a3, a4, a5, a6, af, az⟩ := H2.out.1.2.1.facts
  by_cases hd0 : (M.dirS xs a.dir).1 = 0
  case' neg =>
    have e1 : ((M.dirS xs a.dir).1 != 0) = true := by simp [hd0]
    have HS : Hid ((M.renameS xs ac ver).1 = (M.dirS xs a.dir).1 ∧ (M.dirS xs a.dir).1 ≠ 0) := ⟨by unfold M.renameS; rw [HK.out.2.1] at hd0 ⊢; rw [hold_err hd0, if_pos hd0], hd0⟩
    clear hd0
    go_wp2_with (fail)
    go_ret2
    exact AppliedMK.no HS.out.1 HS.out.2 (H2.out.1.1.trans (((Below.refl _ _).alloc (Nat.le_refl _) _).mono H2.out.1.1.size))
  obtain ⟨x, hx⟩ : ∃ x, (M.dirS xs a.dir).2 = x := ⟨_, rfl⟩
  have HDX : Hid (M.dirS xs a.dir = (0, x)) := by show _ = _; rw [← hx, ← hd0]
  have hfx : M.find xs a.dir = some x := by rw [← hx]; exact (M.dir_ok hd0).1
  have HCX : Hid (ContK w2 v x ∧ Small x ∧ M.RsE x.ents) := ⟨by rw [← hx]; exact HDC.out hd0, HSM.out x (M.find_mem hfx).1, HRI.out.2 x (M.find_mem hfx).1⟩
  rw [hd0]
  clear hd0 hx hfx HDC
  have HWN : Hid (∀ W, W = w2.alloc (.cells #[.int .i64 v.fid, .bool v.dir, .slice v.dA v.dn v.dc, .slice v.eA v.en v.ec, .int .i64 v.ver] 56) → Below w2.heap.size w2 W ∧ Box W w2.heap.size v) := by
    rintro W rfl
    exact ⟨(Below.refl _ _).alloc (Nat.le_refl _) _, Box.new w2 v⟩
  go_wp2_with (fail)
  obtain ⟨q1, q2⟩ := HWN.out _ rfl
  refine (refEntryK_any v x a.name _ (HCX.out.1.below (Nat.le_refl _) q1) HCX.out.2.1).mono ?_
  rintro e w3 ⟨rfl, hb3⟩
  have h23 : Below w2.heap.size w2 w3 := q1.trans (hb3.mono q1.size)
  have H3 : Hid (ApW w a ver w3 ∧ TMapK w3 bm xs ∧ ContA w3 a ac ∧ Box w3 w2.heap.size v ∧ ContK w3 v x) := ⟨H2.out.1.next h23, H2.out.2.1.below (Nat.le_refl _) h23, H2.out.2.2.below (Nat.le_refl _) h23, q2.below hb3 (lt_of_block q2), HCX.out.1.below (Nat.le_refl _) h23⟩
  have HN2 : Hid (w2.heap.size < w3.heap.size ∧ w.heap.size + 1 < w2.heap.size) := ⟨lt_of_block (q2.below hb3 (lt_of_block q2)), lt_of_block H2.out.1.2.2⟩
  clear q1 q2 hb3 h23 H2 HWN a0 a1 a2 a3 a4 a5 a6 af az
  obtain ⟨a0, a1, a2, a3, a4, a5, a6, af, az⟩ := H3.out.1.2.1.facts
  rcases hlk : M.look x.ents a.name with _ | en
  case' none =>
    have HS : Hid ((M.renameS xs ac ver).1 = 6) := by show _ = _; unfold M.renameS; rw [← HK.out.1, ← HK.out.2.1, ← HK.out.2.2.1, hold_none HDX.out hlk]; rfl
    clear hlk
    go_wp2_with (fail)
    go_ret2
    exact AppliedMK.no HS.out (by decide) H3.out.1.1
  obtain ⟨en1, en2⟩ := en
  have hgd : (((some (en1, en2) : Option (ByteArray × Int)).map (·.2)).getD 0) = en2 := rfl
  have hgs : (some (en1, en2) : Option (ByteArray × Int)).isSome = true := rfl
  rw [hgd, hgs]
  clear hgd hgs
  by_cases hen : en2 = a.fid
  case' neg =>
    have e1 : (en2 != a.fid) = true := by simp [hen]
    have HS : Hid ((M.renameS xs ac ver).1 = 13) := by show _ = _; unfold M.renameS; rw [← HK.out.1, ← HK.out.2.1, ← HK.out.2.2.1, hold_other HDX.out hlk hen]; rfl
    clear hlk hen
    go_wp2_with (fail)
    go_ret2
    exact AppliedMK.no HS.out (by decide) H3.out.1.1
  have e1 : (en2 != a.fid) = false := by simp [hen]
  have HHO : Hid (M.holdS xs ac.dir ac.name ac.fid = (0, x)) := by
    rw [← HK.out.1, ← HK.out.2.1, ← HK.out.2.2.1]
    exact hold_yes HDX.out hlk hen
  clear hlk hen
  obtain ⟨vf, fb, hl1, HFB⟩ : ∃ (vf : NV) (fb : Bool), (Instr.lookup 30 (.map (some bm)) (.int .i64 a.fid) true).run Try.prog w3 = .ok (.tuple #[vf.val, .bool fb]) w3 ∧ Hid ((M.find xs a.fid).isSome = fb) := by
    rcases IMap.askK H3.out.2.1 a.fid with ⟨hf, hl⟩ | ⟨vf, xf, hf, hcf, hl⟩
    · exact ⟨NV.zero, false, hl true, by show _ = _; rw [hf]; rfl⟩
    · exact ⟨vf, true, hl true, by show _ = _; rw [hf]; rfl⟩
  have HN5 : Hid (∀ W, W = w3.alloc (.cells #[.int .i64 vf.fid, .bool vf.dir, .slice vf.dA vf.dn vf.dc, .slice vf.eA vf.en vf.ec, .int .i64 vf.ver] 56) → Below w3.heap.size w3 W ∧ W.heap.size = w3.heap.size + 1) := by
    rintro W rfl; exact ⟨(Below.refl _ _).alloc (Nat.le_refl _) _, by simp⟩
  go_wp2_with (fail)
  obtain ⟨q5, q6⟩ := HN5.out _ rfl
  refine (refDirK_any bm xs a.to _ (H3.out.2.1.below (Nat.le_refl _) q5)).mono ?_
  rintro e w6 ⟨vt, rfl, hdt, hb6⟩
  have h36 : Below w3.heap.size w3 w6 := q5.trans (hb6.mono q5.size)
  have H6 : Hid (ApW w a ver w6 ∧ TMapK w6 bm xs ∧ Box w6 w2.heap.size v ∧ ContK w6 v x) := ⟨H3.out.1.next h36, H3.out.2.1.below (Nat.le_refl _) h36, H3.out.2.2.2.1.below h36 (lt_of_block H3.out.2.2.2.1), H3.out.2.2.2.2.below (Nat.le_refl _) h36⟩
  have HDT : Hid ((M.dirS xs a.to).1 = 0 → ContK w6 vt (M.dirS xs a.to).2) := hdt
  clear q5 q6 hb6 h36 hdt H3 HN5 hl1 a0 a1 a2 a3 a4 a5 a6 af az
  obtain ⟨a0, a1, a2, a3, a4, a5, a6, af, az⟩ := H6.out.1.2.1.facts
  by_cases hd0 : (M.dirS xs a.to).1 = 0
  case' neg =>
    have e2 : ((M.dirS xs a.to).1 != 0) = true := by simp [hd0]
    have HS : Hid ((M.renameS xs ac ver).1 = (M.dirS xs a.to).1 ∧ (M.dirS xs a.to).1 ≠ 0) := ⟨by unfold M.renameS; rw [HK.out.2.2.2.1] at hd0 ⊢; rw [HHO.out, if_neg (by simp), if_pos hd0], hd0⟩
    clear hd0
    go_wp2_with (fail)
    go_ret2
    exact AppliedMK.no HS.out.1 HS.out.2 (H6.out.1.1.trans (((Below.refl _ _).alloc (Nat.le_refl _) _).mono H6.out.1.1.size))
  obtain ⟨xt, hxt⟩ : ∃ xt, (M.dirS xs a.to).2 = xt := ⟨_, rfl⟩
  have HTX : Hid (M.dirS xs a.to = (0, xt)) := by show _ = _; rw [← hxt, ← hd0]
  have hft : M.find xs a.to = some xt := by rw [← hxt]; exact (M.dir_ok hd0).1
  have HCT : Hid (ContK w6 vt xt ∧ Small xt ∧ M.RsE xt.ents ∧ xt ∈ xs) := ⟨by rw [← hxt]; exact HDT.out hd0, HSM.out xt (M.find_mem hft).1, HRI.out.2 xt (M.find_mem hft).1, (M.find_mem hft).1⟩
  rw [hd0]
  clear hd0 hxt hft HDT
  have HFR : Hid (M.fromS xs ac = withE x (M.dropE x.ents a.name) ∧ M.toS xs ac = (if a.to = a.dir then withE x (M.dropE x.ents a.name) else xt)) := by
    have h1 : M.fromS xs ac = withE x (M.dropE x.ents a.name) := by unfold M.fromS; rw [HHO.out, ← HK.out.2.2.1]; rfl
    refine ⟨h1, ?_⟩
    unfold M.toS
    rw [h1, ← HK.out.2.2.2.1, ← HK.out.2.1, HTX.out]
  have HWT : Hid (∀ W, W = w6.alloc (.cells #[.int .i64 vt.fid, .bool vt.dir, .slice vt.dA vt.dn vt.dc, .slice vt.eA vt.en vt.ec, .int .i64 vt.ver] 56) → Below w6.heap.size w6 W ∧ Box W w6.heap.size vt) := by
    rintro W rfl
    exact ⟨(Below.refl _ _).alloc (Nat.le_refl _) _, Box.new w6 vt⟩
  go_upto_if 174 with (fail)
  go_cut [178] from 174 to 178 (fun _ W => Below w6.heap.size w6 W ∧ ∃ (vo : NV) (xo : M.Nd), Box W w6.heap.size vo ∧ ContK W vo xo ∧ xo = M.toS xs ac ∧ Small xo ∧ M.RsE xo.ents ∧ (xo.ents.length + 1) * 24 ≤ 140737488355328)
  case first =>
    by_cases htd : a.to = a.dir
    · have t1 : (a.to == a.dir) = true := by simp [htd]
      have HEQ : Hid (xt = x ∧ M.toS xs ac = withE x (M.dropE x.ents a.name)) := by
        refine ⟨?_, by rw [HFR.out.2, if_pos htd]⟩
        have h1 := HTX.out
        rw [htd, HDX.out] at h1
        exact (Prod.mk.inj h1).2.symm
      have SMD : Hid (Small (withE xt (M.dropE xt.ents a.name)) ∧ M.RsE (withE xt (M.dropE xt.ents a.name)).ents ∧ ((withE xt (M.dropE xt.ents a.name)).ents.length + 1) * 24 ≤ 140737488355328) := by
        have h1 : (M.dropE xt.ents a.name).length ≤ xt.ents.length := List.length_filter_le _ _
        have h2 := HS1.out xt HCT.out.2.2.2
        refine ⟨⟨HCT.out.2.1.1, ?_⟩, rs_dropE a.name HCT.out.2.2.1, ?_⟩
        · show (M.dropE xt.ents a.name).length * 24 ≤ _; omega
        · show ((M.dropE xt.ents a.name).length + 1) * 24 ≤ _; omega
      clear htd
      go_wp2_with (fail)
      obtain ⟨q1, q2⟩ := HWT.out _ rfl
      refine (refLeave_own vt xt a.name _ (HCT.out.1.below (Nat.le_refl _) q1).1 HCT.out.2.1).mono ?_
      rintro e w7 ⟨Ao, mo, co, rfl, hoo, hb7⟩
      have h67 : Below w6.heap.size w6 w7 := q1.trans (hb7.mono q1.size)
      have hbx := q2.below hb7 (lt_of_block q2)
      obtain ⟨z0, z1, z2, z3, z4, zf, zz⟩ := hbx.facts
      have hs6 : w6.heap.size < (w6.alloc (.cells #[.int .i64 vt.fid, .bool vt.dir, .slice vt.dA vt.dn vt.dc, .slice vt.eA vt.en vt.ec, .int .i64 vt.ver] 56)).heap.size := by simp
      obtain ⟨vo, hvo⟩ : ∃ vo : NV, vo = ⟨vt.fid, vt.dir, vt.dA, vt.dn, vt.dc, Ao, mo, co, vt.ver⟩ := ⟨_, rfl⟩
      have hbp : Below w6.heap.size w6 (put5 w7 w6.heap.size 0 vo) := put5_below h67 (Nat.le_refl _) _ _
      have hcp := HCT.out.1.below (Nat.le_refl _) hbp
      have hcv : ContK (put5 w7 w6.heap.size 0 vo) vo (withE xt (M.dropE xt.ents a.name)) := by
        have hrow := Row.ofOwn (cs := entCells) ent_len (by decide) (put5_own hoo hs6 0 vo)
        have hown := Lies.own (put5_own hoo hs6 0 vo)
        rw [hvo] at hcp hrow hown ⊢
        exact ⟨⟨hcp.1.1, hcp.1.2.1, hcp.1.2.2.1, hcp.1.2.2.2.1, hrow⟩, hcp.2.1, hown⟩
      rw [← hvo]
      have HR : Hid (Below w6.heap.size w6 (put5 w7 w6.heap.size 0 vo) ∧ Box (put5 w7 w6.heap.size 0 vo) w6.heap.size vo ∧ ContK (put5 w7 w6.heap.size 0 vo) vo (withE xt (M.dropE xt.ents a.name))) := ⟨hbp, put5_box hbx vo, hcv⟩
      clear q1 q2 hoo hb7 h67 hbx hbp hcp hcv hvo hs6
      go_wp2_with (fail)
      go_meet
      case rel => exact ⟨HR.out.1, vo, _, HR.out.2.1, HR.out.2.2, by rw [HEQ.out.2, HEQ.out.1], SMD.out⟩
    · have t1 : (a.to == a.dir) = false := by simp [htd]
      have HEQ : Hid (M.toS xs ac = xt) := by show _ = _; rw [HFR.out.2, if_neg htd]
      clear htd
      go_wp2_with (fail)
      go_meet
      case rel => exact ⟨(HWT.out _ rfl).1, vt, xt, (HWT.out _ rfl).2, HCT.out.1.below (Nat.le_refl _) (HWT.out _ rfl).1, HEQ.out.symm, HCT.out.2.1, HCT.out.2.2.1, HS1.out xt HCT.out.2.2.2⟩
  obtain ⟨hb8, vo, xo, hbo, hco, hxo, hso, hro, hlo⟩ := hcut
  rename World => w8
  have H8 : Hid (ApW w a ver w8 ∧ TMapK w8 bm xs ∧ Box w8 w2.heap.size v ∧ ContK w8 v x ∧ Box w8 w6.heap.size vo ∧ ContK w8 vo xo) := ⟨H6.out.1.next hb8, H6.out.2.1.below (Nat.le_refl _) hb8, H6.out.2.2.1.below hb8 (lt_of_block H6.out.2.2.1), H6.out.2.2.2.below (Nat.le_refl _) hb8, hbo, hco⟩
  have HSO : Hid (Small xo ∧ M.RsE xo.ents ∧ (xo.ents.length + 1) * 24 ≤ 140737488355328) := ⟨hso, hro, hlo⟩
  have HXO : Hid (M.toS xs ac = xo) := hxo.symm
  clear hb8 hbo hco hxo hso hro hlo H6 HWT a0 a1 a2 a3 a4 a5 a6 af az
  obtain ⟨a0, a1, a2, a3, a4, a5, a6, af, az⟩ := H8.out.1.2.1.facts
  obtain ⟨z0, z1, z2, z3, z4, zf, zz⟩ := H8.out.2.2.2.2.1.facts
  have HREN : Hid (M.renameS xs ac ver = if M.freeS xo a.toName ≠ 0 then (M.freeS xo a.toName, []) else (if (M.find xs a.fid).isNone then (12, []) else (@ite _ (M.Reach xs a.fid a.to) (Classical.propDecidable _) (11, []) (0, M.putN (M.putN xs (M.withV (withE x (M.dropE x.ents a.name)) ver)) (M.withV (withE xo (M.putE xo.ents (a.toName, a.fid))) ver))))) := by
    show _ = _
    unfold M.renameS
    rw [HHO.out, if_neg (by simp), ← HK.out.2.2.2.1, HTX.out, if_neg (by simp), HXO.out, HFR.out.1, ← HK.out.1, ← HK.out.2.2.2.2]
    rfl
  go_wp2_with (fail)
  refine (refRoomK_any vo xo a.toName w8 H8.out.2.2.2.2.2 HSO.out.1 hst).mono ?_
  rintro e w9 ⟨rfl, hb9⟩
  have H9 : Hid (ApW w a ver w9 ∧ TMapK w9 bm xs ∧ Box w9 w2.heap.size v ∧ ContK w9 v x ∧ Box w9 w6.heap.size vo ∧ ContK w9 vo xo) := ⟨H8.out.1.next hb9, H8.out.2.1.below (Nat.le_refl _) hb9, H8.out.2.2.1.below hb9 (lt_of_block H8.out.2.2.1), H8.out.2.2.2.1.below (Nat.le_refl _) hb9, H8.out.2.2.2.2.1.below hb9 (lt_of_block H8.out.2.2.2.2.1), H8.out.2.2.2.2.2.below (Nat.le_refl _) hb9⟩
  clear hb9 H8 a0 a1 a2 a3 a4 a5 a6 af az z0 z1 z2 z3 z4 zf zz
  obtain ⟨a0, a1, a2, a3, a4, a5, a6, af, az⟩ := H9.out.1.2.1.facts
  by_cases hfr : M.freeS xo a.toName = 0
  case' neg =>
    have e2 : (M.freeS xo a.toName != 0) = true := by simp [hfr]
    have HS : Hid ((M.renameS xs ac ver).1 = M.freeS xo a.toName ∧ M.freeS xo a.toName ≠ 0) := ⟨by rw [HREN.out, if_pos hfr], hfr⟩
    clear hfr
    go_wp2_with (fail)
    go_ret2
    exact AppliedMK.no HS.out.1 HS.out.2 H9.out.1.1
  have HR2 : Hid (M.renameS xs ac ver = if (M.find xs a.fid).isNone then (12, []) else (@ite _ (M.Reach xs a.fid a.to) (Classical.propDecidable _) (11, []) (0, M.putN (M.putN xs (M.withV (withE x (M.dropE x.ents a.name)) ver)) (M.withV (withE xo (M.putE xo.ents (a.toName, a.fid))) ver)))) := by
    show _ = _; rw [HREN.out, if_neg (by simp [hfr])]
  rw [hfr]
  clear hfr HREN
  cases fb
  case' false =>
    have HS : Hid ((M.renameS xs ac ver).1 = 12) := by
      show _ = _
      rw [HR2.out, if_pos (by have h := HFB.out; cases hq : M.find xs a.fid with | none => rfl | some q => rw [hq] at h; cases h)]
    go_wp2_with (fail)
    go_ret2
    exact AppliedMK.no HS.out (by decide) H9.out.1.1
  have HR3 : Hid (M.renameS xs ac ver = @ite _ (M.Reach xs a.fid a.to) (Classical.propDecidable _) (11, []) (0, M.putN (M.putN xs (M.withV (withE x (M.dropE x.ents a.name)) ver)) (M.withV (withE xo (M.putE xo.ents (a.toName, a.fid))) ver))) := by
    show _ = _
    rw [HR2.out, if_neg (by have h := HFB.out; cases hq : M.find xs a.fid with | none => rw [hq] at h; cases h | some q => simp)]
  clear HR2
  go_wp2_with (fail)
  refine (refWithinK_any bm xs a.to a.fid w9 H9.out.2.1 HSM.out hN).mono ?_
  rintro e w10 ⟨rb, rfl, hwi, hb10⟩
  have H10 : Hid (ApW w a ver w10 ∧ TMapK w10 bm xs ∧ Box w10 w2.heap.size v ∧ ContK w10 v x ∧ Box w10 w6.heap.size vo ∧ ContK w10 vo xo) := ⟨H9.out.1.next hb10, H9.out.2.1.below (Nat.le_refl _) hb10, H9.out.2.2.1.below hb10 (lt_of_block H9.out.2.2.1), H9.out.2.2.2.1.below (Nat.le_refl _) hb10, H9.out.2.2.2.2.1.below hb10 (lt_of_block H9.out.2.2.2.2.1), H9.out.2.2.2.2.2.below (Nat.le_refl _) hb10⟩
  have HWI : Hid (rb = true ↔ M.Reach xs a.fid a.to) := hwi
  clear hb10 hwi H9 a0 a1 a2 a3 a4 a5 a6 af az
  obtain ⟨a0, a1, a2, a3, a4, a5, a6, af, az⟩ := H10.out.1.2.1.facts
  cases rb
  case' true =>
    have HS : Hid ((M.renameS xs ac ver).1 = 11) := by show _ = _; rw [HR3.out, if_pos (HWI.out.1 rfl)]
    go_wp2_with (fail)
    go_ret2
    exact AppliedMK.no HS.out (by decide) H10.out.1.1
  have HR4 : Hid (M.renameS xs ac ver = (0, M.putN (M.putN xs (M.withV (withE x (M.dropE x.ents a.name)) ver)) (M.withV (withE xo (M.putE xo.ents (a.toName, a.fid))) ver))) := by
    show _ = _
    rw [HR3.out, if_neg (fun h => by have := HWI.out.2 h; cases this)]
  clear HR3 HWI
  by_cases htd : a.to = a.dir
  · have t1 : (a.to != a.dir) = false := by simp [htd]
    have HS : Hid (M.renameS xs ac ver = (0, M.putN xs (M.withV (withE xo (M.putE xo.ents (a.toName, a.fid))) ver))) := by
      show _ = _
      rw [HR4.out, put_over HRI.out.1]
      rw [← HXO.out, HFR.out.2, if_pos htd]
      rfl
    have HQ : Hid (ApW w a ver w10 ∧ TMapK w10 bm xs ∧ Box w10 w6.heap.size vo ∧ ContK w10 vo xo) := ⟨H10.out.1, H10.out.2.1, H10.out.2.2.2.2.1, H10.out.2.2.2.2.2⟩
    obtain ⟨z0, z1, z2, z3, z4, zf, zz⟩ := HQ.out.2.2.1.facts
    clear htd
    go_wp2_with (fail)
    refine (refEnterK_any vo xo a.toName a.fid _ HQ.out.2.2.2 HSO.out.2.1 HSO.out.1 HSO.out.2.2).mono ?_
    rintro e w20 ⟨v20, rfl, hc20, hb20⟩
    have H20 : Hid (ApW w a ver w20 ∧ TMapK w20 bm xs ∧ ContK w20 v20 (withE xo (M.putE xo.ents (a.toName, a.fid)))) := ⟨HQ.out.1.next hb20, HQ.out.2.1.below (Nat.le_refl _) hb20, hc20⟩
    clear hc20 hb20
    obtain ⟨f20, d20, dA20, dn20, dc20, eA20, en20, ec20, ve20⟩ := v20
    go_wp2_with (fail)
    refine (refVer_any ⟨f20, d20, dA20, dn20, dc20, eA20, en20, ec20, ve20⟩ (w.heap.size + 1) ver _ H20.out.1.ver).mono ?_
    rintro e w21 ⟨rfl, hb21⟩
    have H21 : Hid (Below w.heap.size w w21 ∧ TMapK w21 bm xs ∧ ContK w21 ⟨f20, d20, dA20, dn20, dc20, eA20, en20, ec20, ver⟩ (M.withV (withE xo (M.putE xo.ents (a.toName, a.fid))) ver)) := ⟨H20.out.1.1.trans (hb21.mono H20.out.1.1.size), H20.out.2.1.below (Nat.le_refl _) hb21, contVK (H20.out.2.2.below (Nat.le_refl _) hb21) ver⟩
    clear hb21
    go_wp2_with (fail)
    refine (withK_any bm _ ⟨f20, d20, dA20, dn20, dc20, eA20, en20, ec20, ver⟩ _ w21 H21.out.2.1 H21.out.2.2).mono ?_
    rintro e w22 ⟨b22, rfl, ht22, hb22⟩
    have H22 : Hid (Below w.heap.size w w22 ∧ TMapK w22 b22 (M.putN xs (M.withV (withE xo (M.putE xo.ents (a.toName, a.fid))) ver))) := ⟨H21.out.1.trans (hb22.mono H21.out.1.size), ht22⟩
    clear ht22 hb22
    go_wp2_with (fail)
    go_ret2
    exact AppliedMK.yes HS.out H22.out.2 H22.out.1
  · have t1 : (a.to != a.dir) = true := by simp [htd]
    clear htd
    obtain ⟨z0, z1, z2, z3, z4, zf, zz⟩ := H10.out.2.2.1.facts
    go_wp2_with (fail)
    refine (refLeaveK_any v x a.name w10 H10.out.2.2.2.1 HCX.out.2.1).mono ?_
    rintro e w11 ⟨v11, rfl, hc11, hb11⟩
    have H11 : Hid (ApW w a ver w11 ∧ TMapK w11 bm xs ∧ Box w11 w6.heap.size vo ∧ ContK w11 vo xo ∧ ContK w11 v11 (withE x (M.dropE x.ents a.name))) := ⟨H10.out.1.next hb11, H10.out.2.1.below (Nat.le_refl _) hb11, H10.out.2.2.2.2.1.below hb11 (lt_of_block H10.out.2.2.2.2.1), H10.out.2.2.2.2.2.below (Nat.le_refl _) hb11, hc11⟩
    clear hc11 hb11 H10 a0 a1 a2 a3 a4 a5 a6 af az z0 z1 z2 z3 z4 zf zz
    obtain ⟨f11, d11, dA11, dn11, dc11, eA11, en11, ec11, ve11⟩ := v11
    go_wp2_with (fail)
    refine (refVer_any ⟨f11, d11, dA11, dn11, dc11, eA11, en11, ec11, ve11⟩ (w.heap.size + 1) ver _ H11.out.1.ver).mono ?_
    rintro e w12 ⟨rfl, hb12⟩
    have H12 : Hid (ApW w a ver w12 ∧ TMapK w12 bm xs ∧ Box w12 w6.heap.size vo ∧ ContK w12 vo xo ∧ ContK w12 ⟨f11, d11, dA11, dn11, dc11, eA11, en11, ec11, ver⟩ (M.withV (withE x (M.dropE x.ents a.name)) ver)) := ⟨H11.out.1.next hb12, H11.out.2.1.below (Nat.le_refl _) hb12, H11.out.2.2.1.below hb12 (lt_of_block H11.out.2.2.1), H11.out.2.2.2.1.below (Nat.le_refl _) hb12, contVK (H11.out.2.2.2.2.below (Nat.le_refl _) hb12) ver⟩
    clear hb12 H11
    go_wp2_with (fail)
    refine (withK_any bm xs ⟨f11, d11, dA11, dn11, dc11, eA11, en11, ec11, ver⟩ _ w12 H12.out.2.1 H12.out.2.2.2.2).mono ?_
    rintro e w13 ⟨b13, rfl, ht13, hb13⟩
    have HQ : Hid (ApW w a ver w13 ∧ TMapK w13 b13 (M.putN xs (M.withV (withE x (M.dropE x.ents a.name)) ver)) ∧ Box w13 w6.heap.size vo ∧ ContK w13 vo xo) := ⟨H12.out.1.next hb13, ht13, H12.out.2.2.1.below hb13 (lt_of_block H12.out.2.2.1), H12.out.2.2.2.1.below (Nat.le_refl _) hb13⟩
    clear ht13 hb13 H12
    obtain ⟨a0, a1, a2, a3, a4, a5, a6, af, az⟩ := HQ.out.1.2.1.facts
    obtain ⟨z0, z1, z2, z3, z4, zf, zz⟩ := HQ.out.2.2.1.facts
    go_wp2_with (fail)
    refine (refEnterK_any vo xo a.toName a.fid _ HQ.out.2.2.2 HSO.out.2.1 HSO.out.1 HSO.out.2.2).mono ?_
    rintro e w20 ⟨v20, rfl, hc20, hb20⟩
    have H20 : Hid (ApW w a ver w20 ∧ TMapK w20 b13 (M.putN xs (M.withV (withE x (M.dropE x.ents a.name)) ver)) ∧ ContK w20 v20 (withE xo (M.putE xo.ents (a.toName, a.fid)))) := ⟨HQ.out.1.next hb20, HQ.out.2.1.below (Nat.le_refl _) hb20, hc20⟩
    clear hc20 hb20
    obtain ⟨f20, d20, dA20, dn20, dc20, eA20, en20, ec20, ve20⟩ := v20
    go_wp2_with (fail)
    refine (refVer_any ⟨f20, d20, dA20, dn20, dc20, eA20, en20, ec20, ve20⟩ (w.heap.size + 1) ver _ H20.out.1.ver).mono ?_
    rintro e w21 ⟨rfl, hb21⟩
    have H21 : Hid (Below w.heap.size w w21 ∧ TMapK w21 b13 (M.putN xs (M.withV (withE x (M.dropE x.ents a.name)) ver)) ∧ ContK w21 ⟨f20, d20, dA20, dn20, dc20, eA20, en20, ec20, ver⟩ (M.withV (withE xo (M.putE xo.ents (a.toName, a.fid))) ver)) := ⟨H20.out.1.1.trans (hb21.mono H20.out.1.1.size), H20.out.2.1.below (Nat.le_refl _) hb21, contVK (H20.out.2.2.below (Nat.le_refl _) hb21) ver⟩
    clear hb21
    go_wp2_with (fail)
    refine (withK_any b13 _ ⟨f20, d20, dA20, dn20, dc20, eA20, en20, ec20, ver⟩ _ w21 H21.out.2.1 H21.out.2.2).mono ?_
    rintro e w22 ⟨b22, rfl, ht22, hb22⟩
    have H22 : Hid (Below w.heap.size w w22 ∧ TMapK w22 b22 (M.putN (M.putN xs (M.withV (withE x (M.dropE x.ents a.name)) ver)) (M.withV (withE xo (M.putE xo.ents (a.toName, a.fid))) ver))) := ⟨H21.out.1.trans (hb22.mono H21.out.1.size), ht22⟩
    clear ht22 hb22
    go_wp2_with (fail)
    go_ret2
    exact AppliedMK.yes HR4.out H22.out.2 H22.out.1
end Go.Proofs.Ytcjobmbbikfnaac
/-
  TREES WHOSE LISTS STAY: Apply, of any act.
-/
namespace Go.Proofs.Ytcjobmbbikfnaac
open Go.RowKit
open Go.ChangeMaps (setBlock)
variable [Inhabited BaseN]

theorem refApplyK_any (bm : Nat) (xs : List M.Nd) (a : AV) (ac : M.Act) (ver : Int) (w : World) (ht : TMapK w bm xs) (ha : ContA w a ac) (hla : Lies w a.dA a.dn 5) (hri : M.Rise xs) (hsm : ∀ x ∈ xs, Small x) (hs1 : ∀ x ∈ xs, (x.ents.length + 1) * 24 ≤ 140737488355328) (hN : ((allF xs).length + 2) * 8 ≤ 140737488355328) (hsn : a.name.size ≤ maxLen) (hst : a.toName.size ≤ maxLen) :
    Calls Try.prog 15 #[.map (some bm), a.val, .int .i64 ver] w (AppliedMK w (M.applyS xs ac ver)) := by
  have hk := ha.1
  by_cases h1 : a.kind = 1
  · have e : M.applyS xs ac ver = M.bringS xs ac ver := by unfold M.applyS; rw [if_pos (.inl (by rw [← hk]; exact h1))]
    rw [e]
    exact refMakeK_any bm xs a ac ver w ht ha hri hsm hsn hs1 h1
  by_cases h2 : a.kind = 2
  · have e : M.applyS xs ac ver = M.bringS xs ac ver := by unfold M.applyS; rw [if_pos (.inr (by rw [← hk]; exact h2))]
    rw [e]
    exact refMkdirK_any bm xs a ac ver w ht ha hri hsm hsn hs1 h2
  have h12 : ¬ (ac.kind = 1 ∨ ac.kind = 2) := by rw [← hk]; exact fun h => h.elim h1 h2
  by_cases h3 : a.kind = 3
  · have e : M.applyS xs ac ver = M.storeS xs ac ver := by unfold M.applyS; rw [if_neg h12, if_pos (by rw [← hk]; exact h3)]
    rw [e]
    exact refStoreK_any bm xs a ac ver w ht ha hla h3
  by_cases h4 : a.kind = 4
  · have e : M.applyS xs ac ver = M.removeS xs ac ver := by unfold M.applyS; rw [if_neg h12, if_neg (by rw [← hk]; exact h3), if_pos (by rw [← hk]; exact h4)]
    rw [e]
    exact refRemoveK_any bm xs a ac ver w ht ha hri hsm h4
  by_cases h5 : a.kind = 5
  · have e : M.applyS xs ac ver = M.renameS xs ac ver := by unfold M.applyS; rw [if_neg h12, if_neg (by rw [← hk]; exact h3), if_neg (by rw [← hk]; exact h4), if_pos (by rw [← hk]; exact h5)]
    rw [e]
    exact refRenameK_any bm xs a ac ver w ht ha hri hsm hst hs1 hN h5
  have e : M.applyS xs ac ver = (1, []) := by unfold M.applyS; rw [if_neg h12, if_neg (by rw [← hk]; exact h3), if_neg (by rw [← hk]; exact h4), if_neg (by rw [← hk]; exact h5)]
  rw [e]
  exact refNoneK_any bm xs a ac ver w ht ha h1 h2 h3 h4 h5
end Go.Proofs.Ytcjobmbbikfnaac
/-
  TREES WHOSE LISTS STAY: Of.
-/
namespace Go.Proofs.Ytcjobmbbikfnaac
open Go.RowKit
open Go.ChangeMaps (setBlock)
variable [Inhabited BaseN]

/-- a tree that came in, its lists where they stay -/
def TreeK (w : World) (A : Option Addr) (n : Nat) (vs : List NV) (xs : List M.Nd) : Prop := Nodes w A n vs ∧ All2 (ContK w) vs xs
theorem TreeK.below {B : Nat} {w w' : World} {A : Option Addr} {n : Nat} {vs : List NV} {xs : List M.Nd} (h : TreeK w A n vs xs) (hB : w.heap.size ≤ B) (hb : Below B w w') : TreeK w' A n vs xs :=
  ⟨h.1.below hB hb, h.2.imp fun _ _ h => h.below hB hb⟩
theorem TreeK.old {w : World} {A : Option Addr} {n : Nat} {vs : List NV} {xs : List M.Nd} (h : Tree w A n vs xs) (hk : w.heap.size ≤ kbase) : TreeK w A n vs xs := ⟨h.1, h.2.imp fun _ _ h => .old h hk⟩
theorem agreeK_nil (w : World) : AgreeK w (fun _ => none) [] := fun _ => .inl ⟨rfl, rfl⟩
/-- so far -/
def OfInvK (w : World) (b : Nat) (xs : List M.Nd) (wr : World) : Prop := (∃ f, IMap wr b f ∧ AgreeK w f xs) ∧ Below w.heap.size w wr
theorem of_stepK {w : World} {b : Nat} {xs ys : List M.Nd} {v : NV} {x : M.Nd} {wr : World} (h : OfInvK w b xs wr) (hwb : w.heap.size ≤ b) (hc : ContK w v x) (hf : ∀ k, M.find ys k = if k = x.fid then some x else M.find xs k) :
    ∃ o : Obj, (Instr.mapUpdate 30 (.map (some b)) (.int .i64 v.fid) v.val).run Try.prog wr = .ok () (setBlock wr b o) ∧ OfInvK w b ys (setBlock wr b o) := by
  obtain ⟨⟨f, hi, ha⟩, hb⟩ := h
  obtain ⟨o, hrun, him⟩ := run_update_map 30 56 Try.underlying30 hi v.fid v.val
  exact ⟨o, hrun, ⟨_, him, agreeK_upd ha hc hf⟩, setBlock_below hb hwb o⟩
theorem OfInvK.alloc {w : World} {b : Nat} {xs : List M.Nd} {wr : World} (h : OfInvK w b xs wr) (o : Obj) : OfInvK w b xs (wr.alloc o) := by
  obtain ⟨⟨f, hi, ha⟩, hb⟩ := h
  exact ⟨⟨f, hi.below (Nat.le_refl _) ((Below.refl _ _).alloc (Nat.le_refl _) o), ha⟩, hb.alloc hb.size o⟩
theorem OfInvK.tmap {w : World} {b : Nat} {xs : List M.Nd} {wr : World} (h : OfInvK w b xs wr) : TMapK wr b xs := by
  obtain ⟨⟨f, hi, ha⟩, hb⟩ := h
  exact ⟨f, hi, ha.below (Nat.le_refl _) hb⟩
set_option maxHeartbeats 2000000 in
theorem ofK_any (A : Option Addr) (n c : Nat) (vs : List NV) (xs : List M.Nd) (w : World) (ht : TreeK w A n vs xs) (hr : M.RsN xs) (hn : n * 72 ≤ 140737488355328) :
    Calls Try.prog 9 #[.slice A n c] w fun e w' => ∃ b, e = .returned (.map (some b)) ∧ TMapK w' b xs ∧ Below w.heap.size w w' := by
  have HT : Hid (TreeK w A n vs xs ∧ M.RsN xs) := ⟨ht, hr⟩
  have HL : Hid (n = xs.length) := by show n = _; rw [ht.1.1, ht.2.1]
  have hmm := @run_makeMap Try.prog
  have H0 : Hid (OfInvK w w.heap.size [] (w.alloc (.map #[] 0))) := ⟨⟨_, IMap.new w, agreeK_nil w⟩, (Below.refl _ _).alloc (Nat.le_refl _) _⟩
  clear ht hr
  go_enter Try.func9, Try.ntmps9
  go_wp2
  go_loopw [9] (fun i wr => ∃ k : Nat, k ≤ n ∧ i = .int .i64 k ∧ OfInvK w w.heap.size (xs.take k) wr) (fun i _ => n - (intOf i).toNat)
  case atStart => exact ⟨0, Nat.zero_le _, rfl, H0.out⟩
  case round =>
    obtain ⟨k, hk, rfl, hinv⟩ := hrel
    have HI : Hid (OfInvK w w.heap.size (xs.take k) wr) := hinv
    have hb := hinv.2
    clear hinv
    by_cases hlt : k < n
    · have hxr := HT.out.1.below (Nat.le_refl _) hb
      obtain ⟨b, o, v, hA, _, hvk, a0, a1, a2, a3, a4⟩ := hxr.1.at hlt
      obtain ⟨x, hxk, hcx⟩ := HT.out.1.2.at hvk
      have HX : Hid (ContK w v x ∧ xs[k]? = some x) := ⟨hcx, hxk⟩
      have HF : Hid (∀ q, M.find (xs.take (k + 1)) q = if q = x.fid then some x else M.find (xs.take k) q) := by
        intro q
        have h1 := rs_takeN (k + 1) HT.out.2
        rw [take_step hxk] at h1 ⊢
        exact find_snoc h1 q
      obtain ⟨ob, hrun, hinv2⟩ := of_stepK (HI.out.alloc (.cells #[.int .i64 v.fid, .bool v.dir, .slice v.dA v.dn v.dc, .slice v.eA v.en v.ec, .int .i64 v.ver] 56)) (Nat.le_refl _) hcx HF.out
      have HI2 : Hid (OfInvK w w.heap.size (xs.take (k + 1)) (setBlock (wr.alloc (.cells #[.int .i64 v.fid, .bool v.dir, .slice v.dA v.dn v.dc, .slice v.eA v.en v.ec, .int .i64 v.ver] 56)) w.heap.size ob)) := hinv2
      have hkn : (k : Int) < (n : Int) := by omega
      have hk0 : (0 : Int) ≤ (k : Int) := by omega
      subst hA
      clear hxr hvk hxk hcx hinv2
      go_wp2
      go_roundw
      case rel => exact ⟨k + 1, by omega, by go_num, HI2.out⟩
      case measure => simp [intOf]; omega
    · have HN : Hid (xs.take k = xs) := by have := HL.out; show _ = _; exact List.take_of_length_le (by omega)
      go_wp2
      go_ret
      have h1 := HI.out
      rw [HN.out] at h1
      exact ⟨_, rfl, h1.tmap, hb⟩
end Go.Proofs.Ytcjobmbbikfnaac
/-
  PACKAGE cert: the state in memory; what it turns, what rests, what is fresh.
-/
namespace Go.Proofs.Ytcjobmbbikfnaac
open Go.RowKit
open Go.ChangeMaps (setBlock)

def intF (f : Int → Option Int) : Int → Option Value := fun k => (f k).map fun x => Value.int .i64 x
def setF (f : Int → Bool) : Int → Option Value := fun k => if f k then some (.agg #[]) else none
/-- the state, in memory -/
structure StM (w : World) (B sb : Nat) (s : M.St) (A : Option Addr) (n c : Nat) (us : List NV) (D : Option Addr) (p q : Nat) (avs : List AV) (b1 b2 b3 : Nat) : Prop where
  box : w.heap[sb]? = some (.cells #[.slice A n c, .int .i64 s.next, .int .i64 s.ver, .slice D p q, .map (some b1), .map (some b2), .map (some b3)] 65 (0, 0))
  tree : OwnT w B A n c us s.tr
  acts : OwnAs w B D p q avs s.done
  m1 : IMap w b1 (intF s.made)
  m2 : IMap w b2 (setF s.tch)
  m3 : IMap w b3 (setF s.ref)
  lo : B ≤ sb ∧ B ≤ b1 ∧ B ≤ b2 ∧ B ≤ b3
  ne : b1 ≠ b2 ∧ b1 ≠ b3 ∧ b2 ≠ b3
theorem StM.facts {w : World} {B sb : Nat} {s : M.St} {A : Option Addr} {n c : Nat} {us : List NV} {D : Option Addr} {p q : Nat} {avs : List AV} {b1 b2 b3 : Nat} (h : StM w B sb s A n c us D p q avs b1 b2 b3) :
    w.cell? ⟨sb, 0, none⟩ = some (.slice A n c) ∧ w.cell? ⟨sb, 1, none⟩ = some (.int .i64 s.next) ∧ w.cell? ⟨sb, 2, none⟩ = some (.int .i64 s.ver) ∧ w.cell? ⟨sb, 3, none⟩ = some (.slice D p q) ∧ w.cell? ⟨sb, 4, none⟩ = some (.map (some b1)) ∧
      w.cell? ⟨sb, 5, none⟩ = some (.map (some b2)) ∧ w.cell? ⟨sb, 6, none⟩ = some (.map (some b3)) ∧ (∀ o, w.frozen? ⟨sb, o, none⟩ = false) ∧ sb < w.heap.size := by
  have hb := h.box
  refine ⟨by simp [World.cell?, hb], by simp [World.cell?, hb], by simp [World.cell?, hb], by simp [World.cell?, hb], by simp [World.cell?, hb], by simp [World.cell?, hb], by simp [World.cell?, hb], fun o => by simp [World.frozen?, hb], lt_of_block hb⟩
theorem StM.below {w w' : World} {B C sb : Nat} {s : M.St} {A : Option Addr} {n c : Nat} {us : List NV} {D : Option Addr} {p q : Nat} {avs : List AV} {b1 b2 b3 : Nat} (h : StM w B sb s A n c us D p q avs b1 b2 b3) (hC : w.heap.size ≤ C) (hb : Below C w w') : StM w' B sb s A n c us D p q avs b1 b2 b3 :=
  ⟨by rw [hb.block sb (by have := lt_of_block h.box; omega)]; exact h.box, h.tree.below hC hb, h.acts.below hC hb, h.m1.below hC hb, h.m2.below hC hb, h.m3.below hC hb, h.lo, h.ne⟩

theorem zeroI (w : World) : (zeroValue 3).run Try.prog w = .ok (.int .i64 0) w := by
  obtain ⟨i3, hi3, hz3, hs3, hb3⟩ := info_parts info3
  simp [zeroValue, typeInfo, hi3, hz3]
theorem infoU : (Try.prog.info? 86).map (fun i => (i.zero, i.size, i.bytes)) = some (some (.agg #[]), 0, 0) := by kernel_rfl
theorem zeroU (w : World) : (zeroValue 86).run Try.prog w = .ok (.agg #[]) w := by
  obtain ⟨i3, hi3, hz3, hs3, hb3⟩ := info_parts infoU
  simp [zeroValue, typeInfo, hi3, hz3]
theorem ask_int {w : World} {b : Nat} {f : Int → Option Int} (h : IMap w b (intF f)) (k : Int) :
    (Instr.lookup 62 (.map (some b)) (.int .i64 k) true).run Try.prog w = .ok (.tuple #[.int .i64 ((f k).getD 0), .bool (f k).isSome]) w := by
  rw [run_lookup_map 62 3 Try.underlying62 (zeroI w) h k true]
  unfold intF
  cases f k <;> rfl
theorem ask_set {w : World} {b : Nat} {f : Int → Bool} (h : IMap w b (setF f)) (k : Int) :
    (Instr.lookup 63 (.map (some b)) (.int .i64 k) true).run Try.prog w = .ok (.tuple #[.agg #[], .bool (f k)]) w := by
  rw [run_lookup_map 63 86 Try.underlying63 (zeroU w) h k true]
  unfold setF
  cases f k <;> rfl

/-- what is turned: the closure's variables -/
theorem turned_any (s : M.St) (a : M.Act) (f : Int) (B sb bm bo bs : Nat) (A : Option Addr) (n c : Nat) (us : List NV) (D : Option Addr) (p q : Nat) (avs : List AV) (b1 b2 b3 : Nat) (w : World) (h : StM w B sb s A n c us D p q avs b1 b2 b3)
    (hm : w.cell? ⟨bm, 0, none⟩ = some (.bool (M.makeB a))) (ho : w.cell? ⟨bo, 0, none⟩ = some (.int .i64 a.fid)) (hp : w.cell? ⟨bs, 0, none⟩ = some (.pointer (some ⟨sb, 0, none⟩))) :
    Calls Try.prog 40 #[.int .i64 f, .pointer (some ⟨bm, 0, none⟩), .pointer (some ⟨bo, 0, none⟩), .pointer (some ⟨bs, 0, none⟩)] w fun e w' => e = .returned (.int .i64 (M.turnS s a f)) ∧ w' = w := by
  obtain ⟨f0, f1, f2, f3, f4, f5, f6, ff, fz⟩ := h.facts
  have hl := ask_int h.m1 f
  by_cases hc : M.makeB a = true
  · rw [hc] at hm
    by_cases he : f = a.fid
    · have HR : Hid (M.turnS s a f = s.next) := by show _ = _; unfold M.turnS; rw [hc]; simp [he]
      have he' : (f == a.fid) = true := by simp [he]
      clear he
      go_enter Try.func40, Try.ntmps40
      go_wp2
      go_ret
      exact ⟨ret_int HR.out.symm, rfl⟩
    · have he' : (f == a.fid) = false := by simp [he]
      cases hmd : s.made f with
      | none =>
        have HR : Hid (M.turnS s a f = f) := by show _ = _; unfold M.turnS; rw [hc, hmd]; simp [he]
        rw [hmd] at hl
        clear he hmd
        go_enter Try.func40, Try.ntmps40
        go_wp2
        go_ret
        exact ⟨ret_int HR.out.symm, rfl⟩
      | some y =>
        have HR : Hid (M.turnS s a f = y) := by show _ = _; unfold M.turnS; rw [hc, hmd]; simp [he]
        rw [hmd] at hl
        clear he hmd
        go_enter Try.func40, Try.ntmps40
        go_wp2
        go_ret
        exact ⟨by rw [HR.out]; rfl, rfl⟩
  · rw [Bool.not_eq_true] at hc
    rw [hc] at hm
    cases hmd : s.made f with
    | none =>
      have HR : Hid (M.turnS s a f = f) := by show _ = _; unfold M.turnS; rw [hc, hmd]; simp
      rw [hmd] at hl
      clear hmd
      go_enter Try.func40, Try.ntmps40
      go_wp2
      go_ret
      exact ⟨ret_int HR.out.symm, rfl⟩
    | some y =>
      have HR : Hid (M.turnS s a f = y) := by show _ = _; unfold M.turnS; rw [hc, hmd]; simp
      rw [hmd] at hl
      clear hmd
      go_enter Try.func40, Try.ntmps40
      go_wp2
      go_ret
      exact ⟨by rw [HR.out]; rfl, rfl⟩

theorem fresh_any (s : M.St) (f : Int) (B sb : Nat) (A : Option Addr) (n c : Nat) (us : List NV) (D : Option Addr) (p q : Nat) (avs : List AV) (b1 b2 b3 : Nat) (w : World) (h : StM w B sb s A n c us D p q avs b1 b2 b3) :
    Calls Try.prog 42 #[.pointer (some ⟨sb, 0, none⟩), .int .i64 f] w fun e w' => e = .returned (.bool (M.freshS s f)) ∧ w' = w := by
  obtain ⟨f0, f1, f2, f3, f4, f5, f6, ff, fz⟩ := h.facts
  have hl := ask_int h.m1 f
  by_cases hn : f < 0
  · have HR : Hid (M.freshS s f = !(s.made f).isSome) := by show _ = _; unfold M.freshS; simp [hn]
    cases hmd : (s.made f).isSome
    all_goals
      rw [hmd] at hl
      have HQ := HR
      unfold Hid at HQ
      rw [hmd] at HQ
      have HS : Hid _ := HQ
      clear HQ HR hmd
      go_enter Try.func42, Try.ntmps42
      go_wp2
      go_ret
      exact ⟨by rw [HS.out]; first | rfl | simp, rfl⟩
  · have HR : Hid (M.freshS s f = false) := by show _ = _; unfold M.freshS; simp [hn]
    go_enter Try.func42, Try.ntmps42
    go_wp2
    go_ret
    exact ⟨by rw [HR.out]; first | rfl | simp [hn], rfl⟩
end Go.Proofs.Ytcjobmbbikfnaac
/-
  PACKAGE cert: the state in memory, as it is written.
-/
namespace Go.Proofs.Ytcjobmbbikfnaac
open Go.RowKit
open Go.ChangeMaps (setBlock)

theorem intF_upd (f : Int → Option Int) (k v : Int) : updF (intF f) k (.int .i64 v) = intF (M.updM f k v) := by
  funext q
  unfold updF intF M.updM
  by_cases h : q = k
  · rw [if_pos h, if_pos h]; rfl
  · rw [if_neg h, if_neg h]
theorem setF_upd (f : Int → Bool) (k : Int) : updF (setF f) k (.agg #[]) = setF (M.updB f [k]) := by
  funext q
  unfold updF setF M.updB
  by_cases h : q = k
  · rw [if_pos h]; simp [h]
  · rw [if_neg h]; simp [h]
theorem updB_snoc (f : Int → Bool) (ks : List Int) (k : Int) : M.updB (M.updB f ks) [k] = M.updB f (ks ++ [k]) := by
  funext q
  unfold M.updB
  simp [Bool.or_assoc]
theorem updB_nil (f : Int → Bool) : M.updB f [] = f := by
  funext q
  unfold M.updB
  simp
section
variable {w : World} {B sb : Nat} {s : M.St} {A : Option Addr} {n c : Nat} {us : List NV} {D : Option Addr} {p q : Nat} {avs : List AV} {b1 b2 b3 : Nat}
theorem StM.apart (h : StM w B sb s A n c us D p q avs b1 b2 b3) : sb ≠ b1 ∧ sb ≠ b2 ∧ sb ≠ b3 := by
  obtain ⟨_, _, e1, _⟩ := h.m1
  obtain ⟨_, _, e2, _⟩ := h.m2
  obtain ⟨_, _, e3, _⟩ := h.m3
  have hb := h.box
  refine ⟨?_, ?_, ?_⟩ <;> (intro e; subst e; first | (rw [hb] at e1; cases e1) | (rw [hb] at e2; cases e2) | (rw [hb] at e3; cases e3))
/-- what a map's new object leaves -/
theorem StM.setMap (h : StM w B sb s A n c us D p q avs b1 b2 b3) {b : Nat} {f : Int → Option Value} (hm : IMap w b f) (hs : sb ≠ b) (o : Obj) :
    (setBlock w b o).heap[sb]? = some (.cells #[.slice A n c, .int .i64 s.next, .int .i64 s.ver, .slice D p q, .map (some b1), .map (some b2), .map (some b3)] 65 (0, 0)) ∧ OwnT (setBlock w b o) B A n c us s.tr ∧ OwnAs (setBlock w b o) B D p q avs s.done :=
  ⟨by rw [setBlock_other hs]; exact h.box, h.tree.keep (.setBlock hm o) (.setBlock hm o) (.setBlock hm o), h.acts.keep (.setBlock hm o) (.setBlock hm o)⟩
theorem StM.made1 (h : StM w B sb s A n c us D p q avs b1 b2 b3) (k v : Int) : ∃ o : Obj, (Instr.mapUpdate 62 (.map (some b1)) (.int .i64 k) (.int .i64 v)).run Try.prog w = .ok () (setBlock w b1 o) ∧ StM (setBlock w b1 o) B sb { s with made := M.updM s.made k v } A n c us D p q avs b1 b2 b3 ∧ Below B w (setBlock w b1 o) ∧ ∀ e, KeepE e w (setBlock w b1 o) := by
  obtain ⟨o, hr, hi⟩ := run_update_map 62 3 Try.underlying62 h.m1 k (.int .i64 v)
  obtain ⟨q1, q2, q3⟩ := h.setMap h.m1 h.apart.1 o
  rw [intF_upd] at hi
  exact ⟨o, hr, ⟨q1, q2, q3, hi, h.m2.setBlock (Ne.symm h.ne.1) o, h.m3.setBlock (Ne.symm h.ne.2.1) o, h.lo, h.ne⟩, setBlock_below (Below.refl _ _) h.lo.2.1 o, fun _ => .setBlock h.m1 o⟩
theorem StM.touch (h : StM w B sb s A n c us D p q avs b1 b2 b3) (k : Int) : ∃ o : Obj, (Instr.mapUpdate 63 (.map (some b2)) (.int .i64 k) (.agg #[])).run Try.prog w = .ok () (setBlock w b2 o) ∧ StM (setBlock w b2 o) B sb { s with tch := M.updB s.tch [k] } A n c us D p q avs b1 b2 b3 ∧ Below B w (setBlock w b2 o) ∧ ∀ e, KeepE e w (setBlock w b2 o) := by
  obtain ⟨o, hr, hi⟩ := run_update_map 63 86 Try.underlying63 h.m2 k (.agg #[])
  obtain ⟨q1, q2, q3⟩ := h.setMap h.m2 h.apart.2.1 o
  rw [setF_upd] at hi
  exact ⟨o, hr, ⟨q1, q2, q3, h.m1.setBlock h.ne.1 o, hi, h.m3.setBlock (Ne.symm h.ne.2.2) o, h.lo, h.ne⟩, setBlock_below (Below.refl _ _) h.lo.2.2.1 o, fun _ => .setBlock h.m2 o⟩
theorem StM.refuse (h : StM w B sb s A n c us D p q avs b1 b2 b3) (k : Int) : ∃ o : Obj, (Instr.mapUpdate 63 (.map (some b3)) (.int .i64 k) (.agg #[])).run Try.prog w = .ok () (setBlock w b3 o) ∧ StM (setBlock w b3 o) B sb { s with ref := M.updB s.ref [k] } A n c us D p q avs b1 b2 b3 ∧ Below B w (setBlock w b3 o) ∧ ∀ e, KeepE e w (setBlock w b3 o) := by
  obtain ⟨o, hr, hi⟩ := run_update_map 63 86 Try.underlying63 h.m3 k (.agg #[])
  obtain ⟨q1, q2, q3⟩ := h.setMap h.m3 h.apart.2.2 o
  rw [setF_upd] at hi
  exact ⟨o, hr, ⟨q1, q2, q3, h.m1.setBlock h.ne.2.1 o, h.m2.setBlock h.ne.2.2 o, hi, h.lo, h.ne⟩, setBlock_below (Below.refl _ _) h.lo.2.2.2 o, fun _ => .setBlock h.m3 o⟩
/-- what a cell of the state leaves -/
theorem StM.cell (h : StM w B sb s A n c us D p q avs b1 b2 b3) (o : Nat) (u : Value) :
    OwnT (w.setCell ⟨sb, o, none⟩ u) B A n c us s.tr ∧ OwnAs (w.setCell ⟨sb, o, none⟩ u) B D p q avs s.done ∧ IMap (w.setCell ⟨sb, o, none⟩ u) b1 (intF s.made) ∧ IMap (w.setCell ⟨sb, o, none⟩ u) b2 (setF s.tch) ∧ IMap (w.setCell ⟨sb, o, none⟩ u) b3 (setF s.ref) ∧ Below B w (w.setCell ⟨sb, o, none⟩ u) ∧ ∀ e, e ≠ 65 → KeepE e w (w.setCell ⟨sb, o, none⟩ u) :=
  ⟨h.tree.keep (.setCell h.box (by decide) o u) (.setCell h.box (by decide) o u) (.setCell h.box (by decide) o u), h.acts.keep (.setCell h.box (by decide) o u) (.setCell h.box (by decide) o u), h.m1.setCell h.box o u, h.m2.setCell h.box o u, h.m3.setCell h.box o u, (Below.refl _ _).setCell (p := ⟨sb, o, none⟩) h.lo.1 u, fun _ he => .setCell h.box (fun k => he k.symm) o u⟩
theorem StM.next1 (h : StM w B sb s A n c us D p q avs b1 b2 b3) (x : Int) : StM (w.setCell ⟨sb, 1, none⟩ (.int .i64 x)) B sb { s with next := x } A n c us D p q avs b1 b2 b3 := by
  obtain ⟨k1, k2, k3, k4, k5, _⟩ := h.cell 1 (.int .i64 x)
  exact ⟨by rw [heap_setCell_same _ _ _ _ _ _ h.box]; rfl, k1, k2, k3, k4, k5, h.lo, h.ne⟩
theorem StM.ver1 (h : StM w B sb s A n c us D p q avs b1 b2 b3) (x : Int) : StM (w.setCell ⟨sb, 2, none⟩ (.int .i64 x)) B sb { s with ver := x } A n c us D p q avs b1 b2 b3 := by
  obtain ⟨k1, k2, k3, k4, k5, _⟩ := h.cell 2 (.int .i64 x)
  exact ⟨by rw [heap_setCell_same _ _ _ _ _ _ h.box]; rfl, k1, k2, k3, k4, k5, h.lo, h.ne⟩
theorem StM.tree1 (h : StM w B sb s A n c us D p q avs b1 b2 b3) {A' : Option Addr} {n' c' : Nat} {us' : List NV} {ys : List M.Nd} (ht : OwnT w B A' n' c' us' ys) : StM (w.setCell ⟨sb, 0, none⟩ (.slice A' n' c')) B sb { s with tr := ys } A' n' c' us' D p q avs b1 b2 b3 := by
  obtain ⟨_, k2, k3, k4, k5, _⟩ := h.cell 0 (.slice A' n' c')
  exact ⟨by rw [heap_setCell_same _ _ _ _ _ _ h.box]; rfl, ht.keep (.setCell h.box (by decide) _ _) (.setCell h.box (by decide) _ _) (.setCell h.box (by decide) _ _), k2, k3, k4, k5, h.lo, h.ne⟩
theorem StM.acts1 (h : StM w B sb s A n c us D p q avs b1 b2 b3) {A' : Option Addr} {n' c' : Nat} {us' : List AV} {ys : List M.Act} (ht : OwnAs w B A' n' c' us' ys) : StM (w.setCell ⟨sb, 3, none⟩ (.slice A' n' c')) B sb { s with done := ys } A n c us A' n' c' us' b1 b2 b3 := by
  obtain ⟨k1, _, k3, k4, k5, _⟩ := h.cell 3 (.slice A' n' c')
  exact ⟨by rw [heap_setCell_same _ _ _ _ _ _ h.box]; rfl, k1, ht.keep (.setCell h.box (by decide) _ _) (.setCell h.box (by decide) _ _), k3, k4, k5, h.lo, h.ne⟩
/-- behind an append onto the acts that were done -/
theorem StM.grown {w' : World} {v' : Value} {n' : Nat} {B' k' : Nat} {xs' : List Value} (h : StM w B sb s A n c us D p q avs b1 b2 b3) (h' : w.ownsRow B' 43 k' v' n' xs') (hg : w.grownBy w' v'.ownBlock) :
    w'.heap[sb]? = some (.cells #[.slice A n c, .int .i64 s.next, .int .i64 s.ver, .slice D p q, .map (some b1), .map (some b2), .map (some b3)] 65 (0, 0)) ∧ OwnT w' B A n c us s.tr ∧ IMap w' b1 (intF s.made) ∧ IMap w' b2 (setF s.tch) ∧ IMap w' b3 (setF s.ref) ∧ ∀ e, e ≠ 43 → KeepE e w w' :=
  ⟨KeepE.grown h' (by decide) hg _ _ h.box, h.tree.keep (.grown h' (by decide) hg) (.grown h' (by decide) hg) (.grown h' (by decide) hg), h.m1.grown h' hg, h.m2.grown h' hg, h.m3.grown h' hg, fun _ he => .grown h' he hg⟩
end
end Go.Proofs.Ytcjobmbbikfnaac
