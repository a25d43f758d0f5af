/- TEXTS LAID TOGETHER: Crefc, Sameact, Crefs -/
import Derived.Test.YtcjobmbbikfnaacPart16
import Derived.Test.YtcjobmbbikfnaacPart15
import Derived.Test.YtcjobmbbikfnaacPart8
/-
  THE REFERENCE's Judge.
-/
namespace Go.Proofs.Ytcjobmbbikfnaac
open Go.RowKit
open Go.ChangeMaps (setBlock)

set_option maxRecDepth 8000 in
set_option maxHeartbeats 8000000 in
theorem refJudge_any [Inhabited BaseN] (bt0 : Nat) (xs : List M.Nd) (next ver : Int) (C : Option Addr) (p q : Nat) (rvs : List RV) (recs : List M.Rec) (w : World) (ht : TMapK w bt0 xs) (hkb : kbase ≤ w.heap.size) (hg : Fit xs 1048576) (hr : TreeR w C p rvs recs) (hla : ∀ r ∈ rvs, Lies w r.a.dA r.a.dn 5) (hsr : ∀ x ∈ recs, SmallA x.act) (hp : p ≤ 2000000) (hn0 : 0 ≤ next) (hn1 : next ≤ 1000000000000) (hv0 : 0 ≤ ver) (hv1 : ver ≤ 1000000000000) :
    Calls Try.prog 8 #[.map (some bt0), .int .i64 next, .int .i64 ver, .slice C p q] w (RefJudged w (M.judS (M.begS xs next ver) recs) (M.verS (M.begS xs next ver) recs)) := by
  have HT : Hid (TMapK w bt0 xs ∧ kbase ≤ w.heap.size ∧ Fit xs 1048576 ∧ TreeR w C p rvs recs ∧ (∀ r ∈ rvs, Lies w r.a.dA r.a.dn 5) ∧ ∀ x ∈ recs, SmallA x.act) := ⟨ht, hkb, hg, hr, hla, hsr⟩
  have HLN : Hid (p = recs.length) := hr.len
  have HNV : Hid (0 ≤ next ∧ next ≤ 1000000000000 ∧ 0 ≤ ver ∧ ver ≤ 1000000000000) := ⟨hn0, hn1, hv0, hv1⟩
  obtain ⟨iV, hiV, hzV, hsV, hbV⟩ := info_parts infoVd
  obtain ⟨iA, hiA, hzA, hsA, hbA⟩ := info_parts infoA
  have hmm := @run_makeMap Try.prog
  have HW : Hid _ := ref_start w bt0 xs next ver ht hkb
  clear ht hkb hg hr hla hsr hn0 hn1 hv0 hv1
  go_enter Try.func8, Try.ntmps8
  go_wp2_with (fail)
  go_loopw [39] (fun i wr => ∃ (k : Nat) (V : Option Addr) (m d : Nat) (D : Option Addr) (p1 q1 : Nat) (davs : List AV) (bt : Nat), k ≤ p ∧ i = .int .i64 k ∧ Hid (RefM w wr (w.heap.size + 1) (w.heap.size + 1 + 1 + 1) (w.heap.size + 1 + 1) (w.heap.size + 1 + 1 + 1 + 1) (w.heap.size + 1 + 1 + 1 + 1 + 1) (M.judS (M.begS xs next ver) (recs.take k)) (M.verS (M.begS xs next ver) (recs.take k)) V m d D p1 q1 davs bt)) (fun i _ => p - (intOf i).toNat)
  case atStart => exact ⟨0, none, 0, 0, none, 0, 0, [], bt0, Nat.zero_le _, rfl, by rw [List.take_zero]; exact HW.out _ rfl⟩
  case round =>
    obtain ⟨k, V, m, d, D, p1, q1, davs, bt, hk, rfl, HK⟩ := hrel
    have hb := HK.out.below
    have hsz := hb.size
    have hmk : m = k := by
      have h := own_len vd_len (by decide) HK.out.vd
      rw [M.ver_len, List.length_take] at h
      have := HLN.out
      omega
    subst hmk
    clear HW
    by_cases hlt : m < p
    · have htr := HT.out.2.2.2.1.below (Nat.le_refl _) hb
      obtain ⟨g, o, v, rfl, hgb, hvk, c0, c1', c2, c3, c4, c5, c6, c7, c8⟩ := htr.1.at hlt
      obtain ⟨x, hx, hcx⟩ := htr.2.at hvk
      have hcx0 : ContR w v x := HT.out.2.2.2.1.2.2 m v x hvk hx
      have HX : Hid (recs[m]? = some x ∧ ContR wr v x ∧ SmallA x.act ∧ ContR w v x ∧ Lies w v.a.dA v.a.dn 5) := ⟨hx, hcx, HT.out.2.2.2.2.2 x (List.mem_of_getElem? hx), hcx0, HT.out.2.2.2.2.1 v (List.mem_of_getElem? hvk)⟩
      have HWA : Hid _ := boxR_new wr v v.a
      have HNR : Hid (Near next ver m (M.judS (M.begS xs next ver) (recs.take m)) ∧ Fit (M.judS (M.begS xs next ver) (recs.take m)).tr (1048576 + m) ∧ (M.judS (M.begS xs next ver) (recs.take m)).ver = ver + (M.judS (M.begS xs next ver) (recs.take m)).done.length) := by
        have h := near_all xs next ver (recs.take m) (near_beg xs next ver)
        have hl : (recs.take m).length = m := by rw [List.length_take, Nat.min_eq_left (by rw [← HLN.out]; omega)]
        rw [hl, Nat.zero_add] at h
        refine ⟨h, ?_, M.ver_dones _ (by simp [M.begS])⟩
        have h2 := fit_jud (recs.take m) (s := M.begS xs next ver) (N := 1048576) HT.out.2.2.1
        rw [hl] at h2
        exact h2
      have HVV : Hid (M.verS (M.begS xs next ver) (recs.take (m + 1)) = M.verS (M.begS xs next ver) (recs.take m) ++ [M.verdS (M.judS (M.begS xs next ver) (recs.take m)) x] ∧ M.judS (M.begS xs next ver) (recs.take (m + 1)) = M.stepS (M.judS (M.begS xs next ver) (recs.take m)) x) := by rw [take_step hx]; exact ⟨M.ver_snoc _ _ _, M.jud_snoc _ _ _⟩
      clear hvk htr hx hcx hcx0 hb
      generalize M.judS (M.begS xs next ver) (recs.take m) = s at HK HNR HVV
      generalize M.verS (M.begS xs next ver) (recs.take m) = vds at HK HVV
      go_wp2_with (fail)
      obtain ⟨z1, z2, z3, z4⟩ := HWA.out _ rfl
      refine (refFids_any v.a x.act _ (HX.out.2.1.1.below (Nat.le_refl _) z1)).mono ?_
      rintro e w2 ⟨Fa, fc, rfl, hfo, hb2⟩
      rw [z4] at hfo
      have H2 : Hid (RoI wr w2 v ∧ w2.ownsRow (wr.heap.size + 2) 3 1 (.slice Fa (M.fidsS x.act).length fc) (M.fidsS x.act).length ((M.fidsS x.act).map fun f => Value.int .i64 f)) := ⟨RoI.next ⟨z1, z2, z3⟩ hb2, hfo⟩
      obtain ⟨fs, hfs⟩ : ∃ fs, fs = M.fidsS x.act := ⟨_, rfl⟩
      have HFS : Hid (fs = M.fidsS x.act ∧ fs.length ≤ 3) := ⟨hfs, by rw [hfs]; exact fids_len3 _⟩
      rw [← hfs] at H2 ⊢
      have hn3 : fs.length ≤ 3 := HFS.out.2
      clear hfs hfo hb2 z1 z2 z3 z4 HWA
      go_wp2_with (fail)
      go_loopw [17, 48] (fun e i W => ∃ j : Nat, j ≤ fs.length ∧ i = .int .i64 j ∧ e = .int .i64 (if (fs.take j).any s.ref = true then 14 else 0) ∧ Hid (RoI wr W v ∧ W.ownsRow (wr.heap.size + 2) 3 1 (.slice Fa fs.length fc) fs.length (fs.map fun f => Value.int .i64 f))) (fun _ i _ => fs.length - (intOf i).toNat)
      case atStart => exact ⟨0, Nat.zero_le _, rfl, rfl, H2⟩
      case round =>
        obtain ⟨j, hj, rfl, rfl, HJ⟩ := hrel
        rename World => w3
        by_cases hjl : j < fs.length
        · have hrow : Row 1 (fun f : Int => [Value.int .i64 f]) w3 Fa fs.length fs := Row.ofOwn (fun _ => rfl) (by decide) (by rw [fm_ints]; exact HJ.out.2)
          obtain ⟨bf, of, fx, rfl, _, hfx, hc⟩ := Row.at hrow hjl
          have cx0 := hc 0 _ rfl
          simp only [Nat.mul_one, Nat.add_zero] at cx0
          have hl := ask_bool ((HK.out.ml).below (Nat.le_refl _) HJ.out.1.below) fx
          have HST : Hid (∀ e : Int, e = (if s.ref fx = true then 14 else if (fs.take j).any s.ref = true then 14 else 0) → e = (if (fs.take (j + 1)).any s.ref = true then 14 else 0)) := by
            rintro e rfl
            rw [take_step hfx, List.any_append]
            simp only [List.any_cons, List.any_nil, Bool.or_false]
            cases s.ref fx <;> cases (fs.take j).any s.ref <;> simp
          clear hrow hfx hc
          generalize (if (fs.take j).any s.ref = true then (14 : Int) else 0) = e0 at HST ⊢
          cases hrf : s.ref fx
          all_goals
            rw [hrf] at hl HST
            clear hrf
            go_wp2_with (fail)
            go_roundw
            case rel => exact ⟨j + 1, by omega, by go_num, congrArg (Value.int .i64) (HST.out _ (by simp)), HJ⟩
            case measure => simp [intOf]; omega
        · have HE0 : Hid ((fs.take j).any s.ref = M.restS s x.act ∧ RoI wr w3 v) := by
            rw [List.take_of_length_le (by omega), HFS.out.1]
            exact ⟨rfl, HJ.out.1⟩
          clear H2 HJ hn3 HFS
          rw [HE0.out.1]
          obtain ⟨e14, he14⟩ : ∃ e : Int, e = if M.restS s x.act = true then 14 else 0 := ⟨_, rfl⟩
          rw [← he14]
          have H14 : Hid (e14 = if M.restS s x.act = true then 14 else 0) := he14
          clear he14
          obtain ⟨r0, r1, r2, r3, r4, r5, r6, r7, r8, rf, rz⟩ := HE0.out.2.rcd.facts
          obtain ⟨a0, a1, a2, a3, a4, a5, a6, af, az⟩ := HE0.out.2.act.facts
          have HMK : Hid (M.makeB x.act = (decide (v.a.kind = 1) || decide (v.a.kind = 2))) := by show _ = _; rw [HX.out.2.1.1.1]; rfl
          go_upto_region 16 with (fail)
          go_cut [20] from 56 to 63 (fun t W => t = .bool (M.makeB x.act) ∧ Hid (RoI wr W v))
          case first =>
            by_cases h1 : v.a.kind = 1
            · have k1 : (v.a.kind == 1) = true := by simp [h1]
              have E1 : Hid (M.makeB x.act = true) := by show _ = _; rw [HMK.out]; simp [h1]
              clear h1
              go_wp2_with (fail)
              go_meet
              case rel => exact ⟨congrArg Value.bool E1.out.symm, HE0.out.2⟩
            · have k1 : (v.a.kind == 1) = false := by simp [h1]
              by_cases h2 : v.a.kind = 2
              · have k2 : (v.a.kind == 2) = true := by simp [h2]
                have E1 : Hid (M.makeB x.act = true) := by show _ = _; rw [HMK.out]; simp [h2]
                clear h1 h2
                go_wp2_with (fail)
                go_meet
                case rel => exact ⟨congrArg Value.bool E1.out.symm, HE0.out.2⟩
              · have k2 : (v.a.kind == 2) = false := by simp [h2]
                have E1 : Hid (M.makeB x.act = false) := by show _ = _; rw [HMK.out]; simp [h1, h2]
                clear h1 h2
                go_wp2_with (fail)
                go_meet
                case rel => exact ⟨congrArg Value.bool E1.out.symm, HE0.out.2⟩
          obtain ⟨rfl, H4⟩ := hcut
          obtain ⟨mk, hmk⟩ : ∃ b : Bool, b = M.makeB x.act := ⟨_, rfl⟩
          rw [← hmk]
          have HM : Hid (mk = M.makeB x.act) := hmk
          clear hmk
          rename World => w4
          clear HE0 HMK r0 r1 r2 r3 r4 r5 r6 r7 r8 rf rz a0 a1 a2 a3 a4 a5 a6 af az
          obtain ⟨a0, a1, a2, a3, a4, a5, a6, af, az⟩ := H4.out.act.facts
          have HK4 : Hid (RefM w w4 (w.heap.size + 1) (w.heap.size + 1 + 1 + 1) (w.heap.size + 1 + 1) (w.heap.size + 1 + 1 + 1 + 1) (w.heap.size + 1 + 1 + 1 + 1 + 1) s vds V m d D p1 q1 davs bt) := HK.out.call H4.out.below
          obtain ⟨f0, f1, f2, f3, ff, fh⟩ := HK4.out.facts
          have hl := ask_int HK4.out.mh v.a.fid
          obtain ⟨sm, hsm⟩ : ∃ b : Bool, b = (s.made v.a.fid).isSome := ⟨_, rfl⟩
          rw [← hsm] at hl
          have HFID : Hid (v.a.fid = x.act.fid) := HX.out.2.1.1.2.1
          obtain ⟨kb, hkb⟩ : ∃ b : Bool, b = (!M.restS s x.act && (M.makeB x.act && !M.freshS s x.act.fid)) := ⟨_, rfl⟩
          have HG : Hid (kb = (!M.restS s x.act && (mk && (sm || decide (0 ≤ v.a.fid))))) := by
            show _ = _
            rw [hkb, HM.out, hsm]
            unfold M.freshS
            rw [← HFID.out]
            have e1 : decide (v.a.fid < 0) = !decide (0 ≤ v.a.fid) := by by_cases h : v.a.fid < 0 <;> simp [h] <;> omega
            rw [e1]
            cases M.restS s x.act <;> cases M.makeB x.act <;> cases (s.made v.a.fid).isSome <;> cases decide (0 ≤ v.a.fid) <;> rfl
          have HKB : Hid (kb = (!M.restS s x.act && (M.makeB x.act && !M.freshS s x.act.fid))) := hkb
          clear hkb hsm
          have HE1 : Hid (kb = true → errS s x = 2) := fun h => by
            unfold errS
            rw [HKB.out] at h
            rw [Bool.and_eq_true, Bool.not_eq_true'] at h
            rw [if_neg (by rw [h.1]; decide), if_pos h.2]
          have HE2 : Hid (kb = false → e14 = errS s x) := fun h => by
            unfold errS
            rw [HKB.out] at h
            rw [H14.out]
            cases hrs : M.restS s x.act
            · rw [hrs] at h
              rw [if_neg (by decide), if_neg (by decide), if_neg (by rw [show (M.makeB x.act && !M.freshS s x.act.fid) = false from h]; decide)]
            · rfl
          go_upto_region 18 with (fail)
          go_cut [83] from 71 to 83 (fun t W => t = .bool kb ∧ Hid (RoI wr W v))
          case first =>
            clear HE1 HE2
            cases hrs : M.restS s x.act
            case' true =>
              rw [hrs] at HG
              have E1 : Hid _ := HG.out
              obtain rfl : e14 = 14 := by rw [H14.out, hrs]; rfl
              clear hrs
              go_wp2_with (fail)
              go_meet
              case rel => exact ⟨congrArg Value.bool E1.out.symm, H4⟩
            rw [hrs] at HG
            obtain rfl : e14 = 0 := by rw [H14.out, hrs]; rfl
            clear hrs
            cases mk
            case' false =>
              have E1 : Hid _ := HG.out
              go_wp2_with (fail)
              go_meet
              case rel => exact ⟨congrArg Value.bool E1.out.symm, H4⟩
            cases sm
            case' true =>
              have E1 : Hid _ := HG.out
              go_wp2_with (fail)
              go_meet
              case rel => exact ⟨congrArg Value.bool E1.out.symm, H4⟩
            by_cases hn : 0 ≤ v.a.fid
            · have E1 : Hid _ := HG.out
              go_wp2_with (fail)
              go_meet
              case rel => exact ⟨congrArg Value.bool (by rw [E1.out]; simp [hn]), H4⟩
            · have E1 : Hid _ := HG.out
              go_wp2_with (fail)
              go_meet
              case rel => exact ⟨congrArg Value.bool (by rw [E1.out]; simp [hn]), H4⟩
          obtain ⟨rfl, H5⟩ := hcut
          rename World => w5
          go_upto_if 83 with (fail)
          go_cut [17] from 83 to 83 (fun e W => e = .int .i64 (errS s x) ∧ Hid (RoI wr W v))
          case first =>
            cases kb
            · have E1 : Hid _ := HE2.out rfl
              go_wp2_with (fail)
              go_meet
              case rel => exact ⟨congrArg (Value.int .i64) E1.out, H5⟩
            · have E1 : Hid _ := HE1.out rfl
              go_wp2_with (fail)
              go_meet
              case rel => exact ⟨congrArg (Value.int .i64) E1.out.symm, H5⟩
          obtain ⟨rfl, H6⟩ := hcut
          rename World => w6
          clear HE1 HE2 HG HKB H4 H5 H14 HK4 f0 f1 f2 f3 ff fh hl a0 a1 a2 a3 a4 a5 a6 af az
          obtain ⟨e6, he6⟩ : ∃ e : Int, e = errS s x := ⟨_, rfl⟩
          have HE6 : Hid (e6 = errS s x) := he6
          rw [← he6]
          clear he6
          go_upto_if 85 with (fail)
          go_cut [17] from 85 to 206 (fun e W => ∃ (er : Int) (V' : Option Addr) (m' d' : Nat) (D' : Option Addr) (p' q' : Nat) (davs' : List AV) (bt' : Nat), e = .int .i64 er ∧ Hid (MidI w wr W (w.heap.size + 1) (w.heap.size + 1 + 1 + 1) (w.heap.size + 1 + 1) (w.heap.size + 1 + 1 + 1 + 1) (w.heap.size + 1 + 1 + 1 + 1 + 1) s vds v x er V' m' d' D' p' q' davs' bt'))
          case first =>
            by_cases h0 : e6 = 0
            case' neg =>
              have hn0 : (e6 == 0) = false := by simp [h0]
              have E1 : Hid (MidI w wr w6 (w.heap.size + 1) (w.heap.size + 1 + 1 + 1) (w.heap.size + 1 + 1) (w.heap.size + 1 + 1 + 1 + 1) (w.heap.size + 1 + 1 + 1 + 1 + 1) s vds v x e6 V m d D p1 q1 davs bt) := by
                have h := errS_no (s := s) (x := x) (by rw [← HE6.out]; exact h0)
                have hk6 := HK.out.call H6.out.below
                exact ⟨by rw [h, HE6.out], H6.out.act, hk6.below, .inr ⟨h0, hk6⟩⟩
              clear h0
              go_wp2_with (fail)
              go_meet
              case rel => exact ⟨e6, V, m, d, D, p1, q1, davs, bt, rfl, E1⟩
            obtain rfl := h0
            have HT6 : Hid (M.tryS s x = if M.staleS s (M.hereS s x.act) x.ver = true then (13, []) else M.applyS s.tr (M.hereS s x.act) s.ver) := errS_yes HE6.out.symm
            have HWB : Hid _ := boxA_one w6 v.a
            obtain ⟨a0, a1, a2, a3, a4, a5, a6, af, az⟩ := H6.out.act.facts
            go_upto_region 22 with (fail)
            obtain ⟨w7, hw7⟩ : ∃ W, W = w6.alloc (.cells #[.int .i64 v.a.kind, .int .i64 v.a.fid, .int .i64 v.a.dir, .string v.a.name, .int .i64 v.a.to, .string v.a.toName, .slice v.a.dA v.a.dn v.a.dc] 43) := ⟨_, rfl⟩
            have HB7 : Hid (RoB wr w7 v w6.heap.size v.a) := by
              obtain ⟨q1, q2⟩ := HWB.out _ hw7
              have h1 := H6.out.act
              have h2 := lt_of_block h1
              exact ⟨H6.out.next q1, q2, by omega⟩
            rw [← hw7]
            clear hw7 HWB a0 a1 a2 a3 a4 a5 a6 af az
            have HGB : ∃ gb, gb = w6.heap.size := ⟨_, rfl⟩
            obtain ⟨gb, hgb⟩ := HGB
            rw [← hgb] at HB7 ⊢
            clear hgb
            go_cut [] from 87 to 96 (fun W => Hid (RoB wr W v gb ⟨v.a.kind, (s.made v.a.fid).getD v.a.fid, (s.made v.a.dir).getD v.a.dir, v.a.name, v.a.to, v.a.toName, v.a.dA, v.a.dn, v.a.dc⟩))
            case first =>
              obtain ⟨a0, a1, a2, a3, a4, a5, a6, af, az⟩ := HB7.out.ri.act.facts
              obtain ⟨b0, b1, b2, b3, b4, b5, b6, bf, bz⟩ := HB7.out.box.facts
              have HK7 : Hid (RefM w w7.drew (w.heap.size + 1) (w.heap.size + 1 + 1 + 1) (w.heap.size + 1 + 1) (w.heap.size + 1 + 1 + 1 + 1) (w.heap.size + 1 + 1 + 1 + 1 + 1) s vds V m d D p1 q1 davs bt) := (HK.out.call HB7.out.ri.below).call ((Below.refl _ _).drew)
              have HF : Hid (∀ W, W = ((w7.setCell ⟨gb, 1, none⟩ (.int .i64 ((s.made v.a.fid).getD v.a.fid))).setCell ⟨gb, 2, none⟩ (.int .i64 ((s.made v.a.dir).getD v.a.dir))).drew → RoB wr W v gb ⟨v.a.kind, (s.made v.a.fid).getD v.a.fid, (s.made v.a.dir).getD v.a.dir, v.a.name, v.a.to, v.a.toName, v.a.dA, v.a.dn, v.a.dc⟩) := by
                rintro W rfl
                have h1 := HB7.out.set 1 _ (boxA_set1 HB7.out.box ((s.made v.a.fid).getD v.a.fid))
                exact (h1.set 2 _ (boxA_set2 h1.box ((s.made v.a.dir).getD v.a.dir))).next ((Below.refl _ _).drew)
              go_region_with (go_at_call 20; refine (refAt_any _ w w7.drew (w.heap.size + 1) (w.heap.size + 1 + 1 + 1) (w.heap.size + 1 + 1) (w.heap.size + 1 + 1 + 1 + 1) (w.heap.size + 1 + 1 + 1 + 1 + 1) s vds V m d D p1 q1 davs bt HK7.out).mono ?_; rintro e w8 ⟨rfl, rfl⟩)
              all_goals
                go_wp2_with (fail)
                go_meet
                case rel => exact HF.out _ rfl
            rename World => w8
            have H8 : Hid (RoB wr w8 v gb ⟨v.a.kind, (s.made v.a.fid).getD v.a.fid, (s.made v.a.dir).getD v.a.dir, v.a.name, v.a.to, v.a.toName, v.a.dA, v.a.dn, v.a.dc⟩) := hcut
            clear hcut HB7
            have HQ : Hid (v.a.kind = x.act.kind ∧ v.a.fid = x.act.fid ∧ v.a.dir = x.act.dir ∧ v.a.to = x.act.to) := ⟨HX.out.2.1.1.1, HX.out.2.1.1.2.1, HX.out.2.1.1.2.2.1, HX.out.2.1.1.2.2.2.2.1⟩
            go_upto_if 97 with (fail)
            go_cut [] from 97 to 105 (fun W => Hid (RoB wr W v gb ⟨v.a.kind, M.turnS s x.act v.a.fid, M.turnS s x.act v.a.dir, v.a.name, v.a.to, v.a.toName, v.a.dA, v.a.dn, v.a.dc⟩))
            case first =>
              obtain ⟨a0, a1, a2, a3, a4, a5, a6, af, az⟩ := H8.out.ri.act.facts
              obtain ⟨b0, b1, b2, b3, b4, b5, b6, bf, bz⟩ := H8.out.box.facts
              obtain ⟨f0, f1, f2, f3, ff, fh⟩ := (HK.out.call H8.out.ri.below).facts
              cases mk
              · have HE : Hid (∀ f, M.turnS s x.act f = (s.made f).getD f) := fun f => by unfold M.turnS; rw [← HM.out]; rfl
                go_wp2_with (fail)
                go_meet
                case rel => rw [HE.out, HE.out]; exact H8
              · have HE : Hid (∀ f, M.turnS s x.act f = if f = v.a.fid then s.next else (s.made f).getD f) := fun f => by unfold M.turnS; rw [← HM.out, ← HQ.out.2.1]; simp
                have h1 := H8.out.set 1 _ (boxA_set1 H8.out.box s.next)
                obtain ⟨d0, d1, d2, d3, d4, d5, d6, df, dz⟩ := h1.box.facts
                obtain ⟨c0, c1, c2, c3, c4, c5, c6, cf, cz⟩ := h1.ri.act.facts
                by_cases hd : v.a.dir = v.a.fid
                · have hd' : (v.a.dir == v.a.fid) = true := by simp [hd]
                  have h2 := h1.set 2 _ (boxA_set2 h1.box s.next)
                  have HF : Hid (∀ W, W = (w8.setCell ⟨gb, 1, none⟩ (.int .i64 s.next)).setCell ⟨gb, 2, none⟩ (.int .i64 s.next) → RoB wr W v gb ⟨v.a.kind, M.turnS s x.act v.a.fid, M.turnS s x.act v.a.dir, v.a.name, v.a.to, v.a.toName, v.a.dA, v.a.dn, v.a.dc⟩) := by
                    rintro W rfl
                    rw [HE.out, HE.out, if_pos rfl, if_pos hd]
                    exact h2
                  clear hd h1 h2
                  go_wp2_with (fail)
                  go_meet
                  case rel => exact HF.out _ rfl
                · have hd' : (v.a.dir == v.a.fid) = false := by simp [hd]
                  have HF : Hid (∀ W, W = w8.setCell ⟨gb, 1, none⟩ (.int .i64 s.next) → RoB wr W v gb ⟨v.a.kind, M.turnS s x.act v.a.fid, M.turnS s x.act v.a.dir, v.a.name, v.a.to, v.a.toName, v.a.dA, v.a.dn, v.a.dc⟩) := by
                    rintro W rfl
                    rw [HE.out, HE.out, if_pos rfl, if_neg hd]
                    exact h1
                  clear hd h1
                  go_wp2_with (fail)
                  go_meet
                  case rel => exact HF.out _ rfl
            rename World => w9
            have H9 : Hid (RoB wr w9 v gb ⟨v.a.kind, M.turnS s x.act v.a.fid, M.turnS s x.act v.a.dir, v.a.name, v.a.to, v.a.toName, v.a.dA, v.a.dn, v.a.dc⟩) := hcut
            clear hcut H8
            have HK9 : Hid (RefM w w9 (w.heap.size + 1) (w.heap.size + 1 + 1 + 1) (w.heap.size + 1 + 1) (w.heap.size + 1 + 1 + 1 + 1) (w.heap.size + 1 + 1 + 1 + 1 + 1) s vds V m d D p1 q1 davs bt) := HK.out.call H9.out.ri.below
            obtain ⟨a0, a1, a2, a3, a4, a5, a6, af, az⟩ := H9.out.ri.act.facts
            obtain ⟨b0, b1, b2, b3, b4, b5, b6, bf, bz⟩ := H9.out.box.facts
            go_upto_if 111 with (fail)
            go_cut [] from 111 to 116 (fun W => Hid (RoB wr W v gb (bHere s v x)))
            case first =>
              by_cases h5 : v.a.kind = 5
              · have h5' : (v.a.kind == 5) = true := by simp [h5]
                have HF : Hid (∀ W, W = w9.setCell ⟨gb, 4, none⟩ (.int .i64 ((s.made v.a.to).getD v.a.to)) → RoB wr W v gb (bHere s v x)) := by
                  rintro W rfl
                  have h1 := H9.out.set 4 _ (boxA_set4 H9.out.box ((s.made v.a.to).getD v.a.to))
                  have e : bHere s v x = ⟨v.a.kind, M.turnS s x.act v.a.fid, M.turnS s x.act v.a.dir, v.a.name, (s.made v.a.to).getD v.a.to, v.a.toName, v.a.dA, v.a.dn, v.a.dc⟩ := by
                    have hk : x.act.kind = 5 := by rw [← HQ.out.1]; exact h5
                    unfold bHere M.hereS
                    rw [if_pos hk, ← HQ.out.2.1, ← HQ.out.2.2.1, ← HQ.out.2.2.2]
                    have e3 : M.turnS s x.act v.a.to = (s.made v.a.to).getD v.a.to := by unfold M.turnS M.makeB; rw [hk]; rfl
                    rw [e3]
                  rw [e]
                  exact h1
                clear h5
                go_wp2_with (go_at_call 20; refine (refAt_any _ w w9 (w.heap.size + 1) (w.heap.size + 1 + 1 + 1) (w.heap.size + 1 + 1) (w.heap.size + 1 + 1 + 1 + 1) (w.heap.size + 1 + 1 + 1 + 1 + 1) s vds V m d D p1 q1 davs bt HK9.out).mono ?_; rintro e w10 ⟨rfl, hw⟩; rw [hw]; clear hw)
                go_meet
                case rel => exact HF.out _ rfl
              · have h5' : (v.a.kind == 5) = false := by simp [h5]
                have HF : Hid (RoB wr w9 v gb (bHere s v x)) := by
                  have e : bHere s v x = ⟨v.a.kind, M.turnS s x.act v.a.fid, M.turnS s x.act v.a.dir, v.a.name, v.a.to, v.a.toName, v.a.dA, v.a.dn, v.a.dc⟩ := by
                    unfold bHere M.hereS
                    rw [if_neg (by rw [← HQ.out.1]; exact h5), ← HQ.out.2.1, ← HQ.out.2.2.1, ← HQ.out.2.2.2]
                  show RoB _ _ _ _ _
                  rw [e]
                  exact H9.out
                clear h5
                go_wp2_with (fail)
                go_meet
                case rel => exact HF
            rename World => w10
            have H10 : Hid (RoB wr w10 v gb (bHere s v x)) := hcut
            clear hcut H9 HK9 a0 a1 a2 a3 a4 a5 a6 af az b0 b1 b2 b3 b4 b5 b6 bf bz
            have HCB : Hid (ContA w (bHere s v x) (M.hereS s x.act)) := bHere_cont HX.out.2.2.2.1
            have HLB : Hid (Lies w (bHere s v x).dA (bHere s v x).dn 5) := HX.out.2.2.2.2
            have HQB : Hid ((bHere s v x).fid = (M.hereS s x.act).fid ∧ (bHere s v x).kind = x.act.kind) := ⟨rfl, HQ.out.1⟩
            generalize bHere s v x = b at H10 HCB HLB HQB
            have HK10 : Hid (RefM w w10 (w.heap.size + 1) (w.heap.size + 1 + 1 + 1) (w.heap.size + 1 + 1) (w.heap.size + 1 + 1 + 1 + 1) (w.heap.size + 1 + 1 + 1 + 1 + 1) s vds V m d D p1 q1 davs bt) := HK.out.call H10.out.ri.below
            go_upto_region 29 with (fail)
            go_cut [24, 25] from 117 to 124 (fun u t W => ∃ (gn : Nat) (y : NV) (fb : Bool), u = .pointer (some ⟨gn, 0, none⟩) ∧ t = .bool fb ∧ Hid (Box W gn y ∧ (∀ z, M.otherS s.tr (M.hereS s x.act).fid z = (!fb || (y.ver != z))) ∧ RoB wr W v gb b))
            case first =>
              obtain ⟨b0, b1, b2, b3, b4, b5, b6, bf, bz⟩ := H10.out.box.facts
              obtain ⟨f0, f1, f2, f3, ff, fh⟩ := HK10.out.facts
              have HBX : Hid (∀ y : NV, ∀ W, W = w10.alloc (.cells #[.int .i64 y.fid, .bool y.dir, .slice y.dA y.dn y.dc, .slice y.eA y.en y.ec, .int .i64 y.ver] 56) → Box W w10.heap.size y ∧ RoB wr W v gb b) := by
                rintro y W rfl
                exact ⟨Box.new w10 y, H10.out.next ((Below.refl _ _).alloc (Nat.le_refl _) _)⟩
              rcases IMap.askK HK10.out.t b.fid with ⟨hno, hl⟩ | ⟨y, z, hyes, hcy, hl⟩
              · have HO : Hid (∀ z, M.otherS s.tr (M.hereS s x.act).fid z = (!false || (NV.zero.ver != z))) := fun z => by unfold M.otherS; rw [← HQB.out.1, hno]; rfl
                have hl2 := hl true
                clear hno hl
                go_wp2_with (fail)
                go_meet
                case rel => exact ⟨w10.heap.size, NV.zero, false, rfl, rfl, (HBX.out NV.zero _ rfl).1, HO.out, (HBX.out NV.zero _ rfl).2⟩
              · have HO : Hid (∀ u, M.otherS s.tr (M.hereS s x.act).fid u = (!true || (y.ver != u))) := fun u => by
                  unfold M.otherS
                  rw [← HQB.out.1, hyes, hcy.1.2.2.1]
                  by_cases h : z.ver = u <;> simp [h]
                have hl2 := hl true
                clear hyes hcy hl
                go_wp2_with (fail)
                go_meet
                case rel => exact ⟨w10.heap.size, y, true, rfl, rfl, (HBX.out y _ rfl).1, HO.out, (HBX.out y _ rfl).2⟩
            obtain ⟨gn, y, fb, rfl, rfl, H11⟩ := hcut
            rename World => w11
            clear HK10 H10
            have HK11 : Hid (RefM w w11 (w.heap.size + 1) (w.heap.size + 1 + 1 + 1) (w.heap.size + 1 + 1) (w.heap.size + 1 + 1 + 1 + 1) (w.heap.size + 1 + 1 + 1 + 1 + 1) s vds V m d D p1 q1 davs bt) := HK.out.call H11.out.2.2.ri.below
            obtain ⟨st, hst⟩ : ∃ t : Bool, t = M.staleS s (M.hereS s x.act) x.ver := ⟨_, rfl⟩
            obtain ⟨tb, htb⟩ : ∃ t : Bool, t = s.tch b.fid := ⟨_, rfl⟩
            have HST : Hid (st = ((decide (v.a.kind = 3) || decide (v.a.kind = 4)) && decide (0 ≤ v.ver) && !tb && (!fb || (y.ver != v.ver)))) := by
              show _ = _
              rw [hst, htb]
              unfold M.staleS
              rw [H11.out.2.1, HQ.out.1, HQB.out.1, HX.out.2.1.2.1]
              rfl
            have HSV : Hid (st = M.staleS s (M.hereS s x.act) x.ver) := hst
            have hl := ask_bool HK11.out.mo b.fid
            rw [← htb] at hl
            clear hst htb
            go_upto_region 30 with (fail)
            go_cut [155] from 125 to 155 (fun t W => t = .bool st ∧ Hid (RoB wr W v gb b))
            case first =>
              have HR : Hid (RoB wr w11 v gb b) := H11.out.2.2
              obtain ⟨a0, a1, a2, a3, a4, a5, a6, af, az⟩ := H11.out.2.2.ri.act.facts
              obtain ⟨b0, b1, b2, b3, b4, b5, b6, bf, bz⟩ := H11.out.2.2.box.facts
              obtain ⟨r0, r1, r2, r3, r4, r5, r6, r7, r8, rf, rz⟩ := H11.out.2.2.ri.rcd.facts
              obtain ⟨y0, y1, y2, y3, y4, yf, yz⟩ := H11.out.1.facts
              have hk34 : (v.a.kind = 3 ∨ v.a.kind = 4) ∨ ¬ (v.a.kind = 3 ∨ v.a.kind = 4) := Classical.em _
              rcases hk34 with (h3 | h4) | h34
              case' inr =>
                have k3 : (v.a.kind == 3) = false := by simp; exact fun h => h34 (.inl h)
                have k4 : (v.a.kind == 4) = false := by simp; exact fun h => h34 (.inr h)
                have E1 : Hid (st = false) := by
                  show _ = _
                  rw [HST.out, show decide (v.a.kind = 3) = false from k3, show decide (v.a.kind = 4) = false from k4]
                  rfl
                clear h34
                go_wp2_with (fail)
                go_meet
                case rel => exact ⟨congrArg Value.bool E1.out.symm, HR⟩
              case' inl.inl =>
                have k3 : (v.a.kind == 3) = true := by simp [h3]
                have E0 : Hid (st = (decide (0 ≤ v.ver) && !tb && (!fb || (y.ver != v.ver)))) := by
                  show _ = _
                  rw [HST.out, show decide (v.a.kind = 3) = true from k3]
                  rfl
                clear h3
              case' inl.inr =>
                have k3 : (v.a.kind == 3) = false := by simp [h4]
                have k4 : (v.a.kind == 4) = true := by simp [h4]
                have E0 : Hid (st = (decide (0 ≤ v.ver) && !tb && (!fb || (y.ver != v.ver)))) := by
                  show _ = _
                  rw [HST.out, show decide (v.a.kind = 4) = true from k4, Bool.or_true, Bool.true_and]
                clear h4
              all_goals
                by_cases hn : 0 ≤ v.ver
                case' neg =>
                  have E1 : Hid (st = false) := by show _ = _; rw [E0.out]; simp [hn]
                  go_wp2_with (fail)
                  go_meet
                  case rel => exact ⟨congrArg Value.bool E1.out.symm, HR⟩
                cases tb
                case' true =>
                  have E1 : Hid (st = false) := by show _ = _; rw [E0.out]; simp
                  go_wp2_with (fail)
                  go_meet
                  case rel => exact ⟨congrArg Value.bool E1.out.symm, HR⟩
                cases fb
                case' false =>
                  have E1 : Hid (st = true) := by show _ = _; rw [E0.out]; simp [hn]
                  go_wp2_with (fail)
                  go_meet
                  case rel => exact ⟨congrArg Value.bool E1.out.symm, HR⟩
                have E1 : Hid (st = (y.ver != v.ver)) := by show _ = _; rw [E0.out]; simp [hn]
                go_wp2_with (fail)
                go_meet
                case rel => exact ⟨congrArg Value.bool E1.out.symm, HR⟩
            obtain ⟨rfl, H12⟩ := hcut
            rename World => w12
            clear H11 HK11 hl HST
            cases st
            case' true =>
              have E1 : Hid (MidI w wr w12 (w.heap.size + 1) (w.heap.size + 1 + 1 + 1) (w.heap.size + 1 + 1) (w.heap.size + 1 + 1 + 1 + 1) (w.heap.size + 1 + 1 + 1 + 1 + 1) s vds v x 13 V m d D p1 q1 davs bt) := by
                have hk := HK.out.call H12.out.ri.below
                exact ⟨by rw [HT6.out, if_pos HSV.out.symm], H12.out.ri.act, hk.below, .inr ⟨by decide, hk⟩⟩
              go_wp2_with (fail)
              go_meet
              case rel => exact ⟨13, V, m, d, D, p1, q1, davs, bt, rfl, E1⟩
            have HP1 : Hid (p1 = s.done.length) := by
              have h1 := own_len act_len (by decide) HK.out.dn
              have h2 := HK.out.ac.1
              show _ = _
              omega
            have hp1 : p1 ≤ m := by have h1 := HP1.out; have h2 := HNR.out.1.len; omega
            have HT7 : Hid (M.tryS s x = M.applyS s.tr (M.hereS s x.act) (ver + p1)) := by show _ = _; rw [HT6.out, if_neg (by rw [← HSV.out]; decide), HNR.out.2.2, HP1.out]
            have HK12 : Hid (RefM w w12 (w.heap.size + 1) (w.heap.size + 1 + 1 + 1) (w.heap.size + 1 + 1) (w.heap.size + 1 + 1 + 1 + 1) (w.heap.size + 1 + 1 + 1 + 1 + 1) s vds V m d D p1 q1 davs bt) := HK.out.call H12.out.ri.below
            have hv0 := HNV.out.2.2.1
            have hv1 := HNV.out.2.2.2
            have HFW : Hid ((∀ x ∈ s.tr, (x.ents.length + 1) * 24 ≤ 140737488355328) ∧ ((allF s.tr).length + 2) * 8 ≤ 140737488355328) := HNR.out.2.1.wide (by omega)
            have HNM : Hid (b.name.size ≤ maxLen ∧ b.toName.size ≤ maxLen) := by
              have h1 := smallA_here s HX.out.2.2.1
              exact ⟨by rw [HCB.out.2.2.2.1]; exact h1.1, by rw [HCB.out.2.2.2.2.2.1]; exact h1.2.1⟩
            obtain ⟨b0, b1, b2, b3, b4, b5, b6, bf, bz⟩ := H12.out.box.facts
            obtain ⟨f0, f1, f2, f3, ff, fh⟩ := HK12.out.facts
            go_wp2_with (fail)
            refine (refApplyK_any bt s.tr b (M.hereS s x.act) (ver + p1) w12 HK12.out.t (HCB.out.below (Nat.le_refl _) HK12.out.below) (HLB.out.below (Nat.le_refl _) HK12.out.below) HNR.out.2.1.1.1 HNR.out.2.1.1.2.1 HFW.out.1 HFW.out.2 HNM.out.1 HNM.out.2).mono ?_
            rintro e w13 ⟨hb13, mm, rfl, hap⟩
            have H13 : Hid (RoB wr w13 v gb b ∧ RefM w w13 (w.heap.size + 1) (w.heap.size + 1 + 1 + 1) (w.heap.size + 1 + 1) (w.heap.size + 1 + 1 + 1 + 1) (w.heap.size + 1 + 1 + 1 + 1 + 1) s vds V m d D p1 q1 davs bt) := ⟨H12.out.next hb13, HK12.out.call hb13⟩
            have HAS : Hid ((M.applyS s.tr (M.hereS s x.act) (ver + p1)).1 = 0 → ∃ k z, M.find (M.applyS s.tr (M.hereS s x.act) (ver + p1)).2 k = some z) := fun h => M.applied_some h
            clear hb13 H12 HK12 HT6 HFW HNM b0 b1 b2 b3 b4 b5 b6 bf bz f0 f1 f2 f3 ff fh
            generalize M.applyS s.tr (M.hereS s x.act) (ver + p1) = sp at hap HT7 HAS ⊢
            obtain ⟨er, ys⟩ := sp
            dsimp only at hap ⊢
            rcases hap with ⟨rfl, bm, rfl, hT⟩ | ⟨hne, rfl⟩
            case' inr =>
              have hne' : (er == 0) = false := by simp [hne]
              have E1 : Hid (MidI w wr w13 (w.heap.size + 1) (w.heap.size + 1 + 1 + 1) (w.heap.size + 1 + 1) (w.heap.size + 1 + 1 + 1 + 1) (w.heap.size + 1 + 1 + 1 + 1 + 1) s vds v x er V m d D p1 q1 davs bt) := ⟨by rw [HT7.out], H13.out.1.ri.act, H13.out.2.below, .inr ⟨hne, H13.out.2⟩⟩
              clear hne
              go_wp2_with (fail)
              go_meet
              case rel => exact ⟨er, V, m, d, D, p1, q1, davs, bt, rfl, E1⟩
            have H14 : Hid (∀ W, W = w13.setCell ⟨w.heap.size + 1, 2, none⟩ (.map (some bm)) → RefM w W (w.heap.size + 1) (w.heap.size + 1 + 1 + 1) (w.heap.size + 1 + 1) (w.heap.size + 1 + 1 + 1 + 1) (w.heap.size + 1 + 1 + 1 + 1 + 1) { s with tr := ys } vds V m d D p1 q1 davs bm ∧ BoxA W gb b ∧ BoxA W (wr.heap.size + 1) v.a) := by
              rintro W rfl
              obtain ⟨k, z, hf⟩ := HAS.out rfl
              have hob := lt_of_block HK.out.out
              have hgb := H13.out.1.lo
              exact ⟨H13.out.2.setT hT ⟨hT.weak.noInt hf H13.out.2.mh, hT.weak.noSet hf H13.out.2.ml, hT.weak.noSet hf H13.out.2.mo⟩, H13.out.1.box.past (N := wr.heap.size) (by omega) (.setCell hob _ _), H13.out.1.ri.act.past (N := wr.heap.size) (by omega) (.setCell hob _ _)⟩
            have hgb := H13.out.1.lo
            obtain ⟨f0, f1, f2, f3, ff, fh⟩ := H13.out.2.facts
            clear hT HAS
            go_upto_region 36 with (fail)
            obtain ⟨w14, hw14⟩ : ∃ W, W = w13.setCell ⟨w.heap.size + 1, 2, none⟩ (.map (some bm)) := ⟨_, rfl⟩
            have HK14 : Hid _ := H14.out _ hw14
            rw [← hw14]
            clear hw14 H14 f0 f1 f2 f3 ff fh
            have HOB : Hid (w.heap.size + 1 < wr.heap.size ∧ wr.heap.size + 2 ≤ gb ∧ (∀ k, (Value.slice D p1 q1).ownBlock = some k → k < wr.heap.size) ∧ (∀ k, (Value.slice V m d).ownBlock = some k → k < wr.heap.size)) := ⟨lt_of_block HK.out.out, hgb, fun k hk => (HK.out.dn.lt k hk).2, fun k hk => (HK.out.vd.lt k hk).2⟩
            have HWC : Hid _ := boxA_one w14 b
            obtain ⟨f0, f1, f2, f3, ff, fh⟩ := HK14.out.1.facts
            obtain ⟨b0, b1, b2, b3, b4, b5, b6, bf, bz⟩ := HK14.out.2.1.facts
            have hz14 : w.heap.size ≤ w14.heap.size := HK14.out.1.below.size
            go_upto_region 37 with (at_builtin; refine wpList_append_row _ (by rfl) (.tmp 174) (.tmp 176) 26 (by rfl) w.heap.size 43 iA _ 88 Try.underlying26 hiA hzA hsA hbA rfl (by decide) _ p1 _ (by rfl) (own_below HK14.out.1.dn (HWC.out _ rfl).1 (Nat.le_refl _)) (some ⟨w14.heap.size, 0, none⟩) 1 1 [b] (by rfl) (rowA_box (HWC.out _ rfl).2) act_len act_one (by unfold maxLen; omega) (by omega) (by simp; omega) ?_; intro v15 w15 hown15 hg15; obtain ⟨D15, q15, rfl, _, _⟩ := own_form hown15; have hP := (HK14.out.1.call (HWC.out _ rfl).1).pushD HCB.out hown15 hg15; have hPa : Past wr.heap.size w14 w15 := (Past.below (HWC.out _ rfl).1).trans (.grown hg15 HOB.out.2.2.1); have HR : Hid (∀ W, W = w15.setCell ⟨w.heap.size + 1, 1, none⟩ (.slice D15 (p1 + 1) q15) → RefM w W (w.heap.size + 1) (w.heap.size + 1 + 1 + 1) (w.heap.size + 1 + 1) (w.heap.size + 1 + 1 + 1 + 1) (w.heap.size + 1 + 1 + 1 + 1 + 1) { s with tr := ys, done := s.done ++ [M.hereS s x.act] } vds V m d D15 (p1 + 1) q15 (davs ++ [b]) bm ∧ BoxA W gb b ∧ BoxA W (wr.heap.size + 1) v.a) := (fun W hW => ⟨(hP.2.2 W hW).1, by rw [hW]; exact HK14.out.2.1.past (N := wr.heap.size) (by have := HOB.out.2.1; omega) (hPa.trans (.setCell HOB.out.1 _ _)), by rw [hW]; exact HK14.out.2.2.past (N := wr.heap.size) (by omega) (hPa.trans (.setCell HOB.out.1 _ _))⟩); have k1 := hP.1; have j1 : w15.cell? ⟨w.heap.size + 1, 1, none⟩ = some (.slice D p1 q1) := (by simp [World.cell?, k1]); have jf : ∀ o, w15.frozen? ⟨w.heap.size + 1, o, none⟩ = false := (fun o => by simp [World.frozen?, k1]); clear hown15 hg15 hP hPa k1 f0 f1 f2 f3 ff fh b0 b1 b2 b3 b4 b5 b6 bf bz)
            obtain ⟨w16, hw16⟩ : ∃ W, W = w15.setCell ⟨w.heap.size + 1, 1, none⟩ (.slice D15 (p1 + 1) q15) := ⟨_, rfl⟩
            have HK16 : Hid _ := HR.out _ hw16
            rw [← hw16]
            clear hw16 HR j1 jf HWC HK14
            obtain ⟨f0, f1, f2, f3, ff, fh⟩ := HK16.out.1.facts
            obtain ⟨b0, b1, b2, b3, b4, b5, b6, bf, bz⟩ := HK16.out.2.1.facts
            have HWD : Hid _ := rowV_new w16 0 b.fid
            have hz16 : w.heap.size ≤ w16.heap.size := HK16.out.1.below.size
            go_upto_region 38 with (at_builtin; refine wpList_append_row _ (by rfl) (.tmp 180) (.tmp 184) 25 (by rfl) w.heap.size 48 iV _ 16 Try.underlying25 hiV hzV hsV hbV rfl (by decide) _ m _ (by rfl) (own_below HK16.out.1.vd (HWD.out _ rfl).1 (Nat.le_refl _)) (some ⟨w16.heap.size, 0, none⟩) 1 1 [(0, b.fid)] (by rfl) (HWD.out _ rfl).2.1 vd_len vd_one (by unfold maxLen; omega) (by omega) (by simp; omega) ?_; intro v17 w17 hown17 hg17; obtain ⟨V17, d17, rfl, _, _⟩ := own_form hown17; have hP := (HK16.out.1.call (HWD.out _ rfl).1).pushV (0, b.fid) hown17 hg17; have hPa : Past wr.heap.size w16 w17 := (Past.below (HWD.out _ rfl).1).trans (.grown hg17 HOB.out.2.2.2); have HR : Hid (∀ W, W = w17.setCell ⟨w.heap.size + 1, 0, none⟩ (.slice V17 (m + 1) d17) → RefM w W (w.heap.size + 1) (w.heap.size + 1 + 1 + 1) (w.heap.size + 1 + 1) (w.heap.size + 1 + 1 + 1 + 1) (w.heap.size + 1 + 1 + 1 + 1 + 1) { s with tr := ys, done := s.done ++ [M.hereS s x.act] } (vds ++ [(0, b.fid)]) V17 (m + 1) d17 D15 (p1 + 1) q15 (davs ++ [b]) bm ∧ BoxA W gb b ∧ BoxA W (wr.heap.size + 1) v.a) := (fun W hW => ⟨(hP.2.2 W hW).1, by rw [hW]; exact HK16.out.2.1.past (N := wr.heap.size) (by have := HOB.out.2.1; omega) (hPa.trans (.setCell HOB.out.1 _ _)), by rw [hW]; exact HK16.out.2.2.past (N := wr.heap.size) (by omega) (hPa.trans (.setCell HOB.out.1 _ _))⟩); have k1 := hP.1; have j1 : w17.cell? ⟨w.heap.size + 1, 0, none⟩ = some (.slice V m d) := (by simp [World.cell?, k1]); have jf : ∀ o, w17.frozen? ⟨w.heap.size + 1, o, none⟩ = false := (fun o => by simp [World.frozen?, k1]); clear hown17 hg17 hP hPa k1 f0 f1 f2 f3 ff fh b0 b1 b2 b3 b4 b5 b6 bf bz)
            obtain ⟨w18, hw18⟩ : ∃ W, W = w17.setCell ⟨w.heap.size + 1, 0, none⟩ (.slice V17 (m + 1) d17) := ⟨_, rfl⟩
            have HK18 : Hid _ := HR.out _ hw18
            rw [← hw18]
            clear hw18 HR j1 jf HWD HK16
            have HBO : Hid (w.heap.size + 1 + 1 + 1 + 1 + 1 < wr.heap.size ∧ w.heap.size + 1 + 1 < wr.heap.size) := ⟨HK.out.mo.lt, HK.out.mh.lt⟩
            have hn0 : 0 ≤ s.next := by have h1 := HNR.out.1.nlo; have h2 := HNV.out.1; omega
            have hn1 : s.next ≤ 2000000000000 := by have h1 := HNR.out.1.nhi; have h2 := HNV.out.2.1; omega
            obtain ⟨b0, b1, b2, b3, b4, b5, b6, bf, bz⟩ := HK18.out.2.1.facts
            go_wp2_with (fail)
            refine (refFids_any b (M.hereS s x.act) w18 (HCB.out.below (Nat.le_refl _) HK18.out.1.below)).mono ?_
            rintro e w19 ⟨Ga, gc, rfl, hgo, hb19⟩
            have HK19 : Hid (RefM w w19 (w.heap.size + 1) (w.heap.size + 1 + 1 + 1) (w.heap.size + 1 + 1) (w.heap.size + 1 + 1 + 1 + 1) (w.heap.size + 1 + 1 + 1 + 1 + 1) { s with tr := ys, done := s.done ++ [M.hereS s x.act] } (vds ++ [(0, b.fid)]) V17 (m + 1) d17 D15 (p1 + 1) q15 (davs ++ [b]) bm ∧ BoxA w19 (wr.heap.size + 1) v.a ∧ w19.ownsRow w18.heap.size 3 1 (.slice Ga (M.fidsS (M.hereS s x.act)).length gc) (M.fidsS (M.hereS s x.act)).length ((M.fidsS (M.hereS s x.act)).map fun f => Value.int .i64 f)) := ⟨HK18.out.1.call hb19, HK18.out.2.2.below hb19 (lt_of_block HK18.out.2.2), hgo⟩
            obtain ⟨gs, hgs⟩ : ∃ gs, gs = M.fidsS (M.hereS s x.act) := ⟨_, rfl⟩
            have HGS : Hid (gs = M.fidsS (M.hereS s x.act)) := hgs
            have hg3 : gs.length ≤ 3 := by rw [hgs]; exact fids_len3 _
            rw [← hgs] at HK19 ⊢
            clear hgs hgo hb19 HK18 b0 b1 b2 b3 b4 b5 b6 bf bz
            go_wp2_with (fail)
            go_loopw [190] (fun i W => ∃ j : Nat, j ≤ gs.length ∧ i = .int .i64 j ∧ Hid (RefM w W (w.heap.size + 1) (w.heap.size + 1 + 1 + 1) (w.heap.size + 1 + 1) (w.heap.size + 1 + 1 + 1 + 1) (w.heap.size + 1 + 1 + 1 + 1 + 1) { s with tr := ys, done := s.done ++ [M.hereS s x.act], tch := M.updB s.tch (gs.take j) } (vds ++ [(0, b.fid)]) V17 (m + 1) d17 D15 (p1 + 1) q15 (davs ++ [b]) bm ∧ BoxA W (wr.heap.size + 1) v.a ∧ W.ownsRow w18.heap.size 3 1 (.slice Ga gs.length gc) gs.length (gs.map fun f => Value.int .i64 f))) (fun i _ => gs.length - (intOf i).toNat)
            case atStart => exact ⟨0, Nat.zero_le _, rfl, by rw [List.take_zero, updB_nil]; exact HK19⟩
            case round =>
              obtain ⟨j, hj, rfl, HJ⟩ := hrel
              rename World => w20
              by_cases hlt2 : j < gs.length
              · have hrow : Row 1 (fun f : Int => [Value.int .i64 f]) w20 Ga gs.length gs := Row.ofOwn (fun _ => rfl) (by decide) (by rw [fm_ints]; exact HJ.out.2.2)
                obtain ⟨bg, og, gx, rfl, _, hgx, hc⟩ := Row.at hrow hlt2
                have cx0 := hc 0 _ rfl
                simp only [Nat.mul_one, Nat.add_zero] at cx0
                obtain ⟨o2, hl, hst, hkp⟩ := HJ.out.1.ours1 gx
                have HN : Hid (RefM w (setBlock w20 (w.heap.size + 1 + 1 + 1 + 1 + 1) o2) (w.heap.size + 1) (w.heap.size + 1 + 1 + 1) (w.heap.size + 1 + 1) (w.heap.size + 1 + 1 + 1 + 1) (w.heap.size + 1 + 1 + 1 + 1 + 1) { s with tr := ys, done := s.done ++ [M.hereS s x.act], tch := M.updB s.tch (gs.take (j + 1)) } (vds ++ [(0, b.fid)]) V17 (m + 1) d17 D15 (p1 + 1) q15 (davs ++ [b]) bm ∧ BoxA (setBlock w20 (w.heap.size + 1 + 1 + 1 + 1 + 1) o2) (wr.heap.size + 1) v.a ∧ (setBlock w20 (w.heap.size + 1 + 1 + 1 + 1 + 1) o2).ownsRow w18.heap.size 3 1 (.slice (some ⟨bg, og, none⟩) gs.length gc) gs.length (gs.map fun f => Value.int .i64 f)) := by
                  refine ⟨?_, HJ.out.2.1.past (N := wr.heap.size) (by omega) (.setBlock HBO.out.1 _), own_keep HJ.out.2.2 (hkp 3)⟩
                  rw [take_step hgx, ← updB_snoc]
                  exact hst
                clear hrow hgx hc hst hkp
                go_wp2_with (fail)
                go_roundw
                case rel => exact ⟨j + 1, by omega, by go_num, HN⟩
                case measure => simp [intOf]; omega
              · have HK20 : Hid (RefM w w20 (w.heap.size + 1) (w.heap.size + 1 + 1 + 1) (w.heap.size + 1 + 1) (w.heap.size + 1 + 1 + 1 + 1) (w.heap.size + 1 + 1 + 1 + 1 + 1) { s with tr := ys, done := s.done ++ [M.hereS s x.act], tch := M.updB s.tch gs } (vds ++ [(0, b.fid)]) V17 (m + 1) d17 D15 (p1 + 1) q15 (davs ++ [b]) bm ∧ BoxA w20 (wr.heap.size + 1) v.a) := by
                  have h := HJ.out
                  rw [List.take_of_length_le (by omega)] at h
                  exact ⟨h.1, h.2.1⟩
                clear HJ HK19
                obtain ⟨f0, f1, f2, f3, ff, fh⟩ := HK20.out.1.facts
                obtain ⟨a0, a1, a2, a3, a4, a5, a6, af, az⟩ := HK20.out.2.facts
                have HVD : Hid (M.verdS s x = (0, b.fid)) := by show _ = _; rw [M.verd_yes (by rw [HT7.out]), HQB.out.1]
                cases mk
                · have HFIN : Hid (({ s with tr := ys, done := s.done ++ [M.hereS s x.act], tch := M.updB s.tch gs, ver := s.ver + 1 } : M.St) = M.stepS s x) := by
                    show _ = _
                    rw [M.step_yes (by rw [HT7.out]), HT7.out]
                    unfold M.yesS
                    rw [← HM.out, HGS.out]
                    rfl
                  have E1 : Hid (MidI w wr w20 (w.heap.size + 1) (w.heap.size + 1 + 1 + 1) (w.heap.size + 1 + 1) (w.heap.size + 1 + 1 + 1 + 1) (w.heap.size + 1 + 1 + 1 + 1 + 1) s vds v x 0 V17 (m + 1) d17 D15 (p1 + 1) q15 (davs ++ [b]) bm) := ⟨by rw [HT7.out], HK20.out.2, HK20.out.1.below, .inl ⟨rfl, by rw [← HFIN.out, HVD.out]; exact HK20.out.1.ver1 (s.ver + 1)⟩⟩
                  go_wp2_with (fail)
                  go_meet
                  case rel => exact ⟨0, V17, m + 1, d17, D15, p1 + 1, q15, davs ++ [b], bm, rfl, E1⟩
                · obtain ⟨o2, hl, hst, hkp⟩ := HK20.out.1.here1 v.a.fid s.next
                  have hst2 := (hst.next1 (s.next + 1)).ver1 (s.ver + 1)
                  have HFIN : Hid (({ s with tr := ys, done := s.done ++ [M.hereS s x.act], tch := M.updB s.tch gs, made := M.updM s.made v.a.fid s.next, next := s.next + 1, ver := s.ver + 1 } : M.St) = M.stepS s x) := by
                    have hh : (M.hereS s x.act).fid = s.next := by
                      show M.turnS s x.act x.act.fid = s.next
                      unfold M.turnS
                      rw [← HM.out]
                      simp
                    show _ = _
                    rw [M.step_yes (by rw [HT7.out]), HT7.out]
                    unfold M.yesS
                    rw [← HM.out, HGS.out, hh, HQ.out.2.1]
                    rfl
                  have HF : Hid (∀ W, W = (setBlock w20 (w.heap.size + 1 + 1) o2).setCell ⟨w.heap.size + 1, 3, none⟩ (.int .i64 (s.next + 1)) → MidI w wr W (w.heap.size + 1) (w.heap.size + 1 + 1 + 1) (w.heap.size + 1 + 1) (w.heap.size + 1 + 1 + 1 + 1) (w.heap.size + 1 + 1 + 1 + 1 + 1) s vds v x 0 V17 (m + 1) d17 D15 (p1 + 1) q15 (davs ++ [b]) bm) := by
                    rintro W rfl
                    exact ⟨by rw [HT7.out], HK20.out.2.past (N := wr.heap.size) (by omega) ((Past.setBlock HBO.out.2 _).trans (.setCell HOB.out.1 _ _)), hst2.below, .inl ⟨rfl, by rw [← HFIN.out, HVD.out]; exact hst2⟩⟩
                  obtain ⟨g0, g1, g2, g3, gf, gh⟩ := hst.facts
                  obtain ⟨c0, c1, c2, c3, c4, c5, c6, cf, cz⟩ := (HK20.out.2.past (N := wr.heap.size) (by omega) (Past.setBlock HBO.out.2 o2)).facts
                  clear hst hst2 hkp
                  go_wp2_with (fail)
                  go_meet
                  case rel => exact ⟨0, V17, m + 1, d17, D15, p1 + 1, q15, davs ++ [b], bm, rfl, HF.out _ rfl⟩
          obtain ⟨er, V2, m2, d2, D2, p2, q2, davs2, bt2, rfl, HMD⟩ := hcut
          rename World => w21
          rcases HMD.out.2.2.2 with ⟨h0, hk21⟩ | ⟨h0, hk21⟩
          · obtain rfl := h0
            have HN : Hid (RefM w w21 (w.heap.size + 1) (w.heap.size + 1 + 1 + 1) (w.heap.size + 1 + 1) (w.heap.size + 1 + 1 + 1 + 1) (w.heap.size + 1 + 1 + 1 + 1 + 1) (M.judS (M.begS xs next ver) (recs.take (m + 1))) (M.verS (M.begS xs next ver) (recs.take (m + 1))) V2 m2 d2 D2 p2 q2 davs2 bt2) := by
              show RefM _ _ _ _ _ _ _ _ _ _ _ _ _ _ _ _ _
              rw [HVV.out.1, HVV.out.2]
              exact hk21
            clear hk21
            go_wp2_with (fail)
            go_roundw
            case rel => exact ⟨m + 1, V2, m2, d2, D2, p2, q2, davs2, bt2, by omega, by go_num, HN⟩
            case measure => simp [intOf]; omega
          · have hne : (er != 0) = true := by simp [h0]
            have HVN : Hid (M.verdS s x = (er, 0) ∧ M.stepS s x = { s with ref := M.updB s.ref [v.a.fid] }) := by
              have h1 : (M.tryS s x).1 ≠ 0 := by rw [HMD.out.1]; exact h0
              exact ⟨by rw [M.verd_no h1, HMD.out.1], by rw [M.step_no h1]; unfold M.noS; rw [HFID.out]⟩
            have hm2 : m2 = m := by
              have h1 := own_len vd_len (by decide) hk21.vd
              have h2 := own_len vd_len (by decide) HK.out.vd
              omega
            have HK21 : Hid (RefM w w21 (w.heap.size + 1) (w.heap.size + 1 + 1 + 1) (w.heap.size + 1 + 1) (w.heap.size + 1 + 1 + 1 + 1) (w.heap.size + 1 + 1 + 1 + 1 + 1) s vds V2 m2 d2 D2 p2 q2 davs2 bt2 ∧ BoxA w21 (wr.heap.size + 1) v.a) := ⟨hk21, HMD.out.2.1⟩
            have HWD : Hid _ := rowV_new w21 er 0
            obtain ⟨f0, f1, f2, f3, ff, fh⟩ := HK21.out.1.facts
            have hz21 : w.heap.size ≤ w21.heap.size := HK21.out.1.below.size
            have hm3 : m2 ≤ 2000000 := by omega
            clear hk21 HMD h0 hm2
            go_upto_region 48 with (at_builtin; refine wpList_append_row _ (by rfl) (.tmp 210) (.tmp 213) 25 (by rfl) w.heap.size 48 iV _ 16 Try.underlying25 hiV hzV hsV hbV rfl (by decide) _ m2 _ (by rfl) (own_below HK21.out.1.vd (HWD.out _ rfl).1 (Nat.le_refl _)) (some ⟨w21.heap.size, 0, none⟩) 1 1 [(er, 0)] (by rfl) (HWD.out _ rfl).2.1 vd_len vd_one (by unfold maxLen; omega) (by omega) (by simp; omega) ?_; intro v22 w22 hown22 hg22; obtain ⟨V22, d22, rfl, _, _⟩ := own_form hown22; have hP := (HK21.out.1.call (HWD.out _ rfl).1).pushV (er, 0) hown22 hg22; have HR : Hid (∀ W, W = w22.setCell ⟨w.heap.size + 1, 0, none⟩ (.slice V22 (m2 + 1) d22) → RefM w W (w.heap.size + 1) (w.heap.size + 1 + 1 + 1) (w.heap.size + 1 + 1) (w.heap.size + 1 + 1 + 1 + 1) (w.heap.size + 1 + 1 + 1 + 1 + 1) s (vds ++ [(er, 0)]) V22 (m2 + 1) d22 D2 p2 q2 davs2 bt2 ∧ BoxA W (wr.heap.size + 1) v.a) := (fun W hW => ⟨(hP.2.2 W hW).1, (hP.2.2 W hW).2 _ (by decide) _ _ (hP.2.1 _ (by decide) _ _ (HK21.out.2.below (HWD.out _ rfl).1 (lt_of_block HK21.out.2)))⟩); have k1 := hP.1; have j1 : w22.cell? ⟨w.heap.size + 1, 0, none⟩ = some (.slice V2 m2 d2) := (by simp [World.cell?, k1]); have jf : ∀ o, w22.frozen? ⟨w.heap.size + 1, o, none⟩ = false := (fun o => by simp [World.frozen?, k1]); clear hown22 hg22 hP k1 f0 f1 f2 f3 ff fh)
            obtain ⟨w23, hw23⟩ : ∃ W, W = w22.setCell ⟨w.heap.size + 1, 0, none⟩ (.slice V22 (m2 + 1) d22) := ⟨_, rfl⟩
            have HK23 : Hid _ := HR.out _ hw23
            rw [← hw23]
            clear hw23 HR j1 jf HWD HK21
            obtain ⟨a0, a1, a2, a3, a4, a5, a6, af, az⟩ := HK23.out.2.facts
            obtain ⟨o2, hl, hst, hkp⟩ := HK23.out.1.lost1 v.a.fid
            have HN : Hid (RefM w (setBlock w23 (w.heap.size + 1 + 1 + 1 + 1) o2) (w.heap.size + 1) (w.heap.size + 1 + 1 + 1) (w.heap.size + 1 + 1) (w.heap.size + 1 + 1 + 1 + 1) (w.heap.size + 1 + 1 + 1 + 1 + 1) (M.judS (M.begS xs next ver) (recs.take (m + 1))) (M.verS (M.begS xs next ver) (recs.take (m + 1))) V22 (m2 + 1) d22 D2 p2 q2 davs2 bt2) := by
              show RefM _ _ _ _ _ _ _ _ _ _ _ _ _ _ _ _ _
              rw [HVV.out.1, HVV.out.2, HVN.out.1, HVN.out.2]
              exact hst
            clear hst hkp
            go_wp2_with (fail)
            go_roundw
            case rel => exact ⟨m + 1, V22, m2 + 1, d22, D2, p2, q2, davs2, bt2, by omega, by go_num, HN⟩
            case measure => simp [intOf]; omega
    · have HL : Hid (recs.take m = recs) := by show _ = _; exact List.take_of_length_le (by rw [← HLN.out]; omega)
      rw [HL.out] at HK
      have HE : Hid _ := HK.out.last
      obtain ⟨f0, f1, f2, f3, ff, fh⟩ := HK.out.facts
      obtain ⟨z0, z1, z2, z3, zf⟩ := HK.out.rfacts
      go_wp2_with (fail)
      exact bodyPost_ret (v := .agg #[.slice V m d, .slice D p1 q1, .map (some bt), .int .i64 (M.judS (M.begS xs next ver) recs).next]) (by simp [results, Try.results8, go_sem, z0, z1, z2, z3]) rfl (HE.out _ rfl)
end Go.Proofs.Ytcjobmbbikfnaac
/-
  THE REFERENCE's SameAct, of an act and its copy.
-/
namespace Go.Proofs.Ytcjobmbbikfnaac
open Go.RowKit

theorem two_boxesA (w : World) (a b : AV) (W : World) (hW : W = (w.alloc (.cells #[.int .i64 a.kind, .int .i64 a.fid, .int .i64 a.dir, .string a.name, .int .i64 a.to, .string a.toName, .slice a.dA a.dn a.dc] 43)).alloc (.cells #[.int .i64 b.kind, .int .i64 b.fid, .int .i64 b.dir, .string b.name, .int .i64 b.to, .string b.toName, .slice b.dA b.dn b.dc] 43)) : Below w.heap.size w W := by
  subst hW
  exact ((Below.refl _ _).alloc (Nat.le_refl _) _).alloc (by simp) _
set_option maxRecDepth 4000 in
set_option maxHeartbeats 2000000 in
theorem sameAct_any (a b : AV) (x : M.Act) (w : World) (ha : ContA w a x) (hb : ContA w b x) :
    Calls Try.prog 21 #[a.val, b.val] w fun e w' => e = .returned (.bool true) ∧ Below w.heap.size w w' := by
  obtain ⟨k1, f1, d1, n1, t1, m1, A1, l1, c1⟩ := a
  obtain ⟨k2, f2, d2, n2, t2, m2, A2, l2, c2⟩ := b
  obtain ⟨rfl, rfl, rfl, rfl, rfl, rfl, hb1⟩ := ha
  obtain ⟨e1, e2, e3, e4, e5, e6, hb2⟩ := hb
  simp only at e1 e2 e3 e4 e5 e6 hb1 hb2
  subst e1 e2 e3 e4 e5 e6
  have HW : Hid _ := two_boxesA w ⟨x.kind, x.fid, x.dir, x.name, x.to, x.toName, A1, l1, c1⟩ ⟨x.kind, x.fid, x.dir, x.name, x.to, x.toName, A2, l2, c2⟩
  have hwb := two_boxesA w ⟨x.kind, x.fid, x.dir, x.name, x.to, x.toName, A1, l1, c1⟩ ⟨x.kind, x.fid, x.dir, x.name, x.to, x.toName, A2, l2, c2⟩ _ rfl
  have q1 := conv_byts (c := c1) (hb1.below (Nat.le_refl _) hwb)
  have q2 := conv_byts (c := c2) (hb2.below (Nat.le_refl _) hwb)
  simp only at q1 q2
  have y1 := raw_yes x.name
  have y2 := raw_yes x.toName
  have y3 := raw_yes (txt x.data)
  clear hb1 hb2 hwb
  go_enter Try.func21, Try.ntmps21
  go_wp2
  go_ret
  exact ⟨ret_bool (by simp), HW.out _ rfl⟩
end Go.Proofs.Ytcjobmbbikfnaac
/-
  THE REFERENCE's comparisons of chapter 6, of two that are the same.
-/
namespace Go.Proofs.Ytcjobmbbikfnaac
open Go.RowKit

set_option maxHeartbeats 2000000 in
theorem sameVd_any (A B : Option Addr) (n ca cb : Nat) (vs : List (Int × Int)) (w : World) (hx : Row 2 vdCells w A n vs) (hy : Row 2 vdCells w B n vs) (hn : n ≤ 100000000) :
    Calls Try.prog 10 #[.slice A n ca, .slice B n cb] w fun e w' => e = .returned (.bool true) ∧ Below w.heap.size w w' := by
  go_enter Try.func10, Try.ntmps10
  go_wp2_with (fail)
  go_loopw [13] (fun i wr => ∃ k : Nat, k ≤ n ∧ i = .int .i64 k ∧ Below w.heap.size w wr) (fun i _ => n - (intOf i).toNat)
  case atStart => exact ⟨0, Nat.zero_le _, rfl, Below.refl _ _⟩
  case round =>
    obtain ⟨k, hk, rfl, hb⟩ := hrel
    by_cases hlt : k < n
    · have hxr := hx.below (Nat.le_refl _) hb
      have hyr := hy.below (Nat.le_refl _) hb
      obtain ⟨b, o, v, rfl, _, hvk, hc⟩ := Row.at hxr hlt
      obtain ⟨b2, o2, u, rfl, _, huk, hd⟩ := Row.at hyr hlt
      obtain rfl : v = u := by rw [hvk] at huk; exact Option.some.inj huk
      have c0 := hc 0 _ rfl
      have c1 := hc 1 _ rfl
      have d0 := hd 0 _ rfl
      have d1 := hd 1 _ rfl
      simp only [Nat.add_zero] at c0 d0
      rename World => wr
      have HB : Hid (Below w.heap.size w wr.drew) := hb.drew
      clear hx hy hxr hyr hvk huk hc hd hb
      go_upto_region 6 with (fail)
      go_cut [24] from 16 to 24 (fun t W => t = .bool false ∧ Hid (Below w.heap.size w W))
      case first =>
        go_region
        all_goals
          go_wp2_with (fail)
          go_meet
          case rel => exact ⟨rfl, HB⟩
      obtain ⟨rfl, H1⟩ := hcut
      go_wp2_with (fail)
      go_roundw
      case rel => exact ⟨k + 1, by omega, by go_num, H1.out⟩
      case measure => simp [intOf]; omega
    · go_wp2_with (fail)
      go_ret
      exact ⟨rfl, hb⟩

set_option maxRecDepth 8000 in
set_option maxHeartbeats 4000000 in
theorem sameDone_any (A B : Option Addr) (n ca cb : Nat) (vs us : List AV) (xs : List M.Act) (w : World) (hx : Row 7 AV.cells w A n vs) (hy : Row 7 AV.cells w B n us) (ha : All2 (ContA w) vs xs) (hb : All2 (ContA w) us xs) (hn : n ≤ 100000000) :
    Calls Try.prog 11 #[.slice A n ca, .slice B n cb] w fun e w' => e = .returned (.bool true) ∧ Below w.heap.size w w' := by
  have HA : Hid (All2 (ContA w) vs xs ∧ All2 (ContA w) us xs) := ⟨ha, hb⟩
  clear ha hb
  go_enter Try.func11, Try.ntmps11
  go_wp2_with (fail)
  go_loopw [13] (fun i wr => ∃ k : Nat, k ≤ n ∧ i = .int .i64 k ∧ Below w.heap.size w wr) (fun i _ => n - (intOf i).toNat)
  case atStart => exact ⟨0, Nat.zero_le _, rfl, Below.refl _ _⟩
  case round =>
    obtain ⟨k, hk, rfl, hb⟩ := hrel
    by_cases hlt : k < n
    · have hxr := hx.below (Nat.le_refl _) hb
      have hyr := hy.below (Nat.le_refl _) hb
      obtain ⟨b, o, v, rfl, _, hvk, hc⟩ := Row.at hxr hlt
      obtain ⟨b2, o2, u, rfl, _, huk, hd⟩ := Row.at hyr hlt
      obtain ⟨x, hxk, hcx⟩ := HA.out.1.at hvk
      obtain ⟨y, hyk, hcy⟩ := HA.out.2.at huk
      obtain rfl : x = y := by rw [hxk] at hyk; exact Option.some.inj hyk
      have c0 := hc 0 _ rfl
      have c1 := hc 1 _ rfl
      have c2 := hc 2 _ rfl
      have c3 := hc 3 _ rfl
      have c4 := hc 4 _ rfl
      have c5 := hc 5 _ rfl
      have c6 := hc 6 _ rfl
      have d0 := hd 0 _ rfl
      have d1 := hd 1 _ rfl
      have d2 := hd 2 _ rfl
      have d3 := hd 3 _ rfl
      have d4 := hd 4 _ rfl
      have d5 := hd 5 _ rfl
      have d6 := hd 6 _ rfl
      simp only [Nat.add_zero] at c0 d0
      rename World => wr
      have HB : Hid (Below w.heap.size w wr.drew ∧ ContA wr.drew v x ∧ ContA wr.drew u x) := ⟨hb.drew, hcx.below (Nat.le_refl _) hb.drew, hcy.below (Nat.le_refl _) hb.drew⟩
      clear hx hy hxr hyr hvk huk hc hd hb hxk hyk hcx hcy
      go_upto_region 6 with (fail)
      go_cut [25] from 16 to 25 (fun t W => t = .bool false ∧ Hid (Below w.heap.size w W))
      case first =>
        go_region_with (go_at_call 21; refine (sameAct_any v u x wr.drew HB.out.2.1 HB.out.2.2).mono ?_; rintro e w2 ⟨rfl, hb2⟩; have HB2 : Hid (Below w.heap.size w w2) := HB.out.1.trans (hb2.mono HB.out.1.size); clear hb2)
        all_goals
          go_wp2_with (fail)
          go_meet
          case rel => exact ⟨rfl, HB2⟩
      obtain ⟨rfl, H1⟩ := hcut
      go_wp2_with (fail)
      go_roundw
      case rel => exact ⟨k + 1, by omega, by go_num, H1.out⟩
      case measure => simp [intOf]; omega
    · go_wp2_with (fail)
      go_ret
      exact ⟨rfl, hb⟩
end Go.Proofs.Ytcjobmbbikfnaac
