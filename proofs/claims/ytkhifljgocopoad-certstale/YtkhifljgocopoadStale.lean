/-
  THE LAW CertStale, walked: of any tree and any log it answers true, and all that was there stays.
-/
import Derived.Test.YtkhifljgocopoadPart11
import Derived.Test.YtkhifljgocopoadPart7
import Derived.Test.YtkhifljgocopoadPart4
import Derived.Deep.CutRange
namespace Go.Proofs.Ytkhifljgocopoad
open Go.RowKit
open Go.ChangeMaps (setBlock)

/-- a set of numbers, as a map to true -/
def setBf (f : Int → Bool) : Int → Option Value := fun k => if f k then some (.bool true) else none
theorem setBf_upd (f : Int → Bool) (k : Int) : updF (setBf f) k (.bool true) = setBf (M.updB f [k]) := by
  funext q
  unfold updF setBf M.updB
  by_cases h : q = k
  · rw [if_pos h]; simp [h]
  · rw [if_neg h]; simp [h]
theorem infoBo : (Try.prog.info? 4).map (fun i => (i.zero, i.size, i.bytes)) = some (some (.bool false), 1, 1) := by kernel_rfl
theorem zeroBo (w : World) : (zeroValue 4).run Try.prog w = .ok (.bool false) w := by
  obtain ⟨i3, hi3, hz3, hs3, hb3⟩ := info_parts infoBo
  simp [zeroValue, typeInfo, hi3, hz3]
theorem ask_bool {w : World} {b : Nat} {f : Int → Bool} (h : IMap w b (setBf f)) (k : Int) :
    (Instr.lookup 33 (.map (some b)) (.int .i64 k) false).run Try.prog w = .ok (.bool (f k)) w := by
  rw [run_lookup_map 33 4 Try.underlying33 (zeroBo w) h k false]
  unfold setBf
  cases f k <;> rfl
theorem mark_bool {w : World} {b : Nat} {f : Int → Bool} (h : IMap w b (setBf f)) (k : Int) :
    ∃ o : Obj, (Instr.mapUpdate 33 (.map (some b)) (.int .i64 k) (.bool true)).run Try.prog w = .ok () (setBlock w b o) ∧ IMap (setBlock w b o) b (setBf (M.updB f [k])) ∧ ∀ e, KeepE e w (setBlock w b o) := by
  obtain ⟨o, hr, hi⟩ := run_update_map 33 4 Try.underlying33 h k (.bool true)
  rw [setBf_upd] at hi
  exact ⟨o, hr, hi, fun _ => .setBlock h o⟩
theorem same0_mono {xs : List M.Nd} {T T' : Int → Prop} {s : M.St} (h : M.Same0 xs T s) (hT : ∀ f, T f → T' f) : M.Same0 xs T' s := ⟨h.made, fun f x h0 hx hn => h.keep f x h0 hx fun ht => hn (hT f ht)⟩

set_option maxRecDepth 8000 in
set_option maxHeartbeats 8000000 in
theorem stale_law_any (A C : Option Addr) (n c p q : Nat) (vs : List NV) (xs : List M.Nd) (next ver : Int) (rvs : List RV) (recs : List M.Rec) (w : World) (ht : Tree w A n vs xs) (hsm : ∀ x ∈ xs, Small x) (hn : (n + 2) * 72 ≤ 140737488355328) (hr : TreeR w C p rvs recs) (hsr : ∀ x ∈ recs, SmallA x.act) (hp : p * 104 ≤ 140737488355328) :
    Calls Try.prog 3 #[.slice A n c, .int .i64 next, .int .i64 ver, .slice C p q] w fun e w' => e = .returned (.bool true) ∧ Below w.heap.size w w' := by
  have HT : Hid (Tree w A n vs xs ∧ (∀ x ∈ xs, Small x) ∧ TreeR w C p rvs recs ∧ (∀ x ∈ recs, SmallA x.act)) := ⟨ht, hsm, hr, hsr⟩
  have HLN : Hid (p = recs.length ∧ n = xs.length) := ⟨hr.len, by rw [ht.1.1, ht.2.1]⟩
  clear ht hsm hr hsr
  go_enter Try.func3, Try.ntmps3
  go_wp2_with (fail)
  refine (alive6_any _).mono ?_
  rintro e w1 ⟨rfl, hb1⟩
  have H1 : Hid (Below w.heap.size w w1) := hb1
  clear hb1
  by_cases v0 : ver < 0
  case' pos =>
    have dv0 : decide (ver < 0) = true := decide_eq_true v0
    clear v0
    go_wp2_with (fail)
    go_ret
    exact ⟨rfl, H1.out⟩
  have dv0 : decide (ver < 0) = false := decide_eq_false v0
  by_cases v1 : 1000000 < ver
  case' pos =>
    have dv1 : decide (1000000 < ver) = true := decide_eq_true v1
    clear v1
    go_wp2_with (fail)
    go_ret
    exact ⟨rfl, H1.out⟩
  have dv1 : decide (1000000 < ver) = false := decide_eq_false v1
  by_cases n0 : next < 0
  case' pos =>
    have dn0 : decide (next < 0) = true := decide_eq_true n0
    clear n0
    go_wp2_with (fail)
    go_ret
    exact ⟨rfl, H1.out⟩
  have dn0 : decide (next < 0) = false := decide_eq_false n0
  by_cases n1 : 1000000 < next
  case' pos =>
    have dn1 : decide (1000000 < next) = true := decide_eq_true n1
    clear n1
    go_wp2_with (fail)
    go_ret
    exact ⟨rfl, H1.out⟩
  have dn1 : decide (1000000 < next) = false := decide_eq_false n1
  have HNV : Hid (0 ≤ next ∧ next ≤ 1000000 ∧ 0 ≤ ver ∧ ver ≤ 1000000) := ⟨by omega, by omega, by omega, by omega⟩
  clear v0 v1 n0 n1
  go_wp2_with (fail)
  refine (rises_any A n c vs xs _ (HT.out.1.below (Nat.le_refl _) H1.out) (by omega) HT.out.2.1).mono ?_
  rintro e w2 ⟨rfl, hb2⟩
  have H2 : Hid (Below w.heap.size w w2) := H1.out.trans (hb2.mono H1.out.size)
  clear hb2
  cases hrb : riseB xs
  case' false =>
    clear hrb
    go_wp2_with (fail)
    go_ret
    exact ⟨rfl, H2.out⟩
  have HR : Hid (M.Rise xs ∧ Good xs) := ⟨riseB_iff.1 hrb, riseB_iff.1 hrb, HT.out.2.1, by rw [← HLN.out.2]; exact hn⟩
  clear hrb dv0 dv1 dn0 dn1 H1
  go_wp2_with (fail)
  refine (judge_all A C n c p q vs xs next ver rvs recs _ (HT.out.1.below (Nat.le_refl _) H2.out) HR.out.2 (HT.out.2.2.1.below (Nat.le_refl _) H2.out) HT.out.2.2.2 hp HNV.out.1 HNV.out.2.1 HNV.out.2.2.1 HNV.out.2.2.2).mono ?_
  rintro e w3 ⟨V, m, d, D, dp, dq, davs, A', n', c', us', rfl, hv, hd, ht', hb3⟩
  have hm : m = p := by
    have h := own_len vd_len (by decide) hv
    rw [M.ver_len] at h
    rw [h, HLN.out.1]
  subst hm
  have H3 : Hid (Below w.heap.size w w3 ∧ Row 2 vdCells w3 V m (M.verS (M.begS xs next ver) recs)) := ⟨H2.out.trans (hb3.mono H2.out.size), Row.ofOwn vd_len (by decide) hv⟩
  clear hv hd ht' hb3 H2
  go_wp2_with (fail)
  refine (of_any A n c vs xs w3 (HT.out.1.below (Nat.le_refl _) H3.out.1) HR.out.1.1 (by omega)).mono ?_
  rintro e w4 ⟨b0, rfl, ht4, hb4⟩
  have H4 : Hid (Below w.heap.size w w4 ∧ Row 2 vdCells w4 V m (M.verS (M.begS xs next ver) recs) ∧ TMap w4 b0 xs) := ⟨H3.out.1.trans (hb4.mono H3.out.1.size), H3.out.2.below (Nat.le_refl _) hb4, ht4⟩
  have hmm := @run_makeMap Try.prog
  have HM0 : Hid (IMap (w4.alloc (.map #[] 0)) w4.heap.size (setBf fun _ => false) ∧ Below w4.heap.size w4 (w4.alloc (.map #[] 0))) := by
    have e2 : setBf (fun _ => false) = fun _ => none := by funext k; simp [setBf]
    rw [e2]
    exact ⟨IMap.new w4, (Below.refl _ _).alloc (Nat.le_refl _) _⟩
  clear ht4 hb4 H3
  go_wp2_with (fail)
  go_loopw [62] (fun t wr => ∃ (iu : Nat) (f : Int → Bool), iu ≤ m ∧ t = .int .i64 iu ∧ Hid (M.Same0 xs (fun g => f g = true) (M.judS (M.begS xs next ver) (recs.take iu)) ∧ IMap wr w4.heap.size (setBf f) ∧ Below w4.heap.size w4 wr)) (fun t _ => m - (intOf t).toNat)
  case atStart => exact ⟨0, fun _ => false, Nat.zero_le _, rfl, same0_mono (M.same0_beg xs next ver) (fun _ h => h.elim), HM0.out⟩
  case round =>
    obtain ⟨iu, f, hi, rfl, HI⟩ := hrel
    rename World => wo
    have hbo := HI.out.2.2
    have hzo := hbo.size
    by_cases hlt : iu < m
    case' neg =>
      have HE : Hid (Below w.heap.size w wo) := H4.out.1.trans (hbo.mono H4.out.1.size)
      go_wp2_with (fail)
      go_ret
      exact ⟨rfl, HE.out⟩
    have hbw : Below w.heap.size w wo := H4.out.1.trans (hbo.mono H4.out.1.size)
    have hrow := H4.out.2.1.below (Nat.le_refl _) hbo
    have hlog := HT.out.2.2.1.below (Nat.le_refl _) hbw
    obtain ⟨gv, ov, vd, rfl, hgv, hvd, hvc⟩ := Row.at hrow hlt
    obtain ⟨b, o, v, rfl, hgb, hvk, c0, c1, c2, c3, c4, c5, c6, c7, c8⟩ := hlog.1.at hlt
    obtain ⟨x, hx, hcx⟩ := hlog.2.at hvk
    have HX : Hid (recs[iu]? = some x ∧ ContR wo v x) := ⟨hx, hcx⟩
    have HVD : Hid (∀ W, Below wo.heap.size wo W → W.cell? ⟨gv, ov + iu * 2, none⟩ = some (.int .i64 vd.1)) := fun W hb => by
      rw [hb.cell (p := ⟨gv, ov + iu * 2, none⟩) hgv]
      exact hvc 0 _ rfl
    have HLAW : Hid (∀ y, M.find xs v.a.fid = some y → 0 ≤ v.a.fid → f v.a.fid = false → 0 ≤ v.ver → y.ver ≠ v.ver → (v.a.kind = 3 ∨ v.a.kind = 4) → vd.1 ≠ 0) := fun y hy h1 h2 h3 h4 h5 => by
      have e2 := (M.ver_at (M.begS xs next ver) recs hx).symm.trans hvd
      cases e2
      rw [hcx.1.2.1] at hy h1 h2
      rw [hcx.2.1] at h3 h4
      rw [hcx.1.1] at h5
      exact M.stale_law HI.out.1 h1 hy (by rw [h2]; decide) h3 h4 h5
    have HWA : Hid _ := boxR_one wo v
    clear hrow hlog hgv hvd hvc hgb hvk hx hcx hbw
    go_upto_region 12 with (fail)
    go_cut [15, 16] from 64 to 66 (fun u t W => u = .int .i64 iu ∧ t = .pointer (some ⟨wo.heap.size, 0, none⟩) ∧ Hid (Below wo.heap.size wo W ∧ BoxR W wo.heap.size v))
    case first =>
      go_wp2_with (fail)
      go_meet
      case rel => exact ⟨rfl, rfl, (HWA.out _ rfl).1, (HWA.out _ rfl).2.1⟩
    obtain ⟨rfl, rfl, H5⟩ := hcut
    rename World => w5
    clear HWA c0 c1 c2 c3 c4 c5 c6 c7 c8
    obtain ⟨r0, r1, r2, r3, r4, r5, r6, r7, r8, rf, rz⟩ := H5.out.2.facts
    go_upto_region 13 with (fail)
    go_cut [17, 18] from 67 to 74 (fun u t W => ∃ (g : Nat) (bb : Bool) (nv : NV), u = .pointer (some ⟨g, 0, none⟩) ∧ t = .bool bb ∧ Hid (Below w5.heap.size w5 W ∧ Box W g nv ∧ (bb = true → ∃ y, M.find xs v.a.fid = some y ∧ nv.ver = y.ver)))
    case first =>
      rcases IMap.ask (H4.out.2.2.below (Nat.le_refl _) (hbo.trans (H5.out.1.mono hzo))) v.a.fid with ⟨hf, hlk⟩ | ⟨nv, y, hf, hcy, hlk⟩
      · have hlk := hlk true
        simp only [if_true] at hlk
        have HF : Hid (Below w5.heap.size w5 (w5.alloc (.cells #[Value.int .i64 NV.zero.fid, .bool NV.zero.dir, .slice NV.zero.dA NV.zero.dn NV.zero.dc, .slice NV.zero.eA NV.zero.en NV.zero.ec, .int .i64 NV.zero.ver] 41)) ∧ Box (w5.alloc (.cells #[Value.int .i64 NV.zero.fid, .bool NV.zero.dir, .slice NV.zero.dA NV.zero.dn NV.zero.dc, .slice NV.zero.eA NV.zero.en NV.zero.ec, .int .i64 NV.zero.ver] 41)) w5.heap.size NV.zero) := ⟨(Below.refl _ _).alloc (Nat.le_refl _) _, Box.new w5 NV.zero⟩
        clear hf
        go_wp2_with (fail)
        go_meet
        case rel => exact ⟨_, _, NV.zero, rfl, rfl, HF.out.1, HF.out.2, fun h => by cases h⟩
      · have hlk := hlk true
        simp only [if_true] at hlk
        have HF : Hid (Below w5.heap.size w5 (w5.alloc (.cells #[.int .i64 nv.fid, .bool nv.dir, .slice nv.dA nv.dn nv.dc, .slice nv.eA nv.en nv.ec, .int .i64 nv.ver] 41)) ∧ Box (w5.alloc (.cells #[.int .i64 nv.fid, .bool nv.dir, .slice nv.dA nv.dn nv.dc, .slice nv.eA nv.en nv.ec, .int .i64 nv.ver] 41)) w5.heap.size nv ∧ ∃ y, M.find xs v.a.fid = some y ∧ nv.ver = y.ver) := ⟨(Below.refl _ _).alloc (Nat.le_refl _) _, Box.new w5 nv, y, hf, hcy.2.2.1⟩
        clear hf hcy
        go_wp2_with (fail)
        go_meet
        case rel => exact ⟨_, _, nv, rfl, rfl, HF.out.1, HF.out.2.1, fun _ => HF.out.2.2⟩
    obtain ⟨g, bb, nv, rfl, rfl, H6⟩ := hcut
    rename World => w6
    have H7 : Hid (Below wo.heap.size wo w6 ∧ BoxR w6 wo.heap.size v) := ⟨H5.out.1.trans (H6.out.1.mono H5.out.1.size), H5.out.2.below H6.out.1 rz⟩
    clear H5 r0 r1 r2 r3 r4 r5 r6 r7 r8 rf rz
    obtain ⟨r0, r1, r2, r3, r4, r5, r6, r7, r8, rf, rz⟩ := H7.out.2.facts
    obtain ⟨z0, z1, z2, z3, z4, zf, zz⟩ := H6.out.2.1.facts
    have hmk := ask_bool (HI.out.2.1.below (Nat.le_refl _) H7.out.1) v.a.fid
    have hvr := HVD.out w6 H7.out.1
    go_upto_region 14 with (fail)
    go_cut [121] from 75 to 121 (fun t W => t = .bool false ∧ W = w6)
    case first =>
      cases bb
      case' false =>
        go_wp2_with (fail)
        go_meet
        case rel => exact ⟨rfl, rfl⟩
      obtain ⟨y, hy, hyv⟩ := H6.out.2.2 rfl
      have HY : Hid (M.find xs v.a.fid = some y ∧ nv.ver = y.ver) := ⟨hy, hyv⟩
      clear hy hyv
      by_cases t0 : 0 ≤ v.a.fid
      case' neg =>
        have d0 : decide (0 ≤ v.a.fid) = false := decide_eq_false t0
        go_wp2_with (fail)
        go_meet
        case rel => exact ⟨rfl, rfl⟩
      have d0 : decide (0 ≤ v.a.fid) = true := decide_eq_true t0
      cases t1 : f v.a.fid
      case' true =>
        rw [t1] at hmk
        clear t1
        go_wp2_with (fail)
        go_meet
        case rel => exact ⟨rfl, rfl⟩
      rw [t1] at hmk
      have T1 : Hid (f v.a.fid = false) := t1
      clear t1
      by_cases t2 : 0 ≤ v.ver
      case' neg =>
        have d2 : decide (0 ≤ v.ver) = false := decide_eq_false t2
        go_wp2_with (fail)
        go_meet
        case rel => exact ⟨rfl, rfl⟩
      have d2 : decide (0 ≤ v.ver) = true := decide_eq_true t2
      by_cases t3 : nv.ver = v.ver
      case' pos =>
        have d3 : (nv.ver != v.ver) = false := by simp [t3]
        clear t3
        go_wp2_with (fail)
        go_meet
        case rel => exact ⟨rfl, rfl⟩
      have d3 : (nv.ver != v.ver) = true := by simp [t3]
      have T3 : Hid (¬ nv.ver = v.ver) := t3
      clear t3
      by_cases t4 : v.a.kind = 3
      case' pos =>
        have d4 : (v.a.kind == 3) = true := by simp [t4]
        have d6 : (vd.1 == 0) = false := by simp [HLAW.out y HY.out.1 t0 T1.out t2 (by rw [← HY.out.2]; exact T3.out) (.inl t4)]
        clear t4
        go_wp2_with (fail)
        go_meet
        case rel => exact ⟨rfl, rfl⟩
      have d4 : (v.a.kind == 3) = false := by simp [t4]
      by_cases t5 : v.a.kind = 4
      case' pos =>
        have d5 : (v.a.kind == 4) = true := by simp [t5]
        have d6 : (vd.1 == 0) = false := by simp [HLAW.out y HY.out.1 t0 T1.out t2 (by rw [← HY.out.2]; exact T3.out) (.inr t5)]
        clear t4 t5
        go_wp2_with (fail)
        go_meet
        case rel => exact ⟨rfl, rfl⟩
      have d5 : (v.a.kind == 4) = false := by simp [t5]
      clear t4 t5
      go_wp2_with (fail)
      go_meet
      case rel => exact ⟨rfl, rfl⟩
    obtain ⟨rfl, rfl⟩ := hcut
    clear hmk hvr z0 z1 z2 z3 z4 zf zz
    have HC : Hid (ContR wc v x) := HX.out.2.below (Nat.le_refl _) H7.out.1
    have hbc := hbo.trans (H7.out.1.mono hzo)
    have HBC : Hid (Below w4.heap.size w4 wc ∧ IMap wc w4.heap.size (setBf f)) := ⟨hbc, HI.out.2.1.below (Nat.le_refl _) H7.out.1⟩
    have hzc := hbc.size
    clear hbc
    go_wp2_with (fail)
    refine (refFids_any v.a x.act wc HC.out.1).mono ?_
    rintro e w8 ⟨Fa, fc, rfl, hfo, hb8⟩
    have HFL : Hid ((M.fidsS x.act).length ≤ 3) := fids_len3 _
    have H8 : Hid (IMap w8 w4.heap.size (setBf f) ∧ Below w4.heap.size w4 w8 ∧ w8.ownsRow wc.heap.size 3 1 (.slice Fa (M.fidsS x.act).length fc) (M.fidsS x.act).length ((M.fidsS x.act).map fun f => Value.int .i64 f)) := ⟨HBC.out.2.below (Nat.le_refl _) hb8, HBC.out.1.trans (hb8.mono hzc), hfo⟩
    have hF : ∃ fs, fs = M.fidsS x.act := ⟨_, rfl⟩
    obtain ⟨fs, hfs⟩ := hF
    have HN : Hid (M.Same0 xs (fun g => M.updB f fs g = true) (M.judS (M.begS xs next ver) (recs.take (iu + 1)))) := by
      rw [take_step HX.out.1, M.jud_snoc, hfs]
      refine same0_mono (M.same0_step HI.out.1 x) fun g hg => ?_
      unfold M.updB
      rcases hg with hg | hg
      · rw [hg]; rfl
      · simp [hg]
    rw [← hfs] at HFL H8 ⊢
    have hn3 : fs.length ≤ 3 := HFL.out
    clear hfs hb8 hfo H6 H7 HI HC HBC HVD HLAW HX r0 r1 r2 r3 r4 r5 r6 r7 r8 rf rz hbo
    go_wp2_with (fail)
    go_loopw [126] (fun t wq => ∃ k : Nat, k ≤ fs.length ∧ t = .int .i64 k ∧ Hid (IMap wq w4.heap.size (setBf (M.updB f (fs.take k))) ∧ Below w4.heap.size w4 wq ∧ wq.ownsRow wc.heap.size 3 1 (.slice Fa fs.length fc) fs.length (fs.map fun f => Value.int .i64 f))) (fun t _ => fs.length - (intOf t).toNat)
    case atStart => exact ⟨0, Nat.zero_le _, rfl, by rw [List.take_zero, updB_nil]; exact H8.out⟩
    case round =>
      obtain ⟨k, hk, rfl, HK⟩ := hrel
      rename World => wq
      by_cases hkl : k < fs.length
      · have hrow : Row 1 (fun f : Int => [Value.int .i64 f]) wq Fa fs.length fs := Row.ofOwn (fun _ => rfl) (by decide) (by rw [fm_ints]; exact HK.out.2.2)
        obtain ⟨b9, o9, fx, rfl, _, hfx, hc⟩ := Row.at hrow hkl
        have c0 := hc 0 _ rfl
        simp only [Nat.mul_one, Nat.add_zero] at c0
        obtain ⟨o2, hl, hst, hkp⟩ := mark_bool HK.out.1 fx
        have HN2 : Hid (IMap (setBlock wq w4.heap.size o2) w4.heap.size (setBf (M.updB f (fs.take (k + 1)))) ∧ Below w4.heap.size w4 (setBlock wq w4.heap.size o2) ∧ (setBlock wq w4.heap.size o2).ownsRow wc.heap.size 3 1 (.slice (some ⟨b9, o9, none⟩) fs.length fc) fs.length (fs.map fun f => Value.int .i64 f)) := by
          refine ⟨?_, setBlock_below HK.out.2.1 (Nat.le_refl _) o2, own_keep HK.out.2.2 (hkp 3)⟩
          rw [take_step hfx, ← updB_snoc]
          exact hst
        clear hrow hfx hc hst hkp
        go_wp2_with (fail)
        go_roundw
        case rel => exact ⟨k + 1, by omega, by go_num, HN2⟩
        case measure => simp [intOf]; omega
      · have HK2 : Hid (IMap wq w4.heap.size (setBf (M.updB f fs)) ∧ Below w4.heap.size w4 wq) := by
          have h := HK.out
          rw [List.take_of_length_le (by omega)] at h
          exact ⟨h.1, h.2.1⟩
        go_wp2_with (fail)
        go_roundw
        case rel => exact ⟨iu + 1, M.updB f fs, by omega, by go_num, HN.out, HK2.out⟩
        case measure => simp [intOf]; omega
end Go.Proofs.Ytkhifljgocopoad
