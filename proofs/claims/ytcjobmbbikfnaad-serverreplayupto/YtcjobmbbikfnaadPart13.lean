/- TEXTS LAID TOGETHER: Srvf, Certk, Srve, Srvg, Alive7, Sreplay -/
import Derived.Test.YtcjobmbbikfnaadPart12
import Derived.Deep.CutRange
import Derived.Test.YtcjobmbbikfnaadPart11
import Derived.Deep.RegionHeld3
import Derived.Test.YtcjobmbbikfnaadPart7
/-
  PACKAGE server: Replay, Own.
-/
namespace Go.Proofs.Ytcjobmbbikfnaad
open Go.RowKit

set_option maxRecDepth 8000 in
set_option maxHeartbeats 2000000 in
theorem replay_any (A : Option Addr) (n c : Nat) (pvs : List PV) (ps : List M.Past) (ys : List M.Nd) (w : World) (ht : TreeP w A n pvs ps) (hs : ∀ x ∈ ps, SmallA x.act) (hrun : M.appsS rootR (M.pastA ps) 1 = some ys) (hn : n ≤ 100000000000) :
    Calls Try.prog 15 #[.slice A n c] w fun e w' => ∃ (B : Option Addr) (m d : Nat) (us : List NV), e = .returned (.tuple #[.slice B m d, .int .i64 0]) ∧ OwnT w' w.heap.size B m d us ys ∧ Good ys ∧ Below w.heap.size w w' := by
  have HT : Hid (TreeP w A n pvs ps ∧ (∀ x ∈ ps, SmallA x.act) ∧ M.appsS rootR (M.pastA ps) 1 = some ys) := ⟨ht, hs, hrun⟩
  have HLN : Hid (n = ps.length) := ht.len
  clear ht hs hrun
  go_enter Try.func15, Try.ntmps15
  go_wp2_with (fail)
  refine (newT_any w).mono ?_
  rintro e w1 ⟨g, us1, rfl, ho, hb1⟩
  have H1 : Hid (OwnT w1 w.heap.size (some ⟨g, 0, none⟩) 1 1 us1 rootR ∧ Below w.heap.size w w1) := ⟨ho, hb1⟩
  clear ho hb1
  go_wp2_with (fail)
  go_loopw [4, 12] (fun u i W => ∃ (k : Nat) (B : Option Addr) (m d : Nat) (us : List NV) (xs : List M.Nd), k ≤ n ∧ i = .int .i64 k ∧ u = .slice B m d ∧ Hid (OwnT W w.heap.size B m d us xs ∧ Good xs ∧ M.appsS xs (M.pastA (ps.drop k)) ((k : Int) + 1) = some ys ∧ Below w.heap.size w W)) (fun _ i _ => n - (intOf i).toNat)
  case atStart => exact ⟨0, _, 1, 1, us1, rootR, Nat.zero_le _, rfl, rfl, H1.out.1, good_root, HT.out.2.2, H1.out.2⟩
  case round =>
    obtain ⟨k, B, m, d, us, xs, hk, rfl, rfl, HK⟩ := hrel
    rename World => wr
    by_cases hlt : k < n
    · have htr := HT.out.1.below (Nat.le_refl _) HK.out.2.2.2
      obtain ⟨g, o, v, rfl, hgb, hvk, c0, c1, c2, c3, c4, c5, c6, c7⟩ := htr.1.at hlt
      obtain ⟨x, hx, hcx⟩ := htr.2.at hvk
      have HX : Hid (ContP wr v x ∧ SmallA x.act) := ⟨hcx, HT.out.2.1 x (List.mem_of_getElem? hx)⟩
      have HA : Hid ((M.applyS xs x.act ((k : Int) + 1)).1 = 0 ∧ M.appsS (M.applyS xs x.act ((k : Int) + 1)).2 (M.pastA (ps.drop (k + 1))) (((k + 1 : Nat) : Int) + 1) = some ys) := by
        have h := HK.out.2.2.1
        obtain ⟨h1, h2⟩ := List.getElem?_eq_some_iff.1 hx
        rw [List.drop_eq_getElem_cons h1, h2] at h
        have e : M.pastA (x :: ps.drop (k + 1)) = x.act :: M.pastA (ps.drop (k + 1)) := rfl
        rw [e, M.appsS] at h
        split at h
        · rename_i h0
          exact ⟨h0, by rw [show ((k + 1 : Nat) : Int) + 1 = (k : Int) + 1 + 1 by omega]; exact h⟩
        · cases h
      have HWA : Hid _ := boxP_one wr v
      have hm72 : (m + 2) * 72 ≤ 140737488355328 := by
        have h1 := HK.out.1.tree.1.1
        have h2 := HK.out.1.tree.2.1
        rw [h1, h2]
        exact HK.out.2.1.2.2
      clear htr hvk hx hcx hgb
      go_wp2_with (fail)
      obtain ⟨q1, q2, q3⟩ := HWA.out _ rfl
      refine (apply_any B m d us xs v.a x.act ((k : Int) + 1) _ ((HK.out.1.below (Nat.le_refl _) q1).tree) hm72 HK.out.2.1.2.1 (HX.out.1.2.below (Nat.le_refl _) q1) HX.out.2).mono ?_
      rintro e w4 ⟨B2, m2, d2, r, rfl, hap, hb4⟩
      obtain ⟨hr0, us2, hus2⟩ := hap HK.out.2.1.1
      rw [HA.out.1] at hr0
      obtain rfl := hr0
      have hb14 : Below wr.heap.size wr w4 := q1.trans (hb4.mono q1.size)
      have H4 : Hid (OwnT w4 w.heap.size B2 m2 d2 us2 (M.applyS xs x.act ((k : Int) + 1)).2 ∧ Below w.heap.size w w4) := ⟨hus2.mono (Nat.le_trans HK.out.2.2.2.size q1.size), HK.out.2.2.2.trans (hb14.mono HK.out.2.2.2.size)⟩
      clear hap hus2 q1 q2 q3 hb4 hb14 HWA c0 c1 c2 c3 c4 c5 c6 c7
      go_wp2_with (fail)
      go_roundw
      case rel => exact ⟨k + 1, B2, m2, d2, us2, _, by omega, by go_num, rfl, H4.out.1, good_apply HK.out.2.1 _ _, HA.out.2, H4.out.2⟩
      case measure => simp [intOf]; omega
    · have HE : Hid (xs = ys ∧ OwnT wr w.heap.size B m d us xs ∧ Good xs ∧ Below w.heap.size w wr) := by
        have h := HK.out
        rw [List.drop_eq_nil_iff.2 (by rw [← HLN.out]; omega)] at h
        exact ⟨Option.some.inj h.2.2.1, h.1, h.2.1, h.2.2.2⟩
      go_wp2_with (fail)
      go_ret2
      exact ⟨B, m, d, us, rfl, by rw [← HE.out.1]; exact HE.out.2.1, by rw [← HE.out.1]; exact HE.out.2.2.1, HE.out.2.2.2⟩
end Go.Proofs.Ytcjobmbbikfnaad
/-
  PACKAGE cert: Judge.
-/
namespace Go.Proofs.Ytcjobmbbikfnaad
open Go.RowKit
open Go.ChangeMaps (setBlock)

theorem infoVd : (Try.prog.info? 45).map (fun i => (i.zero, i.size, i.bytes)) = some (some (.agg #[.int .i64 0, .int .i64 0]), 2, 16) := by kernel_rfl
def vdCells (v : Int × Int) : List Value := [.int .i64 v.1, .int .i64 v.2]
theorem vd_len (v : Int × Int) : (vdCells v).length = 2 := rfl
theorem vd_one (v : Int × Int) : ∀ u ∈ vdCells v, u.oneCell' = true := by intro u hu; simp [vdCells] at hu; rcases hu with rfl | rfl <;> rfl
theorem rowV_new (w : World) (a b : Int) : ∀ W, W = w.alloc (.cells #[.int .i64 a, .int .i64 b] 45) → Below w.heap.size w W ∧ Row 2 vdCells W (some ⟨w.heap.size, 0, none⟩) 1 [(a, b)] ∧ W.heap.size = w.heap.size + 1 := by
  rintro W rfl
  have h := World.ownsRow_lit (e := 45) (size := 2) (base := w.heap.size) w #[.int .i64 a, .int .i64 b] 1 (Nat.le_refl _) (by decide) rfl
  exact ⟨(Below.refl _ _).alloc (Nat.le_refl _) _, Row.ofOwn (cs := vdCells) (vs := [(a, b)]) vd_len (by decide) h, by simp⟩
theorem StM.grownV {w w' : World} {B sb : Nat} {s : M.St} {A : Option Addr} {n c : Nat} {us : List NV} {D : Option Addr} {p q : Nat} {avs : List AV} {b1 b2 b3 : Nat} (h : StM w B sb s A n c us D p q avs b1 b2 b3) {B' k' : Nat} {v' : Value} {n' : Nat} {xs' : List Value} (h' : w.ownsRow B' 45 k' v' n' xs') (hg : w.grownBy w' v'.ownBlock) : StM w' B sb s A n c us D p q avs b1 b2 b3 :=
  ⟨KeepE.grown h' (by decide) hg _ _ h.box, h.tree.keep (.grown h' (by decide) hg) (.grown h' (by decide) hg) (.grown h' (by decide) hg), h.acts.keep (.grown h' (by decide) hg) (.grown h' (by decide) hg), h.m1.grown h' hg, h.m2.grown h' hg, h.m3.grown h' hg, h.lo, h.ne⟩

theorem boxR_one (w : World) (r : RV) : ∀ W, W = w.alloc (.cells #[.int .i64 r.a.kind, .int .i64 r.a.fid, .int .i64 r.a.dir, .string r.a.name, .int .i64 r.a.to, .string r.a.toName, .slice r.a.dA r.a.dn r.a.dc, .int .i64 r.ver, .int .i64 r.id] 38) → Below w.heap.size w W ∧ BoxR W w.heap.size r ∧ W.heap.size = w.heap.size + 1 := by
  rintro W rfl
  exact ⟨(Below.refl _ _).alloc (Nat.le_refl _) _, BoxR.new w r, by simp⟩
theorem begin_end {w w1 : World} {A : Option Addr} {n c : Nat} {us : List NV} {xs : List M.Nd} (next ver : Int) (hb : Below w.heap.size w w1) (ht : OwnT w1 w.heap.size A n c us xs) :
    ∀ W, W = (((w1.alloc (.map #[] 0)).alloc (.map #[] 0)).alloc (.map #[] 0)).alloc (.cells #[.slice A n c, .int .i64 next, .int .i64 ver, .slice none 0 0, .map (some w1.heap.size), .map (some (w1.heap.size + 1)), .map (some (w1.heap.size + 1 + 1))] 69) →
      StM W w.heap.size (w1.heap.size + 1 + 1 + 1) (M.begS xs next ver) A n c us none 0 0 [] w1.heap.size (w1.heap.size + 1) (w1.heap.size + 1 + 1) ∧ Below w.heap.size w W := by
  rintro W rfl
  have hz := hb.size
  have e1 : intF (fun _ => none) = fun _ => none := rfl
  have e2 : setF (fun _ => false) = fun _ => none := by funext k; simp [setF]
  have i1 := IMap.new w1
  have i2 := IMap.new (w1.alloc (.map #[] 0))
  have i3 := IMap.new ((w1.alloc (.map #[] 0)).alloc (.map #[] 0))
  rw [World.size_alloc] at i2
  rw [World.size_alloc, World.size_alloc] at i3
  have ba : ∀ (W : World) (o : Obj), Below W.heap.size W (W.alloc o) := fun W o => (Below.refl _ _).alloc (Nat.le_refl _) o
  have hbx := heap_alloc_new (((w1.alloc (.map #[] 0)).alloc (.map #[] 0)).alloc (.map #[] 0)) (.cells #[.slice A n c, .int .i64 next, .int .i64 ver, .slice none 0 0, .map (some w1.heap.size), .map (some (w1.heap.size + 1)), .map (some (w1.heap.size + 1 + 1))] 69)
  simp only [World.size_alloc] at hbx
  refine ⟨⟨hbx, (((ht.below (Nat.le_refl _) (ba _ _)).below (Nat.le_refl _) (ba _ _)).below (Nat.le_refl _) (ba _ _)).below (Nat.le_refl _) (ba _ _), ⟨World.ownsRow_nil _ _ _ _, All2.nil⟩, ?_, ?_, ?_, by omega, by omega⟩, ?_⟩
  · exact ((i1.below (Nat.le_refl _) (ba _ _)).below (Nat.le_refl _) (ba _ _)).below (Nat.le_refl _) (ba _ _)
  · show IMap _ _ (setF fun _ => false)
    rw [e2]
    exact (i2.below (Nat.le_refl _) (ba _ _)).below (Nat.le_refl _) (ba _ _)
  · show IMap _ _ (setF fun _ => false)
    rw [e2]
    exact i3.below (Nat.le_refl _) (ba _ _)
  · exact (((hb.alloc hz _).alloc (by simp; omega) _).alloc (by simp; omega) _).alloc (by simp; omega) _

set_option maxRecDepth 8000 in
set_option maxHeartbeats 2000000 in
theorem begin_any (A : Option Addr) (n c : Nat) (vs : List NV) (xs : List M.Nd) (next ver : Int) (w : World) (ht : Tree w A n vs xs) (hn : n * 72 ≤ 140737488355328) (hs : ∀ x ∈ xs, Small x) :
    Calls Try.prog 18 #[.slice A n c, .int .i64 next, .int .i64 ver] w fun e w' => ∃ (sb : Nat) (A' : Option Addr) (n' c' : Nat) (us : List NV) (b1 b2 b3 : Nat), e = .returned (.pointer (some ⟨sb, 0, none⟩)) ∧ StM w' w.heap.size sb (M.begS xs next ver) A' n' c' us none 0 0 [] b1 b2 b3 ∧ Below w.heap.size w w' := by
  have HT : Hid (Tree w A n vs xs ∧ ∀ x ∈ xs, Small x) := ⟨ht, hs⟩
  have hmm := @run_makeMap Try.prog
  clear ht hs
  go_enter Try.func18, Try.ntmps18
  go_wp2_with (fail)
  refine (own_any A n c vs xs w HT.out.1 hn HT.out.2).mono ?_
  rintro e w1 ⟨g, us, rfl, ho, hb1⟩
  have HE : Hid _ := begin_end next ver hb1 ho
  clear ho hb1
  go_wp2_with (fail)
  go_ret
  exact ⟨_, _, _, _, _, _, _, _, rfl, HE.out _ rfl⟩

/-- what Judge answers -/
def JudgedPost (w : World) (s : M.St) (vs : List (Int × Int)) (e : Ending) (w' : World) : Prop :=
  ∃ (V : Option Addr) (m d : Nat) (D : Option Addr) (p q : Nat) (avs : List AV) (A : Option Addr) (n c : Nat) (us : List NV), e = .returned (.tuple #[.slice V m d, .slice D p q, .slice A n c, .int .i64 s.next]) ∧ w'.ownsRow w.heap.size 45 2 (.slice V m d) m (vs.flatMap vdCells) ∧ OwnAs w' w.heap.size D p q avs s.done ∧ OwnT w' w.heap.size A n c us s.tr ∧ Below w.heap.size w w'
/-- where Judge is, behind k records -/
def JudgesI (w : World) (xs : List M.Nd) (next ver : Int) (recs : List M.Rec) (sb b1 b2 b3 : Nat) (k : Nat) (V : Option Addr) (m d : Nat) (wr : World) : Prop :=
  (∃ (A : Option Addr) (n c : Nat) (us : List NV) (D : Option Addr) (p q : Nat) (avs : List AV), StM wr w.heap.size sb (M.judS (M.begS xs next ver) (recs.take k)) A n c us D p q avs b1 b2 b3) ∧ wr.ownsRow w.heap.size 45 2 (.slice V m d) m ((M.verS (M.begS xs next ver) (recs.take k)).flatMap vdCells) ∧ Below w.heap.size w wr
theorem near_all (xs : List M.Nd) (n v : Int) : ∀ (l : List M.Rec) {s : M.St} {k : Nat}, Near n v k s → Near n v (k + l.length) (M.judS s l)
  | [], _, _, h => h
  | r :: l, s, k, h => by
    have := near_all xs n v l (near_step h r)
    rw [List.length_cons, show k + (l.length + 1) = k + 1 + l.length by omega]
    exact this

set_option maxRecDepth 8000 in
set_option maxHeartbeats 4000000 in
theorem judge_wide (A C : Option Addr) (n c p q : Nat) (vs : List NV) (xs : List M.Nd) (next ver : Int) (rvs : List RV) (recs : List M.Rec) (w : World) (ht : Tree w A n vs xs) (hg : Good xs) (hr : TreeR w C p rvs recs) (hsr : ∀ x ∈ recs, SmallA x.act) (hp : p * 104 ≤ 140737488355328) (hn0 : 0 ≤ next) (hn1 : next ≤ 1000000000000) (hv0 : 0 ≤ ver) (hv1 : ver ≤ 1000000000000) :
    Calls Try.prog 8 #[.slice A n c, .int .i64 next, .int .i64 ver, .slice C p q] w (JudgedPost w (M.judS (M.begS xs next ver) recs) (M.verS (M.begS xs next ver) recs)) := by
  have hn72 : n * 72 ≤ 140737488355328 := by have h1 := ht.1.1; have h2 := ht.2.1; have h3 := hg.2.2; omega
  have HT : Hid (Tree w A n vs xs ∧ Good xs ∧ TreeR w C p rvs recs ∧ ∀ x ∈ recs, SmallA x.act) := ⟨ht, hg, hr, hsr⟩
  have HLN : Hid (p = recs.length) := hr.len
  have HNV : Hid (0 ≤ next ∧ next ≤ 1000000000000 ∧ 0 ≤ ver ∧ ver ≤ 1000000000000) := ⟨hn0, hn1, hv0, hv1⟩
  obtain ⟨iV, hiV, hzV, hsV, hbV⟩ := info_parts infoVd
  have hbn : iV.bytes * p ≤ 281474976710656 := by rw [hbV]; omega
  clear ht hg hr hsr hn0 hn1 hv0 hv1
  go_enter Try.func8, Try.ntmps8
  go_wp2_with (fail)
  refine (begin_any A n c vs xs next ver w HT.out.1 hn72 HT.out.2.1.2.1).mono ?_
  rintro e w1 ⟨sb, A1, n1, c1, us1, b1, b2, b3, rfl, hst, hb1⟩
  have hz1 := hb1.size
  have H1 : Hid (StM w1 w.heap.size sb (M.begS xs next ver) A1 n1 c1 us1 none 0 0 [] b1 b2 b3 ∧ Below w.heap.size w w1) := ⟨hst, hb1⟩
  clear hst hb1
  go_wp2_with (at_make; refine wpList_make_own _ (by rfl) (.const (.int .i64 0)) (.tmp 21) 26 (by rfl) w.heap.size 45 iV _ 2 Try.underlying26 hiV hzV hsV .i64 .i64 _ p rfl rfl rfl hbn (by unfold maxLen; omega) hz1 ?_; intro w2 hown hg2; have hb2 := grown_below hg2; clear hg2)
  have H2 : Hid (JudgesI w xs next ver recs sb b1 b2 b3 0 (some ⟨w1.heap.size, 0, none⟩) 0 p w2) := ⟨⟨_, _, _, _, _, _, _, _, H1.out.1.below (Nat.le_refl _) hb2⟩, by simpa [M.verS] using hown, H1.out.2.trans (hb2.mono hz1)⟩
  clear hown hb2 hbn hz1 H1
  go_loopw [13, 25] (fun v i wr => ∃ (k : Nat) (V : Option Addr) (m d : Nat), k ≤ p ∧ i = .int .i64 k ∧ v = .slice V m d ∧ Hid (JudgesI w xs next ver recs sb b1 b2 b3 k V m d wr)) (fun _ i _ => p - (intOf i).toNat)
  case atStart => exact ⟨0, _, 0, p, Nat.zero_le _, rfl, rfl, H2⟩
  case round =>
    obtain ⟨k, V, m, d, hk, rfl, rfl, HK⟩ := hrel
    have hb := HK.out.2.2
    have hsz := hb.size
    have hmk : m = k := by
      have h := own_len vd_len (by decide) HK.out.2.1
      rw [M.ver_len, List.length_take] at h
      have := HLN.out
      omega
    subst hmk
    by_cases hlt : m < p
    · have htr := HT.out.2.2.1.below (Nat.le_refl _) hb
      obtain ⟨g, o, v, rfl, hgb, hvk, c0, c1', c2, c3, c4, c5, c6, c7, c8⟩ := htr.1.at hlt
      obtain ⟨x, hx, hcx⟩ := htr.2.at hvk
      have HX : Hid (recs[m]? = some x ∧ ContR wr v x ∧ SmallA x.act) := ⟨hx, hcx, HT.out.2.2.2 x (List.mem_of_getElem? hx)⟩
      have HWA : Hid _ := boxR_one wr v
      have HNR : Hid (Near next ver m (M.judS (M.begS xs next ver) (recs.take m))) := by
        have h := near_all xs next ver (recs.take m) (near_beg xs next ver)
        rw [List.length_take, Nat.min_eq_left (by rw [← HLN.out]; omega), Nat.zero_add] at h
        exact h
      obtain ⟨A3, n3, c3', us3, D3, p3, q3, avs3, hst3⟩ := HK.out.1
      have HST : Hid (StM wr w.heap.size sb (M.judS (M.begS xs next ver) (recs.take m)) A3 n3 c3' us3 D3 p3 q3 avs3 b1 b2 b3) := hst3
      have hp3 : p3 ≤ m := by rw [actsLen hst3.acts]; exact HNR.out.len
      clear hvk htr hx hcx hst3
      go_wp2_with (fail)
      obtain ⟨q1, q2, q3'⟩ := HWA.out _ rfl
      refine (judge_any (M.judS (M.begS xs next ver) (recs.take m)) v x w.heap.size sb A3 n3 c3' us3 D3 p3 q3 avs3 b1 b2 b3 _ (HST.out.below (Nat.le_refl _) q1) (good_jud _ HT.out.2.1) (HX.out.2.1.below (Nat.le_refl _) q1) HX.out.2.2 (Nat.le_trans hsz q1.size) (by have h1 := HNR.out.nlo; have h2 := HNV.out.1; omega) (by have h1 := HNR.out.nhi; have h2 := HNV.out.2.1; omega) (by have h1 := HNR.out.vlo; have h2 := HNV.out.2.2.1; omega) (by have h1 := HNR.out.vhi; have h2 := HNV.out.2.2.2; omega) (by omega)).mono ?_
      rintro e w4 ⟨rfl, ⟨A4, n4, c4', us4, D4, p4, q4, avs4, hst4⟩, hb4, hk4⟩
      have hpos := Below.trans (q1.mono hsz) hb4
      have H4 : Hid (StM w4 w.heap.size sb (M.stepS (M.judS (M.begS xs next ver) (recs.take m)) x) A4 n4 c4' us4 D4 p4 q4 avs4 b1 b2 b3 ∧ w4.ownsRow w.heap.size 45 2 (.slice V m d) m ((M.verS (M.begS xs next ver) (recs.take m)).flatMap vdCells) ∧ Below w.heap.size w w4) := ⟨hst4, own_keep HK.out.2.1 ((KeepE.below q1 (Nat.le_refl _)).trans hk4), hb.trans hpos⟩
      have HWB : Hid _ := rowV_new w4 (M.verdS (M.judS (M.begS xs next ver) (recs.take m)) x).1 (M.verdS (M.judS (M.begS xs next ver) (recs.take m)) x).2
      have HV : Hid (M.verS (M.begS xs next ver) (recs.take (m + 1)) = M.verS (M.begS xs next ver) (recs.take m) ++ [M.verdS (M.judS (M.begS xs next ver) (recs.take m)) x] ∧ M.judS (M.begS xs next ver) (recs.take (m + 1)) = M.stepS (M.judS (M.begS xs next ver) (recs.take m)) x) := by rw [take_step HX.out.1]; exact ⟨M.ver_snoc _ _ _, M.jud_snoc _ _ _⟩
      clear q1 q2 q3' hst4 hb4 hk4 hpos HWA HNR HST hb c0 c1' c2 c3 c4 c5 c6 c7 c8
      generalize M.verdS (M.judS (M.begS xs next ver) (recs.take m)) x = vd at HV HWB ⊢
      go_wp2_with (at_builtin; refine wpList_append_row _ (by rfl) (.tmp 29) (.tmp 33) 26 (by rfl) w.heap.size 45 iV _ 16 Try.underlying26 hiV hzV hsV hbV rfl (by decide) _ m _ (by rfl) (own_below H4.out.2.1 (HWB.out _ rfl).1 (Nat.le_refl _)) (some ⟨w4.heap.size, 0, none⟩) 1 1 [(vd.1, vd.2)] (by rfl) (HWB.out _ rfl).2.1 vd_len vd_one (by unfold maxLen; omega) (by omega) (by have h1 := H4.out.2.2.size; simp; omega) ?_; intro v5 w5 hown5 hg5; obtain ⟨V5, d5, rfl, _, _⟩ := own_form hown5; have HR : Hid (JudgesI w xs next ver recs sb b1 b2 b3 (m + 1) V5 (m + 1) d5 w5) := ⟨(by rw [HV.out.2]; exact ⟨_, _, _, _, _, _, _, _, (H4.out.1.below (Nat.le_refl _) (HWB.out _ rfl).1).grownV (own_below H4.out.2.1 (HWB.out _ rfl).1 (Nat.le_refl _)) hg5⟩), (by rw [HV.out.1, List.flatMap_append]; exact hown5), Below.grown (H4.out.2.2.trans ((HWB.out _ rfl).1.mono H4.out.2.2.size)) hg5 (by have h1 := H4.out.2.2.size; have h2 := (HWB.out _ rfl).1.size; omega) (fun j hj => ((own_below H4.out.2.1 (HWB.out _ rfl).1 (Nat.le_refl _)).lt j hj).1)⟩; clear hown5 hg5)
      go_roundw
      case rel => exact ⟨m + 1, V5, m + 1, d5, by omega, by go_num, rfl, HR⟩
      case measure => simp [intOf]; omega
    · have HL : Hid (recs.take m = recs) := by show _ = _; exact List.take_of_length_le (by rw [← HLN.out]; omega)
      obtain ⟨A3, n3, c3', us3, D3, p3, q3, avs3, hst3⟩ := HK.out.1
      rw [HL.out] at hst3
      have hvs := HK.out.2.1
      rw [HL.out] at hvs
      obtain ⟨f0, f1, f2, f3, f4, f5, f6, ff, fz⟩ := hst3.facts
      have HP : Hid (∀ N : Nat, JudgedPost w (M.judS (M.begS xs next ver) recs) (M.verS (M.begS xs next ver) recs) (.returned (.tuple #[.slice V m d, .slice D3 p3 q3, .slice A3 n3 c3', .int .i64 (M.judS (M.begS xs next ver) recs).next])) (wr.drewN N)) := by
        intro N
        have hd : Below wr.heap.size wr (wr.drewN N) := ⟨rfl, rfl, rfl, Nat.le_refl _, fun _ _ => rfl⟩
        have h4 := hst3.below (Nat.le_refl _) hd
        exact ⟨V, m, d, D3, p3, q3, avs3, A3, n3, c3', us3, rfl, own_below hvs hd (Nat.le_refl _), h4.acts, h4.tree, hb.trans (hd.mono hsz)⟩
      clear hst3 hvs HK HL
      go_wp2_with (fail)
      go_quiet (fail)
      go_wp2_with (fail)
      exact bodyPost_ret (v := .tuple #[.slice V m d, .slice D3 p3 q3, .slice A3 n3 c3', .int .i64 (M.judS (M.begS xs next ver) recs).next]) (by simp [results, Try.results8, go_sem]) rfl (HP.out _)
theorem judge_all (A C : Option Addr) (n c p q : Nat) (vs : List NV) (xs : List M.Nd) (next ver : Int) (rvs : List RV) (recs : List M.Rec) (w : World) (ht : Tree w A n vs xs) (hg : Good xs) (hr : TreeR w C p rvs recs) (hsr : ∀ x ∈ recs, SmallA x.act) (hp : p * 104 ≤ 140737488355328) (hn0 : 0 ≤ next) (hn1 : next ≤ 1000000) (hv0 : 0 ≤ ver) (hv1 : ver ≤ 1000000) :
    Calls Try.prog 8 #[.slice A n c, .int .i64 next, .int .i64 ver, .slice C p q] w (JudgedPost w (M.judS (M.begS xs next ver) recs) (M.verS (M.begS xs next ver) recs)) :=
  judge_wide A C n c p q vs xs next ver rvs recs w ht hg hr hsr hp hn0 (by omega) hv0 (by omega)
end Go.Proofs.Ytcjobmbbikfnaad
/-
  PACKAGE server: Take, Replay.
-/
namespace Go.Proofs.Ytcjobmbbikfnaad
open Go.RowKit

/-- what Take answers -/
def TakePost (w : World) (t : M.Srv) (vds : List (Int × Int)) (e : Ending) (w' : World) : Prop :=
  ∃ (v' : SV) (V : Option Addr) (m d : Nat), e = .returned (.tuple #[v'.val, .slice V m d]) ∧ OwnS w' w.heap.size v' t ∧ w'.ownsRow w.heap.size 45 2 (.slice V m d) m (vds.flatMap vdCells) ∧ Below w.heap.size w w'
theorem take_start (w : World) (v : SV) : ∀ W, W = (w.alloc (.cells #[.slice v.A v.n v.c, .int .i64 v.next, .slice v.P v.p v.q] 51)).alloc (.cells #[.slice none 0 0, .int .i64 0, .slice none 0 0] 51) →
    Below w.heap.size w W ∧ BoxS W w.heap.size v ∧ BoxS W (w.heap.size + 1) SV.zero ∧ W.heap.size = w.heap.size + 1 + 1 := by
  rintro W rfl
  obtain ⟨q1, q2, q3⟩ := boxS_one w v.A v.n v.c v.next v.P v.p v.q _ rfl
  generalize w.alloc (.cells #[.slice v.A v.n v.c, .int .i64 v.next, .slice v.P v.p v.q] 51) = W1 at q1 q2 q3 ⊢
  obtain ⟨s1, s2, s3⟩ := boxS_one W1 none 0 0 0 none 0 0 _ rfl
  rw [q3] at s2
  exact ⟨q1.trans (s1.mono (by omega)), q2.below s1 (by omega), s2, by omega⟩
structure TakeI (w W : World) (v : SV) : Prop where
  below : Below w.heap.size w W
  srv : BoxS W w.heap.size v
  res : BoxS W (w.heap.size + 1) SV.zero
theorem TakeI.call {w W W' : World} {v : SV} (h : TakeI w W v) (hb : Below W.heap.size W W') : TakeI w W' v :=
  ⟨h.below.trans (hb.mono h.below.size), h.srv.below hb (lt_of_block h.srv), h.res.below hb (lt_of_block h.res)⟩

set_option maxRecDepth 8000 in
set_option maxHeartbeats 4000000 in
theorem take_any (v : SV) (s : M.Srv) (cl : Int) (C : Option Addr) (p q : Nat) (rvs : List RV) (recs : List M.Rec) (k : Nat) (w : World) (hv : ServM w v s) (hok : SrvOK s k) (hk : k ≤ 1000000000) (hr : TreeR w C p rvs recs) (hsr : ∀ x ∈ recs, SmallA x.act) (hp : p ≤ 1000000000) :
    Calls Try.prog 14 #[v.val, .int .i64 cl, .slice C p q] w (TakePost w (M.takeS s cl recs) (M.vdsS s recs)) := by
  have HT : Hid (ServM w v s ∧ SrvOK s k ∧ TreeR w C p rvs recs ∧ ∀ x ∈ recs, SmallA x.act) := ⟨hv, hok, hr, hsr⟩
  have HLN : Hid (v.n = s.tr.length ∧ v.p = s.past.length ∧ v.next = s.next ∧ p = recs.length) := ⟨hv.lens.1, hv.lens.2, hv.1, hr.len⟩
  have hvp : v.p ≤ 1000000000 := by have h1 := hv.lens.2; have h2 := hok.len; omega
  have hn0 : 1 ≤ v.next := by rw [hv.1]; exact hok.lo
  have hn1 : v.next ≤ 1000000001 := by rw [hv.1]; have := hok.hi; omega
  have hp104 : p * 104 ≤ 140737488355328 := Nat.le_trans (Nat.mul_le_mul_right 104 hp) (by decide)
  have HW : Hid _ := take_start w v
  obtain ⟨vs, htr⟩ := hv.2.1
  have HTR : Hid (Tree w v.A v.n vs s.tr) := htr
  obtain ⟨pvs, hpv⟩ := hv.2.2
  have HPV : Hid (TreeP w v.P v.p pvs s.past) := hpv
  have HJL : Hid _ := jud_len s.tr v.next ((v.p : Int) + 1) recs (near_beg s.tr v.next ((v.p : Int) + 1))
  have HSD : Hid (∀ a ∈ (M.judS (M.begS s.tr v.next ((v.p : Int) + 1)) recs).done, SmallA a) := small_dones recs (by intro a ha; cases ha) hsr
  have HTS : Hid (M.takeS s cl recs = ⟨(M.judS (M.begS s.tr v.next ((v.p : Int) + 1)) recs).tr, (M.judS (M.begS s.tr v.next ((v.p : Int) + 1)) recs).next, s.past ++ ofC cl (M.judS (M.begS s.tr v.next ((v.p : Int) + 1)) recs).done⟩ ∧ M.vdsS s recs = M.verS (M.begS s.tr v.next ((v.p : Int) + 1)) recs) := by
    unfold M.takeS M.vdsS
    rw [HLN.out.2.1, HLN.out.2.2.1]
    exact ⟨rfl, rfl⟩
  have HJW : Hid (∀ w3, TakeI w w3 v → Calls Try.prog 8 #[.slice v.A v.n v.c, .int .i64 v.next, .int .i64 ((v.p : Int) + 1), .slice C p q] w3 (JudgedPost w3 (M.judS (M.begS s.tr v.next ((v.p : Int) + 1)) recs) (M.verS (M.begS s.tr v.next ((v.p : Int) + 1)) recs))) := fun w3 h3 => judge_wide v.A C v.n v.c p q vs s.tr v.next ((v.p : Int) + 1) rvs recs w3 (htr.below (Nat.le_refl _) h3.below) hok.good (hr.below (Nat.le_refl _) h3.below) hsr hp104 (by omega) (by omega) (by omega) (by omega)
  rw [HTS.out.1, HTS.out.2]
  clear HTS
  generalize M.verS (M.begS s.tr v.next ((v.p : Int) + 1)) recs = VS at HJW ⊢
  generalize M.judS (M.begS s.tr v.next ((v.p : Int) + 1)) recs = J at HJW HJL HSD ⊢
  clear hv hok hr hsr hk htr hpv
  go_enter Try.func14, Try.ntmps14
  go_wp2_with (fail)
  obtain ⟨w1, hw1⟩ : ∃ W, W = (w.alloc (.cells #[.slice v.A v.n v.c, .int .i64 v.next, .slice v.P v.p v.q] 51)).alloc (.cells #[.slice none 0 0, .int .i64 0, .slice none 0 0] 51) := ⟨_, rfl⟩
  have H1 : Hid (TakeI w w1 v) := by
    obtain ⟨q1, q2, q3, q4⟩ := HW.out _ hw1
    exact ⟨q1, q2, q3⟩
  rw [← hw1]
  clear hw1 HW
  have H1D : Hid (TakeI w w1.drew v) := H1.out.call (Below.refl _ _).drew
  go_cut [8, 9, 10, 11] from 12 to 24 (fun t8 t9 t10 t11 W => ∃ (V : Option Addr) (m d : Nat) (D : Option Addr) (dp dq : Nat) (avs : List AV) (A : Option Addr) (n c : Nat) (us : List NV), t8 = .slice V m d ∧ t9 = .slice D dp dq ∧ t10 = .slice A n c ∧ t11 = .int .i64 J.next ∧ Hid (TakeI w W v ∧ W.ownsRow (w.heap.size + 1 + 1) 45 2 (.slice V m d) m (VS.flatMap vdCells) ∧ OwnAs W (w.heap.size + 1 + 1) D dp dq avs J.done ∧ OwnT W (w.heap.size + 1 + 1) A n c us J.tr))
  case first =>
    have KS : Hid (∀ W, TakeI w W v → W.cell? ⟨w.heap.size, 0, none⟩ = some (.slice v.A v.n v.c) ∧ W.cell? ⟨w.heap.size, 1, none⟩ = some (.int .i64 v.next) ∧ W.cell? ⟨w.heap.size, 2, none⟩ = some (.slice v.P v.p v.q)) := fun W h => ⟨h.srv.facts.1, h.srv.facts.2.1, h.srv.facts.2.2.1⟩
    go_region_held3 (fun w' => w'.cell? ⟨w.heap.size, 0, none⟩ = some (.slice v.A v.n v.c) ∧ w'.cell? ⟨w.heap.size, 1, none⟩ = some (.int .i64 v.next) ∧ w'.cell? ⟨w.heap.size, 2, none⟩ = some (.slice v.P v.p v.q)) (first | exact KS.out _ H4.out.1 | exact KS.out _ H3.out | exact KS.out _ H1D.out) (first | (go_at_call 20; refine (version_any v _ (by omega)).mono ?_; rintro e w3 ⟨rfl, hb3⟩; have H3 : Hid (TakeI w w3 v) := H1D.out.call hb3; clear hb3) | (go_at_call 8; refine (HJW.out _ H3.out).mono ?_; rintro e w4 ⟨V, m, d, D, dp, dq, avs, A, n, c, us, rfl, hv4, ha4, ht4, hb4⟩; have H4 : Hid (TakeI w w4 v ∧ w4.ownsRow (w.heap.size + 1 + 1) 45 2 (.slice V m d) m (VS.flatMap vdCells) ∧ OwnAs w4 (w.heap.size + 1 + 1) D dp dq avs J.done ∧ OwnT w4 (w.heap.size + 1 + 1) A n c us J.tr) := ⟨H3.out.call hb4, own_mono hv4 (lt_of_block H3.out.res), ⟨own_mono ha4.1 (lt_of_block H3.out.res), ha4.2.imp fun _ _ h => h.mono (lt_of_block H3.out.res)⟩, ht4.mono (lt_of_block H3.out.res)⟩; clear hv4 ha4 ht4 hb4))
    all_goals
      go_wp2_with (fail)
      go_meet
      case rel => exact ⟨V, m, d, D, dp, dq, avs, A, n, c, us, rfl, rfl, rfl, rfl, H4⟩
  obtain ⟨V, m, d, D, dp, dq, avs, A, n, c, us, rfl, rfl, rfl, rfl, H5⟩ := hcut
  clear H1 H1D HTR
  rename World => w5
  have hdl : dp = J.done.length := actsLen H5.out.2.2.1
  have hdp : dp ≤ 1000000000 := by have h1 := HJL.out.1; have h2 := HLN.out.2.2.2; omega
  have hp96 : (v.p + dp + 1) * 96 ≤ 140737488355328 := Nat.le_trans (Nat.mul_le_mul_right 96 (show v.p + dp + 1 ≤ 2000000001 by omega)) (by decide)
  clear hdl HJL
  obtain ⟨f0, f1, f2, ff, fz⟩ := H5.out.1.srv.facts
  go_wp2_with (fail)
  refine (extend_any v.P D v.p v.q dp dq pvs s.past cl avs J.done w5 (HPV.out.below (Nat.le_refl _) H5.out.1.below) H5.out.2.2.1.tree (fun x hx => (HT.out.2.1.small x hx).2.2) (fun x hx => (HSD.out x hx).2.2) hp96).mono ?_
  rintro e w6 ⟨P2, p2, q6, pvs2, rfl, hop, hb6⟩
  have H6 : Hid (TakeI w w6 v ∧ OwnT w6 w.heap.size A n c us J.tr ∧ OwnP w6 w.heap.size P2 p2 q6 pvs2 (s.past ++ ofC cl J.done) ∧ w6.ownsRow w.heap.size 45 2 (.slice V m d) m (VS.flatMap vdCells)) := ⟨H5.out.1.call hb6, (H5.out.2.2.2.below (Nat.le_refl _) hb6).mono (by omega), hop.mono H5.out.1.below.size, own_mono (own_below H5.out.2.1 hb6 (Nat.le_refl _)) (by omega)⟩
  clear hop hb6 f0 f1 f2 ff fz H5 HPV
  obtain ⟨g0, g1, g2, gf, gz⟩ := H6.out.1.res.facts
  obtain ⟨nx, hnx⟩ : ∃ nx, J.next = nx := ⟨_, rfl⟩
  rw [hnx]
  have HP : Hid _ := H6.out.1.res.put A n c nx P2 p2 q6
  have HNX : Hid (J.next = nx) := hnx
  clear hnx
  go_wp2_with (fail)
  obtain ⟨p1, pk, pb, pz⟩ := HP.out _ rfl
  exact bodyPost_ret (v := .tuple #[SV.val ⟨A, n, c, nx, P2, p2, q6⟩, .slice V m d]) (by simp [results, Try.results14, go_sem, g0, g1, g2]) rfl ⟨⟨A, n, c, nx, P2, p2, q6⟩, V, m, d, rfl, OwnS.keep (w := w6) ⟨HNX.out.symm, ⟨us, H6.out.2.1⟩, pvs2, H6.out.2.2.1⟩ pk, own_keep H6.out.2.2.2 (pk _ (by decide)), H6.out.1.below.trans (pb _ (by omega))⟩
end Go.Proofs.Ytcjobmbbikfnaad
/-
  PACKAGE server: Own.
-/
namespace Go.Proofs.Ytcjobmbbikfnaad
open Go.RowKit

theorem BoxS.other {W : World} {g g' : Nat} {v : SV} (h : BoxS W g v) (hne : g ≠ g') (a b c : Value) : BoxS (((W.setCell ⟨g', 0, none⟩ a).setCell ⟨g', 1, none⟩ b).setCell ⟨g', 2, none⟩ c) g v := by
  unfold BoxS at h ⊢
  rw [Below.heap_setCell _ _ _ _ (by exact hne), Below.heap_setCell _ _ _ _ (by exact hne), Below.heap_setCell _ _ _ _ (by exact hne)]
  exact h
set_option maxRecDepth 8000 in
set_option maxHeartbeats 4000000 in
theorem ownS_any (v : SV) (s : M.Srv) (k : Nat) (w : World) (hv : ServM w v s) (hok : SrvOK s k) (hk : k ≤ 1000000000) :
    Calls Try.prog 21 #[v.val] w fun e w' => ∃ v' : SV, e = .returned v'.val ∧ OwnS w' w.heap.size v' s ∧ Below w.heap.size w w' := by
  have HLN : Hid (v.n = s.tr.length ∧ v.p = s.past.length ∧ v.next = s.next) := ⟨hv.lens.1, hv.lens.2, hv.1⟩
  have hvp : v.p ≤ 1000000000 := by have h1 := hv.lens.2; have h2 := hok.len; omega
  have hp96 : (v.p + 0 + 1) * 96 ≤ 140737488355328 := Nat.le_trans (Nat.mul_le_mul_right 96 (show v.p + 0 + 1 ≤ 1000000001 by omega)) (by decide)
  have hn72 : v.n * 72 ≤ 140737488355328 := by have h1 := hv.lens.1; have h2 := hok.good.2.2; omega
  have HW : Hid _ := take_start w v
  obtain ⟨vs, htr⟩ := hv.2.1
  obtain ⟨pvs, hpv⟩ := hv.2.2
  have HO : Hid (∀ W, TakeI w W v → Calls Try.prog 29 #[.slice v.A v.n v.c] W fun e w' => ∃ (A : Option Addr) (n c : Nat) (us : List NV), e = .returned (.slice A n c) ∧ OwnT w' W.heap.size A n c us s.tr ∧ Below W.heap.size W w') := fun W h =>
    (own_any v.A v.n v.c vs s.tr W (htr.below (Nat.le_refl _) h.below) hn72 hok.good.2.1).mono fun e w' ⟨g, us, he, ho, hb⟩ => ⟨_, _, _, us, he, ho, hb⟩
  have HX : Hid (∀ W, TakeI w W v → Calls Try.prog 25 #[.slice v.P v.p v.q, .int .i64 0, .slice none 0 0] W fun e w' => ∃ (B : Option Addr) (m d : Nat) (us : List PV), e = .returned (.slice B m d) ∧ OwnP w' W.heap.size B m d us s.past ∧ Below W.heap.size W w') := fun W h =>
    (extend_any v.P none v.p v.q 0 0 pvs s.past 0 [] [] W (hpv.below (Nat.le_refl _) h.below) ⟨⟨rfl, .inl rfl⟩, All2.nil⟩ (fun x hx => (hok.small x hx).2.2) (fun x hx => by cases hx) hp96).mono fun e w' ⟨B, m, d, us, he, ho, hb⟩ => ⟨B, m, d, us, he, by
      have e1 : s.past ++ ofC 0 [] = s.past := List.append_nil _
      rw [e1] at ho; exact ho, hb⟩
  clear hv hok hk htr hpv
  go_enter Try.func21, Try.ntmps21
  go_wp2_with (fail)
  obtain ⟨w1, hw1⟩ : ∃ W, W = (w.alloc (.cells #[.slice v.A v.n v.c, .int .i64 v.next, .slice v.P v.p v.q] 51)).alloc (.cells #[.slice none 0 0, .int .i64 0, .slice none 0 0] 51) := ⟨_, rfl⟩
  have H1 : Hid (TakeI w w1 v) := by
    obtain ⟨q1, q2, q3, q4⟩ := HW.out _ hw1
    exact ⟨q1, q2, q3⟩
  rw [← hw1]
  clear hw1 HW
  have H1D : Hid (TakeI w w1.drew v) := H1.out.call (Below.refl _ _).drew
  have KS : Hid (∀ W, TakeI w W v → W.cell? ⟨w.heap.size, 0, none⟩ = some (.slice v.A v.n v.c) ∧ W.cell? ⟨w.heap.size, 1, none⟩ = some (.int .i64 v.next) ∧ W.cell? ⟨w.heap.size, 2, none⟩ = some (.slice v.P v.p v.q)) := fun W h => ⟨h.srv.facts.1, h.srv.facts.2.1, h.srv.facts.2.2.1⟩
  have HN2 : Hid (∀ W W', TakeI w W v → Below W.heap.size W W' → TakeI w W' v ∧ w.heap.size + 1 + 1 ≤ W.heap.size) := fun W W' h hb => ⟨h.call hb, lt_of_block h.res⟩
  go_cut [] from 3 to 11 (fun W => ∃ (A : Option Addr) (n c : Nat) (us : List NV) (B : Option Addr) (m d : Nat) (ps : List PV), Hid (BoxS W (w.heap.size + 1) ⟨A, n, c, v.next, B, m, d⟩ ∧ OwnT W w.heap.size A n c us s.tr ∧ OwnP W w.heap.size B m d ps s.past ∧ Below w.heap.size w W))
  case first =>
    go_region_held3 (fun w' => w'.cell? ⟨w.heap.size, 0, none⟩ = some (.slice v.A v.n v.c) ∧ w'.cell? ⟨w.heap.size, 1, none⟩ = some (.int .i64 v.next) ∧ w'.cell? ⟨w.heap.size, 2, none⟩ = some (.slice v.P v.p v.q)) (first | exact KS.out _ HAB.out.1 | exact ⟨(BoxS.other HAB.out.1.srv (show w.heap.size ≠ w.heap.size + 1 by omega) _ _ _).facts.1, (BoxS.other HAB.out.1.srv (show w.heap.size ≠ w.heap.size + 1 by omega) _ _ _).facts.2.1, (BoxS.other HAB.out.1.srv (show w.heap.size ≠ w.heap.size + 1 by omega) _ _ _).facts.2.2.1⟩ | exact KS.out _ HA.out.1 | exact KS.out _ HB.out.1 | exact KS.out _ H1D.out) (first | (go_at_call 29; refine (HO.out _ HB.out.1).mono ?_; rintro e wb ⟨A, n, c, us, rfl, hoa, hba⟩; have HAB : Hid (TakeI w wb v ∧ OwnT wb (w.heap.size + 1 + 1) A n c us s.tr ∧ OwnP wb (w.heap.size + 1 + 1) B m d ps s.past) := ⟨(HN2.out _ _ HB.out.1 hba).1, hoa.mono (HN2.out _ _ HB.out.1 hba).2, HB.out.2.below (Nat.le_refl _) hba⟩; clear hoa hba; obtain ⟨g0, g1, g2, gf, gz⟩ := HAB.out.1.res.facts; have HP : Hid _ := HAB.out.1.res.put A n c v.next B m d) | (go_at_call 29; refine (HO.out _ H1D.out).mono ?_; rintro e wa ⟨A, n, c, us, rfl, hoa, hba⟩; have HA : Hid (TakeI w wa v ∧ OwnT wa (w.heap.size + 1 + 1) A n c us s.tr) := ⟨(HN2.out _ _ H1D.out hba).1, hoa.mono (HN2.out _ _ H1D.out hba).2⟩; clear hoa hba) | (go_at_call 25; refine (HX.out _ HA.out.1).mono ?_; rintro e wb ⟨B, m, d, ps, rfl, hob, hbb⟩; have HAB : Hid (TakeI w wb v ∧ OwnT wb (w.heap.size + 1 + 1) A n c us s.tr ∧ OwnP wb (w.heap.size + 1 + 1) B m d ps s.past) := ⟨(HN2.out _ _ HA.out.1 hbb).1, HA.out.2.below (Nat.le_refl _) hbb, hob.mono (HN2.out _ _ HA.out.1 hbb).2⟩; clear hob hbb; obtain ⟨g0, g1, g2, gf, gz⟩ := HAB.out.1.res.facts; have HP : Hid _ := HAB.out.1.res.put A n c v.next B m d) | (go_at_call 25; refine (HX.out _ H1D.out).mono ?_; rintro e wa ⟨B, m, d, ps, rfl, hob, hbb⟩; have HB : Hid (TakeI w wa v ∧ OwnP wa (w.heap.size + 1 + 1) B m d ps s.past) := ⟨(HN2.out _ _ H1D.out hbb).1, hob.mono (HN2.out _ _ H1D.out hbb).2⟩; clear hob hbb))
    all_goals
      go_wp2_with (fail)
      go_meet
      case rel =>
        obtain ⟨p1, pk, pb, pz⟩ := HP.out _ rfl
        exact ⟨A, n, c, us, B, m, d, ps, p1, (HAB.out.2.1.keep (pk _ (by decide)) (pk _ (by decide)) (pk _ (by decide))).mono (by omega), (HAB.out.2.2.keep (pk _ (by decide)) (pk _ (by decide))).mono (by omega), HAB.out.1.below.trans (pb _ (by omega))⟩
  obtain ⟨A, n, c, us, B, m, d, ps, H2⟩ := hcut
  clear H1 H1D KS HN2
  obtain ⟨g0, g1, g2, gf, gz⟩ := H2.out.1.facts
  go_wp2_with (fail)
  exact bodyPost_ret (v := SV.val ⟨A, n, c, v.next, B, m, d⟩) (by simp [results, Try.results21, go_sem, g0, g1, g2]) rfl ⟨⟨A, n, c, v.next, B, m, d⟩, rfl, ⟨HLN.out.2.2, ⟨us, H2.out.2.1⟩, ps, H2.out.2.2.1⟩, H2.out.2.2.2⟩
end Go.Proofs.Ytcjobmbbikfnaad
/-
  alive: the closed fact of chapter 7's laws.
-/
namespace Go.Proofs.Ytcjobmbbikfnaad
open Go.RowKit

def a7 : M.Act := ⟨1, 0, 0, txA, 0, ⟨#[]⟩, []⟩
def a7h : M.Act := ⟨1, 1, 0, txA, 0, ⟨#[]⟩, []⟩
def r7 : M.Rec := ⟨⟨3, 1, 0, ⟨#[]⟩, 0, ⟨#[]⟩, [107]⟩, 1, 0⟩
def s7t : List M.Nd := [⟨0, true, [], [(txA, 1)], 1⟩, ⟨1, false, [], [], 1⟩]
def t7t : List M.Nd := [⟨0, true, [], [(txA, 1)], 1⟩, ⟨1, false, [107], [], 2⟩]
def s7 : M.Srv := ⟨s7t, 2, [⟨2, a7h⟩]⟩
def t7 : M.Srv := ⟨t7t, 2, [⟨2, a7h⟩, ⟨1, r7.act⟩]⟩
theorem apply7a : M.applyS rootR a7h 1 = (0, s7t) := by
  have h2 : M.freeS ⟨0, true, [], [], 0⟩ txA = 0 := by decide
  unfold M.applyS
  rw [if_pos (.inl rfl)]
  rw [bring_ok (by rfl) (by exact h2) (by decide) (by decide)]
  rfl
theorem do7 : M.doS M.newS 2 a7 = (0, s7) := by
  have e : M.applyS M.newS.tr (M.actN M.newS a7) ((M.newS.past.length : Int) + 1) = (0, s7t) := apply7a
  rw [M.do_yes (by rw [e]), e]
  rfl
theorem apply7b : M.applyS s7t r7.act 2 = (0, t7t) := by
  unfold M.applyS
  rw [if_neg (by decide), if_pos (show r7.act.kind = 3 from rfl)]
  rfl
def b7 : M.St := M.begS s7t 2 2
theorem here7 : M.hereS b7 r7.act = r7.act := by rfl
theorem try7 : M.tryS b7 r7 = (0, t7t) := by
  have h1 : M.restS b7 r7.act = false := by unfold M.restS M.fidsS; rfl
  have h2 : (M.makeB r7.act && !M.freshS b7 r7.act.fid) = false := by rfl
  have h3 : M.staleS b7 (M.hereS b7 r7.act) r7.ver = false := by rfl
  unfold M.tryS
  rw [if_neg (by rw [h1]; decide), if_neg (by rw [h2]; decide), if_neg (by rw [h3]; decide), here7]
  exact apply7b
theorem jud7 : M.judS b7 [r7] = M.yesS b7 r7 t7t := by
  show M.stepS b7 r7 = _
  rw [M.step_yes (by rw [try7]), try7]
theorem take7 : M.takeS s7 1 [r7] = t7 := by
  have e : M.judS (M.begS s7.tr s7.next ((s7.past.length : Int) + 1)) [r7] = M.yesS b7 r7 t7t := jud7
  unfold M.takeS
  rw [e]
  rfl
theorem vds7 : M.vdsS s7 [r7] = [(0, 1)] := by
  show [M.verdS b7 r7] = _
  rw [M.verd_yes (by rw [try7]), here7]
  rfl
theorem small7a : SmallA a7 := ⟨by decide, by decide, by decide⟩
theorem small7r : ∀ x ∈ [r7], SmallA x.act := by
  intro x hx
  rw [List.mem_singleton.1 hx]
  exact ⟨by decide, by decide, by decide⟩
theorem ok7 : SrvOK s7 1 := by
  have h := ok_do ok_new (c := 2) small7a (by rw [do7])
  rw [do7] at h
  exact h
theorem ok7t : SrvOK t7 2 := by
  have h := ok_take ok7 1 small7r
  rw [take7] at h
  exact h
theorem recs_one7 (w : World) : ∀ W, W = (w.alloc (.cells #[.int .u8 107] 5 (1, 2))).alloc (.cells #[.int .i64 3, .int .i64 1, .int .i64 0, .string ⟨#[]⟩, .int .i64 0, .string ⟨#[]⟩, .slice (some ⟨w.heap.size, 0, none⟩) 1 1, .int .i64 1, .int .i64 0] 38) →
    TreeR W (some ⟨w.heap.size + 1, 0, none⟩) 1 [⟨⟨3, 1, 0, ⟨#[]⟩, 0, ⟨#[]⟩, some ⟨w.heap.size, 0, none⟩, 1, 1⟩, 1, 0⟩] [r7] ∧ Below w.heap.size w W ∧ W.heap.size = w.heap.size + 2 := by
  rintro W rfl
  have r2 := (Below.refl w.heap.size w).alloc (Nat.le_refl _) (.cells #[.int .u8 107] 5 (1, 2))
  have b2 := byts_lit w 107
  generalize hW2 : w.alloc (.cells #[.int .u8 107] 5 (1, 2)) = W2 at r2
  have hz2 : W2.heap.size = w.heap.size + 1 := by rw [← hW2]; simp
  have b2' : Byts W2 (some ⟨w.heap.size, 0, none⟩) 1 [107] := by rw [← hW2]; exact b2
  have r3 := (Below.refl W2.heap.size W2).alloc (Nat.le_refl _) (.cells #[.int .i64 3, .int .i64 1, .int .i64 0, .string ⟨#[]⟩, .int .i64 0, .string ⟨#[]⟩, .slice (some ⟨w.heap.size, 0, none⟩) 1 1, .int .i64 1, .int .i64 0] 38)
  have ho := World.ownsRow_lit (e := 38) (size := 9) (base := W2.heap.size) W2 #[.int .i64 3, .int .i64 1, .int .i64 0, .string ⟨#[]⟩, .int .i64 0, .string ⟨#[]⟩, .slice (some ⟨w.heap.size, 0, none⟩) 1 1, .int .i64 1, .int .i64 0] 1 (Nat.le_refl _) (by decide) rfl
  have hrow := Row.ofOwn (cs := RV.cells) (vs := [⟨⟨3, 1, 0, ⟨#[]⟩, 0, ⟨#[]⟩, some ⟨w.heap.size, 0, none⟩, 1, 1⟩, 1, 0⟩]) rec_len (by decide) ho
  rw [hz2] at hrow
  exact ⟨⟨hrow, All2.one ⟨⟨rfl, rfl, rfl, rfl, rfl, rfl, b2'.below (Nat.le_refl _) r3⟩, rfl, rfl⟩⟩, r2.trans (r3.mono (by omega)), by simp [hz2]⟩

theorem fieldP (A : Option Addr) (n c : Nat) (x : Int) (P : Option Addr) (p q : Nat) (w : World) : (Instr.field 51 (.agg #[.slice A n c, .int .i64 x, .slice P p q]) 2).run Try.prog w = .ok (.slice P p q) w := by kernel_rfl
set_option maxRecDepth 8000 in
set_option maxHeartbeats 4000000 in
theorem alive7_any (w : World) : Calls Try.prog 11 #[] w fun e w' => e = .returned (.bool true) ∧ Below w.heap.size w w' := by
  go_enter Try.func11, Try.ntmps11
  go_wp2_with (fail)
  refine (newS_any w).mono ?_
  rintro e w1 ⟨v0, rfl, ho, hb1⟩
  have H1 : Hid (ServM w1 v0 M.newS ∧ Below w.heap.size w w1) := ⟨ho.serv, hb1⟩
  clear ho hb1
  go_wp2_with (fail)
  refine (do_any v0 M.newS 2 ⟨1, 0, 0, txA, 0, ⟨#[]⟩, none, 0, 0⟩ a7 0 w1 H1.out.1 ok_new (by decide) ⟨rfl, rfl, rfl, rfl, rfl, rfl, ⟨rfl, .inl rfl⟩⟩ small7a).mono ?_
  rintro e w2 ⟨v1, rfl, ho, hb2⟩
  rw [do7] at ho ⊢
  have H2 : Hid (ServM w2 v1 s7 ∧ Below w.heap.size w w2) := ⟨ho.serv, H1.out.2.trans (hb2.mono H1.out.2.size)⟩
  have HW : Hid _ := boxS_one w2 v1.A v1.n v1.c v1.next v1.P v1.p v1.q
  clear ho hb2 H1
  go_upto_region 2 with (fail)
  obtain ⟨w3, hw3⟩ : ∃ W, W = w2.alloc (.cells #[.slice v1.A v1.n v1.c, .int .i64 v1.next, .slice v1.P v1.p v1.q] 51) := ⟨_, rfl⟩
  have H3 : Hid (ServM w3 v1 s7 ∧ BoxS w3 w2.heap.size v1 ∧ Below w.heap.size w w3) := by
    obtain ⟨q1, q2, q3⟩ := HW.out _ hw3
    exact ⟨H2.out.1.below (Nat.le_refl _) q1, q2, H2.out.2.trans (q1.mono H2.out.2.size)⟩
  rw [← hw3]
  clear hw3 HW H2
  have hcs := Lib.run_convert_bytes_const (P := Try.prog) w3 34 5 #[.int .u8 107] 1 1 Try.underlying34 Try.underlying5
  have HR7 : Hid _ := recs_one7 w3
  obtain ⟨f0, f1, f2, ff, fz⟩ := H3.out.2.1.facts
  go_wp2_with (fail)
  obtain ⟨r1, r2, r3⟩ := HR7.out _ rfl
  refine (take_any v1 s7 1 (some ⟨w3.heap.size + 1, 0, none⟩) 1 1 _ [r7] 1 _ (H3.out.1.below (Nat.le_refl _) r2) ok7 (by decide) r1 small7r (by decide)).mono ?_
  rintro e w4 ⟨v2, V, m, d, rfl, ho, hv, hb4⟩
  rw [take7] at ho
  rw [vds7] at hv
  have hb34 : Below w3.heap.size w3 w4 := r2.trans (hb4.mono r2.size)
  have hm : m = 1 := own_len vd_len (by decide) hv
  subst hm
  have H4 : Hid (ServM w4 v1 s7 ∧ BoxS w4 w2.heap.size v1 ∧ Below w.heap.size w w4 ∧ ServM w4 v2 t7 ∧ Row 2 vdCells w4 V 1 [(0, 1)]) := ⟨H3.out.1.below (Nat.le_refl _) hb34, H3.out.2.1.below hb34 fz, H3.out.2.2.trans (hb34.mono H3.out.2.2.size), ho.serv, Row.ofOwn vd_len (by decide) hv⟩
  have HW : Hid _ := boxS_one w4 v2.A v2.n v2.c v2.next v2.P v2.p v2.q
  clear r1 r2 r3 ho hv hb4 hb34 HR7 hcs f0 f1 f2 ff fz H3
  go_upto_region 3 with (fail)
  obtain ⟨w5, hw5⟩ : ∃ W, W = w4.alloc (.cells #[.slice v2.A v2.n v2.c, .int .i64 v2.next, .slice v2.P v2.p v2.q] 51) := ⟨_, rfl⟩
  have H5 : Hid (ServM w5 v1 s7 ∧ BoxS w5 w2.heap.size v1 ∧ Below w.heap.size w w5 ∧ ServM w5 v2 t7 ∧ Row 2 vdCells w5 V 1 [(0, 1)] ∧ BoxS w5 w4.heap.size v2) := by
    obtain ⟨q1, q2, q3⟩ := HW.out _ hw5
    exact ⟨H4.out.1.below (Nat.le_refl _) q1, H4.out.2.1.below q1 (lt_of_block H4.out.2.1), H4.out.2.2.1.trans (q1.mono H4.out.2.2.1.size), H4.out.2.2.2.1.below (Nat.le_refl _) q1, H4.out.2.2.2.2.below (Nat.le_refl _) q1, q2⟩
  rw [← hw5]
  clear hw5 HW H4
  obtain ⟨f0, f1, f2, ff, fz⟩ := H5.out.2.2.2.2.2.facts
  obtain ⟨pvs, hpv⟩ := H5.out.2.2.2.1.2.2
  have HPV : Hid (TreeP w5 v2.P v2.p pvs t7.past) := hpv
  have hvp : v2.p ≤ 100000000000 := by have : v2.p = t7.past.length := hpv.len; rw [this]; decide
  clear hpv
  go_wp2_with (fail)
  refine (replay_any v2.P v2.p v2.q pvs t7.past t7t w5 HPV.out ok7t.small ok7t.run hvp).mono ?_
  rintro e w6 ⟨B, m, d, us, rfl, ho, _, hb6⟩
  have H6 : Hid (ServM w6 v1 s7 ∧ BoxS w6 w2.heap.size v1 ∧ Below w.heap.size w w6 ∧ ServM w6 v2 t7 ∧ Row 2 vdCells w6 V 1 [(0, 1)] ∧ BoxS w6 w4.heap.size v2 ∧ Tree w6 B m us t7t) := ⟨H5.out.1.below (Nat.le_refl _) hb6, H5.out.2.1.below hb6 (lt_of_block H5.out.2.1), H5.out.2.2.1.trans (hb6.mono H5.out.2.2.1.size), H5.out.2.2.2.1.below (Nat.le_refl _) hb6, H5.out.2.2.2.2.1.below (Nat.le_refl _) hb6, H5.out.2.2.2.2.2.below hb6 fz, ho.tree⟩
  clear ho hb6 f0 f1 f2 ff fz H5 HPV hvp
  obtain ⟨f0, f1, f2, ff, fz⟩ := H6.out.2.2.2.2.2.1.facts
  obtain ⟨h0, h1, h2, hf, hz⟩ := H6.out.2.1.facts
  have hm : m = 2 := by have a1 := H6.out.2.2.2.2.2.2.1.1; have a2 := H6.out.2.2.2.2.2.2.2.1; rw [a1, a2]; rfl
  subst hm
  have hp1 : v1.p = 1 := H6.out.1.lens.2
  have hp2 : v2.p = 2 := H6.out.2.2.2.1.lens.2
  obtain ⟨pv1, hpv1⟩ := H6.out.1.2.2
  obtain ⟨gp, op, p0, hPe, _, hp0, c0, _⟩ := hpv1.1.at (j := 0) (by rw [hp1]; decide)
  obtain ⟨xp, hxp, hcp⟩ := hpv1.2.at hp0
  have hcl : p0.client = 2 := by
    have e : xp = ⟨2, a7h⟩ := by have h : s7.past[0]? = some ⟨2, a7h⟩ := rfl; rw [h] at hxp; exact (Option.some.inj hxp).symm
    rw [hcp.1, e]
  obtain ⟨gv, ov, vd, rfl, _, hvd, hvc⟩ := Row.at H6.out.2.2.2.2.1 (j := 0) (by decide)
  cases hvd
  have x0 := hvc 0 _ rfl
  rw [hcl] at c0
  rw [hPe, hp1] at h2
  simp only [Nat.zero_mul, Nat.add_zero] at c0 x0
  have HP2 : Hid (v2.p = 2) := hp2
  have hvp : v2.p ≤ 140737488355328 := by omega
  clear hpv1 hPe hp0 hxp hcp hcl hp1 hp2 hvc h0 h1
  go_wp2_with (fail)
  refine (version_any v2 w6 hvp).mono ?_
  rintro e w7 ⟨rfl, hb7⟩
  rw [show ((v2.p : Int) + 1) = 3 by rw [HP2.out]; rfl]
  have H7 : Hid (Below w.heap.size w w7 ∧ ServM w7 v2 t7 ∧ BoxS w7 w4.heap.size v2 ∧ Tree w7 B 2 us t7t) := ⟨H6.out.2.2.1.trans (hb7.mono H6.out.2.2.1.size), H6.out.2.2.2.1.below (Nat.le_refl _) hb7, H6.out.2.2.2.2.2.1.below hb7 fz, H6.out.2.2.2.2.2.2.below (Nat.le_refl _) hb7⟩
  clear hb7 H6 c0 x0 h2 hf hz f0 f1 f2 ff fz hvp
  obtain ⟨f0, f1, f2, ff, fz⟩ := H7.out.2.2.1.facts
  obtain ⟨gb, ob, vb, rfl, hgb, hvb, b0, b1, b2, b3, b4⟩ := H7.out.2.2.2.1.at (j := 1) (by decide)
  have hdat := (H7.out.2.2.2.2.2 1 vb _ hvb rfl).2.2.2.1
  have hcv := conv_byts (c := vb.dc) hdat
  have hxt : ((txt [107]).toList == [107]) = true := by rw [ByteArray.toList_eq]; rfl
  simp only [Nat.one_mul] at b0 b1 b2 b3 b4
  clear hvb hdat
  go_wp2_with (fail)
  refine (ownS_any v2 t7 2 w7 H7.out.2.1 ok7t (by decide)).mono ?_
  rintro e w8 ⟨v3, rfl, ho, hb8⟩
  have hp3 : v3.p = 2 := ho.serv.lens.2
  have H8 : Hid (Below w.heap.size w w8) := H7.out.1.trans (hb8.mono H7.out.1.size)
  obtain ⟨A3, n3, c3, x3, P3, p3, q3⟩ := v3
  obtain rfl : p3 = 2 := hp3
  have hfl := fieldP A3 n3 c3 x3 P3 2 q3
  clear ho hb8 H7 f0 f1 f2 ff fz b0 b1 b2 b3 b4 hcv hxt
  go_wp2_with (fail)
  go_ret
  exact ⟨rfl, H8.out⟩
end Go.Proofs.Ytcjobmbbikfnaad
/-
  THE LAW ServerReplay, walked: of any acts and any log that are few enough it answers true, and all that was there stays.
-/
namespace Go.Proofs.Ytcjobmbbikfnaad
open Go.RowKit

theorem allB_same8 (vb : Bool) : ∀ xs : List M.Nd, allB (sameNd vb) xs xs = true
  | [] => rfl
  | x :: xs => by simp [allB, same_self, allB_same8 vb xs]
/-- where the law is: the server in its box -/
structure LawI (w W : World) (g0 : Nat) (v : SV) (s : M.Srv) (k : Nat) : Prop where
  box : BoxS W g0 v
  own : OwnS W w.heap.size v s
  ok : SrvOK s k
  whole : M.WholeS s.tr
  below : Below w.heap.size w W
  lo : w.heap.size ≤ g0
theorem LawI.call {w W W' : World} {g0 : Nat} {v : SV} {s : M.Srv} {k : Nat} (h : LawI w W g0 v s k) (hb : Below W.heap.size W W') : LawI w W' g0 v s k :=
  ⟨h.box.below hb (lt_of_block h.box), h.own.below (Nat.le_refl _) hb, h.ok, h.whole, h.below.trans (hb.mono h.below.size), h.lo⟩
theorem LawI.mono {w W : World} {g0 : Nat} {v : SV} {s : M.Srv} {k m : Nat} (h : LawI w W g0 v s k) (hm : k ≤ m) : LawI w W g0 v s m := ⟨h.box, h.own, h.ok.mono hm, h.whole, h.below, h.lo⟩
/-- another server in the box -/
theorem LawI.put {w W : World} {g0 : Nat} {v : SV} {s : M.Srv} {k : Nat} (h : LawI w W g0 v s k) {v' : SV} {s' : M.Srv} {k' : Nat} (ho : OwnS W w.heap.size v' s') (hk : SrvOK s' k') (hw : M.WholeS s'.tr) : ∀ W', W' = ((W.setCell ⟨g0, 0, none⟩ (.slice v'.A v'.n v'.c)).setCell ⟨g0, 1, none⟩ (.int .i64 v'.next)).setCell ⟨g0, 2, none⟩ (.slice v'.P v'.p v'.q) → LawI w W' g0 v' s' k' := by
  intro W' hW
  obtain ⟨p1, pk, pb, pz⟩ := h.box.put v'.A v'.n v'.c v'.next v'.P v'.p v'.q W' hW
  exact ⟨p1, ho.keep pk, hk, hw, h.below.trans (pb _ h.lo), h.lo⟩

set_option maxRecDepth 8000 in
set_option maxHeartbeats 8000000 in
theorem replay_law_any (A C : Option Addr) (n c p q : Nat) (avs : List AV) (acs : List M.Act) (rvs : List RV) (recs : List M.Rec) (w : World) (ha : TreeA w A n avs acs) (hsa : ∀ x ∈ acs, SmallA x) (hr : TreeR w C p rvs recs) (hsr : ∀ x ∈ recs, SmallA x.act) (hn : n ≤ 1048576) (hp : p ≤ 1048576) :
    Calls Try.prog 4 #[.slice A n c, .slice C p q] w fun e w' => e = .returned (.bool true) ∧ Below w.heap.size w w' := by
  have HT : Hid (TreeA w A n avs acs ∧ (∀ x ∈ acs, SmallA x) ∧ TreeR w C p rvs recs ∧ ∀ x ∈ recs, SmallA x.act) := ⟨ha, hsa, hr, hsr⟩
  have HLN : Hid (p = recs.length) := hr.len
  clear ha hsa hr hsr
  go_enter Try.func4, Try.ntmps4
  go_wp2_with (fail)
  refine (alive7_any w).mono ?_
  rintro e w1 ⟨rfl, hb1⟩
  have H1 : Hid (Below w.heap.size w w1) := hb1
  clear hb1
  go_wp2_with (fail)
  refine (newS_any w1).mono ?_
  rintro e w2 ⟨v0, rfl, ho, hb2⟩
  have H2 : Hid (OwnS w2 w.heap.size v0 M.newS ∧ Below w.heap.size w w2) := ⟨ho.mono H1.out.size, H1.out.trans (hb2.mono H1.out.size)⟩
  have HW : Hid _ := boxS_one w2 v0.A v0.n v0.c v0.next v0.P v0.p v0.q
  clear ho hb2 H1
  go_upto_region 4 with (fail)
  obtain ⟨w3, hw3⟩ : ∃ W, W = w2.alloc (.cells #[.slice v0.A v0.n v0.c, .int .i64 v0.next, .slice v0.P v0.p v0.q] 51) := ⟨_, rfl⟩
  have H3 : Hid (LawI w w3 w2.heap.size v0 M.newS 0) := by
    obtain ⟨q1, q2, q3⟩ := HW.out _ hw3
    exact ⟨q2, H2.out.1.below (Nat.le_refl _) q1, ok_new, M.whole_root, H2.out.2.trans (q1.mono H2.out.2.size), H2.out.2.size⟩
  rw [← hw3]
  clear hw3 HW H2
  generalize w2.heap.size = g0 at H3 ⊢
  go_wp2_with (fail)
  go_loopw [17] (fun i W => ∃ (k : Nat) (v : SV) (s : M.Srv), k ≤ n ∧ i = .int .i64 k ∧ Hid (LawI w W g0 v s k)) (fun i _ => n - (intOf i).toNat)
  case atStart => exact ⟨0, v0, M.newS, Nat.zero_le _, rfl, H3⟩
  case round =>
    obtain ⟨k, v, s, hk, rfl, HK⟩ := hrel
    rename World => wr
    by_cases hlt : k < n
    · have hta := HT.out.1.below (Nat.le_refl _) HK.out.below
      obtain ⟨b, o, av, rfl, hgb, hvk, c0, c1, c2, c3, c4, c5, c6⟩ := Acts.at hta.1 hlt
      obtain ⟨x, hx, hcx⟩ := hta.2.at hvk
      have HX : Hid (ContA wr av x ∧ SmallA x) := ⟨hcx, HT.out.2.1 x (List.mem_of_getElem? hx)⟩
      have HWA : Hid _ := boxA_start wr av
      clear hta hvk hx hcx hgb
      go_upto_region 7 with (fail)
      obtain ⟨w4, hw4⟩ : ∃ W, W = wr.alloc (.cells #[.int .i64 av.kind, .int .i64 av.fid, .int .i64 av.dir, .string av.name, .int .i64 av.to, .string av.toName, .slice av.dA av.dn av.dc] 36) := ⟨_, rfl⟩
      have H4 : Hid (LawI w w4 g0 v s k ∧ BoxA w4 wr.heap.size av ∧ ContA w4 av x) := by
        obtain ⟨q1, q2, q3⟩ := HWA.out _ hw4
        exact ⟨HK.out.call q1, q2, HX.out.1.below (Nat.le_refl _) q1⟩
      rw [← hw4]
      clear hw4 HWA c0 c1 c2 c3 c4 c5 c6
      obtain ⟨f0, f1, f2, ff, fz⟩ := H4.out.1.box.facts
      obtain ⟨a0, a1, a2, a3, a4, a5, a6, af, az⟩ := H4.out.2.1.facts
      go_wp2_with (fail)
      refine (do_any v s (k : Int) av x k w4 H4.out.1.own.serv H4.out.1.ok (by omega) H4.out.2.2 HX.out.2).mono ?_
      rintro e w5 ⟨v', rfl, ho, hb5⟩
      have H5 : Hid (LawI w w5 g0 v s k ∧ OwnS w5 w.heap.size v' (M.doS s (k : Int) x).2) := ⟨H4.out.1.call hb5, ho.mono H4.out.1.below.size⟩
      have HW : Hid _ := boxS_one w5 v'.A v'.n v'.c v'.next v'.P v'.p v'.q
      clear ho hb5 f0 f1 f2 ff fz a0 a1 a2 a3 a4 a5 a6 af az H4
      go_upto_region 8 with (fail)
      obtain ⟨w6, hw6⟩ : ∃ W, W = w5.alloc (.cells #[.slice v'.A v'.n v'.c, .int .i64 v'.next, .slice v'.P v'.p v'.q] 51) := ⟨_, rfl⟩
      have H6 : Hid (LawI w w6 g0 v s k ∧ OwnS w6 w.heap.size v' (M.doS s (k : Int) x).2 ∧ BoxS w6 w5.heap.size v') := by
        obtain ⟨q1, q2, q3⟩ := HW.out _ hw6
        exact ⟨H5.out.1.call q1, H5.out.2.below (Nat.le_refl _) q1, q2⟩
      rw [← hw6]
      clear hw6 HW H5
      obtain ⟨f0, f1, f2, ff, fz⟩ := H6.out.1.box.facts
      obtain ⟨g1, g2, g3, gf, gz⟩ := H6.out.2.2.facts
      by_cases h0 : (M.doS s (k : Int) x).1 = 0
      · have HP : Hid _ := H6.out.1.put H6.out.2.1 (ok_do H6.out.1.ok HX.out.2 h0) (whole_do H6.out.1.whole h0)
        rw [h0]
        clear h0
        go_wp2_with (fail)
        go_roundw
        case rel => exact ⟨k + 1, v', _, by omega, by go_num, HP.out _ rfl⟩
        case measure => simp [intOf]; omega
      · have hne : ((M.doS s (k : Int) x).1 == 0) = false := by simp [h0]
        clear h0
        go_wp2_with (fail)
        go_roundw
        case rel => exact ⟨k + 1, v, s, by omega, by go_num, H6.out.1.mono (Nat.le_succ _)⟩
        case measure => simp [intOf]; omega
    · have HKN : Hid (k ≤ 1048576) := by show k ≤ _; omega
      obtain ⟨f0, f1, f2, ff, fz⟩ := HK.out.box.facts
      clear H3
      go_wp2_with (fail)
      refine (take_any v s 9 C p q rvs recs k wr HK.out.own.serv HK.out.ok (by have := HKN.out; omega) (HT.out.2.2.1.below (Nat.le_refl _) HK.out.below) HT.out.2.2.2 (by omega)).mono ?_
      rintro e w5 ⟨v', V, m, d, rfl, ho, hv, hb5⟩
      have HOK : Hid (SrvOK (M.takeS s 9 recs) (k + recs.length) ∧ M.WholeS (M.takeS s 9 recs).tr ∧ k + recs.length ≤ 2097152) := ⟨ok_take HK.out.ok 9 HT.out.2.2.2, whole_take HK.out.whole 9 recs, by have h1 := HLN.out; have h2 := HKN.out; omega⟩
      generalize M.takeS s 9 recs = t at ho HOK
      have H5 : Hid (LawI w w5 g0 v s k ∧ OwnS w5 w.heap.size v' t) := ⟨HK.out.call hb5, ho.mono HK.out.below.size⟩
      clear ho hv hb5 f0 f1 f2 ff fz
      obtain ⟨f0, f1, f2, ff, fz⟩ := H5.out.1.box.facts
      have HP : Hid _ := H5.out.1.put H5.out.2 HOK.out.1 HOK.out.2.1
      go_upto_region 12 with (fail)
      obtain ⟨w6, hw6⟩ : ∃ W, W = ((w5.setCell ⟨g0, 0, none⟩ (.slice v'.A v'.n v'.c)).setCell ⟨g0, 1, none⟩ (.int .i64 v'.next)).setCell ⟨g0, 2, none⟩ (.slice v'.P v'.p v'.q) := ⟨_, rfl⟩
      have H6 : Hid (LawI w w6 g0 v' t (k + recs.length)) := HP.out _ hw6
      rw [← hw6]
      clear hw6 HP H5 HK f0 f1 f2 ff fz
      obtain ⟨f0, f1, f2, ff, fz⟩ := H6.out.box.facts
      obtain ⟨pvs, hpv⟩ := H6.out.own.serv.2.2
      have HPV : Hid (TreeP w6 v'.P v'.p pvs t.past) := hpv
      have hvp : v'.p ≤ 100000000000 := by have h1 : v'.p = t.past.length := hpv.len; have h2 := HOK.out.1.len; have h3 := HOK.out.2.2; omega
      clear hpv
      go_wp2_with (fail)
      refine (replay_any v'.P v'.p v'.q pvs t.past t.tr w6 HPV.out HOK.out.1.small HOK.out.1.run hvp).mono ?_
      rintro e w7 ⟨B, m2, d2, us, rfl, ho7, hg7, hb7⟩
      have H7 : Hid (LawI w w7 g0 v' t (k + recs.length) ∧ Tree w7 B m2 us t.tr) := ⟨H6.out.call hb7, ho7.tree⟩
      clear ho7 hg7 hb7 f0 f1 f2 ff fz H6 HPV hvp
      obtain ⟨f0, f1, f2, ff, fz⟩ := H7.out.1.box.facts
      obtain ⟨vs, htr⟩ := H7.out.1.own.serv.2.1
      have HTR : Hid (Tree w7 v'.A v'.n vs t.tr) := htr
      have hn1 : v'.n * 72 ≤ 140737488355328 := by have h1 := htr.1.1; have h2 := htr.2.1; have h3 := HOK.out.1.good.2.2; omega
      have hm1 : m2 * 72 ≤ 140737488355328 := by have h1 := H7.out.2.1.1; have h2 := H7.out.2.2.1; have h3 := HOK.out.1.good.2.2; omega
      clear htr
      go_wp2_with (fail)
      refine (refSame_any B v'.A m2 v'.n d2 v'.c us vs t.tr t.tr true w7 H7.out.2 HTR.out hm1 hn1 HOK.out.1.good.2.1 HOK.out.1.good.2.1).mono ?_
      rintro e w8 ⟨rfl, hb8⟩
      rw [allB_same8]
      have H8 : Hid (Below w.heap.size w w8) := H7.out.1.below.trans (hb8.mono H7.out.1.below.size)
      clear hb8 H7 HTR f0 f1 f2 ff fz
      go_wp2_with (fail)
      go_ret
      exact ⟨rfl, H8.out⟩
end Go.Proofs.Ytcjobmbbikfnaad
