/-
  THE LAW CacheTells, walked.
-/
import Derived.Test.YtjpdoblmdchmkadPart14
import Derived.Test.YtjpdoblmdchmkadPart10
import Derived.Test.YtjpdoblmdchmkadPart7
import Derived.Deep.CutRange
namespace Go.Proofs.Ytjpdoblmdchmkad
open Go.RowKit

def VTA (sb : Nat) : Nat → Value → World → Prop
  | 0 => IsW (.pointer (some ⟨sb, 0 + 5, none⟩))
  | 1 => IsW (.bool true)
  | 2 => IsW (.bool false)
  | 3 => IsW (.bool false)
  | 4 => IsW (undef)
  | 5 => IsW (undef)
  | 6 => IsW (undef)
  | 7 => IsW (undef)
  | 8 => IsW (.bool false)
  | 9 => IsW (.bool false)
  | 10 => IsW (undef)
  | 11 => IsW (undef)
  | 12 => IsW (undef)
  | 13 => IsW (undef)
  | 14 => IsW (undef)
  | 15 => IsW (undef)
  | 16 => IsW (undef)
  | 17 => IsW (undef)
  | 18 => IsW (undef)
  | 19 => IsW (undef)
  | 20 => IsW (.bool false)
  | _ => fun _ _ => True
theorem VTA_stays (sb : Nat) : ∀ i, Stays (VTA sb i) := by
  intro i v W W' hb h
  match i, h with
  | 0, h => exact h
  | 1, h => exact h
  | 2, h => exact h
  | 3, h => exact h
  | 4, h => exact h
  | 5, h => exact h
  | 6, h => exact h
  | 7, h => exact h
  | 8, h => exact h
  | 9, h => exact h
  | 10, h => exact h
  | 11, h => exact h
  | 12, h => exact h
  | 13, h => exact h
  | 14, h => exact h
  | 15, h => exact h
  | 16, h => exact h
  | 17, h => exact h
  | 18, h => exact h
  | 19, h => exact h
  | 20, h => exact h
  | k + 21, h => trivial
def VTB (sb : Nat) (v : KV) : Nat → Value → World → Prop
  | 0 => IsW (.pointer (some ⟨sb, 0 + 5, none⟩))
  | 1 => IsW (.bool false)
  | 2 => IsW (.bool true)
  | 3 => IsW (.bool true)
  | 4 => IsW (.pointer (some ⟨sb, 0, none⟩))
  | 5 => IsW (.pointer (some ⟨sb, 0, none⟩))
  | 6 => IsW (.int .i64 (v.n.fid))
  | 7 => IsW (.bool false)
  | 8 => IsW (.bool false)
  | 9 => IsW (.bool false)
  | 10 => IsW (undef)
  | 11 => IsW (undef)
  | 12 => IsW (undef)
  | 13 => IsW (undef)
  | 14 => IsW (undef)
  | 15 => IsW (undef)
  | 16 => IsW (undef)
  | 17 => IsW (undef)
  | 18 => IsW (undef)
  | 19 => IsW (undef)
  | 20 => IsW (.bool false)
  | _ => fun _ _ => True
theorem VTB_stays (sb : Nat) (v : KV) : ∀ i, Stays (VTB sb v i) := by
  intro i v W W' hb h
  match i, h with
  | 0, h => exact h
  | 1, h => exact h
  | 2, h => exact h
  | 3, h => exact h
  | 4, h => exact h
  | 5, h => exact h
  | 6, h => exact h
  | 7, h => exact h
  | 8, h => exact h
  | 9, h => exact h
  | 10, h => exact h
  | 11, h => exact h
  | 12, h => exact h
  | 13, h => exact h
  | 14, h => exact h
  | 15, h => exact h
  | 16, h => exact h
  | 17, h => exact h
  | 18, h => exact h
  | 19, h => exact h
  | 20, h => exact h
  | k + 21, h => trivial
def VTC (sb : Nat) (v : KV) : Nat → Value → World → Prop
  | 0 => IsW (.pointer (some ⟨sb, 0 + 5, none⟩))
  | 1 => IsW (.bool false)
  | 2 => IsW (.bool true)
  | 3 => IsW (.bool true)
  | 4 => IsW (.pointer (some ⟨sb, 0, none⟩))
  | 5 => IsW (.pointer (some ⟨sb, 0, none⟩))
  | 6 => IsW (.int .i64 (v.n.fid))
  | 7 => IsW (.bool true)
  | 8 => IsW (.bool true)
  | 9 => IsW (.bool true)
  | 10 => IsW (.int .i64 (-1))
  | 11 => IsW (.bool true)
  | 12 => IsW (.bool true)
  | 13 => IsW (undef)
  | 14 => IsW (undef)
  | 15 => IsW (undef)
  | 16 => IsW (undef)
  | 17 => IsW (undef)
  | 18 => IsW (undef)
  | 19 => IsW (.bool true)
  | 20 => IsW (.bool true)
  | _ => fun _ _ => True
theorem VTC_stays (sb : Nat) (v : KV) : ∀ i, Stays (VTC sb v i) := by
  intro i v W W' hb h
  match i, h with
  | 0, h => exact h
  | 1, h => exact h
  | 2, h => exact h
  | 3, h => exact h
  | 4, h => exact h
  | 5, h => exact h
  | 6, h => exact h
  | 7, h => exact h
  | 8, h => exact h
  | 9, h => exact h
  | 10, h => exact h
  | 11, h => exact h
  | 12, h => exact h
  | 13, h => exact h
  | 14, h => exact h
  | 15, h => exact h
  | 16, h => exact h
  | 17, h => exact h
  | 18, h => exact h
  | 19, h => exact h
  | 20, h => exact h
  | k + 21, h => trivial
def VTD (sb : Nat) (g : Nat) (o : Nat) (n : Nat) (c : Nat) (iq : Nat) (v : KV) (vi : KV) : Nat → Value → World → Prop
  | 0 => IsW (.pointer (some ⟨sb, 0 + 5, none⟩))
  | 1 => IsW (.bool false)
  | 2 => IsW (.bool true)
  | 3 => IsW (.bool true)
  | 4 => IsW (.pointer (some ⟨sb, 0, none⟩))
  | 5 => IsW (.pointer (some ⟨sb, 0, none⟩))
  | 6 => IsW (.int .i64 (v.n.fid))
  | 7 => IsW (.bool true)
  | 8 => IsW (.bool true)
  | 9 => IsW (.bool true)
  | 10 => IsW (.int .i64 ((iq : Nat) : Int))
  | 11 => IsW (.bool false)
  | 12 => IsW (.bool false)
  | 13 => IsW (KV.val v)
  | 14 => IsW (.slice (some ⟨g, o, none⟩) n c)
  | 15 => IsW (.int .i64 ((iq : Nat) : Int))
  | 16 => IsW (.pointer (some ⟨g, o + iq * 8, none⟩))
  | 17 => IsW (KV.val vi)
  | 18 => IsW (.bool (worseV v vi))
  | 19 => IsW (.bool (worseV v vi))
  | 20 => IsW (.bool (worseV v vi))
  | _ => fun _ _ => True
theorem VTD_stays (sb : Nat) (g : Nat) (o : Nat) (n : Nat) (c : Nat) (iq : Nat) (v : KV) (vi : KV) : ∀ i, Stays (VTD sb g o n c iq v vi i) := by
  intro i v W W' hb h
  match i, h with
  | 0, h => exact h
  | 1, h => exact h
  | 2, h => exact h
  | 3, h => exact h
  | 4, h => exact h
  | 5, h => exact h
  | 6, h => exact h
  | 7, h => exact h
  | 8, h => exact h
  | 9, h => exact h
  | 10, h => exact h
  | 11, h => exact h
  | 12, h => exact h
  | 13, h => exact h
  | 14, h => exact h
  | 15, h => exact h
  | 16, h => exact h
  | 17, h => exact h
  | 18, h => exact h
  | 19, h => exact h
  | 20, h => exact h
  | k + 21, h => trivial
variable [Inhabited BaseN]
set_option maxRecDepth 8000 in
set_option maxHeartbeats 16000000 in
theorem tells8_law_any (A : Option Addr) (n c : Nat) (room fid now : Int) (vs : List KV) (xs : List M.Kp) (kv : KV) (kx : M.Kp) (AT : Option Addr) (nt ct : Nat) (ut : List NV) (ts : List M.Nd) (w : World) (hk1 : kbase ≤ w.heap.size) (hk2 : w.heap.size ≤ kbase) (ht : TreeC w A n vs xs) (hs : ∀ x ∈ xs, Small x.node) (hkx : ContC w kv kx) (hks : Small kx.node) (hn : (n + 2) * 96 ≤ 140737488355328) (htt : Tree w AT nt ut ts) (hst : ∀ x ∈ ts, Small x) (hnt : nt * 72 ≤ 140737488355328) :
    Calls Try.prog 6 #[.slice A n c, .int .i64 room, kv.val, .int .i64 fid, .int .i64 now, .slice AT nt ct] w fun e w' => e = .returned (.bool true) ∧ Below w.heap.size w w' := by
  have HT : Hid (KeptK w A n vs xs ∧ (∀ x ∈ xs, Small x.node) ∧ ContKp w kv kx ∧ Small kx.node ∧ TreeK w AT nt ut ts ∧ (∀ x ∈ ts, Small x) ∧ kbase ≤ w.heap.size) := ⟨.old ht hk2, hs, ⟨.old hkx.1 hk2, hkx.2⟩, hks, .old htt hk2, hst, hk1⟩
  have HTW : Hid (TreeC w A n vs xs ∧ ContC w kv kx ∧ Tree w AT nt ut ts) := ⟨ht, hkx, htt⟩
  have HL : Hid (n = xs.length) := ht.len
  obtain ⟨iK, hiK, hzK, hsK, hbK⟩ := info_parts infoK
  have hn2 : n ≤ 140737488355328 := by omega
  have hn3 : (n + 1) * 96 ≤ 140737488355328 := by omega
  have hn4 : n * 96 ≤ 140737488355328 := by omega
  have hn5 : n * 72 ≤ 140737488355328 := by omega
  have hnt2 : nt ≤ 140737488355328 := by omega
  have HW : Hid _ := boxK_one w kv
  clear ht hs hkx hks htt hst hk1 hk2
  go_enter Try.func6, Try.ntmps6
  go_wp2_with (fail)
  obtain ⟨w0, hw0⟩ : ∃ W, W = w.alloc (.cells #[.int .i64 kv.n.fid, .bool kv.n.dir, .slice kv.n.dA kv.n.dn kv.n.dc, .slice kv.n.eA kv.n.en kv.n.ec, .int .i64 kv.n.ver, .bool kv.dirty, .int .i64 kv.worth, .int .i64 kv.last] 63) := ⟨_, rfl⟩
  have H0 : Hid (Below w.heap.size w w0 ∧ BoxK w0 w.heap.size kv ∧ w.heap.size < w0.heap.size) := by
    obtain ⟨q1, q2, q3⟩ := HW.out _ hw0
    exact ⟨q1, q2, by rw [q3]; exact Nat.lt_succ_self _⟩
  rw [← hw0]
  clear hw0 HW
  refine (unlike_any A n c vs xs w0 (HTW.out.1.below (Nat.le_refl _) H0.out.1) hn2).mono ?_
  rintro e w1 ⟨rfl, hb⟩
  have H1 : Hid (Below w.heap.size w w1 ∧ BoxK w1 w.heap.size kv) := ⟨H0.out.1.trans (hb.mono H0.out.1.size), H0.out.2.1.below hb H0.out.2.2⟩
  clear hb
  obtain ⟨ul, hul⟩ : ∃ ul, M.unlikeS xs = ul := ⟨_, rfl⟩
  have HUL : Hid (M.unlikeS xs = ul) := hul
  rw [hul]
  clear hul
  cases ul
  case' false =>
    go_wp2_with (fail)
    go_ret
    exact ⟨rfl, H1.out.1⟩
  go_wp2_with (fail)
  refine (rises_any AT nt ct ut ts w1 (HTW.out.2.2.below (Nat.le_refl _) H1.out.1) hnt HT.out.2.2.2.2.2.1).mono ?_
  rintro e w2 ⟨rfl, hb⟩
  have H2 : Hid (Below w.heap.size w w2 ∧ BoxK w2 w.heap.size kv) := ⟨H1.out.1.trans (hb.mono H1.out.1.size), H1.out.2.below hb (lt_of_block H1.out.2)⟩
  clear hb
  obtain ⟨rb, hrb⟩ : ∃ rb, riseB ts = rb := ⟨_, rfl⟩
  have HRB : Hid (riseB ts = rb) := hrb
  rw [hrb]
  clear hrb
  cases rb
  case' false =>
    go_wp2_with (fail)
    go_ret
    exact ⟨rfl, H2.out.1⟩
  have HR : Hid (M.RsN ts) := (riseB_iff.1 HRB.out).1
  obtain ⟨cd, ZS, hks⟩ : ∃ cd ZS, M.keepS xs room kx = (cd, ZS) := ⟨_, _, rfl⟩
  have HKS : Hid (M.keepS xs room kx = (cd, ZS)) := hks
  have HSZ : Hid (∀ z ∈ ZS, Small z.node) := by
    have h := M.keep_small (room := room) HT.out.2.1 HT.out.2.2.2.1
    rw [hks] at h
    exact h
  have HZL : Hid (ZS.length ≤ n + 1) := by
    have h := M.keep_len xs room kx
    rw [hks] at h
    rw [HL.out]; exact h
  clear hks
  obtain ⟨k0, k1, k2, k3, k4, k5, k6, k7, kf, kz⟩ := H2.out.2.facts
  go_wp2_with (fail)
  refine (keep_kept A n c room vs xs kv kx w2 (HTW.out.1.below (Nat.le_refl _) H2.out.1) HT.out.2.1 (HTW.out.2.1.below (Nat.le_refl _) H2.out.1) HT.out.2.2.2.1 hn).mono ?_
  rintro e w3 ⟨B3, m3, d3, us3, rfl, ho, hb⟩
  rw [HKS.out] at ho
  rw [HKS.out]
  have H3 : Hid (TreeC w3 B3 m3 us3 ZS ∧ Below w.heap.size w w3 ∧ BoxK w3 w.heap.size kv) := ⟨ho.tree, H2.out.1.trans (hb.mono H2.out.1.size), H2.out.2.below hb (lt_of_block H2.out.2)⟩
  clear ho hb k0 k1 k2 k3 k4 k5 k6 k7 kf kz
  obtain ⟨k0, k1, k2, k3, k4, k5, k6, k7, kf, kz⟩ := H3.out.2.2.facts
  go_wp2_with (fail)
  refine (refKeep_any A n c room vs xs kv kx w3 (HT.out.1.below (Nat.le_refl _) H3.out.2.1) (HT.out.2.2.1.below (Nat.le_refl _) H3.out.2.1) (Nat.le_trans HT.out.2.2.2.2.2.2 H3.out.2.1.size) hn).mono ?_
  rintro e w4 ⟨B4, m4, d4, us4, rfl, ho, hb⟩
  rw [HKS.out] at ho
  rw [HKS.out]
  obtain rfl : m4 = m3 := by rw [ho.kept.len, H3.out.1.len]
  have H4 : Hid (TreeC w4 B3 m4 us3 ZS ∧ TreeC w4 B4 m4 us4 ZS ∧ Below w.heap.size w w4) := ⟨H3.out.1.below (Nat.le_refl _) hb, ho.kept.weak, H3.out.2.1.trans (hb.mono H3.out.2.1.size)⟩
  have hm4 : m4 ≤ 140737488355328 := by
    have h1 := H3.out.1.len
    have h2 := HZL.out
    omega
  have hcd : (cd != cd) = false := by simp
  clear ho hb k0 k1 k2 k3 k4 k5 k6 k7 kf kz
  go_wp2_with (fail)
  refine (sameKept_any B3 B4 m4 d3 d4 us3 us4 ZS w4 H4.out.1 H4.out.2.1 HSZ.out hm4).mono ?_
  rintro e w5 ⟨rfl, hb⟩
  have H5 : Hid (Below w.heap.size w w5) := H4.out.2.2.trans (hb.mono H4.out.2.2.size)
  clear hb
  go_wp2_with (fail)
  refine (ownL_kept A n c vs xs w5 (HTW.out.1.below (Nat.le_refl _) H5.out) HT.out.2.1 hn3).mono ?_
  rintro e w6 ⟨B6, d6, us6, rfl, ho, hb⟩
  have H6 : Hid (TreeC w6 B6 n us6 xs ∧ Below w.heap.size w w6) := ⟨ho.tree, H5.out.trans (hb.mono H5.out.size)⟩
  clear ho hb
  go_wp2_with (fail)
  refine (sameKept_any B6 A n d6 c us6 vs xs w6 H6.out.1 (HTW.out.1.below (Nat.le_refl _) H6.out.2) HT.out.2.1 hn2).mono ?_
  rintro e w7 ⟨rfl, hb⟩
  have H7 : Hid (Below w.heap.size w w7) := H6.out.2.trans (hb.mono H6.out.2.size)
  clear hb
  go_wp2_with (fail)
  refine (tree_kept A n c vs xs w7 (HTW.out.1.below (Nat.le_refl _) H7.out) HT.out.2.1 hn4).mono ?_
  rintro e w8 ⟨B8, d8, us8, ys8, rfl, ho, hb, hp, hu⟩
  have hys : ys8 = M.keptT xs := M.tree_is HUL.out hp hu
  subst hys
  have H8 : Hid (Tree w8 B8 n us8 (M.keptT xs) ∧ Below w.heap.size w w8 ∧ (∀ y ∈ M.keptT xs, Small y) ∧ n = (M.keptT xs).length) := by
    refine ⟨ho.tree, H7.out.trans (hb.mono H7.out.size), fun y hy => ?_, by rw [ho.tree.1.1, ho.tree.2.1]⟩
    obtain ⟨x, hx, rfl⟩ := List.mem_map.1 (hp.mem_iff.1 hy)
    exact HT.out.2.1 x hx
  clear ho hb hp hu
  go_wp2_with (fail)
  refine (refKept_any A n c vs xs w8 (HT.out.1.below (Nat.le_refl _) H8.out.2.1) hn2).mono ?_
  rintro e w9 ⟨b9, rfl, htm, hb⟩
  have H9 : Hid (TMapK w9 b9 (M.keptT xs) ∧ Tree w9 B8 n us8 (M.keptT xs) ∧ Below w.heap.size w w9) := ⟨htm, H8.out.1.below (Nat.le_refl _) hb, H8.out.2.1.trans (hb.mono H8.out.2.1.size)⟩
  clear htm hb
  go_wp2_with (fail)
  refine (listK_any b9 (M.keptT xs) w9 H9.out.1 (M.keptT_rs xs [] List.Pairwise.nil) (by rw [← H8.out.2.2.2]; omega)).mono ?_
  rintro e w10 ⟨B10, m10, c10, us10, rfl, htk, _, hb⟩
  obtain rfl : m10 = n := by rw [htk.1.1, htk.2.1]; exact H8.out.2.2.2.symm
  have H10 : Hid (Tree w10 B8 m10 us8 (M.keptT xs) ∧ Tree w10 B10 m10 us10 (M.keptT xs) ∧ Below w.heap.size w w10) := ⟨H9.out.2.1.below (Nat.le_refl _) hb, ⟨htk.1, htk.2.imp fun _ _ h => h.1⟩, H9.out.2.2.trans (hb.mono H9.out.2.2.size)⟩
  clear htk hb
  go_wp2_with (fail)
  refine (refSame_any B8 B10 m10 m10 d8 c10 us8 us10 (M.keptT xs) (M.keptT xs) true w10 H10.out.1 H10.out.2.1 hn5 hn5 H8.out.2.2.1 H8.out.2.2.1).mono ?_
  rintro e w11 ⟨rfl, hb⟩
  rw [allB_self]
  have H11 : Hid (Below w.heap.size w w11) := H10.out.2.2.trans (hb.mono H10.out.2.2.size)
  clear hb
  go_wp2_with (fail)
  refine (freshL_kept A m10 c vs xs AT nt ct ut ts w11 (HTW.out.1.below (Nat.le_refl _) H11.out) HT.out.2.1 hn3 (HTW.out.2.2.below (Nat.le_refl _) H11.out) hnt2).mono ?_
  rintro e w12 ⟨B12, m12, d12, us12, rfl, ho, hb⟩
  have H12 : Hid (TreeC w12 B12 m12 us12 (xs.filter (M.stayB ts)) ∧ Below w.heap.size w w12) := ⟨ho.tree, H11.out.trans (hb.mono H11.out.size)⟩
  clear ho hb
  go_wp2_with (fail)
  refine (ofK_any AT nt ct ut ts w12 (HT.out.2.2.2.2.1.below (Nat.le_refl _) H12.out.2) HR.out hnt).mono ?_
  rintro e w13 ⟨b13, rfl, htm, hb⟩
  have H13 : Hid (TMapK w13 b13 ts ∧ TreeC w13 B12 m12 us12 (xs.filter (M.stayB ts)) ∧ Below w.heap.size w w13) := ⟨htm, H12.out.1.below (Nat.le_refl _) hb, H12.out.2.trans (hb.mono H12.out.2.size)⟩
  clear htm hb
  go_wp2_with (fail)
  refine (refFresh_any A m10 c b13 vs xs ts w13 (HT.out.1.below (Nat.le_refl _) H13.out.2.2) H13.out.1 (Nat.le_trans HT.out.2.2.2.2.2.2 H13.out.2.2.size) hn3).mono ?_
  rintro e w14 ⟨B14, m14, d14, us14, rfl, ho, hb⟩
  rw [← M.stay_fresh HR.out xs] at ho
  obtain rfl : m14 = m12 := by rw [ho.kept.len, H13.out.2.1.len]
  have H14 : Hid (TreeC w14 B12 m14 us12 (xs.filter (M.stayB ts)) ∧ TreeC w14 B14 m14 us14 (xs.filter (M.stayB ts)) ∧ Below w.heap.size w w14) := ⟨H13.out.2.1.below (Nat.le_refl _) hb, ho.kept.weak, H13.out.2.2.trans (hb.mono H13.out.2.2.size)⟩
  have hm14 : m14 ≤ 140737488355328 := by
    have h1 := H13.out.2.1.len
    have h2 := List.length_filter_le (M.stayB ts) xs
    have h3 := HL.out
    omega
  clear ho hb
  go_wp2_with (fail)
  refine (sameKept_any B12 B14 m14 d12 d14 us12 us14 (xs.filter (M.stayB ts)) w14 H14.out.1 H14.out.2.1 (fun x hx => HT.out.2.1 x (List.mem_filter.1 hx).1) hm14).mono ?_
  rintro e wL ⟨rfl, hb⟩
  have HLW : Hid (Below w.heap.size w wL ∧ kbase ≤ wL.heap.size ∧ Two wL wL xs fid now 0 none 0 [] none 0 0 [] 0) := by
    have h1 := H14.out.2.2.trans (hb.mono H14.out.2.2.size)
    exact ⟨h1, Nat.le_trans HT.out.2.2.2.2.2.2 h1.size, ⟨OwnK.nil _ _, OwnK.nil _ _, Below.refl _ _, fun g hg => by cases hg⟩⟩
  clear hb
  go_wp2_with (fail)
  go_loopw [17, 18, 19, 20, 83] (fun wv uv cv hv iv W => ∃ (k : Nat) (VU : Option Addr) (dU : Nat) (usU : List KV) (VC : Option Addr) (mC dC : Nat) (usC : List KV), k ≤ m10 ∧ mC ≤ k ∧ wv = .int .i64 (idxW (M.worstS xs k)) ∧ uv = .slice VU k dU ∧ cv = .slice VC mC dC ∧ hv = .bool (M.hasK (xs.take k) fid) ∧ iv = .int .i64 (k : Int) ∧ Hid (Two wL W xs fid now k VU dU usU VC mC dC usC k)) (fun _ _ _ _ iv _ => m10 - (intOf iv).toNat)
  case atStart => exact ⟨0, none, 0, [], none, 0, 0, [], Nat.zero_le _, Nat.le_refl _, rfl, rfl, rfl, rfl, rfl, HLW.out.2.2⟩
  case round =>
    obtain ⟨k, VU, dU, usU, VC, mC, dC, usC, hk, hmk, rfl, rfl, rfl, rfl, rfl, HK⟩ := hrel
    rename World => wr
    have HBR : Hid (Below w.heap.size w wr) := HLW.out.1.trans (HK.out.bel.mono HLW.out.1.size)
    by_cases hlt : k < m10
    · have htr := HT.out.1.below (Nat.le_refl _) HBR.out
      obtain ⟨g, o, v, hV, hgl, hvk, c0, c1, c2, c3, c4, c5, c6, c7⟩ := Kepts.at htr.1 hlt
      obtain ⟨x, hx, hcx⟩ := htr.2.2.at hvk
      subst hV
      obtain ⟨wi, hwi⟩ : ∃ q, q = M.worstS xs k := ⟨_, rfl⟩
      have HWI : Hid (wi = M.worstS xs k ∧ ∀ i, wi = some i → i < k) := ⟨hwi, fun i h => (M.worst_lt xs k i (by rw [← hwi]; exact h)).1⟩
      rw [← hwi]
      have HX : Hid (xs[k]? = some x ∧ ContKp wr v x) := ⟨hx, hcx⟩
      have HWA : Hid _ := boxK_one wr v
      obtain ⟨hh, hhh⟩ : ∃ q, M.hasK (xs.take k) fid = q := ⟨_, rfl⟩
      have HHH : Hid (M.hasK (xs.take k) fid = hh) := hhh
      rw [hhh]
      clear hwi hvk hx hcx htr hhh
      go_upto_region 13 with (fail)
      obtain ⟨w3, hw3⟩ : ∃ W, W = wr.alloc (.cells #[.int .i64 v.n.fid, .bool v.n.dir, .slice v.n.dA v.n.dn v.n.dc, .slice v.n.eA v.n.en v.n.ec, .int .i64 v.n.ver, .bool v.dirty, .int .i64 v.worth, .int .i64 v.last] 63) := ⟨_, rfl⟩
      obtain ⟨sK, hsK2⟩ : ∃ q, wr.heap.size = q := ⟨_, rfl⟩
      have H3 : Hid (Below wr.heap.size wr w3 ∧ BoxK w3 sK v ∧ Two wL w3 xs fid now k VU dU usU VC mC dC usC k ∧ wL.heap.size ≤ sK ∧ (Value.slice VU k dU).ownBlock ≠ some sK ∧ (Value.slice VC mC dC).ownBlock ≠ some sK) := by
        obtain ⟨q1, q2, q3⟩ := HWA.out _ hw3
        rw [← hsK2]
        exact ⟨q1, q2, HK.out.below q1, HK.out.bel.size, fun e => by have := HK.out.lt.1 _ e; omega, fun e => by have := HK.out.lt.2 _ e; omega⟩
      have hgd : g < w3.drew.heap.size := Nat.lt_of_lt_of_le hgl H3.out.1.size
      rw [← hw3, hsK2]
      clear hw3 hsK2 HWA c0 c1 c2 c3 c4 c5 c6 c7 hgl
      go_cut [108] from 88 to 108 (fun t W => t = .bool (M.freeK x && M.ahead xs x wi) ∧ Below w3.heap.size w3 W)
      case first =>
        have HFK : Hid (M.freeK x = (!v.dirty && !decide (v.n.fid = 0))) := by show _ = _; unfold M.freeK; rw [HX.out.2.2.1, HX.out.2.1.1.1]
        obtain ⟨db, hdb⟩ : ∃ b, v.dirty = b := ⟨_, rfl⟩
        rw [hdb] at HFK
        have HDB : Hid (v.dirty = db) := hdb
        clear hdb
        have HVB : ∀ W, Below w3.drew.heap.size w3.drew W → KeptAt W sK 0 v := fun W hb => keptAt_box (H3.out.2.1.below ((Below.refl _ _).drew.trans hb) (lt_of_block H3.out.2.1))
        cases db
        case' true =>
          have rb0 : v.dirty = true := HDB.out
          have HE : Hid (M.freeK x = false) := by show _ = _; rw [HFK.out]; simp
          refine wp_region_vals (VTA sK) (by kernel_rfl) (by kernel_rfl) (VTA_stays sK) ?_ ?_
          · intro j hj
            match j, hj with
            | 0, _ =>
              refine StepAt.by rfl fun a' W hf hb hd => ?_
              exact .inl ⟨want_none, does_run (run_fieldK1 ((hf.keeps 22 (by kernel_rfl)).trans rfl)) ⟨Below.refl _ _, rfl⟩⟩
            | 1, _ =>
              refine StepAt.by rfl fun a' W hf hb hd => ?_
              exact .inl ⟨want_none, does_run (run_load4 (hd 0 (by kernel_rfl)) ((HVB W hb) 5 _ rfl)) ⟨Below.refl _ _, by show Value.bool _ = _; rw [rb0]⟩⟩
            | 2, _ =>
              refine StepAt.by rfl fun a' W hf hb hd => ?_
              exact .inl ⟨want_none, does_not (hd 1 (by kernel_rfl)) ⟨Below.refl _ _, rfl⟩⟩
            | 3, _ =>
              refine StepAt.by rfl fun a' W hf hb hd => ?_
              exact .inl ⟨want_none, does_move (hd 2 (by kernel_rfl)) ⟨Below.refl _ _, rfl⟩⟩
            | 4, _ =>
              refine StepAt.by rfl fun a' W hf hb hd => ?_
              exact .inr ⟨want_some (k := 3) (t := 91) rfl (hd 3 (by kernel_rfl)), rfl⟩
            | 5, _ =>
              refine StepAt.by rfl fun a' W hf hb hd => ?_
              exact .inr ⟨want_some (k := 3) (t := 91) rfl (hd 3 (by kernel_rfl)), rfl⟩
            | 6, _ =>
              refine StepAt.by rfl fun a' W hf hb hd => ?_
              exact .inr ⟨want_some (k := 3) (t := 91) rfl (hd 3 (by kernel_rfl)), rfl⟩
            | 7, _ =>
              refine StepAt.by rfl fun a' W hf hb hd => ?_
              exact .inr ⟨want_some (k := 3) (t := 91) rfl (hd 3 (by kernel_rfl)), rfl⟩
            | 8, _ =>
              refine StepAt.by rfl fun a' W hf hb hd => ?_
              exact .inl ⟨want_none, does_pick (b := false) (hd 3 (by kernel_rfl)) rfl ⟨Below.refl _ _, rfl⟩⟩
            | 9, _ =>
              refine StepAt.by rfl fun a' W hf hb hd => ?_
              exact .inl ⟨want_none, does_move (hd 8 (by kernel_rfl)) ⟨Below.refl _ _, rfl⟩⟩
            | 10, _ =>
              refine StepAt.by rfl fun a' W hf hb hd => ?_
              exact .inr ⟨want_some (k := 9) (t := 97) rfl (hd 9 (by kernel_rfl)), rfl⟩
            | 11, _ =>
              refine StepAt.by rfl fun a' W hf hb hd => ?_
              exact .inr ⟨want_some (k := 9) (t := 97) rfl (hd 9 (by kernel_rfl)), rfl⟩
            | 12, _ =>
              refine StepAt.by rfl fun a' W hf hb hd => ?_
              exact .inr ⟨want_some (k := 9) (t := 97) rfl (hd 9 (by kernel_rfl)), rfl⟩
            | 13, _ =>
              refine StepAt.by rfl fun a' W hf hb hd => ?_
              exact .inr ⟨want_undef (k := 12) (t := 100) rfl (hd 12 (by kernel_rfl)), rfl⟩
            | 14, _ =>
              refine StepAt.by rfl fun a' W hf hb hd => ?_
              exact .inr ⟨want_undef (k := 12) (t := 100) rfl (hd 12 (by kernel_rfl)), rfl⟩
            | 15, _ =>
              refine StepAt.by rfl fun a' W hf hb hd => ?_
              exact .inr ⟨want_undef (k := 12) (t := 100) rfl (hd 12 (by kernel_rfl)), rfl⟩
            | 16, _ =>
              refine StepAt.by rfl fun a' W hf hb hd => ?_
              exact .inr ⟨want_undef (k := 12) (t := 100) rfl (hd 12 (by kernel_rfl)), rfl⟩
            | 17, _ =>
              refine StepAt.by rfl fun a' W hf hb hd => ?_
              exact .inr ⟨want_undef (k := 12) (t := 100) rfl (hd 12 (by kernel_rfl)), rfl⟩
            | 18, _ =>
              refine StepAt.by rfl fun a' W hf hb hd => ?_
              exact .inr ⟨want_undef (k := 12) (t := 100) rfl (hd 12 (by kernel_rfl)), rfl⟩
            | 19, _ =>
              refine StepAt.by rfl fun a' W hf hb hd => ?_
              exact .inr ⟨want_some (k := 9) (t := 97) rfl (hd 9 (by kernel_rfl)), rfl⟩
            | 20, _ =>
              refine StepAt.by rfl fun a' W hf hb hd => ?_
              exact .inl ⟨want_none, does_pick (b := false) (hd 9 (by kernel_rfl)) rfl ⟨Below.refl _ _, rfl⟩⟩
            | k + 21, hi => exact absurd hi (Nat.not_lt.2 (Nat.le_add_left _ _))
          · intro a' W hf hb hv
            have hlast : a'.eval (.tmp 108) = .bool false := hv 20 (by decide)
            have hl := hf.lit (fun t => decide (88 ≤ t) && decide (t ≤ 108)) (by kernel_rfl)
            simp only [overL, Nat.reduceAdd, Nat.reduceLeDiff, decide_true, decide_false, Bool.and_true, Bool.and_false] at hl
            rw [hl]
            clear hl
            go_wp2_with (fail)
            go_meet
            case rel => exact ⟨hlast.trans (congrArg Value.bool (by rw [HE.out]; rfl)), hb⟩
        have rb0 : v.dirty = false := HDB.out
        by_cases hf : v.n.fid = 0
        case' pos =>
          have HE : Hid (M.freeK x = false) := by show _ = _; rw [HFK.out]; simp [hf]
          have rb1 : ((v.n.fid : Int) != (0 : Int)) = false := by simp [hf]
          refine wp_region_vals (VTB sK v) (by kernel_rfl) (by kernel_rfl) (VTB_stays sK v) ?_ ?_
          · intro j hj
            match j, hj with
            | 0, _ =>
              refine StepAt.by rfl fun a' W hf hb hd => ?_
              exact .inl ⟨want_none, does_run (run_fieldK1 ((hf.keeps 22 (by kernel_rfl)).trans rfl)) ⟨Below.refl _ _, rfl⟩⟩
            | 1, _ =>
              refine StepAt.by rfl fun a' W hf hb hd => ?_
              exact .inl ⟨want_none, does_run (run_load4 (hd 0 (by kernel_rfl)) ((HVB W hb) 5 _ rfl)) ⟨Below.refl _ _, by show Value.bool _ = _; rw [rb0]⟩⟩
            | 2, _ =>
              refine StepAt.by rfl fun a' W hf hb hd => ?_
              exact .inl ⟨want_none, does_not (hd 1 (by kernel_rfl)) ⟨Below.refl _ _, rfl⟩⟩
            | 3, _ =>
              refine StepAt.by rfl fun a' W hf hb hd => ?_
              exact .inl ⟨want_none, does_move (hd 2 (by kernel_rfl)) ⟨Below.refl _ _, rfl⟩⟩
            | 4, _ =>
              refine StepAt.by rfl fun a' W hf hb hd => ?_
              exact .inl ⟨want_some (k := 3) (t := 91) rfl (hd 3 (by kernel_rfl)), does_run (run_fieldK0 ((hf.keeps 22 (by kernel_rfl)).trans rfl)) ⟨Below.refl _ _, rfl⟩⟩
            | 5, _ =>
              refine StepAt.by rfl fun a' W hf hb hd => ?_
              exact .inl ⟨want_some (k := 3) (t := 91) rfl (hd 3 (by kernel_rfl)), does_run (run_fieldN0 (hd 4 (by kernel_rfl))) ⟨Below.refl _ _, rfl⟩⟩
            | 6, _ =>
              refine StepAt.by rfl fun a' W hf hb hd => ?_
              exact .inl ⟨want_some (k := 3) (t := 91) rfl (hd 3 (by kernel_rfl)), does_run (run_load3 (hd 5 (by kernel_rfl)) ((HVB W hb) 0 _ rfl)) ⟨Below.refl _ _, rfl⟩⟩
            | 7, _ =>
              refine StepAt.by rfl fun a' W hf hb hd => ?_
              exact .inl ⟨want_some (k := 3) (t := 91) rfl (hd 3 (by kernel_rfl)), does_run (run_neqI (hd 6 (by kernel_rfl)) rfl) ⟨Below.refl _ _, by show Value.bool _ = _; rw [rb1]⟩⟩
            | 8, _ =>
              refine StepAt.by rfl fun a' W hf hb hd => ?_
              exact .inl ⟨want_none, does_pick (b := true) (hd 3 (by kernel_rfl)) (hd 7 (by kernel_rfl)) ⟨Below.refl _ _, rfl⟩⟩
            | 9, _ =>
              refine StepAt.by rfl fun a' W hf hb hd => ?_
              exact .inl ⟨want_none, does_move (hd 8 (by kernel_rfl)) ⟨Below.refl _ _, rfl⟩⟩
            | 10, _ =>
              refine StepAt.by rfl fun a' W hf hb hd => ?_
              exact .inr ⟨want_some (k := 9) (t := 97) rfl (hd 9 (by kernel_rfl)), rfl⟩
            | 11, _ =>
              refine StepAt.by rfl fun a' W hf hb hd => ?_
              exact .inr ⟨want_some (k := 9) (t := 97) rfl (hd 9 (by kernel_rfl)), rfl⟩
            | 12, _ =>
              refine StepAt.by rfl fun a' W hf hb hd => ?_
              exact .inr ⟨want_some (k := 9) (t := 97) rfl (hd 9 (by kernel_rfl)), rfl⟩
            | 13, _ =>
              refine StepAt.by rfl fun a' W hf hb hd => ?_
              exact .inr ⟨want_undef (k := 12) (t := 100) rfl (hd 12 (by kernel_rfl)), rfl⟩
            | 14, _ =>
              refine StepAt.by rfl fun a' W hf hb hd => ?_
              exact .inr ⟨want_undef (k := 12) (t := 100) rfl (hd 12 (by kernel_rfl)), rfl⟩
            | 15, _ =>
              refine StepAt.by rfl fun a' W hf hb hd => ?_
              exact .inr ⟨want_undef (k := 12) (t := 100) rfl (hd 12 (by kernel_rfl)), rfl⟩
            | 16, _ =>
              refine StepAt.by rfl fun a' W hf hb hd => ?_
              exact .inr ⟨want_undef (k := 12) (t := 100) rfl (hd 12 (by kernel_rfl)), rfl⟩
            | 17, _ =>
              refine StepAt.by rfl fun a' W hf hb hd => ?_
              exact .inr ⟨want_undef (k := 12) (t := 100) rfl (hd 12 (by kernel_rfl)), rfl⟩
            | 18, _ =>
              refine StepAt.by rfl fun a' W hf hb hd => ?_
              exact .inr ⟨want_undef (k := 12) (t := 100) rfl (hd 12 (by kernel_rfl)), rfl⟩
            | 19, _ =>
              refine StepAt.by rfl fun a' W hf hb hd => ?_
              exact .inr ⟨want_some (k := 9) (t := 97) rfl (hd 9 (by kernel_rfl)), rfl⟩
            | 20, _ =>
              refine StepAt.by rfl fun a' W hf hb hd => ?_
              exact .inl ⟨want_none, does_pick (b := false) (hd 9 (by kernel_rfl)) rfl ⟨Below.refl _ _, rfl⟩⟩
            | k + 21, hi => exact absurd hi (Nat.not_lt.2 (Nat.le_add_left _ _))
          · intro a' W hf hb hv
            have hlast : a'.eval (.tmp 108) = .bool false := hv 20 (by decide)
            have hl := hf.lit (fun t => decide (88 ≤ t) && decide (t ≤ 108)) (by kernel_rfl)
            simp only [overL, Nat.reduceAdd, Nat.reduceLeDiff, decide_true, decide_false, Bool.and_true, Bool.and_false] at hl
            rw [hl]
            clear hl
            go_wp2_with (fail)
            go_meet
            case rel => exact ⟨hlast.trans (congrArg Value.bool (by rw [HE.out]; rfl)), hb⟩
        have HE : Hid (M.freeK x = true) := by show _ = _; rw [HFK.out]; simp [hf]
        have rb1 : ((v.n.fid : Int) != (0 : Int)) = true := by simp [hf]
        clear hf
        rcases wi with _ | i
        · have HE2 : Hid ((M.freeK x && M.ahead xs x none) = true) := by show _ = _; rw [HE.out]; rfl
          have rb2 : decide ((-1 : Int) < (0 : Int)) = true := by decide
          rw [show idxW none = -1 from rfl]
          refine wp_region_vals (VTC sK v) (by kernel_rfl) (by kernel_rfl) (VTC_stays sK v) ?_ ?_
          · intro j hj
            match j, hj with
            | 0, _ =>
              refine StepAt.by rfl fun a' W hf hb hd => ?_
              exact .inl ⟨want_none, does_run (run_fieldK1 ((hf.keeps 22 (by kernel_rfl)).trans rfl)) ⟨Below.refl _ _, rfl⟩⟩
            | 1, _ =>
              refine StepAt.by rfl fun a' W hf hb hd => ?_
              exact .inl ⟨want_none, does_run (run_load4 (hd 0 (by kernel_rfl)) ((HVB W hb) 5 _ rfl)) ⟨Below.refl _ _, by show Value.bool _ = _; rw [rb0]⟩⟩
            | 2, _ =>
              refine StepAt.by rfl fun a' W hf hb hd => ?_
              exact .inl ⟨want_none, does_not (hd 1 (by kernel_rfl)) ⟨Below.refl _ _, rfl⟩⟩
            | 3, _ =>
              refine StepAt.by rfl fun a' W hf hb hd => ?_
              exact .inl ⟨want_none, does_move (hd 2 (by kernel_rfl)) ⟨Below.refl _ _, rfl⟩⟩
            | 4, _ =>
              refine StepAt.by rfl fun a' W hf hb hd => ?_
              exact .inl ⟨want_some (k := 3) (t := 91) rfl (hd 3 (by kernel_rfl)), does_run (run_fieldK0 ((hf.keeps 22 (by kernel_rfl)).trans rfl)) ⟨Below.refl _ _, rfl⟩⟩
            | 5, _ =>
              refine StepAt.by rfl fun a' W hf hb hd => ?_
              exact .inl ⟨want_some (k := 3) (t := 91) rfl (hd 3 (by kernel_rfl)), does_run (run_fieldN0 (hd 4 (by kernel_rfl))) ⟨Below.refl _ _, rfl⟩⟩
            | 6, _ =>
              refine StepAt.by rfl fun a' W hf hb hd => ?_
              exact .inl ⟨want_some (k := 3) (t := 91) rfl (hd 3 (by kernel_rfl)), does_run (run_load3 (hd 5 (by kernel_rfl)) ((HVB W hb) 0 _ rfl)) ⟨Below.refl _ _, rfl⟩⟩
            | 7, _ =>
              refine StepAt.by rfl fun a' W hf hb hd => ?_
              exact .inl ⟨want_some (k := 3) (t := 91) rfl (hd 3 (by kernel_rfl)), does_run (run_neqI (hd 6 (by kernel_rfl)) rfl) ⟨Below.refl _ _, by show Value.bool _ = _; rw [rb1]⟩⟩
            | 8, _ =>
              refine StepAt.by rfl fun a' W hf hb hd => ?_
              exact .inl ⟨want_none, does_pick (b := true) (hd 3 (by kernel_rfl)) (hd 7 (by kernel_rfl)) ⟨Below.refl _ _, rfl⟩⟩
            | 9, _ =>
              refine StepAt.by rfl fun a' W hf hb hd => ?_
              exact .inl ⟨want_none, does_move (hd 8 (by kernel_rfl)) ⟨Below.refl _ _, rfl⟩⟩
            | 10, _ =>
              refine StepAt.by rfl fun a' W hf hb hd => ?_
              exact .inl ⟨want_some (k := 9) (t := 97) rfl (hd 9 (by kernel_rfl)), does_move ((hf.keeps 17 (by kernel_rfl)).trans rfl) ⟨Below.refl _ _, rfl⟩⟩
            | 11, _ =>
              refine StepAt.by rfl fun a' W hf hb hd => ?_
              exact .inl ⟨want_some (k := 9) (t := 97) rfl (hd 9 (by kernel_rfl)), does_run (run_lssI (hd 10 (by kernel_rfl)) rfl) ⟨Below.refl _ _, by show Value.bool _ = _; rw [rb2]⟩⟩
            | 12, _ =>
              refine StepAt.by rfl fun a' W hf hb hd => ?_
              exact .inl ⟨want_some (k := 9) (t := 97) rfl (hd 9 (by kernel_rfl)), does_move (hd 11 (by kernel_rfl)) ⟨Below.refl _ _, rfl⟩⟩
            | 13, _ =>
              refine StepAt.by rfl fun a' W hf hb hd => ?_
              exact .inr ⟨want_some (k := 12) (t := 100) rfl (hd 12 (by kernel_rfl)), rfl⟩
            | 14, _ =>
              refine StepAt.by rfl fun a' W hf hb hd => ?_
              exact .inr ⟨want_some (k := 12) (t := 100) rfl (hd 12 (by kernel_rfl)), rfl⟩
            | 15, _ =>
              refine StepAt.by rfl fun a' W hf hb hd => ?_
              exact .inr ⟨want_some (k := 12) (t := 100) rfl (hd 12 (by kernel_rfl)), rfl⟩
            | 16, _ =>
              refine StepAt.by rfl fun a' W hf hb hd => ?_
              exact .inr ⟨want_some (k := 12) (t := 100) rfl (hd 12 (by kernel_rfl)), rfl⟩
            | 17, _ =>
              refine StepAt.by rfl fun a' W hf hb hd => ?_
              exact .inr ⟨want_some (k := 12) (t := 100) rfl (hd 12 (by kernel_rfl)), rfl⟩
            | 18, _ =>
              refine StepAt.by rfl fun a' W hf hb hd => ?_
              exact .inr ⟨want_some (k := 12) (t := 100) rfl (hd 12 (by kernel_rfl)), rfl⟩
            | 19, _ =>
              refine StepAt.by rfl fun a' W hf hb hd => ?_
              exact .inl ⟨want_some (k := 9) (t := 97) rfl (hd 9 (by kernel_rfl)), does_pick (b := true) (hd 12 (by kernel_rfl)) rfl ⟨Below.refl _ _, rfl⟩⟩
            | 20, _ =>
              refine StepAt.by rfl fun a' W hf hb hd => ?_
              exact .inl ⟨want_none, does_pick (b := true) (hd 9 (by kernel_rfl)) (hd 19 (by kernel_rfl)) ⟨Below.refl _ _, rfl⟩⟩
            | k + 21, hi => exact absurd hi (Nat.not_lt.2 (Nat.le_add_left _ _))
          · intro a' W hf hb hv
            have hlast : a'.eval (.tmp 108) = .bool true := hv 20 (by decide)
            have hl := hf.lit (fun t => decide (88 ≤ t) && decide (t ≤ 108)) (by kernel_rfl)
            simp only [overL, Nat.reduceAdd, Nat.reduceLeDiff, decide_true, decide_false, Bool.and_true, Bool.and_false] at hl
            rw [hl]
            clear hl
            go_wp2_with (fail)
            go_meet
            case rel => exact ⟨hlast.trans (congrArg Value.bool (HE2.out.symm)), hb⟩
        · have hij : i < k := HWI.out.2 i rfl
          have him : i < m10 := by omega
          have rb2 : decide (((i : Nat) : Int) < (0 : Int)) = false := by simp
          have hkw := HT.out.1.below (Nat.le_refl _) (HBR.out.trans (H3.out.1.mono HBR.out.size))
          obtain ⟨g', o', vi, e9, hgi, hvi, _⟩ := Kepts.at hkw.1 him
          cases e9
          obtain ⟨y, hy, hcy⟩ := hkw.2.2.at hvi
          have HE2 : Hid ((M.freeK x && M.ahead xs x (some i)) = worseV v vi) := by
            show _ = _
            rw [HE.out, M.aheadC_some hy]
            exact (worseV_is (HX.out.2.below (Nat.le_refl _) H3.out.1) hcy).symm
          have HVI : ∀ W, Below w3.drew.heap.size w3.drew W → KeptAt W g (o + i * 8) vi := fun W hb => (keptAt_of hkw.1 hvi).below ((Below.refl _ _).drew.trans hb) hgi
          rw [show idxW (some i) = (i : Int) from rfl]
          clear hvi hy hcy hgi hkw
          refine wp_region_vals (VTD sK g o m10 c i v vi) (by kernel_rfl) (by kernel_rfl) (VTD_stays sK g o m10 c i v vi) ?_ ?_
          · intro j hj
            match j, hj with
            | 0, _ =>
              refine StepAt.by rfl fun a' W hf hb hd => ?_
              exact .inl ⟨want_none, does_run (run_fieldK1 ((hf.keeps 22 (by kernel_rfl)).trans rfl)) ⟨Below.refl _ _, rfl⟩⟩
            | 1, _ =>
              refine StepAt.by rfl fun a' W hf hb hd => ?_
              exact .inl ⟨want_none, does_run (run_load4 (hd 0 (by kernel_rfl)) ((HVB W hb) 5 _ rfl)) ⟨Below.refl _ _, by show Value.bool _ = _; rw [rb0]⟩⟩
            | 2, _ =>
              refine StepAt.by rfl fun a' W hf hb hd => ?_
              exact .inl ⟨want_none, does_not (hd 1 (by kernel_rfl)) ⟨Below.refl _ _, rfl⟩⟩
            | 3, _ =>
              refine StepAt.by rfl fun a' W hf hb hd => ?_
              exact .inl ⟨want_none, does_move (hd 2 (by kernel_rfl)) ⟨Below.refl _ _, rfl⟩⟩
            | 4, _ =>
              refine StepAt.by rfl fun a' W hf hb hd => ?_
              exact .inl ⟨want_some (k := 3) (t := 91) rfl (hd 3 (by kernel_rfl)), does_run (run_fieldK0 ((hf.keeps 22 (by kernel_rfl)).trans rfl)) ⟨Below.refl _ _, rfl⟩⟩
            | 5, _ =>
              refine StepAt.by rfl fun a' W hf hb hd => ?_
              exact .inl ⟨want_some (k := 3) (t := 91) rfl (hd 3 (by kernel_rfl)), does_run (run_fieldN0 (hd 4 (by kernel_rfl))) ⟨Below.refl _ _, rfl⟩⟩
            | 6, _ =>
              refine StepAt.by rfl fun a' W hf hb hd => ?_
              exact .inl ⟨want_some (k := 3) (t := 91) rfl (hd 3 (by kernel_rfl)), does_run (run_load3 (hd 5 (by kernel_rfl)) ((HVB W hb) 0 _ rfl)) ⟨Below.refl _ _, rfl⟩⟩
            | 7, _ =>
              refine StepAt.by rfl fun a' W hf hb hd => ?_
              exact .inl ⟨want_some (k := 3) (t := 91) rfl (hd 3 (by kernel_rfl)), does_run (run_neqI (hd 6 (by kernel_rfl)) rfl) ⟨Below.refl _ _, by show Value.bool _ = _; rw [rb1]⟩⟩
            | 8, _ =>
              refine StepAt.by rfl fun a' W hf hb hd => ?_
              exact .inl ⟨want_none, does_pick (b := true) (hd 3 (by kernel_rfl)) (hd 7 (by kernel_rfl)) ⟨Below.refl _ _, rfl⟩⟩
            | 9, _ =>
              refine StepAt.by rfl fun a' W hf hb hd => ?_
              exact .inl ⟨want_none, does_move (hd 8 (by kernel_rfl)) ⟨Below.refl _ _, rfl⟩⟩
            | 10, _ =>
              refine StepAt.by rfl fun a' W hf hb hd => ?_
              exact .inl ⟨want_some (k := 9) (t := 97) rfl (hd 9 (by kernel_rfl)), does_move ((hf.keeps 17 (by kernel_rfl)).trans rfl) ⟨Below.refl _ _, rfl⟩⟩
            | 11, _ =>
              refine StepAt.by rfl fun a' W hf hb hd => ?_
              exact .inl ⟨want_some (k := 9) (t := 97) rfl (hd 9 (by kernel_rfl)), does_run (run_lssI (hd 10 (by kernel_rfl)) rfl) ⟨Below.refl _ _, by show Value.bool _ = _; rw [rb2]⟩⟩
            | 12, _ =>
              refine StepAt.by rfl fun a' W hf hb hd => ?_
              exact .inl ⟨want_some (k := 9) (t := 97) rfl (hd 9 (by kernel_rfl)), does_move (hd 11 (by kernel_rfl)) ⟨Below.refl _ _, rfl⟩⟩
            | 13, _ =>
              refine StepAt.by rfl fun a' W hf hb hd => ?_
              exact .inl ⟨want_some (k := 12) (t := 100) rfl (hd 12 (by kernel_rfl)), does_run (run_loadKp ((hf.keeps 22 (by kernel_rfl)).trans rfl) (HVB W hb)) ⟨Below.refl _ _, rfl⟩⟩
            | 14, _ =>
              refine StepAt.by rfl fun a' W hf hb hd => ?_
              exact .inl ⟨want_some (k := 12) (t := 100) rfl (hd 12 (by kernel_rfl)), does_move ((hf.keeps 0 (by kernel_rfl)).trans rfl) ⟨Below.refl _ _, rfl⟩⟩
            | 15, _ =>
              refine StepAt.by rfl fun a' W hf hb hd => ?_
              exact .inl ⟨want_some (k := 12) (t := 100) rfl (hd 12 (by kernel_rfl)), does_move ((hf.keeps 17 (by kernel_rfl)).trans rfl) ⟨Below.refl _ _, rfl⟩⟩
            | 16, _ =>
              refine StepAt.by rfl fun a' W hf hb hd => ?_
              exact .inl ⟨want_some (k := 12) (t := 100) rfl (hd 12 (by kernel_rfl)), does_run (run_indexK (hd 14 (by kernel_rfl)) (hd 15 (by kernel_rfl)) (by omega)) ⟨Below.refl _ _, rfl⟩⟩
            | 17, _ =>
              refine StepAt.by rfl fun a' W hf hb hd => ?_
              exact .inl ⟨want_some (k := 12) (t := 100) rfl (hd 12 (by kernel_rfl)), does_run (run_loadKp (hd 16 (by kernel_rfl)) (HVI W hb)) ⟨Below.refl _ _, rfl⟩⟩
            | 18, _ =>
              refine StepAt.by rfl fun a' W hf hb hd => ?_
              refine .inl ⟨want_some (k := 12) (t := 100) rfl (hd 12 (by kernel_rfl)), ?_⟩
              exact does_call2 (enters_of Try.func30 (by kernel_rfl) (by kernel_rfl)) (hd 13 (by kernel_rfl)) (hd 17 (by kernel_rfl)) ((refWorse_any v vi W).mono fun e W2 ⟨he, hb2⟩ => ⟨_, he, hb2, rfl⟩)
            | 19, _ =>
              refine StepAt.by rfl fun a' W hf hb hd => ?_
              exact .inl ⟨want_some (k := 9) (t := 97) rfl (hd 9 (by kernel_rfl)), does_pick (b := false) (hd 12 (by kernel_rfl)) (hd 18 (by kernel_rfl)) ⟨Below.refl _ _, rfl⟩⟩
            | 20, _ =>
              refine StepAt.by rfl fun a' W hf hb hd => ?_
              exact .inl ⟨want_none, does_pick (b := true) (hd 9 (by kernel_rfl)) (hd 19 (by kernel_rfl)) ⟨Below.refl _ _, rfl⟩⟩
            | k + 21, hi => exact absurd hi (Nat.not_lt.2 (Nat.le_add_left _ _))
          · intro a' W hf hb hv
            have hlast : a'.eval (.tmp 108) = .bool (worseV v vi) := hv 20 (by decide)
            have hl := hf.lit (fun t => decide (88 ≤ t) && decide (t ≤ 108)) (by kernel_rfl)
            simp only [overL, Nat.reduceAdd, Nat.reduceLeDiff, decide_true, decide_false, Bool.and_true, Bool.and_false] at hl
            rw [hl]
            clear hl
            go_wp2_with (fail)
            go_meet
            case rel => exact ⟨hlast.trans (congrArg Value.bool (HE2.out.symm)), hb⟩
      obtain ⟨rfl, hb4⟩ := hcut
      rename World => w4
      have H4 : Hid (Two wL w4 xs fid now k VU dU usU VC mC dC usC k ∧ BoxK w4 sK v ∧ ContKp w4 v x ∧ Below w.heap.size w w4) := by
        have h1 := H3.out.1.trans (hb4.mono H3.out.1.size)
        exact ⟨H3.out.2.2.1.below hb4, H3.out.2.1.below hb4 (lt_of_block H3.out.2.1), HX.out.2.below (Nat.le_refl _) h1, HBR.out.trans (h1.mono HBR.out.size)⟩
      have HST : Hid (M.worstS xs (k + 1) = if (M.freeK x && M.ahead xs x wi) = true then some k else wi) := by
        show _ = _
        rw [M.worst_step HX.out.1, HWI.out.1]
      clear hb4 hgd
      generalize (M.freeK x && M.ahead xs x wi) = fl at HST ⊢
      go_upto_if 108 with (fail)
      go_cut [17] from 109 to 109 (fun t W => t = .int .i64 (idxW (M.worstS xs (k + 1))) ∧ W = w4)
      case first =>
        cases fl
        · go_wp2_with (fail)
          go_meet
          case rel => exact ⟨by rw [HST.out]; rfl, rfl⟩
        · go_wp2_with (fail)
          go_meet
          case rel => exact ⟨by rw [HST.out]; rfl, rfl⟩
      obtain ⟨rfl, rfl⟩ := hcut
      rename World => w4
      obtain ⟨nb, hnb⟩ : ∃ b, (!v.dirty) = b := ⟨_, rfl⟩
      have HDB : Hid (x.dirty = !nb) := by show _ = _; rw [← hnb, H4.out.2.2.1.2.1]; simp
      obtain ⟨z0, z1, z2, z3, z4, z5, z6, z7, zf, zz⟩ := H4.out.2.1.facts
      go_upto_if 112 with (fail)
      clear hnb
      go_cut [19] from 113 to 116 (fun t W => ∃ (VC' : Option Addr) (mC' dC' : Nat) (usC' : List KV), t = .slice VC' mC' dC' ∧ mC' ≤ k + 1 ∧ Hid (Two wL W xs fid now k VU dU usU VC' mC' dC' usC' (k + 1) ∧ BoxK W sK v ∧ ContKp W v x ∧ Below w.heap.size w W ∧ (Value.slice VC' mC' dC').ownBlock ≠ some sK))
      case first =>
        cases nb
        · go_wp2_with (fail)
          go_meet
          case rel => exact ⟨VC, mC, dC, usC, rfl, by omega, H4.out.1.skip HX.out.1 HDB.out, H4.out.2.1, H4.out.2.2.1, H4.out.2.2.2, H3.out.2.2.2.2.2⟩
        · have HWB : Hid _ := boxK_one w4 v
          have HKN : Hid (mC + 1 ≤ maxLen ∧ (mC + 1) * 96 ≤ 140737488355328) := ⟨by unfold maxLen; omega, Nat.le_trans (Nat.mul_le_mul_right 96 (by omega)) hn3⟩
          go_wp2_with (at_builtin; refine wpList_append_row2 _ (by rfl) (.tmp 113) (.tmp 115) 61 (by rfl) wL.heap.size 63 iK _ 96 Try.underlying61 hiK hzK hsK hbK rfl (by decide) _ mC _ (by rfl) (own_below H4.out.1.clean.1 (HWB.out _ rfl).1 (Nat.le_refl _)) ⟨w4.heap.size, 0, none⟩ 1 1 [v] (by rfl) (rowK_box (HWB.out _ rfl).2.1) kept_len kept_one HKN.out.1 HKN.out.2 (Nat.le_trans H4.out.1.bel.size (HWB.out _ rfl).1.size) ?_; intro v5 w5 hown5 hg5 hw5; obtain ⟨VC5, d5, rfl, _, _⟩ := own_form hown5; have HR : Hid (Two wL w5 xs fid now k VU dU usU VC5 (mC + 1) d5 (usC ++ [v]) (k + 1) ∧ BoxK w5 sK v ∧ ContKp w5 v x ∧ Below w.heap.size w w5 ∧ (Value.slice VC5 (mC + 1) d5).ownBlock ≠ some sK) := clean_more H4.out.1 HLW.out.2.1 HX.out.1 HDB.out H4.out.2.2.1 H4.out.2.1 H4.out.2.2.2 HLW.out.1.size (HWB.out _ rfl).1 H3.out.2.2.2.2.2 (by simpa using hown5) hg5 hw5; clear hown5 hg5 hw5)
          go_meet
          case rel => exact ⟨VC5, mC + 1, d5, usC ++ [v], rfl, by omega, HR⟩
      obtain ⟨VC', mC', dC', usC', rfl, hmC', H5⟩ := hcut
      rename World => w5
      clear z0 z1 z2 z3 z4 z5 z6 z7 zf zz H4
      obtain ⟨z0, z1, z2, z3, z4, z5, z6, z7, zf, zz⟩ := H5.out.2.1.facts
      obtain ⟨q, hq⟩ : ∃ q, ((v.n.fid : Int) == fid) = q := ⟨_, rfl⟩
      have HQ : Hid (q = decide (x.node.fid = fid)) := by
        show _ = _
        rw [← hq, HX.out.2.1.1.1]
        by_cases h : x.node.fid = fid
        · simp [h]
        · simp [h]
      go_upto_if 121 with (fail)
      go_cut [20] from 122 to 123 (fun t W => t = .bool (hh || q) ∧ ∃ v' : KV, Hid (Two wL W xs fid now k VU dU usU VC' mC' dC' usC' (k + 1) ∧ BoxK W sK v' ∧ ContKp W v' (M.useK fid now x) ∧ Below w.heap.size w W))
      case first =>
        clear hq
        cases q
        · have HU : Hid (M.useK fid now x = x) := by
            show _ = _
            unfold M.useK
            rw [if_neg (of_decide_eq_false HQ.out.symm)]
          go_wp2_with (fail)
          go_meet
          case rel => exact ⟨by cases hh <;> rfl, v, H5.out.1, H5.out.2.1, by rw [HU.out]; exact H5.out.2.2.1, H5.out.2.2.2.1⟩
        · have HU : Hid (M.useK fid now x = ⟨x.node, x.dirty, x.worth, now⟩) := by
            show _ = _
            unfold M.useK
            rw [if_pos (of_decide_eq_true HQ.out.symm)]
          have HR : Hid (Two wL (w5.setCell ⟨sK, 7, none⟩ (.int .i64 now)) xs fid now k VU dU usU VC' mC' dC' usC' (k + 1) ∧ BoxK (w5.setCell ⟨sK, 7, none⟩ (.int .i64 now)) sK ⟨v.n, v.dirty, v.worth, now⟩ ∧ ContKp (w5.setCell ⟨sK, 7, none⟩ (.int .i64 now)) ⟨v.n, v.dirty, v.worth, now⟩ (M.useK fid now x) ∧ Below w.heap.size w (w5.setCell ⟨sK, 7, none⟩ (.int .i64 now))) := by
            have hkW : kbase ≤ w5.heap.size := Nat.le_trans HLW.out.2.1 H5.out.1.bel.size
            have hr : RowO w5 (some sK) := fun s hs => by cases hs; exact ⟨Nat.le_trans HLW.out.2.1 H3.out.2.2.2.1, _, H5.out.2.1⟩
            refine ⟨H5.out.1.box HLW.out.2.1 H5.out.2.1 H3.out.2.2.2.1 H3.out.2.2.2.2.1 H5.out.2.2.2.2 _ _, boxC_last w5 sK v now H5.out.2.1, ?_, H5.out.2.2.2.1.setCell (Nat.le_trans HLW.out.1.size H3.out.2.2.2.1) _⟩
            rw [HU.out]
            have h1 := H5.out.2.2.1.row hr (grown_set w5 sK 7 (.int .i64 now)) hkW
            exact ⟨h1.1, h1.2.1, h1.2.2.1, rfl⟩
          go_wp2_with (fail)
          go_meet
          case rel => exact ⟨by cases hh <;> rfl, _, HR⟩
      obtain ⟨rfl, v', H6⟩ := hcut
      rename World => w6
      clear z0 z1 z2 z3 z4 z5 z6 z7 zf zz H5 hq
      obtain ⟨z0, z1, z2, z3, z4, z5, z6, z7, zf, zz⟩ := H6.out.2.1.facts
      have HWB : Hid _ := boxK_one w6 v'
      have HKN : Hid (k + 1 ≤ maxLen ∧ (k + 1) * 96 ≤ 140737488355328) := ⟨by unfold maxLen; omega, Nat.le_trans (Nat.mul_le_mul_right 96 (by omega)) hn3⟩
      go_wp2_with (at_builtin; refine wpList_append_row2 _ (by rfl) (.tmp 124) (.tmp 126) 61 (by rfl) wL.heap.size 63 iK _ 96 Try.underlying61 hiK hzK hsK hbK rfl (by decide) _ k _ (by rfl) (own_below H6.out.1.used.1 (HWB.out _ rfl).1 (Nat.le_refl _)) ⟨w6.heap.size, 0, none⟩ 1 1 [v'] (by rfl) (rowK_box (HWB.out _ rfl).2.1) kept_len kept_one HKN.out.1 HKN.out.2 (Nat.le_trans H6.out.1.bel.size (HWB.out _ rfl).1.size) ?_; intro v7 w7 hown7 hg7 hw7; obtain ⟨VU7, d7, rfl, _, _⟩ := own_form hown7; have HR : Hid (Two wL w7 xs fid now (k + 1) VU7 d7 (usU ++ [v']) VC' mC' dC' usC' (k + 1)) := (H6.out.1.below (HWB.out _ rfl).1).use HLW.out.2.1 HX.out.1 (H6.out.2.2.1.below (Nat.le_refl _) (HWB.out _ rfl).1) (by simpa using hown7) hg7 hw7; clear hown7 hg7 hw7)
      have HHS : Hid (M.hasK (xs.take (k + 1)) fid = (hh || q)) := by show _ = _; rw [M.has_step HX.out.1, HHH.out, HQ.out]
      go_roundw
      case rel => exact ⟨k + 1, VU7, d7, usU ++ [v'], VC', mC', dC', usC', by omega, hmC', rfl, rfl, rfl, by rw [HHS.out], by go_num, HR⟩
      case measure => simp [intOf]; omega
    · have hkn : k = m10 := by omega
      subst hkn
      have HE : Hid (TreeC wr VU k usU (M.useS xs fid now) ∧ TreeC wr VC mC usC (xs.filter fun x => !x.dirty) ∧ k = xs.length) := by
        have h1 := HK.out.used.kept.weak
        have h2 := HK.out.clean.kept.weak
        rw [List.take_of_length_le (by rw [← HL.out]; exact Nat.le_refl _)] at h1 h2
        rw [← M.use_is HUL.out] at h1
        exact ⟨h1, h2, HL.out⟩
      rw [List.take_of_length_le (by rw [← HE.out.2.2]; exact Nat.le_refl _)]
      go_wp2_with (fail)
      refine (worst_kept A k c vs xs wr (HTW.out.1.below (Nat.le_refl _) HBR.out) hn2).mono ?_
      rintro e v1 ⟨rfl, hb⟩
      have G1 : Hid (Below w.heap.size w v1 ∧ TreeC v1 VU k usU (M.useS xs fid now) ∧ TreeC v1 VC mC usC (xs.filter fun x => !x.dirty)) := ⟨HBR.out.trans (hb.mono HBR.out.size), HE.out.1.below (Nat.le_refl _) hb, HE.out.2.1.below (Nat.le_refl _) hb⟩
      have hww : (idxW (M.worstS xs xs.length) == idxW (M.worstS xs k)) = true := by rw [HE.out.2.2]; simp
      clear hb
      go_wp2_with (fail)
      refine (has_kept A k c vs xs fid v1 (HTW.out.1.below (Nat.le_refl _) G1.out.1) hn2).mono ?_
      rintro e v2 ⟨rfl, hb⟩
      have G2 : Hid (Below w.heap.size w v2 ∧ TreeC v2 VU k usU (M.useS xs fid now) ∧ TreeC v2 VC mC usC (xs.filter fun x => !x.dirty)) := ⟨G1.out.1.trans (hb.mono G1.out.1.size), G1.out.2.1.below (Nat.le_refl _) hb, G1.out.2.2.below (Nat.le_refl _) hb⟩
      have hhh : (M.hasK xs fid == M.hasK xs fid) = true := by simp
      clear hb
      go_wp2_with (fail)
      refine (use_kept A k c vs xs fid now v2 (HTW.out.1.below (Nat.le_refl _) G2.out.1) HT.out.2.1 hn3).mono ?_
      rintro e v3 ⟨BU, dU2, us2, rfl, ho, hb⟩
      have G3 : Hid (Below w.heap.size w v3 ∧ TreeC v3 VU k usU (M.useS xs fid now) ∧ TreeC v3 VC mC usC (xs.filter fun x => !x.dirty) ∧ TreeC v3 BU k us2 (M.useS xs fid now)) := ⟨G2.out.1.trans (hb.mono G2.out.1.size), G2.out.2.1.below (Nat.le_refl _) hb, G2.out.2.2.below (Nat.le_refl _) hb, ho.tree⟩
      have HSU : Hid (∀ z ∈ M.useS xs fid now, Small z.node) := by
        show ∀ z ∈ _, _
        rw [M.use_is HUL.out]
        intro z hz
        obtain ⟨x, hx, rfl⟩ := List.mem_map.1 hz
        unfold M.useK
        split
        · exact HT.out.2.1 x hx
        · exact HT.out.2.1 x hx
      clear ho hb
      go_wp2_with (fail)
      refine (sameKept_any BU VU k dU2 dU us2 usU (M.useS xs fid now) v3 G3.out.2.2.2 G3.out.2.1 HSU.out hn2).mono ?_
      rintro e v4 ⟨rfl, hb⟩
      have G4 : Hid (Below w.heap.size w v4 ∧ TreeC v4 VC mC usC (xs.filter fun x => !x.dirty)) := ⟨G3.out.1.trans (hb.mono G3.out.1.size), G3.out.2.2.1.below (Nat.le_refl _) hb⟩
      clear hb
      go_wp2_with (fail)
      refine (cleanL_kept A k c vs xs v4 (HTW.out.1.below (Nat.le_refl _) G4.out.1) HT.out.2.1 hn3).mono ?_
      rintro e v5 ⟨B5, m5, d5, us5, rfl, ho, hb⟩
      obtain rfl : m5 = mC := by rw [ho.len, G4.out.2.len]
      have G5 : Hid (Below w.heap.size w v5 ∧ TreeC v5 VC m5 usC (xs.filter fun x => !x.dirty) ∧ TreeC v5 B5 m5 us5 (xs.filter fun x => !x.dirty)) := ⟨G4.out.1.trans (hb.mono G4.out.1.size), G4.out.2.below (Nat.le_refl _) hb, ho.tree⟩
      clear ho hb
      go_wp2_with (fail)
      refine (sameKept_any B5 VC m5 d5 dC us5 usC (xs.filter fun x => !x.dirty) v5 G5.out.2.2 G5.out.2.1 (fun x hx => HT.out.2.1 x (List.mem_filter.1 hx).1) (by omega)).mono ?_
      rintro e v6 ⟨rfl, hb⟩
      have G6 : Hid (Below w.heap.size w v6) := G5.out.1.trans (hb.mono G5.out.1.size)
      clear hb
      go_wp2_with (fail)
      go_ret
      exact ⟨rfl, G6.out⟩
end Go.Proofs.Ytjpdoblmdchmkad
