/- TEXTS LAID TOGETHER: Kch, Ksa, Ksm, Ksb, Ksc, Ksd, Kse -/
import Derived.Test.YtjpdoblmdchmkadPart7
import Derived.Test.YtjpdoblmdchmkadPart5
import Derived.Test.YtjpdoblmdchmkadPart2
import Derived.BigRegion
import Derived.Deep.CutRange
/-
  PACKAGE cache: Keep.
-/
namespace Go.Proofs.Ytjpdoblmdchmkad
open Go.RowKit

namespace M
theorem keepC_there {xs : List Kp} {room : Int} {k : Kp} (h : hasK xs k.node.fid = true) : keepS xs room k = (0, repK xs k) := by unfold keepS; rw [if_pos h]
theorem keepC_none {xs : List Kp} {room : Int} {k : Kp} (h : hasK xs k.node.fid = false) (hs : shrinkS xs room = none) : keepS xs room k = (5, []) := by unfold keepS; rw [if_neg (by rw [h]; decide), hs]
theorem keepC_some {xs zs : List Kp} {room : Int} {k : Kp} (h : hasK xs k.node.fid = false) (hs : shrinkS xs room = some zs) : keepS xs room k = (0, zs ++ [k]) := by unfold keepS; rw [if_neg (by rw [h]; decide), hs]
theorem shrink_sub : ∀ (n : Nat) (xs : List Kp), xs.length ≤ n → ∀ room zs, shrinkS xs room = some zs → ∀ z ∈ zs, z ∈ xs
  | n, xs, hn, room, zs, h, z, hz => by
    by_cases hr : room ≤ (xs.length : Int)
    · cases hw : worstS xs xs.length with
      | none => rw [shrink_none hr hw] at h; cases h
      | some i =>
        rw [shrink_some hr hw] at h
        have hi := (worst_lt xs _ _ hw).2
        cases n with
        | zero => omega
        | succ n =>
          have := shrink_sub n (xs.eraseIdx i) (by rw [List.length_eraseIdx_of_lt hi]; omega) room zs h z hz
          exact List.mem_of_mem_eraseIdx this
    · rw [shrink_end hr] at h
      cases h
      exact hz
end M
def sliceLenC : Value → Nat
  | .slice _ n _ => n
  | _ => 0
/-- what Keep answers -/
def KeepC (w : World) (spec : Int × List M.Kp) (e : Ending) (w' : World) : Prop :=
  ∃ (B : Option Addr) (m d : Nat) (us : List KV), e = .returned (.tuple #[.slice B m d, .int .i64 spec.1]) ∧ OwnC w' w.heap.size B m d us spec.2 ∧ Below w.heap.size w w'
theorem KeepC.of {w w' : World} {s t : Int × List M.Kp} (h : s = t) {B : Option Addr} {m d : Nat} {us : List KV} (ho : OwnC w' w.heap.size B m d us t.2) (hb : Below w.heap.size w w') : KeepC w s (.returned (.tuple #[.slice B m d, .int .i64 t.1])) w' := by
  subst h; exact ⟨B, m, d, us, rfl, ho, hb⟩
theorem boxC_worth (w : World) (g : Nat) (v : KV) (x : Int) (h : BoxK w g v) : ∀ W, W = w.setCell ⟨g, 6, none⟩ (.int .i64 x) → BoxK W g ⟨v.n, v.dirty, x, v.last⟩ ∧ (∀ B, B ≤ g → Below B w W) ∧ W.heap.size = w.heap.size := by
  rintro W rfl
  have h1 := heap_setCell_same w g 6 _ 63 (.int .i64 x) h
  exact ⟨by unfold BoxK; rw [h1]; rfl, fun B hB => (Below.refl _ _).setCell (p := ⟨g, 6, none⟩) hB _, by simp⟩
set_option maxRecDepth 8000 in
set_option maxHeartbeats 8000000 in
theorem keep_kept (A : Option Addr) (n c : Nat) (room : Int) (vs : List KV) (xs : List M.Kp) (kv : KV) (kx : M.Kp) (w : World) (ht : TreeC w A n vs xs) (hs : ∀ x ∈ xs, Small x.node) (hkx : ContC w kv kx) (hks : Small kx.node) (hn : (n + 2) * 96 ≤ 140737488355328) :
    Calls Try.prog 21 #[.slice A n c, .int .i64 room, kv.val] w (KeepC w (M.keepS xs room kx)) := by
  have HT : Hid (TreeC w A n vs xs ∧ (∀ x ∈ xs, Small x.node) ∧ ContC w kv kx ∧ Small kx.node) := ⟨ht, hs, hkx, hks⟩
  have HLN : Hid (n = xs.length) := ht.len
  have hn2 : n ≤ 140737488355328 := by omega
  have hn3 : (n + 1) * 96 ≤ 140737488355328 := by omega
  obtain ⟨iK, hiK, hzK, hsK, hbK⟩ := info_parts infoK
  have HW : Hid _ := boxK_one w kv
  clear ht hs hkx hks
  go_enter Try.func21, Try.ntmps21
  obtain ⟨w1, hw1⟩ : ∃ W, W = w.alloc (.cells #[.int .i64 kv.n.fid, .bool kv.n.dir, .slice kv.n.dA kv.n.dn kv.n.dc, .slice kv.n.eA kv.n.en kv.n.ec, .int .i64 kv.n.ver, .bool kv.dirty, .int .i64 kv.worth, .int .i64 kv.last] 63) := ⟨_, rfl⟩
  have H1 : Hid (Below w.heap.size w w1 ∧ BoxK w1 w.heap.size kv ∧ w1.heap.size = w.heap.size + 1) := HW.out _ hw1
  go_wp2_with (fail)
  rw [← hw1]
  clear hw1 HW
  have HKF : Hid (kv.n.fid = kx.node.fid) := HT.out.2.2.1.1.1
  rw [HKF.out]
  refine (place_kept A n c vs xs kx.node.fid w1 (HT.out.1.below (Nat.le_refl _) H1.out.1) hn2).mono ?_
  rintro e w2 ⟨rfl, hb⟩
  have H2 : Hid (Below w.heap.size w w2 ∧ BoxK w2 w.heap.size kv ∧ w.heap.size < w2.heap.size) := ⟨H1.out.1.trans (hb.mono H1.out.1.size), H1.out.2.1.below hb (by have := H1.out.2.2; omega), by have := hb.size; have := H1.out.2.2; omega⟩
  clear hb
  obtain ⟨pi, hpi⟩ : ∃ pi, M.placeK xs kx.node.fid = pi := ⟨_, rfl⟩
  have HPI : Hid (M.placeK xs kx.node.fid = pi) := hpi
  rw [hpi]
  clear hpi
  cases pi with
  | none =>
    rw [show idxC none = -1 from rfl]
    have HNO : Hid (M.hasK xs kx.node.fid = false) := by show _ = _; rw [place_has, HPI.out]; rfl
    go_wp2_with (fail)
    refine (ownL_kept A n c vs xs w2 (HT.out.1.below (Nat.le_refl _) H2.out.1) HT.out.2.1 hn3).mono ?_
    rintro e w3 ⟨B, d, us, rfl, ho, hb⟩
    have H3 : Hid (OwnC w3 w2.heap.size B n d us xs ∧ Below w2.heap.size w2 w3) := ⟨ho, hb⟩
    clear ho hb
    go_wp2_with (fail)
    go_loopw [10] (fun u W => ∃ (V : Option Addr) (m d : Nat) (us : List KV) (zs : List M.Kp), u = .slice V m d ∧ m ≤ n ∧ Hid (OwnC W w2.heap.size V m d us zs ∧ Below w2.heap.size w2 W ∧ M.shrinkS xs room = M.shrinkS zs room)) (fun u _ => sliceLenC u)
    case atStart => exact ⟨B, n, d, us, xs, rfl, Nat.le_refl _, H3.out.1, H3.out.2, rfl⟩
    case round =>
      obtain ⟨V, m, d, us, zs, rfl, hm, HZ⟩ := hrel
      rename World => wz
      have HML : Hid (m = zs.length) := HZ.out.1.len
      have hm2 : m ≤ 140737488355328 := by omega
      by_cases hr : room ≤ (m : Int)
      · go_wp2_with (fail)
        refine (worst_kept V m d us zs wz HZ.out.1.tree hm2).mono ?_
        rintro e w4 ⟨rfl, hb⟩
        have H4 : Hid (OwnC w4 w2.heap.size V m d us zs ∧ Below w2.heap.size w2 w4) := ⟨HZ.out.1.below (Nat.le_refl _) hb, HZ.out.2.1.trans (hb.mono HZ.out.2.1.size)⟩
        have hrz : room ≤ (zs.length : Int) := by rw [← HML.out]; exact hr
        have hwl := M.worst_lt zs zs.length
        obtain ⟨wi, hwi⟩ : ∃ q, M.worstS zs zs.length = q := ⟨_, rfl⟩
        rw [hwi]
        rw [hwi] at hwl
        have HWI : Hid (M.worstS zs zs.length = wi) := hwi
        clear hwi hb
        cases wi with
        | none =>
          have HRR : Hid (M.keepS xs room kx = (5, [])) := M.keepC_none HNO.out (by rw [HZ.out.2.2, M.shrink_none hrz HWI.out])
          rw [show idxW none = -1 from rfl]
          clear hwl hrz
          go_wp2_with (fail)
          go_ret2
          exact KeepC.of HRR.out (OwnC.nil _ _) (H2.out.1.trans (H4.out.2.mono H2.out.1.size))
        | some j =>
          have hjm : j < m := by rw [HML.out]; exact (hwl j rfl).1
          have HSH : Hid (M.shrinkS xs room = M.shrinkS (zs.eraseIdx j) room) := by show _ = _; rw [HZ.out.2.2, M.shrink_some hrz HWI.out]
          rw [show idxW (some j) = (j : Int) from rfl]
          obtain ⟨g, rfl, hBg, hgl⟩ := own_some H4.out.1.1 (by omega)
          have hw1 : IntKind.i64.wrap ((j : Int) + 1) = (j : Int) + 1 := by rw [IntKind.wrap_i64]; omega
          have HL : Hid (m - 1 < m ∧ m - 1 ≤ n) := ⟨by omega, by omega⟩
          clear hwl hrz hgl
          go_wp2_with (fail)
          refine (delete_kept g m d w2.heap.size j us w4 H4.out.1.1 hjm hm2).mono ?_
          rintro e w5 ⟨rfl, ho, hg⟩
          have HRL : ∃ (V : Option Addr) (q d' : Nat) (us : List KV) (zs : List M.Kp), Value.slice (some ⟨g, 0, none⟩) (m - 1) d = .slice V q d' ∧ q ≤ n ∧ Hid (OwnC w5 w2.heap.size V q d' us zs ∧ Below w2.heap.size w2 w5 ∧ M.shrinkS xs room = M.shrinkS zs room) := by
            refine ⟨_, m - 1, d, us.eraseIdx j, zs.eraseIdx j, rfl, HL.out.2, ⟨ho, ?_⟩, snoc_belowK H4.out.2 (Nat.le_refl _) H4.out.1.1 hg, HSH.out⟩
            have hk : All2 (OwnKp w5 w2.heap.size) us zs := H4.out.1.2.imp fun _ _ h => h.grown H4.out.1.1 hg
            rw [List.eraseIdx_eq_take_drop_succ, List.eraseIdx_eq_take_drop_succ]
            exact All2.append (hk.take j) (hk.drop (j + 1))
          clear ho hg
          go_wp2_with (fail)
          go_roundw
          case rel => exact HRL
          case measure => exact HL.out.1
      · have HRR : Hid (M.keepS xs room kx = (0, zs ++ [kx])) := by
          show _ = _
          exact M.keepC_some HNO.out (by rw [HZ.out.2.2, M.shrink_end (by rw [← HML.out]; exact hr)])
        have HBZ : Hid (Below w.heap.size w wz ∧ BoxK wz w.heap.size kv ∧ ContC wz kv kx) := by
          have h1 : Below w.heap.size w wz := H2.out.1.trans (HZ.out.2.1.mono H2.out.1.size)
          exact ⟨h1, H2.out.2.1.below HZ.out.2.1 H2.out.2.2, HT.out.2.2.1.below (Nat.le_refl _) h1⟩
        have HKN : Hid (m + 1 ≤ maxLen ∧ (m + 1) * 96 ≤ 140737488355328) := ⟨by unfold maxLen; omega, Nat.le_trans (Nat.mul_le_mul_right 96 (by omega)) hn⟩
        obtain ⟨k0, k1, k2, k3, k4, k5, k6, k7, kf, kz⟩ := HBZ.out.2.1.facts
        go_wp2_with (fail)
        refine (own_kept kv kx wz HBZ.out.2.2 HT.out.2.2.2).mono ?_
        rintro e w3 ⟨r', rfl, hor, hb3⟩
        have HB3 : Hid (Below w2.heap.size w2 w3 ∧ OwnC w3 w2.heap.size V m d us zs ∧ OwnKp w3 w2.heap.size r' kx) := ⟨HZ.out.2.1.trans (hb3.mono HZ.out.2.1.size), HZ.out.1.below (Nat.le_refl _) hb3, hor.mono HZ.out.2.1.size⟩
        have HWB : Hid _ := boxK_one w3 r'
        have hz3w : w2.heap.size ≤ w3.heap.size := HB3.out.1.size
        clear hor hb3
        go_wp2_with (at_builtin; refine wpList_append_row _ (by rfl) (.tmp 51) (.tmp 54) 61 (by rfl) w2.heap.size 63 iK _ 96 Try.underlying61 hiK hzK hsK hbK rfl (by decide) _ m _ (by rfl) (own_below HB3.out.2.1.1 (HWB.out _ rfl).1 (Nat.le_refl _)) (some ⟨w3.heap.size, 0, none⟩) 1 1 [r'] (by rfl) (rowK_box (HWB.out _ rfl).2.1) kept_len kept_one HKN.out.1 HKN.out.2 (Nat.le_trans hz3w (HWB.out _ rfl).1.size) ?_; intro v4 w4 hown4 hg4; obtain ⟨A4, c4', rfl, _, _⟩ := own_form hown4; have HR : Hid (OwnC w4 w2.heap.size A4 (m + 1) c4' (us ++ [r']) (zs ++ [kx]) ∧ Below w2.heap.size w2 w4) := ⟨OwnC.snoc (HB3.out.2.1.below (Nat.le_refl _) (HWB.out _ rfl).1) (HB3.out.2.2.below (Nat.le_refl _) (HWB.out _ rfl).1) (by simpa using hown4) hg4, snoc_belowK (HB3.out.1.trans ((HWB.out _ rfl).1.mono HB3.out.1.size)) (Nat.le_refl _) (own_below HB3.out.2.1.1 (HWB.out _ rfl).1 (Nat.le_refl _)) hg4⟩; clear hown4 hg4)
        go_ret2
        exact KeepC.of HRR.out (HR.out.1.mono H2.out.1.size) (H2.out.1.trans (HR.out.2.mono H2.out.1.size))
  | some i =>
    rw [show idxC (some i) = (i : Int) from rfl]
    have HYES : Hid (M.hasK xs kx.node.fid = true) := by show _ = _; rw [place_has, HPI.out]; simp [idxC]
    obtain ⟨x, hx, _, hil, _⟩ := M.placeK_at HPI.out
    have hin : i < n := by rw [HLN.out]; exact hil
    have htr := HT.out.1.below (Nat.le_refl _) H2.out.1
    obtain ⟨g, o, v, rfl, hgl, hv, c0, c1, c2, c3, c4, c5, c6, c7⟩ := htr.1.at hin
    have HX : Hid (xs[i]? = some x ∧ v.worth = x.worth) := ⟨hx, (htr.2.2 i v x hv hx).2.2.1⟩
    obtain ⟨k0, k1, k2, k3, k4, k5, k6, k7, kf, kz⟩ := H2.out.2.1.facts
    clear hx hv htr
    go_upto_region 3 with (fail)
    go_region
    all_goals
      obtain ⟨mw, hmw⟩ : ∃ mw, (if kv.worth < v.worth then v.worth else kv.worth) = mw := ⟨_, rfl⟩
      have HMW : Hid ((if kv.worth < v.worth then v.worth else kv.worth) = mw) := hmw
      rw [hmw]
      clear hmw
      obtain ⟨w3, hw3⟩ : ∃ W, W = w2.setCell ⟨w.heap.size, 6, none⟩ (.int .i64 mw) := ⟨_, rfl⟩
      have H3 : Hid (Below w.heap.size w w3.drew ∧ BoxK w3.drew w.heap.size ⟨kv.n, kv.dirty, mw, kv.last⟩ ∧ w.heap.size < w3.drew.heap.size) := by
        obtain ⟨q1, q2, q3⟩ := boxC_worth w2 w.heap.size kv mw H2.out.2.1 _ hw3
        have q4 := (H2.out.1.trans (q2 _ (Nat.le_refl _))).drew
        exact ⟨q4, q1, Nat.lt_of_lt_of_eq H2.out.2.2 q3.symm⟩
      rw [← hw3]
      clear hw3 k0 k1 k2 k3 k4 k5 k6 k7 kf kz c0 c1 c2 c3 c4 c5 c6 c7 hgl
      go_wp2_with (fail)
      refine (ownL_kept _ n c vs xs w3.drew (HT.out.1.below (Nat.le_refl _) H3.out.1) HT.out.2.1 hn3).mono ?_
      rintro e w4 ⟨B, d, us, rfl, ho, hb⟩
      have H4 : Hid (OwnC w4 w3.drew.heap.size B n d us xs ∧ Below w3.drew.heap.size w3.drew w4 ∧ BoxK w4 w.heap.size ⟨kv.n, kv.dirty, mw, kv.last⟩) := ⟨ho, hb, H3.out.2.1.below hb H3.out.2.2⟩
      clear ho hb
      obtain ⟨k0, k1, k2, k3, k4, k5, k6, k7, kf, kz⟩ := H4.out.2.2.facts
      go_wp2_with (fail)
      have HBW : Hid (Below w.heap.size w w4) := H3.out.1.trans (H4.out.2.1.mono (Nat.le_of_lt H3.out.2.2))
      refine (own_kept ⟨kv.n, kv.dirty, mw, kv.last⟩ (M.mixK x kx) w4 ⟨HT.out.2.2.1.1.below (Nat.le_refl _) HBW.out, HT.out.2.2.1.2.1, by rw [← HMW.out, HX.out.2, HT.out.2.2.1.2.2.1]; rfl, HT.out.2.2.1.2.2.2⟩ HT.out.2.2.2).mono ?_
      rintro e w5 ⟨r', rfl, hor, hb5⟩
      have H5 : Hid (OwnC w5 w3.drew.heap.size B n d us xs ∧ OwnKp w5 w3.drew.heap.size r' (M.mixK x kx) ∧ Below w.heap.size w w5) := ⟨H4.out.1.below (Nat.le_refl _) hb5, hor.mono H4.out.2.1.size, HBW.out.trans (hb5.mono HBW.out.size)⟩
      clear hor hb5 k0 k1 k2 k3 k4 k5 k6 k7 kf kz
      obtain ⟨g2, rfl, hBg, hgl⟩ := own_some H5.out.1.1 (by omega)
      obtain ⟨g', o', u, e9, _, hu, c0, c1, c2, c3, c4, c5, c6, c7⟩ := H5.out.1.tree.1.at hin
      cases e9
      simp only [Nat.zero_add] at c0 c1 c2 c3 c4 c5 c6 c7
      have hfz : ∀ j, w5.frozen? ⟨g2, j, none⟩ = false := fun j => H5.out.1.1.frozenAt j
      have HR : Hid (OwnC (put8 w5 g2 (i * 8) r') w3.drew.heap.size (some ⟨g2, 0, none⟩) n d (us.set i r') (M.repK xs kx) ∧ Below w.heap.size w (put8 w5 g2 (i * 8) r')) := by
        obtain ⟨s1, s2⟩ := own_put8 H5.out.1.1 i hin r'
        refine ⟨⟨s1, ?_⟩, put8_below H5.out.2.2 (Nat.le_trans (Nat.le_of_lt H3.out.2.2) hBg) _ _⟩
        rw [M.rep_at HPI.out HX.out.1]
        exact (H5.out.1.2.imp fun _ _ h => h.grown H5.out.1.1 s2).setAt i (H5.out.2.1.grown H5.out.1.1 s2)
      have HRR : Hid (M.keepS xs room kx = (0, M.repK xs kx)) := M.keepC_there HYES.out
      clear hu hBg hgl HPI
      go_wp2_with (fail)
      go_ret2
      exact KeepC.of HRR.out (HR.out.1.mono (Nat.le_of_lt H3.out.2.2)) HR.out.2
end Go.Proofs.Ytjpdoblmdchmkad
/-
  SORTING NODES: what is held; the test of two; an exchange.
-/
namespace Go.Proofs.Ytjpdoblmdchmkad
open Go.RowKit

/-- the row holds us; of what was there nothing else is touched -/
def SW (w : World) (B g n c : Nat) (us : List NV) (W : World) : Prop := W.ownsRow B 41 5 (.slice (some ⟨g, 0, none⟩) n c) n (us.flatMap NV.cells) ∧ w.grownBy W (some g)
section
variable {w W W' : World} {B g n c : Nat} {us : List NV}
theorem SW.start (h : w.ownsRow B 41 5 (.slice (some ⟨g, 0, none⟩) n c) n (us.flatMap NV.cells)) : SW w B g n c us w := ⟨h, ⟨rfl, rfl, rfl, Nat.le_refl _, fun _ _ _ => rfl⟩⟩
theorem SW.below (h : SW w B g n c us W) (hb : Below W.heap.size W W') : SW w B g n c us W' := ⟨own_below h.1 hb (Nat.le_refl _), grown_trans h.2 (below_grown hb _)⟩
theorem SW.trans {vs : List NV} (h : SW w B g n c us W) (k : SW W B g n c vs W') : SW w B g n c vs W' := ⟨k.1, grown_trans h.2 k.2⟩
theorem SW.len (h : SW w B g n c us W) : n = us.length := own_len nod_len (by decide) h.1
theorem SW.put (h : SW w B g n c us W) (j : Nat) (hj : j < n) (v : NV) : SW w B g n c (us.set j v) (put5 W g (j * 5) v) := by
  obtain ⟨h1, h2⟩ := own_put5 h.1 j hj v
  exact ⟨h1, grown_trans h.2 h2⟩
theorem SW.at_ (h : SW w B g n c us W) {j : Nat} {v : NV} (hv : us[j]? = some v) : W.cell? ⟨g, j * 5, none⟩ = some (.int .i64 v.fid) ∧ W.cell? ⟨g, j * 5 + 1, none⟩ = some (.bool v.dir) ∧ W.cell? ⟨g, j * 5 + 2, none⟩ = some (.slice v.dA v.dn v.dc) ∧ W.cell? ⟨g, j * 5 + 3, none⟩ = some (.slice v.eA v.en v.ec) ∧ W.cell? ⟨g, j * 5 + 4, none⟩ = some (.int .i64 v.ver) ∧ (∀ o, W.frozen? ⟨g, o, none⟩ = false) ∧ g < W.heap.size := by
  have hj : j < n := by rw [h.len]; exact (List.getElem?_eq_some_iff.1 hv).1
  obtain ⟨v', hv', r⟩ := own_at5 h.1 hj
  rw [hv] at hv'
  cases hv'
  exact r
end
/-- two change places -/
def swapAt {α : Type} (us : List α) (i j : Nat) (u v : α) : List α := (us.set i v).set j u
theorem SW.swap {w W : World} {B g n c : Nat} {us : List NV} (h : SW w B g n c us W) {i j : Nat} (hi : i < n) (hj : j < n) (u v : NV) : SW w B g n c (swapAt us i j u v) (put5 (put5 W g (i * 5) v) g (j * 5) u) := (h.put i hi v).put j hj u
set_option maxHeartbeats 1000000 in
theorem cmpN_any (u v : NV) (w : World) : Calls Try.prog 53 #[u.val, v.val] w fun e w' => e = .returned (.int .i64 (M.cmpI u.fid v.fid)) ∧ Below w.heap.size w w' := by
  have HW : Hid (∀ W, W = (w.alloc (.cells #[.int .i64 u.fid, .bool u.dir, .slice u.dA u.dn u.dc, .slice u.eA u.en u.ec, .int .i64 u.ver] 41)).alloc (.cells #[.int .i64 v.fid, .bool v.dir, .slice v.dA v.dn v.dc, .slice v.eA v.en v.ec, .int .i64 v.ver] 41) → Below w.heap.size w W) := by
    rintro W rfl
    exact ((Below.refl _ _).alloc (Nat.le_refl _) _).alloc (by simp) _
  go_enter Try.func53, Try.ntmps53
  go_wp2_with (fail)
  refine (cmpI_any u.fid v.fid _).mono ?_
  rintro e w1 ⟨rfl, hw⟩
  have HB : Hid (Below w.heap.size w w1) := by rw [hw]; exact HW.out _ rfl
  clear hw HW
  go_wp2
  go_ret
  exact ⟨rfl, HB.out⟩
theorem run_callV2 {P : Program} {ρ : Operand → Value} {w : World} {d : Option Tmp} {ty : TypeId} {pos : String} {af : Array Edge} {g : Option (Nat × Bool)} {f : FuncId} {c : Operand} {x y : Operand} {u v : Value} {ts : Array TypeId} (hcf : Enters P f) (hfn : ρ c = .func (.func f) #[] #[]) (hx : ρ x = u) (hy : ρ y = v) :
    (execOp ρ ⟨d, .call { callee := .value c, args := #[x, y], argTypes := ts }, ty, pos, af, g⟩).run P w = .ok (.enter f #[u, v]) w := by
  simp [execOp, resolve, invoke, hcf.out, hfn, hx, hy, go_sem]
theorem does_callV2 {P : Program} {a : Act} {w : World} {R : Value → World → Prop} {d : Option Tmp} {ty : TypeId} {pos : String} {af : Array Edge} {g : Option (Nat × Bool)} {f : FuncId} {c : Operand} {x y : Operand} {u v : Value} {ts : Array TypeId} (hcf : Enters P f) (hfn : a.eval c = .func (.func f) #[] #[]) (hx : a.eval x = u) (hy : a.eval y = v) (h : Calls P f #[u, v] w fun e w'' => ∃ r, e = .returned r ∧ R r w'') :
    Does P ⟨d, .call { callee := .value c, args := #[x, y], argTypes := ts }, ty, pos, af, g⟩ a w R := .inr ⟨f, _, w, run_callV2 hcf hfn hx hy, h⟩
/-- cells of a node that begins here -/
def NodeAt (w : World) (b o : Nat) (v : NV) : Prop := ∀ i c, (NV.cells v)[i]? = some c → w.cell? ⟨b, o + i, none⟩ = some c
theorem NodeAt.below {w w' : World} {b o B : Nat} {r : NV} (h : NodeAt w b o r) (hb : Below B w w') (hs : b < B) : NodeAt w' b o r := fun i c hc => by
  rw [hb.cell (p := ⟨b, o + i, none⟩) hs]; exact h i c hc
theorem SW.node {w W : World} {B g n c : Nat} {us : List NV} (h : SW w B g n c us W) {j : Nat} {v : NV} (hv : us[j]? = some v) : NodeAt W g (0 + j * 5) v := by
  rw [Nat.zero_add]
  obtain ⟨b0, b1, b2, b3, b4, _⟩ := h.at_ hv
  intro i c hi
  match i, hi with
  | 0, hi => cases hi; exact b0
  | 1, hi => cases hi; exact b1
  | 2, hi => cases hi; exact b2
  | 3, hi => cases hi; exact b3
  | 4, hi => cases hi; exact b4
  | i + 5, hi => cases hi
section
variable {w : World} {d : Option Tmp} {ty : TypeId} {pos : String} {af : Array Edge} {g : Option (Nat × Bool)} {x y : Operand}
theorem run_indexN {ρ : Operand → Value} {b o n c k : Nat} (hx : ρ x = .slice (some ⟨b, o, none⟩) n c) (hy : ρ y = .int .i64 (k : Int)) (hk : k < n) : (execOp ρ ⟨d, .indexAddr 22 x y, ty, pos, af, g⟩).run Try.prog w = .ok (.value (.pointer (some ⟨b, o + k * 5, none⟩))) w := by
  have h1 : (k : Int) < (n : Int) := by omega
  have h0 : (0 : Int) ≤ (k : Int) := by omega
  simp [execOp, hx, hy, go_sem, h1]
theorem run_loadNd {ρ : Operand → Value} {b o : Nat} {v : NV} (hx : ρ x = .pointer (some ⟨b, o, none⟩)) (h : NodeAt w b o v) : (execOp ρ ⟨d, .load 41 x, ty, pos, af, g⟩).run Try.prog w = .ok (.value v.val) w := by
  have c0 := h 0 _ rfl
  have c1 := h 1 _ rfl
  have c2 := h 2 _ rfl
  have c3 := h 3 _ rfl
  have c4 := h 4 _ rfl
  simp only [Nat.add_zero] at c0
  simp [execOp, hx, go_sem, c0, c1, c2, c3, c4]
end
end Go.Proofs.Ytjpdoblmdchmkad
/-
  SORTING, plain mathematics: one more is put in its place.
-/
namespace Go.Proofs.Ytjpdoblmdchmkad
open Go.RowKit

/-- by fids, rising -/
def Up (l : List NV) : Prop := l.Pairwise fun u v => u.fid ≤ v.fid
/-- x is on its way down: it stands at j -/
def Ins (P S T : List NV) (x : NV) (j : Nat) (us : List NV) : Prop := ∃ A C, S = A ++ C ∧ us = (P ++ A) ++ x :: (C ++ T) ∧ (P ++ A).length = j ∧ ∀ c ∈ C, x.fid ≤ c.fid
theorem Ins.start (P S T : List NV) (x : NV) : Ins P S T x (P.length + S.length) (P ++ S ++ x :: T) := ⟨S, [], by simp, by simp, by simp, by simp⟩
theorem Ins.here {P S T : List NV} {x : NV} {j : Nat} {us : List NV} (h : Ins P S T x j us) : us[j]? = some x := by
  obtain ⟨A, C, rfl, rfl, rfl, _⟩ := h
  rw [List.getElem?_append_right (Nat.le_refl _)]
  simp
theorem Ins.len {P S T : List NV} {x : NV} {j : Nat} {us : List NV} (h : Ins P S T x j us) : us.length = P.length + S.length + 1 + T.length ∧ P.length ≤ j ∧ j ≤ P.length + S.length := by
  obtain ⟨A, C, rfl, rfl, rfl, _⟩ := h
  simp
  omega
theorem swap_adj (U V : List NV) (x y : NV) : swapAt (U ++ y :: x :: V) (U.length + 1) U.length x y = U ++ x :: y :: V := by
  unfold swapAt
  rw [List.set_append_right _ _ (by omega), List.set_append_right _ _ (by omega)]
  simp
theorem Ins.prev {P S T : List NV} {x : NV} {j : Nat} {us : List NV} (h : Ins P S T x (j + 1) us) (hp : P.length ≤ j) : ∃ y U V, us = U ++ y :: x :: V ∧ U.length = j ∧ ∃ A C, S = A ++ y :: C ∧ U = P ++ A ∧ V = C ++ T ∧ ∀ c ∈ C, x.fid ≤ c.fid := by
  obtain ⟨A, C, rfl, rfl, hl, hc⟩ := h
  rcases List.eq_nil_or_concat A with rfl | ⟨A', y, rfl⟩
  · simp at hl; omega
  · refine ⟨y, P ++ A', C ++ T, by simp, by simp at hl ⊢; omega, A', C, by simp, rfl, rfl, hc⟩
theorem Ins.down {P S T : List NV} {x y : NV} {j : Nat} {us : List NV} (h : Ins P S T x (j + 1) us) (hp : P.length ≤ j) (hy : us[j]? = some y) (hlt : x.fid < y.fid) : Ins P S T x j (swapAt us (j + 1) j x y) := by
  obtain ⟨z, U, V, rfl, rfl, A, C, rfl, rfl, rfl, hc⟩ := h.prev hp
  rw [List.getElem?_append_right (Nat.le_refl _)] at hy
  simp at hy
  subst hy
  rw [swap_adj]
  refine ⟨A, z :: C, by simp, by simp, rfl, fun c hm => ?_⟩
  rcases List.mem_cons.1 hm with rfl | hm
  · omega
  · exact hc c hm
theorem up_app {A B : List NV} : Up (A ++ B) ↔ Up A ∧ Up B ∧ ∀ a ∈ A, ∀ b ∈ B, a.fid ≤ b.fid := List.pairwise_append
theorem up_cons {x : NV} {B : List NV} : Up (x :: B) ↔ (∀ b ∈ B, x.fid ≤ b.fid) ∧ Up B := List.pairwise_cons
theorem Ins.stop {P S T : List NV} {x : NV} {j : Nat} {us : List NV} (h : Ins P S T x j us) (hs : Up S) (hq : j = P.length ∨ ∃ q y, j = q + 1 ∧ us[q]? = some y ∧ ¬ x.fid < y.fid) : ∃ Z, us = P ++ Z ++ T ∧ Z.Perm (S ++ [x]) ∧ Up Z := by
  have hup : ∀ A C : List NV, Up (A ++ C) → (∀ c ∈ C, x.fid ≤ c.fid) → (∀ a ∈ A, a.fid ≤ x.fid) → Up (A ++ x :: C) := by
    intro A C h hc ha
    obtain ⟨h1, h2, h3⟩ := up_app.1 h
    refine up_app.2 ⟨h1, up_cons.2 ⟨hc, h2⟩, fun a hm b hb => ?_⟩
    rcases List.mem_cons.1 hb with rfl | hb
    · exact ha a hm
    · exact h3 a hm b hb
  have hlen := h.len
  by_cases hj : j = P.length
  · subst hj
    obtain ⟨A, C, rfl, rfl, hl, hc⟩ := h
    have : A = [] := by
      simp at hl; exact hl
    subst this
    exact ⟨x :: C, by simp, by simpa using (List.perm_append_singleton x C).symm, hup [] C hs hc (by simp)⟩
  · rcases hq with hq | ⟨q, y, rfl, hy, hn⟩
    · exact absurd hq hj
    · obtain ⟨z, U, V, rfl, rfl, A, C, rfl, rfl, rfl, hc⟩ := h.prev (by omega)
      rw [List.getElem?_append_right (Nat.le_refl _)] at hy
      simp at hy
      subst hy
      refine ⟨(A ++ [z]) ++ x :: C, by simp, ?_, ?_⟩
      · have : (A ++ z :: C ++ [x]).Perm (A ++ [z] ++ x :: C) := by
          simp only [List.append_assoc, List.cons_append]
          refine List.Perm.append_left A (List.Perm.cons z ?_)
          exact (List.perm_append_singleton x C)
        exact this.symm
      · refine hup (A ++ [z]) C (by simpa using hs) hc (fun a ha => ?_)
        have h2 : Up (A ++ [z]) := by
          have : Up ((A ++ [z]) ++ C) := by simpa using hs
          exact (up_app.1 this).1
        rcases List.mem_append.1 ha with ha | ha
        · have := (up_app.1 h2).2.2 a ha z (by simp)
          omega
        · rw [List.mem_singleton.1 ha]; omega
end Go.Proofs.Ytjpdoblmdchmkad
/-
  SORTING NODES: insertion.
-/
namespace Go.Proofs.Ytjpdoblmdchmkad
open Go.RowKit

theorem cmpI_ltN (a b : Int) : decide (M.cmpI a b < 0) = decide (a < b) := by
  unfold M.cmpI
  split
  · simp [*]
  · split
    · simp; omega
    · simp; omega
def VIA (aq : Nat) : Nat → Value → World → Prop
  | 0 => IsW (.int .i64 ((aq : Nat) : Int))
  | 1 => IsW (.int .i64 ((aq : Nat) : Int))
  | 2 => IsW (.bool false)
  | 3 => IsW (.bool false)
  | 4 => IsW (undef)
  | 5 => IsW (undef)
  | 6 => IsW (undef)
  | 7 => IsW (undef)
  | 8 => IsW (undef)
  | 9 => IsW (undef)
  | 10 => IsW (undef)
  | 11 => IsW (undef)
  | 12 => IsW (undef)
  | 13 => IsW (undef)
  | 14 => IsW (undef)
  | 15 => IsW (undef)
  | 16 => IsW (.bool false)
  | _ => fun _ _ => True
theorem VIA_stays (aq : Nat) : ∀ i, Stays (VIA aq i) := by
  intro i v W W' hb h
  match i, h with
  | 0, h => exact h
  | 1, h => exact h
  | 2, h => exact h
  | 3, h => exact h
  | 4, h => exact h
  | 5, h => exact h
  | 6, h => exact h
  | 7, h => exact h
  | 8, h => exact h
  | 9, h => exact h
  | 10, h => exact h
  | 11, h => exact h
  | 12, h => exact h
  | 13, h => exact h
  | 14, h => exact h
  | 15, h => exact h
  | 16, h => exact h
  | k + 17, h => trivial
def VIB (g : Nat) (n : Nat) (c : Nat) (aq : Nat) (jp : Nat) (x : NV) (y : NV) : Nat → Value → World → Prop
  | 0 => IsW (.int .i64 (((jp + 1) : Nat) : Int))
  | 1 => IsW (.int .i64 ((aq : Nat) : Int))
  | 2 => IsW (.bool true)
  | 3 => IsW (.bool true)
  | 4 => IsW (.func (.func 53) #[] #[])
  | 5 => IsW (.slice (some ⟨g, 0, none⟩) n c)
  | 6 => IsW (.int .i64 (((jp + 1) : Nat) : Int))
  | 7 => IsW (.pointer (some ⟨g, 0 + (jp + 1) * 5, none⟩))
  | 8 => IsW (NV.val x)
  | 9 => IsW (.slice (some ⟨g, 0, none⟩) n c)
  | 10 => IsW (.int .i64 (((jp + 1) : Nat) : Int))
  | 11 => IsW (.int .i64 ((jp : Nat) : Int))
  | 12 => IsW (.pointer (some ⟨g, 0 + jp * 5, none⟩))
  | 13 => IsW (NV.val y)
  | 14 => IsW (.int .i64 (M.cmpI x.fid y.fid))
  | 15 => IsW (.bool (decide ((M.cmpI x.fid y.fid : Int) < (0 : Int))))
  | 16 => IsW (.bool (decide ((M.cmpI x.fid y.fid : Int) < (0 : Int))))
  | _ => fun _ _ => True
theorem VIB_stays (g : Nat) (n : Nat) (c : Nat) (aq : Nat) (jp : Nat) (x : NV) (y : NV) : ∀ i, Stays (VIB g n c aq jp x y i) := by
  intro i v W W' hb h
  match i, h with
  | 0, h => exact h
  | 1, h => exact h
  | 2, h => exact h
  | 3, h => exact h
  | 4, h => exact h
  | 5, h => exact h
  | 6, h => exact h
  | 7, h => exact h
  | 8, h => exact h
  | 9, h => exact h
  | 10, h => exact h
  | 11, h => exact h
  | 12, h => exact h
  | 13, h => exact h
  | 14, h => exact h
  | 15, h => exact h
  | 16, h => exact h
  | k + 17, h => trivial
set_option maxRecDepth 8000 in
set_option maxHeartbeats 8000000 in
theorem insSort_any (w0 : World) (B g n c : Nat) (P S R : List NV) (w : World) (hs : SW w0 B g n c (P ++ S ++ R) w) (hn : n ≤ 140737488355328) :
    Calls Try.prog 91 #[.slice (some ⟨g, 0, none⟩) n c, .int .i64 (P.length : Int), .int .i64 ((P.length + S.length : Nat) : Int), .func (.func 53) #[] #[]] w fun e w' => e = .returned (.tuple #[]) ∧ ∃ S', S'.Perm S ∧ Up S' ∧ SW w0 B g n c (P ++ S' ++ R) w' := by
  have HS : Hid (SW w0 B g n c (P ++ S ++ R) w) := hs
  have hlen : P.length + S.length + R.length ≤ n := by have := hs.len; simp at this; omega
  clear hs
  have H0 : Hid (Up [] ∧ ∀ x : NV, Up [x]) := ⟨List.Pairwise.nil, fun _ => List.pairwise_singleton _ _⟩
  go_enter Try.func91, Try.ntmps91
  go_wp2_with (fail)
  go_loopw [8] (fun i W => ∃ (k : Nat) (S1 : List NV), i = .int .i64 ((P.length + k : Nat) : Int) ∧ 1 ≤ k ∧ Hid ((k ≤ S.length ∨ k = 1) ∧ S1.Perm (S.take k) ∧ Up S1 ∧ SW w0 B g n c (P ++ S1 ++ (S.drop k ++ R)) W)) (fun i _ => P.length + S.length + 1 - (intOf i).toNat)
  case atStart =>
    refine ⟨1, S.take 1, by go_num, Nat.le_refl _, .inr rfl, List.Perm.refl _, ?_, ?_⟩
    · cases S with
      | nil => exact H0.out.1
      | cons x S => exact H0.out.2 x
    · have : P ++ S.take 1 ++ (S.drop 1 ++ R) = P ++ S ++ R := by
        rw [List.append_assoc, ← List.append_assoc (S.take 1), List.take_append_drop, ← List.append_assoc]
      rw [this]; exact HS.out
  case round =>
    obtain ⟨k, S1, rfl, hk1, HK⟩ := hrel
    rename World => wi
    by_cases hlt : k < S.length
    · have hki : ((P.length + k : Nat) : Int) < ((P.length + S.length : Nat) : Int) := by omega
      obtain ⟨x, hx⟩ : ∃ x, S[k]? = some x := ⟨_, List.getElem?_eq_getElem hlt⟩
      have HX : Hid (S[k]? = some x ∧ S.drop k = x :: S.drop (k + 1)) := ⟨hx, by rw [List.drop_eq_getElem_cons hlt]; congr 1; rw [List.getElem?_eq_getElem hlt] at hx; exact Option.some.inj hx⟩
      have hl1 : S1.length = k := by rw [HK.out.2.1.length_eq, List.length_take]; omega
      obtain ⟨T, hT⟩ : ∃ T, T = S.drop (k + 1) ++ R := ⟨_, rfl⟩
      have HT : Hid (T = S.drop (k + 1) ++ R) := hT
      clear hT hx
      go_wp2_with (fail)
      go_loopw [9] (fun t W => ∃ (j : Nat) (us : List NV), t = .int .i64 (j : Int) ∧ Hid (Ins P S1 T x j us) ∧ SW w0 B g n c us W) (fun t _ => (intOf t).toNat)
      case atStart =>
        refine ⟨P.length + k, P ++ S1 ++ x :: T, rfl, ?_, ?_⟩
        · rw [← hl1]; exact Ins.start P S1 T x
        · have h := HK.out.2.2.2
          rw [HX.out.2, List.cons_append, ← HT.out] at h
          exact h
      case round =>
        obtain ⟨j, us, rfl, HI, hsw⟩ := hrel
        rename World => wj
        have hil := HI.out.len
        have hnl : us.length ≤ n := Nat.le_of_eq hsw.len.symm
        have HJ : Hid (SW w0 B g n c us wj ∧ True) := ⟨hsw, trivial⟩
        clear hsw
        have hout : Hid (∀ Z W, Z.Perm (S1 ++ [x]) → Up Z → SW w0 B g n c (P ++ Z ++ T) W → ∃ (k' : Nat) (S2 : List NV), Value.int .i64 (((P.length + k : Nat) : Int) + 1) = .int .i64 ((P.length + k' : Nat) : Int) ∧ 1 ≤ k' ∧ Hid ((k' ≤ S.length ∨ k' = 1) ∧ S2.Perm (S.take k') ∧ Up S2 ∧ SW w0 B g n c (P ++ S2 ++ (S.drop k' ++ R)) W)) := by
          intro Z W hp hu hw
          refine ⟨k + 1, Z, by go_num, by omega, .inl hlt, ?_, hu, ?_⟩
          · rw [take_step HX.out.1]
            exact hp.trans (HK.out.2.1.append_right _)
          · rw [HT.out] at hw; exact hw
        go_upto_region 4 with (fail)
        by_cases hja : j = P.length
        · subst hja
          have rb0 : decide ((P.length : Int) < (P.length : Int)) = false := by simp
          go_cut [34] from 18 to 34 (fun t W => t = .bool false ∧ SW w0 B g n c us W)
          case first =>
            refine wp_region_vals (VIA P.length) (by kernel_rfl) (by kernel_rfl) (VIA_stays P.length) ?_ ?_
            · intro j hj
              match j, hj with
              | 0, _ =>
                refine StepAt.by rfl fun a' W hf hb hd => ?_
                exact .inl ⟨want_none, does_move ((hf.keeps 9 (by kernel_rfl)).trans rfl) ⟨Below.refl _ _, rfl⟩⟩
              | 1, _ =>
                refine StepAt.by rfl fun a' W hf hb hd => ?_
                exact .inl ⟨want_none, does_move ((hf.keeps 1 (by kernel_rfl)).trans rfl) ⟨Below.refl _ _, rfl⟩⟩
              | 2, _ =>
                refine StepAt.by rfl fun a' W hf hb hd => ?_
                exact .inl ⟨want_none, does_run (run_gtrI (hd 0 (by kernel_rfl)) (hd 1 (by kernel_rfl))) ⟨Below.refl _ _, by show Value.bool _ = _; rw [rb0]⟩⟩
              | 3, _ =>
                refine StepAt.by rfl fun a' W hf hb hd => ?_
                exact .inl ⟨want_none, does_move (hd 2 (by kernel_rfl)) ⟨Below.refl _ _, rfl⟩⟩
              | 4, _ =>
                refine StepAt.by rfl fun a' W hf hb hd => ?_
                exact .inr ⟨want_some (k := 3) (t := 21) rfl (hd 3 (by kernel_rfl)), rfl⟩
              | 5, _ =>
                refine StepAt.by rfl fun a' W hf hb hd => ?_
                exact .inr ⟨want_some (k := 3) (t := 21) rfl (hd 3 (by kernel_rfl)), rfl⟩
              | 6, _ =>
                refine StepAt.by rfl fun a' W hf hb hd => ?_
                exact .inr ⟨want_some (k := 3) (t := 21) rfl (hd 3 (by kernel_rfl)), rfl⟩
              | 7, _ =>
                refine StepAt.by rfl fun a' W hf hb hd => ?_
                exact .inr ⟨want_some (k := 3) (t := 21) rfl (hd 3 (by kernel_rfl)), rfl⟩
              | 8, _ =>
                refine StepAt.by rfl fun a' W hf hb hd => ?_
                exact .inr ⟨want_some (k := 3) (t := 21) rfl (hd 3 (by kernel_rfl)), rfl⟩
              | 9, _ =>
                refine StepAt.by rfl fun a' W hf hb hd => ?_
                exact .inr ⟨want_some (k := 3) (t := 21) rfl (hd 3 (by kernel_rfl)), rfl⟩
              | 10, _ =>
                refine StepAt.by rfl fun a' W hf hb hd => ?_
                exact .inr ⟨want_some (k := 3) (t := 21) rfl (hd 3 (by kernel_rfl)), rfl⟩
              | 11, _ =>
                refine StepAt.by rfl fun a' W hf hb hd => ?_
                exact .inr ⟨want_some (k := 3) (t := 21) rfl (hd 3 (by kernel_rfl)), rfl⟩
              | 12, _ =>
                refine StepAt.by rfl fun a' W hf hb hd => ?_
                exact .inr ⟨want_some (k := 3) (t := 21) rfl (hd 3 (by kernel_rfl)), rfl⟩
              | 13, _ =>
                refine StepAt.by rfl fun a' W hf hb hd => ?_
                exact .inr ⟨want_some (k := 3) (t := 21) rfl (hd 3 (by kernel_rfl)), rfl⟩
              | 14, _ =>
                refine StepAt.by rfl fun a' W hf hb hd => ?_
                exact .inr ⟨want_some (k := 3) (t := 21) rfl (hd 3 (by kernel_rfl)), rfl⟩
              | 15, _ =>
                refine StepAt.by rfl fun a' W hf hb hd => ?_
                exact .inr ⟨want_some (k := 3) (t := 21) rfl (hd 3 (by kernel_rfl)), rfl⟩
              | 16, _ =>
                refine StepAt.by rfl fun a' W hf hb hd => ?_
                exact .inl ⟨want_none, does_pick (b := false) (hd 3 (by kernel_rfl)) rfl ⟨Below.refl _ _, rfl⟩⟩
              | k + 17, hi => exact absurd hi (Nat.not_lt.2 (Nat.le_add_left _ _))
            · intro a' W hf hb hv
              have hlast : a'.eval (.tmp 34) = .bool false := hv 16 (by decide)
              have hl := hf.lit (fun t => decide (18 ≤ t) && decide (t ≤ 34)) (by kernel_rfl)
              simp only [overL, Nat.reduceAdd, Nat.reduceLeDiff, decide_true, decide_false, Bool.and_true, Bool.and_false] at hl
              rw [hl]
              clear hl
              go_wp2_with (fail)
              go_meet
              case rel => exact ⟨hlast.trans (congrArg Value.bool (rfl)), (HJ.out.1.below hb)⟩
          obtain ⟨rfl, hsw⟩ := hcut
          rename World => w4
          obtain ⟨Z, hz1, hz2, hz3⟩ := HI.out.stop HK.out.2.2.1 (.inl rfl)
          rw [hz1] at hsw
          have HR := hout.out Z w4 hz2 hz3 hsw
          clear hz1 hz2 hz3 hsw
          go_wp2_with (fail)
          go_roundw
          case rel => exact HR
          case measure => simp [intOf]; omega
        · obtain ⟨jp, rfl⟩ : ∃ jp, j = jp + 1 := ⟨j - 1, by omega⟩
          have hnj : jp + 1 < n := by omega
          have hnp : jp < n := by omega
          obtain ⟨y, hy⟩ : ∃ y, us[jp]? = some y := ⟨_, List.getElem?_eq_getElem (by omega)⟩
          have HY : Hid (us[jp]? = some y ∧ us[jp + 1]? = some x) := ⟨hy, HI.out.here⟩
          clear hy
          have rb0 : decide ((P.length : Int) < ((jp + 1 : Nat) : Int)) = true := by simp; omega
          go_cut [34] from 18 to 34 (fun t W => t = .bool (decide (x.fid < y.fid)) ∧ SW w0 B g n c us W)
          case first =>
            have HVX : ∀ W, Below wj.drew.heap.size wj.drew W → NodeAt W g (0 + (jp + 1) * 5) x := fun W hb => (HJ.out.1.below ((Below.refl _ _).drew.trans hb)).node HY.out.2
            have HVY : ∀ W, Below wj.drew.heap.size wj.drew W → NodeAt W g (0 + jp * 5) y := fun W hb => (HJ.out.1.below ((Below.refl _ _).drew.trans hb)).node HY.out.1
            refine wp_region_vals (VIB g n c P.length jp x y) (by kernel_rfl) (by kernel_rfl) (VIB_stays g n c P.length jp x y) ?_ ?_
            · intro j hj
              match j, hj with
              | 0, _ =>
                refine StepAt.by rfl fun a' W hf hb hd => ?_
                exact .inl ⟨want_none, does_move ((hf.keeps 9 (by kernel_rfl)).trans rfl) ⟨Below.refl _ _, rfl⟩⟩
              | 1, _ =>
                refine StepAt.by rfl fun a' W hf hb hd => ?_
                exact .inl ⟨want_none, does_move ((hf.keeps 1 (by kernel_rfl)).trans rfl) ⟨Below.refl _ _, rfl⟩⟩
              | 2, _ =>
                refine StepAt.by rfl fun a' W hf hb hd => ?_
                exact .inl ⟨want_none, does_run (run_gtrI (hd 0 (by kernel_rfl)) (hd 1 (by kernel_rfl))) ⟨Below.refl _ _, by show Value.bool _ = _; rw [rb0]⟩⟩
              | 3, _ =>
                refine StepAt.by rfl fun a' W hf hb hd => ?_
                exact .inl ⟨want_none, does_move (hd 2 (by kernel_rfl)) ⟨Below.refl _ _, rfl⟩⟩
              | 4, _ =>
                refine StepAt.by rfl fun a' W hf hb hd => ?_
                exact .inl ⟨want_some (k := 3) (t := 21) rfl (hd 3 (by kernel_rfl)), does_move ((hf.keeps 3 (by kernel_rfl)).trans rfl) ⟨Below.refl _ _, rfl⟩⟩
              | 5, _ =>
                refine StepAt.by rfl fun a' W hf hb hd => ?_
                exact .inl ⟨want_some (k := 3) (t := 21) rfl (hd 3 (by kernel_rfl)), does_move ((hf.keeps 0 (by kernel_rfl)).trans rfl) ⟨Below.refl _ _, rfl⟩⟩
              | 6, _ =>
                refine StepAt.by rfl fun a' W hf hb hd => ?_
                exact .inl ⟨want_some (k := 3) (t := 21) rfl (hd 3 (by kernel_rfl)), does_move ((hf.keeps 9 (by kernel_rfl)).trans rfl) ⟨Below.refl _ _, rfl⟩⟩
              | 7, _ =>
                refine StepAt.by rfl fun a' W hf hb hd => ?_
                exact .inl ⟨want_some (k := 3) (t := 21) rfl (hd 3 (by kernel_rfl)), does_run (run_indexN (hd 5 (by kernel_rfl)) (hd 6 (by kernel_rfl)) (by omega)) ⟨Below.refl _ _, rfl⟩⟩
              | 8, _ =>
                refine StepAt.by rfl fun a' W hf hb hd => ?_
                exact .inl ⟨want_some (k := 3) (t := 21) rfl (hd 3 (by kernel_rfl)), does_run (run_loadNd (hd 7 (by kernel_rfl)) (HVX W hb)) ⟨Below.refl _ _, rfl⟩⟩
              | 9, _ =>
                refine StepAt.by rfl fun a' W hf hb hd => ?_
                exact .inl ⟨want_some (k := 3) (t := 21) rfl (hd 3 (by kernel_rfl)), does_move ((hf.keeps 0 (by kernel_rfl)).trans rfl) ⟨Below.refl _ _, rfl⟩⟩
              | 10, _ =>
                refine StepAt.by rfl fun a' W hf hb hd => ?_
                exact .inl ⟨want_some (k := 3) (t := 21) rfl (hd 3 (by kernel_rfl)), does_move ((hf.keeps 9 (by kernel_rfl)).trans rfl) ⟨Below.refl _ _, rfl⟩⟩
              | 11, _ =>
                refine StepAt.by rfl fun a' W hf hb hd => ?_
                refine .inl ⟨want_some (k := 3) (t := 21) rfl (hd 3 (by kernel_rfl)), ?_⟩
                exact does_run (run_subN (k := 1) (hd 10 (by kernel_rfl)) rfl (by omega) (by omega)) ⟨Below.refl _ _, rfl⟩
              | 12, _ =>
                refine StepAt.by rfl fun a' W hf hb hd => ?_
                exact .inl ⟨want_some (k := 3) (t := 21) rfl (hd 3 (by kernel_rfl)), does_run (run_indexN (hd 9 (by kernel_rfl)) (hd 11 (by kernel_rfl)) (by omega)) ⟨Below.refl _ _, rfl⟩⟩
              | 13, _ =>
                refine StepAt.by rfl fun a' W hf hb hd => ?_
                exact .inl ⟨want_some (k := 3) (t := 21) rfl (hd 3 (by kernel_rfl)), does_run (run_loadNd (hd 12 (by kernel_rfl)) (HVY W hb)) ⟨Below.refl _ _, rfl⟩⟩
              | 14, _ =>
                refine StepAt.by rfl fun a' W hf hb hd => ?_
                refine .inl ⟨want_some (k := 3) (t := 21) rfl (hd 3 (by kernel_rfl)), ?_⟩
                exact does_callV2 (enters_of Try.func53 (by kernel_rfl) (by kernel_rfl)) (hd 4 (by kernel_rfl)) (hd 8 (by kernel_rfl)) (hd 13 (by kernel_rfl)) ((cmpN_any x y W).mono fun e W2 ⟨he, hb2⟩ => ⟨_, he, hb2, rfl⟩)
              | 15, _ =>
                refine StepAt.by rfl fun a' W hf hb hd => ?_
                exact .inl ⟨want_some (k := 3) (t := 21) rfl (hd 3 (by kernel_rfl)), does_run (run_lssI (hd 14 (by kernel_rfl)) rfl) ⟨Below.refl _ _, rfl⟩⟩
              | 16, _ =>
                refine StepAt.by rfl fun a' W hf hb hd => ?_
                exact .inl ⟨want_none, does_pick (b := true) (hd 3 (by kernel_rfl)) (hd 15 (by kernel_rfl)) ⟨Below.refl _ _, rfl⟩⟩
              | k + 17, hi => exact absurd hi (Nat.not_lt.2 (Nat.le_add_left _ _))
            · intro a' W hf hb hv
              have hlast : a'.eval (.tmp 34) = .bool (decide (M.cmpI x.fid y.fid < 0)) := hv 16 (by decide)
              have hl := hf.lit (fun t => decide (18 ≤ t) && decide (t ≤ 34)) (by kernel_rfl)
              simp only [overL, Nat.reduceAdd, Nat.reduceLeDiff, decide_true, decide_false, Bool.and_true, Bool.and_false] at hl
              rw [hl]
              clear hl
              go_wp2_with (fail)
              go_meet
              case rel => exact ⟨hlast.trans (congrArg Value.bool (cmpI_ltN _ _)), (HJ.out.1.below hb)⟩
          obtain ⟨rfl, hsw⟩ := hcut
          rename World => w4
          have H4 : Hid (SW w0 B g n c us w4) := hsw
          clear hsw
          by_cases hxy : x.fid < y.fid
          · have HD : Hid (Ins P S1 T x jp (swapAt us (jp + 1) jp x y)) := HI.out.down (by omega) HY.out.1 hxy
            rw [decide_eq_true hxy]
            have HSW : Hid (SW w0 B g n c (swapAt us (jp + 1) jp x y) (put5 (put5 w4 g ((jp + 1) * 5) y) g (jp * 5) x).drew) := (H4.out.swap hnj hnp x y).below (Below.refl _ _).drew
            obtain ⟨x0, x1, x2, x3, x4, xf, xz⟩ := H4.out.at_ HY.out.2
            obtain ⟨y0, y1, y2, y3, y4, _, _⟩ := H4.out.at_ HY.out.1
            clear hxy
            go_upto_region 6 with (fail)
            go_region
            all_goals
              go_wp2_with (fail)
              go_roundw
              case rel => exact ⟨jp, swapAt us (jp + 1) jp x y, by go_num, HD, HSW.out⟩
              case measure => simp [intOf]
          · rw [decide_eq_false hxy]
            obtain ⟨Z, hz1, hz2, hz3⟩ := HI.out.stop HK.out.2.2.1 (.inr ⟨jp, y, rfl, HY.out.1, hxy⟩)
            have hsw := H4.out
            rw [hz1] at hsw
            have HR := hout.out Z w4 hz2 hz3 hsw
            clear hz1 hz2 hz3 hsw hxy
            go_wp2_with (fail)
            go_roundw
            case rel => exact HR
            case measure => simp [intOf]; omega
    · have hki : ¬ ((P.length + k : Nat) : Int) < ((P.length + S.length : Nat) : Int) := by omega
      have HE : Hid (∃ S', S'.Perm S ∧ Up S' ∧ SW w0 B g n c (P ++ S' ++ R) wi) := by
        obtain ⟨h1, h2, h3, h4⟩ := HK.out
        rw [List.take_of_length_le (by omega)] at h2
        rw [List.drop_eq_nil_of_le (by omega), List.nil_append] at h4
        exact ⟨S1, h2, h3, h4⟩
      clear HK
      go_wp2_with (fail)
      go_end0
      exact ⟨rfl, by simpa using HE.out⟩
end Go.Proofs.Ytjpdoblmdchmkad
/-
  SORTING NODES: two ranges change places.
-/
namespace Go.Proofs.Ytjpdoblmdchmkad
open Go.RowKit

theorem swap_gen (U V Z : List NV) (x y : NV) (i j : Nat) (hi : i = U.length) (hj : j = U.length + 1 + V.length) : swapAt (U ++ x :: (V ++ y :: Z)) i j x y = U ++ y :: (V ++ x :: Z) := by
  subst hi hj
  unfold swapAt
  rw [List.set_append_right _ _ (by omega), List.set_append_right _ _ (by omega)]
  simp only [Nat.sub_self, List.set_cons_zero]
  congr 1
  rw [show U.length + 1 + V.length - U.length = V.length + 1 by omega, List.set_cons_succ, List.set_append_right _ _ (by omega), Nat.sub_self, List.set_cons_zero]
/-- the first k have changed places -/
def midS (P X Q Y R : List NV) (k : Nat) : List NV := P ++ (Y.take k ++ (X.drop k ++ (Q ++ (X.take k ++ (Y.drop k ++ R)))))
theorem mid_zero (P X Q Y R : List NV) : midS P X Q Y R 0 = P ++ (X ++ (Q ++ (Y ++ R))) := by unfold midS; simp
theorem mid_all (P X Q Y R : List NV) {k : Nat} (hx : X.length = k) (hy : Y.length = k) : midS P X Q Y R k = P ++ (Y ++ (Q ++ (X ++ R))) := by
  unfold midS
  rw [List.take_of_length_le (by omega), List.take_of_length_le (by omega), List.drop_eq_nil_of_le (by omega), List.drop_eq_nil_of_le (by omega)]
  simp
theorem mid_at {P X Q Y R : List NV} {k : Nat} (hxy : X.length = Y.length) (hk : k < X.length) : ∃ x y, (midS P X Q Y R k)[P.length + k]? = some x ∧ (midS P X Q Y R k)[P.length + X.length + Q.length + k]? = some y ∧ swapAt (midS P X Q Y R k) (P.length + k) (P.length + X.length + Q.length + k) x y = midS P X Q Y R (k + 1) := by
  have hk2 : k < Y.length := by omega
  have ex : X.drop k = X[k] :: X.drop (k + 1) := List.drop_eq_getElem_cons hk
  have ey : Y.drop k = Y[k] :: Y.drop (k + 1) := List.drop_eq_getElem_cons hk2
  have e1 : midS P X Q Y R k = (P ++ Y.take k) ++ X[k] :: ((X.drop (k + 1) ++ (Q ++ X.take k)) ++ Y[k] :: (Y.drop (k + 1) ++ R)) := by
    unfold midS
    rw [ex, ey]
    simp only [List.append_assoc, List.cons_append]
  have l1 : (P ++ Y.take k).length = P.length + k := by simp; omega
  have l2 : (X.drop (k + 1) ++ (Q ++ X.take k)).length + 1 = X.length + Q.length := by simp; omega
  have tx : X.take (k + 1) = X.take k ++ [X[k]] := take_step (List.getElem?_eq_getElem hk)
  have ty : Y.take (k + 1) = Y.take k ++ [Y[k]] := take_step (List.getElem?_eq_getElem hk2)
  refine ⟨X[k], Y[k], ?_, ?_, ?_⟩
  · rw [e1, List.getElem?_append_right (by omega), l1, Nat.sub_self]; rfl
  · rw [e1, List.getElem?_append_right (by omega), l1, show P.length + X.length + Q.length + k - (P.length + k) = (X.drop (k + 1) ++ (Q ++ X.take k)).length + 1 by omega, List.getElem?_cons_succ, List.getElem?_append_right (Nat.le_refl _), Nat.sub_self]; rfl
  · rw [e1, swap_gen _ _ _ _ _ _ _ l1.symm (by omega)]
    unfold midS
    rw [tx, ty]
    simp only [List.append_assoc, List.cons_append, List.nil_append]
set_option maxRecDepth 8000 in
set_option maxHeartbeats 8000000 in
theorem swapRange_any (w0 : World) (B g n c a b m : Nat) (P X Q Y R : List NV) (w : World) (hs : SW w0 B g n c (P ++ (X ++ (Q ++ (Y ++ R)))) w) (hx : X.length = m) (hy : Y.length = m) (ha : a = P.length) (hb : b = P.length + X.length + Q.length) (hn : n ≤ 140737488355328) :
    Calls Try.prog 116 #[.slice (some ⟨g, 0, none⟩) n c, .int .i64 (a : Int), .int .i64 (b : Int), .int .i64 (m : Int), .func (.func 53) #[] #[]] w fun e w' => e = .returned (.tuple #[]) ∧ SW w0 B g n c (P ++ (Y ++ (Q ++ (X ++ R)))) w' := by
  have HS : Hid (SW w0 B g n c (midS P X Q Y R 0) w) := by show SW _ _ _ _ _ _ _; rw [mid_zero]; exact hs
  have HL : Hid (X.length = m ∧ Y.length = m ∧ a = P.length ∧ b = P.length + X.length + Q.length) := ⟨hx, hy, ha, hb⟩
  have hlen : a + m ≤ n ∧ b + m ≤ n := by
    have := hs.len
    simp at this
    omega
  clear hs hx hy ha hb
  go_enter Try.func116, Try.ntmps116
  go_wp2_with (fail)
  go_loopw [10] (fun i W => ∃ k : Nat, i = .int .i64 (k : Int) ∧ k ≤ m ∧ SW w0 B g n c (midS P X Q Y R k) W) (fun i _ => m - (intOf i).toNat)
  case atStart => exact ⟨0, rfl, Nat.zero_le _, HS.out⟩
  case round =>
    obtain ⟨k, rfl, hkm, hsw⟩ := hrel
    rename World => wk
    have HK : Hid (SW w0 B g n c (midS P X Q Y R k) wk) := hsw
    clear hsw
    by_cases hlt : k < m
    · obtain ⟨x, y, h1, h2, h3⟩ := mid_at (P := P) (X := X) (Q := Q) (Y := Y) (R := R) (k := k) (by rw [HL.out.1, HL.out.2.1]) (by rw [HL.out.1]; exact hlt)
      rw [← HL.out.2.2.2] at h2 h3
      rw [← HL.out.2.2.1] at h1 h3
      obtain ⟨ak, hak⟩ : ∃ ak, a + k = ak := ⟨_, rfl⟩
      obtain ⟨bk, hbk⟩ : ∃ bk, b + k = bk := ⟨_, rfl⟩
      rw [hak] at h1 h3
      rw [hbk] at h2 h3
      have HNE : ¬ ak = bk ∧ ¬ bk = ak := by
        have h1 := HL.out.2.2
        have h2 := HL.out.1
        omega
      have han : ak < n := by omega
      have hbn : bk < n := by omega
      have sa : (a : Int) + (k : Int) = (ak : Int) := by omega
      have sb : (b : Int) + (k : Int) = (bk : Int) := by omega
      have HSW : Hid (SW w0 B g n c (midS P X Q Y R (k + 1)) (put5 (put5 wk g (ak * 5) y) g (bk * 5) x).drew) := by
        rw [← h3]
        exact (HK.out.swap han hbn x y).below (Below.refl _ _).drew
      obtain ⟨x0, x1, x2, x3, x4, xf, xz⟩ := HK.out.at_ h1
      obtain ⟨y0, y1, y2, y3, y4, _, _⟩ := HK.out.at_ h2
      have wa : IntKind.i64.wrap (ak : Int) = (ak : Int) := by rw [IntKind.wrap_i64]; omega
      have wb : IntKind.i64.wrap (bk : Int) = (bk : Int) := by rw [IntKind.wrap_i64]; omega
      have hne : ¬ ak = bk ∧ ¬ bk = ak := HNE
      obtain ⟨d0, e0⟩ := hne
      have d1 : ¬ ak * 5 = bk * 5 + 1 := by omega
      have e1 : ¬ bk * 5 = ak * 5 + 1 := by omega
      have d2 : ¬ ak * 5 = bk * 5 + 2 := by omega
      have e2 : ¬ bk * 5 = ak * 5 + 2 := by omega
      have d3 : ¬ ak * 5 = bk * 5 + 3 := by omega
      have e3 : ¬ bk * 5 = ak * 5 + 3 := by omega
      have d4 : ¬ ak * 5 = bk * 5 + 4 := by omega
      have e4 : ¬ bk * 5 = ak * 5 + 4 := by omega
      clear h1 h2 h3 hak hbk
      go_upto_region 3 with (fail)
      go_region
      all_goals
        go_wp2_with (fail)
        go_roundw
        case rel => exact ⟨k + 1, by go_num, by omega, HSW.out⟩
        case measure => simp [intOf]; omega
    · have HE : Hid (SW w0 B g n c (P ++ (Y ++ (Q ++ (X ++ R)))) wk) := by
        have h := HK.out
        rw [mid_all P X Q Y R (k := k) (by rw [HL.out.1]; omega) (by rw [HL.out.2.1]; omega)] at h
        exact h
      go_wp2_with (fail)
      go_end0
      exact ⟨rfl, HE.out⟩
end Go.Proofs.Ytjpdoblmdchmkad
/-
  SORTING NODES: two ranges, one behind the other, change places.
-/
namespace Go.Proofs.Ytjpdoblmdchmkad
open Go.RowKit

set_option maxRecDepth 8000 in
set_option maxHeartbeats 8000000 in
theorem rotate_any (w0 : World) (B g n c a m b : Nat) (P X Y R : List NV) (w : World) (hs : SW w0 B g n c (P ++ (X ++ (Y ++ R))) w) (ha : a = P.length) (hm : m = P.length + X.length) (hb : b = P.length + X.length + Y.length) (hx : 0 < X.length) (hy : 0 < Y.length) (hn : n ≤ 140737488355328) :
    Calls Try.prog 106 #[.slice (some ⟨g, 0, none⟩) n c, .int .i64 (a : Int), .int .i64 (m : Int), .int .i64 (b : Int), .func (.func 53) #[] #[]] w fun e w' => e = .returned (.tuple #[]) ∧ SW w0 B g n c (P ++ (Y ++ (X ++ R))) w' := by
  have HS : Hid (SW w0 B g n c (P ++ (X ++ (Y ++ R))) w ∧ m = P.length + X.length ∧ 0 < X.length ∧ 0 < Y.length) := ⟨hs, hm, hx, hy⟩
  obtain ⟨xl, hxl⟩ : ∃ q, X.length = q := ⟨_, rfl⟩
  obtain ⟨yl, hyl⟩ : ∃ q, Y.length = q := ⟨_, rfl⟩
  have HXL : Hid (X.length = xl ∧ Y.length = yl) := ⟨hxl, hyl⟩
  have hlen : a + xl + yl ≤ n ∧ m = a + xl := by
    have := hs.len
    simp at this
    omega
  have si : (m : Int) - (a : Int) = (xl : Int) := by omega
  have sj : (b : Int) - (m : Int) = (yl : Int) := by omega
  have hmn : m ≤ n := by omega
  have hyn : yl ≤ n := by omega
  have wyl : IntKind.i64.wrap (yl : Int) = (yl : Int) := by rw [IntKind.wrap_i64]; omega
  clear hs hx hy ha hm hb hxl hyl hlen
  go_enter Try.func106, Try.ntmps106
  go_wp2_with (fail)
  go_loopw [10, 11] (fun iv jv W => ∃ (i j : Nat) (P' X' Y' R' : List NV), iv = .int .i64 (i : Int) ∧ jv = .int .i64 (j : Int) ∧ Hid (SW w0 B g n c (P' ++ (X' ++ (Y' ++ R'))) W ∧ P'.length + X'.length = m ∧ X'.length = i ∧ Y'.length = j ∧ 0 < i ∧ 0 < j ∧ P' ++ (Y' ++ (X' ++ R')) = P ++ (Y ++ (X ++ R)))) (fun iv jv _ => (intOf iv).toNat + (intOf jv).toNat)
  case atStart => exact ⟨xl, yl, P, X, Y, R, rfl, rfl, HS.out.1, HS.out.2.1.symm, HXL.out.1, HXL.out.2, by rw [← HXL.out.1]; exact HS.out.2.2.1, by rw [← HXL.out.2]; exact HS.out.2.2.2, rfl⟩
  case round =>
    obtain ⟨i, j, P', X', Y', R', rfl, rfl, HI⟩ := hrel
    rename World => wk
    have hb1 : P'.length + i = m ∧ 0 < i ∧ 0 < j ∧ m + j ≤ n := by
      have h := HI.out
      have := h.1.len
      simp at this
      omega
    obtain ⟨p, hp⟩ : ∃ p, P'.length = p := ⟨_, rfl⟩
    have HP : Hid (P'.length = p) := hp
    rw [hp] at hb1
    clear hp
    have sp : (m : Int) - (i : Int) = (p : Int) := by omega
    by_cases hij : i = j
    · subst hij
      have hne : ((i : Int) != (i : Int)) = false := by simp
      go_wp2_with (fail)
      refine (swapRange_any w0 B g n c p m i P' X' [] Y' R' wk (by simpa using HI.out.1) HI.out.2.2.1 HI.out.2.2.2.1 HP.out.symm (by simpa using HI.out.2.1.symm) hn).mono ?_
      rintro e w1 ⟨rfl, hsw⟩
      have HE : Hid (SW w0 B g n c (P ++ (Y ++ (X ++ R))) w1) := by
        show SW _ _ _ _ _ _ _
        rw [← HI.out.2.2.2.2.2.2]
        simpa using hsw
      clear hsw
      go_wp2_with (fail)
      go_end0
      exact ⟨rfl, HE.out⟩
    · have hne : ((i : Int) != (j : Int)) = true := by simp; omega
      by_cases hgt : j < i
      · have hgi : (j : Int) < (i : Int) := by omega
        have sij : (i : Int) - (j : Int) = ((i - j : Nat) : Int) := by omega
        go_wp2_with (fail)
        refine (swapRange_any w0 B g n c p m j P' (X'.take j) (X'.drop j) Y' R' wk (by rw [← List.append_assoc (X'.take j), List.take_append_drop]; exact HI.out.1) (by rw [List.length_take, HI.out.2.2.1]; omega) HI.out.2.2.2.1 HP.out.symm (by rw [List.length_take, List.length_drop, HI.out.2.2.1, HP.out]; omega) hn).mono ?_
        rintro e w1 ⟨rfl, hsw⟩
        have HE : Hid (SW w0 B g n c ((P' ++ Y') ++ (X'.drop j ++ (X'.take j ++ R'))) w1 ∧ (P' ++ Y').length + (X'.drop j).length = m ∧ (X'.drop j).length = i - j ∧ (X'.take j).length = j ∧ 0 < i - j ∧ 0 < j ∧ (P' ++ Y') ++ (X'.take j ++ (X'.drop j ++ R')) = P ++ (Y ++ (X ++ R))) := by
          refine ⟨by rw [List.append_assoc]; exact hsw, ?_, by rw [List.length_drop, HI.out.2.2.1], by rw [List.length_take, HI.out.2.2.1]; omega, by omega, hb1.2.2.1, ?_⟩
          · rw [List.length_append, List.length_drop, HI.out.2.2.1, HI.out.2.2.2.1, HP.out]; omega
          · rw [← HI.out.2.2.2.2.2.2, List.append_assoc, ← List.append_assoc (X'.take j), List.take_append_drop]
        clear hsw
        go_wp2_with (fail)
        go_roundw
        case rel => exact ⟨i - j, j, P' ++ Y', X'.drop j, X'.take j, R', rfl, rfl, HE⟩
        case measure => simp [intOf]; omega
      · have hgi : ¬ (j : Int) < (i : Int) := by omega
        have sji : (j : Int) - (i : Int) = ((j - i : Nat) : Int) := by omega
        obtain ⟨mj, hmj⟩ : ∃ mj, m + j = mj := ⟨_, rfl⟩
        obtain ⟨q, hq⟩ : ∃ q, mj - i = q := ⟨_, rfl⟩
        have smj : (m : Int) + (j : Int) = (mj : Int) := by omega
        have smq : (mj : Int) - (i : Int) = (q : Int) := by omega
        have HQ : Hid (q = p + i + (j - i)) := by show _ = _; omega
        clear hmj hq
        go_wp2_with (fail)
        refine (swapRange_any w0 B g n c p q i P' X' (Y'.take (j - i)) (Y'.drop (j - i)) R' wk (by rw [← List.append_assoc (Y'.take (j - i)), List.take_append_drop]; exact HI.out.1) HI.out.2.2.1 (by rw [List.length_drop, HI.out.2.2.2.1]; omega) HP.out.symm (by rw [List.length_take, HI.out.2.2.1, HI.out.2.2.2.1, HP.out, HQ.out]; omega) hn).mono ?_
        rintro e w1 ⟨rfl, hsw⟩
        have HE : Hid (SW w0 B g n c (P' ++ (Y'.drop (j - i) ++ (Y'.take (j - i) ++ (X' ++ R')))) w1 ∧ P'.length + (Y'.drop (j - i)).length = m ∧ (Y'.drop (j - i)).length = i ∧ (Y'.take (j - i)).length = j - i ∧ 0 < i ∧ 0 < j - i ∧ P' ++ (Y'.take (j - i) ++ (Y'.drop (j - i) ++ (X' ++ R'))) = P ++ (Y ++ (X ++ R))) := by
          refine ⟨hsw, ?_, by rw [List.length_drop, HI.out.2.2.2.1]; omega, by rw [List.length_take, HI.out.2.2.2.1]; omega, hb1.2.1, by omega, ?_⟩
          · rw [List.length_drop, HI.out.2.2.2.1, HP.out]; omega
          · rw [← HI.out.2.2.2.2.2.2, ← List.append_assoc (Y'.take (j - i)), List.take_append_drop]
        clear hsw
        go_wp2_with (fail)
        go_roundw
        case rel => exact ⟨i, j - i, P', Y'.drop (j - i), Y'.take (j - i), X' ++ R', rfl, rfl, HE⟩
        case measure => simp [intOf]; omega
end Go.Proofs.Ytjpdoblmdchmkad
/-
  SORTING, plain mathematics: two rising ranges are merged.
-/
namespace Go.Proofs.Ytjpdoblmdchmkad
open Go.RowKit

def fidAt (us : List NV) (k : Nat) : Int := (us[k]?.map (·.fid)).getD 0
theorem fidAt_is {us : List NV} {k : Nat} {v : NV} (h : us[k]? = some v) : fidAt us k = v.fid := by unfold fidAt; rw [h]; rfl
def UpOn (us : List NV) (lo hi : Nat) : Prop := ∀ k l, lo ≤ k → k ≤ l → l < hi → fidAt us k ≤ fidAt us l
/-- a search, halfway: true ahead of i, false from j on -/
def Bis (p : Nat → Bool) (lo hi i j : Nat) : Prop := lo ≤ i ∧ i ≤ j ∧ j ≤ hi ∧ (∀ k, lo ≤ k → k < i → p k = true) ∧ ∀ k, j ≤ k → k < hi → p k = false
def Falls (p : Nat → Bool) (lo hi : Nat) : Prop := ∀ k l, lo ≤ k → k ≤ l → l < hi → p l = true → p k = true
section
variable {p : Nat → Bool} {lo hi i j h : Nat}
theorem Bis.start (p : Nat → Bool) {lo hi : Nat} (h : lo ≤ hi) : Bis p lo hi lo hi := ⟨Nat.le_refl _, h, Nat.le_refl _, fun k h1 h2 => by omega, fun k h1 h2 => by omega⟩
theorem Bis.up (b : Bis p lo hi i j) (hf : Falls p lo hi) (h1 : i ≤ h) (h2 : h < j) (hp : p h = true) : Bis p lo hi (h + 1) j := by
  obtain ⟨b1, b2, b3, b4, b5⟩ := b
  exact ⟨by omega, h2, b3, fun k h3 h4 => hf k h h3 (by omega) (by omega) hp, b5⟩
theorem Bis.down (b : Bis p lo hi i j) (hf : Falls p lo hi) (h1 : i ≤ h) (h2 : h < j) (hp : p h = false) : Bis p lo hi i h := by
  obtain ⟨b1, b2, b3, b4, b5⟩ := b
  refine ⟨b1, h1, by omega, b4, fun k h3 h4 => ?_⟩
  cases hk : p k with
  | false => rfl
  | true =>
    have := hf h k (by omega) h3 h4 hk
    rw [hp] at this
    cases this
end
section
variable {P X Y R : List NV}
theorem at_P {q : Nat} {z : NV} (h : X[q]? = some z) : (P ++ (X ++ (Y ++ R)))[P.length + q]? = some z := by
  rw [List.getElem?_append_right (by omega), Nat.add_sub_cancel_left]
  have hq : q < X.length := (List.getElem?_eq_some_iff.1 h).1
  rw [List.getElem?_append_left hq]
  exact h
theorem at_Q {q : Nat} {z : NV} (h : Y[q]? = some z) : (P ++ (X ++ (Y ++ R)))[P.length + X.length + q]? = some z := by
  have hq : q < Y.length := (List.getElem?_eq_some_iff.1 h).1
  rw [List.getElem?_append_right (by omega), show P.length + X.length + q - P.length = X.length + q by omega, List.getElem?_append_right (by omega), Nat.add_sub_cancel_left, List.getElem?_append_left hq]
  exact h
theorem upOn_of (L : List NV) (hu : Up L) (us : List NV) (lo : Nat) (hat : ∀ q z, L[q]? = some z → us[lo + q]? = some z) : UpOn us lo (lo + L.length) := by
  intro k l h1 h2 h3
  have hk : k - lo < L.length := by omega
  have hl : l - lo < L.length := by omega
  have e1 := hat (k - lo) _ (List.getElem?_eq_getElem hk)
  have e2 := hat (l - lo) _ (List.getElem?_eq_getElem hl)
  rw [show lo + (k - lo) = k by omega] at e1
  rw [show lo + (l - lo) = l by omega] at e2
  rw [fidAt_is e1, fidAt_is e2]
  rcases Nat.lt_or_ge (k - lo) (l - lo) with h | h
  · exact List.pairwise_iff_getElem.1 hu (k - lo) (l - lo) hk hl h
  · have : k - lo = l - lo := by omega
    simp only [this]
    exact Int.le_refl _
theorem upX (hx : Up X) : UpOn (P ++ (X ++ (Y ++ R))) P.length (P.length + X.length) := upOn_of X hx _ _ fun _ _ h => at_P h
theorem upY (hy : Up Y) : UpOn (P ++ (X ++ (Y ++ R))) (P.length + X.length) (P.length + X.length + Y.length) := upOn_of Y hy _ _ fun _ _ h => at_Q h
theorem mem_X {d : Nat} {z : NV} (h : z ∈ X.take d) : ∃ k, P.length ≤ k ∧ k < P.length + d ∧ k < P.length + X.length ∧ (P ++ (X ++ (Y ++ R)))[k]? = some z := by
  obtain ⟨q, hq⟩ := List.getElem?_of_mem h
  rw [List.getElem?_take] at hq
  split at hq
  · have := (List.getElem?_eq_some_iff.1 hq).1
    exact ⟨P.length + q, by omega, by omega, by omega, at_P hq⟩
  · cases hq
theorem mem_X2 {d : Nat} {z : NV} (h : z ∈ X.drop d) : ∃ k, P.length + d ≤ k ∧ k < P.length + X.length ∧ (P ++ (X ++ (Y ++ R)))[k]? = some z := by
  obtain ⟨q, hq⟩ := List.getElem?_of_mem h
  rw [List.getElem?_drop] at hq
  have := (List.getElem?_eq_some_iff.1 hq).1
  exact ⟨P.length + (d + q), by omega, by omega, at_P hq⟩
theorem mem_Y {d : Nat} {z : NV} (h : z ∈ Y.take d) : ∃ k, P.length + X.length ≤ k ∧ k < P.length + X.length + d ∧ k < P.length + X.length + Y.length ∧ (P ++ (X ++ (Y ++ R)))[k]? = some z := by
  obtain ⟨q, hq⟩ := List.getElem?_of_mem h
  rw [List.getElem?_take] at hq
  split at hq
  · have := (List.getElem?_eq_some_iff.1 hq).1
    exact ⟨P.length + X.length + q, by omega, by omega, by omega, at_Q hq⟩
  · cases hq
theorem mem_Y2 {d : Nat} {z : NV} (h : z ∈ Y.drop d) : ∃ k, P.length + X.length + d ≤ k ∧ k < P.length + X.length + Y.length ∧ (P ++ (X ++ (Y ++ R)))[k]? = some z := by
  obtain ⟨q, hq⟩ := List.getElem?_of_mem h
  rw [List.getElem?_drop] at hq
  have := (List.getElem?_eq_some_iff.1 hq).1
  exact ⟨P.length + X.length + (d + q), by omega, by omega, at_Q hq⟩
end
theorem up_take {l : List NV} (h : Up l) (d : Nat) : Up (l.take d) := h.sublist (List.take_sublist _ _)
theorem up_drop {l : List NV} (h : Up l) (d : Nat) : Up (l.drop d) := h.sublist (List.drop_sublist _ _)
/-- one is put among many: it goes up -/
def pOne (us : List NV) (a k : Nat) : Bool := decide (fidAt us k < fidAt us a)
def pTwo (us : List NV) (m k : Nat) : Bool := !decide (fidAt us m < fidAt us k)
def pAll (us : List NV) (p k : Nat) : Bool := !decide (fidAt us (p - k) < fidAt us k)
theorem falls_one {us : List NV} {a lo hi : Nat} (h : UpOn us lo hi) : Falls (pOne us a) lo hi := by
  intro k l h1 h2 h3 h4
  have := h k l h1 h2 h3
  simp only [pOne, decide_eq_true_eq] at h4 ⊢
  omega
theorem falls_two {us : List NV} {m lo hi : Nat} (h : UpOn us lo hi) : Falls (pTwo us m) lo hi := by
  intro k l h1 h2 h3 h4
  have := h k l h1 h2 h3
  simp only [pTwo, Bool.not_eq_true', decide_eq_false_iff_not] at h4 ⊢
  omega
theorem falls_all {us : List NV} {p lo hi s t a b : Nat} (h : UpOn us s t) (h2 : UpOn us a b) (hs : s ≤ lo) (ht : hi ≤ t) (ha : ∀ k, lo ≤ k → k < hi → a ≤ p - k ∧ p - k < b) : Falls (pAll us p) lo hi := by
  intro k l h1 h3 h4 h5
  have e1 := h k l (by omega) h3 (by omega)
  have e2 := h2 (p - l) (p - k) (ha l (by omega) h4).1 (by omega) (ha k h1 (by omega)).2
  simp only [pAll, Bool.not_eq_true', decide_eq_false_iff_not] at h5 ⊢
  omega
theorem swap_up (U V : List NV) (x y : NV) (i j : Nat) (hi : i = U.length) (hj : j = U.length + 1) : swapAt (U ++ x :: y :: V) i j x y = U ++ y :: x :: V := by
  subst hi hj
  unfold swapAt
  rw [List.set_append_right _ _ (by omega), List.set_append_right _ _ (by omega)]
  simp
/-- one among many: what comes of it -/
theorem one_up {Y : List NV} {x : NV} {d : Nat} (hy : Up Y) (h1 : ∀ z ∈ Y.take d, z.fid ≤ x.fid) (h2 : ∀ z ∈ Y.drop d, x.fid ≤ z.fid) : (Y.take d ++ x :: Y.drop d).Perm (x :: Y) ∧ Up (Y.take d ++ x :: Y.drop d) := by
  constructor
  · have : (Y.take d ++ x :: Y.drop d).Perm (x :: (Y.take d ++ Y.drop d)) := List.perm_middle
    rw [List.take_append_drop] at this
    exact this
  · refine up_app.2 ⟨up_take hy d, up_cons.2 ⟨h2, up_drop hy d⟩, fun a ha b hb => ?_⟩
    rcases List.mem_cons.1 hb with rfl | hb
    · exact h1 a ha
    · have h3 := h1 a ha
      have h4 := h2 b hb
      omega
end Go.Proofs.Ytjpdoblmdchmkad
