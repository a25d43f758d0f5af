/-
  THE REFERENCE's Keep.
-/
import Derived.Test.YtjpdoblmdchmkadPart5
import Derived.Test.YtjpdoblmdchmkadPart7
import Derived.Test.YtjpdoblmdchmkadPart11
import Derived.Deep.CutRange
namespace Go.Proofs.Ytjpdoblmdchmkad
open Go.RowKit
open Go.ChangeMaps (setBlock)

namespace M
theorem keep_there {xs : List Kp} {room : Int} {k : Kp} (h : hasK xs k.node.fid = true) : keepS xs room k = (0, repK xs k) := by unfold keepS; rw [if_pos h]
theorem keep_none {xs : List Kp} {room : Int} {k : Kp} (h : hasK xs k.node.fid = false) (hs : shrinkS xs room = none) : keepS xs room k = (5, []) := by unfold keepS; rw [if_neg (by rw [h]; decide), hs]
theorem keep_some {xs zs : List Kp} {room : Int} {k : Kp} (h : hasK xs k.node.fid = false) (hs : shrinkS xs room = some zs) : keepS xs room k = (0, zs ++ [k]) := by unfold keepS; rw [if_neg (by rw [h]; decide), hs]
end M
theorem M.ahead_some {xs : List M.Kp} {x y : M.Kp} {i : Nat} (h : xs[i]? = some y) : M.ahead xs x (some i) = M.worseS x y := by unfold M.ahead; simp only [h]
def mixV (v k : KV) : KV := ⟨k.n, k.dirty, if k.worth < v.worth then v.worth else k.worth, k.last⟩
def sliceLen : Value → Nat
  | .slice _ n _ => n
  | _ => 0
def idxV : Option Nat → Int
  | none => -1
  | some i => (i : Int)
set_option maxHeartbeats 1000000 in
theorem boxK_set (w : World) (g : Nat) (v u : KV) (h : BoxK w g v) : ∀ W, W = (((((((w.setCell ⟨g, 0, none⟩ (.int .i64 u.n.fid)).setCell ⟨g, 1, none⟩ (.bool u.n.dir)).setCell ⟨g, 2, none⟩ (.slice u.n.dA u.n.dn u.n.dc)).setCell ⟨g, 3, none⟩ (.slice u.n.eA u.n.en u.n.ec)).setCell ⟨g, 4, none⟩ (.int .i64 u.n.ver)).setCell ⟨g, 5, none⟩ (.bool u.dirty)).setCell ⟨g, 6, none⟩ (.int .i64 u.worth)).setCell ⟨g, 7, none⟩ (.int .i64 u.last) →
    BoxK W g u ∧ (∀ B, B ≤ g → Below B w W) ∧ W.heap.size = w.heap.size := by
  rintro W rfl
  have h1 := heap_setCell_same w g 0 _ 63 (.int .i64 u.n.fid) h
  have h2 := heap_setCell_same _ g 1 _ 63 (.bool u.n.dir) h1
  have h3 := heap_setCell_same _ g 2 _ 63 (.slice u.n.dA u.n.dn u.n.dc) h2
  have h4 := heap_setCell_same _ g 3 _ 63 (.slice u.n.eA u.n.en u.n.ec) h3
  have h5 := heap_setCell_same _ g 4 _ 63 (.int .i64 u.n.ver) h4
  have h6 := heap_setCell_same _ g 5 _ 63 (.bool u.dirty) h5
  have h7 := heap_setCell_same _ g 6 _ 63 (.int .i64 u.worth) h6
  have h8 := heap_setCell_same _ g 7 _ 63 (.int .i64 u.last) h7
  refine ⟨by unfold BoxK; rw [h8]; kernel_rfl, fun B hB => ?_, by simp⟩
  exact (((((((((Below.refl _ _).setCell (p := ⟨g, 0, none⟩) hB _).setCell (p := ⟨g, 1, none⟩) hB _).setCell (p := ⟨g, 2, none⟩) hB _).setCell (p := ⟨g, 3, none⟩) hB _).setCell (p := ⟨g, 4, none⟩) hB _).setCell (p := ⟨g, 5, none⟩) hB _).setCell (p := ⟨g, 6, none⟩) hB _).setCell (p := ⟨g, 7, none⟩) hB _)
theorem boxK_worth (w : World) (g : Nat) (v : KV) (x : Int) (h : BoxK w g v) : ∀ W, W = w.setCell ⟨g, 6, none⟩ (.int .i64 x) → BoxK W g ⟨v.n, v.dirty, x, v.last⟩ ∧ (∀ B, B ≤ g → Below B w W) ∧ W.heap.size = w.heap.size := by
  rintro W rfl
  have h1 := heap_setCell_same w g 6 _ 63 (.int .i64 x) h
  exact ⟨by unfold BoxK; rw [h1]; rfl, fun B hB => (Below.refl _ _).setCell (p := ⟨g, 6, none⟩) hB _, by simp⟩
/- VALS -/
def VKA (sb : Nat) : Nat → Value → World → Prop
  | 0 => IsW (.pointer (some ⟨sb, 0 + 5, none⟩))
  | 1 => IsW (.bool true)
  | 2 => IsW (.bool false)
  | 3 => IsW (.bool false)
  | 4 => IsW (undef)
  | 5 => IsW (undef)
  | 6 => IsW (undef)
  | 7 => IsW (undef)
  | 8 => IsW (.bool false)
  | 9 => IsW (.bool false)
  | 10 => IsW (undef)
  | 11 => IsW (undef)
  | 12 => IsW (undef)
  | 13 => IsW (undef)
  | 14 => IsW (undef)
  | 15 => IsW (undef)
  | 16 => IsW (undef)
  | 17 => IsW (undef)
  | 18 => IsW (undef)
  | 19 => IsW (undef)
  | 20 => IsW (.bool false)
  | _ => fun _ _ => True
theorem VKA_stays (sb : Nat) : ∀ i, Stays (VKA sb i) := by
  intro i v W W' hb h
  match i, h with
  | 0, h => exact h
  | 1, h => exact h
  | 2, h => exact h
  | 3, h => exact h
  | 4, h => exact h
  | 5, h => exact h
  | 6, h => exact h
  | 7, h => exact h
  | 8, h => exact h
  | 9, h => exact h
  | 10, h => exact h
  | 11, h => exact h
  | 12, h => exact h
  | 13, h => exact h
  | 14, h => exact h
  | 15, h => exact h
  | 16, h => exact h
  | 17, h => exact h
  | 18, h => exact h
  | 19, h => exact h
  | 20, h => exact h
  | k + 21, h => trivial
def VKB (sb : Nat) (v : KV) : Nat → Value → World → Prop
  | 0 => IsW (.pointer (some ⟨sb, 0 + 5, none⟩))
  | 1 => IsW (.bool false)
  | 2 => IsW (.bool true)
  | 3 => IsW (.bool true)
  | 4 => IsW (.pointer (some ⟨sb, 0, none⟩))
  | 5 => IsW (.pointer (some ⟨sb, 0, none⟩))
  | 6 => IsW (.int .i64 (v.n.fid))
  | 7 => IsW (.bool false)
  | 8 => IsW (.bool false)
  | 9 => IsW (.bool false)
  | 10 => IsW (undef)
  | 11 => IsW (undef)
  | 12 => IsW (undef)
  | 13 => IsW (undef)
  | 14 => IsW (undef)
  | 15 => IsW (undef)
  | 16 => IsW (undef)
  | 17 => IsW (undef)
  | 18 => IsW (undef)
  | 19 => IsW (undef)
  | 20 => IsW (.bool false)
  | _ => fun _ _ => True
theorem VKB_stays (sb : Nat) (v : KV) : ∀ i, Stays (VKB sb v i) := by
  intro i v W W' hb h
  match i, h with
  | 0, h => exact h
  | 1, h => exact h
  | 2, h => exact h
  | 3, h => exact h
  | 4, h => exact h
  | 5, h => exact h
  | 6, h => exact h
  | 7, h => exact h
  | 8, h => exact h
  | 9, h => exact h
  | 10, h => exact h
  | 11, h => exact h
  | 12, h => exact h
  | 13, h => exact h
  | 14, h => exact h
  | 15, h => exact h
  | 16, h => exact h
  | 17, h => exact h
  | 18, h => exact h
  | 19, h => exact h
  | 20, h => exact h
  | k + 21, h => trivial
def VKC (sb : Nat) (v : KV) : Nat → Value → World → Prop
  | 0 => IsW (.pointer (some ⟨sb, 0 + 5, none⟩))
  | 1 => IsW (.bool false)
  | 2 => IsW (.bool true)
  | 3 => IsW (.bool true)
  | 4 => IsW (.pointer (some ⟨sb, 0, none⟩))
  | 5 => IsW (.pointer (some ⟨sb, 0, none⟩))
  | 6 => IsW (.int .i64 (v.n.fid))
  | 7 => IsW (.bool true)
  | 8 => IsW (.bool true)
  | 9 => IsW (.bool true)
  | 10 => IsW (.int .i64 (-1))
  | 11 => IsW (.bool true)
  | 12 => IsW (.bool true)
  | 13 => IsW (undef)
  | 14 => IsW (undef)
  | 15 => IsW (undef)
  | 16 => IsW (undef)
  | 17 => IsW (undef)
  | 18 => IsW (undef)
  | 19 => IsW (.bool true)
  | 20 => IsW (.bool true)
  | _ => fun _ _ => True
theorem VKC_stays (sb : Nat) (v : KV) : ∀ i, Stays (VKC sb v i) := by
  intro i v W W' hb h
  match i, h with
  | 0, h => exact h
  | 1, h => exact h
  | 2, h => exact h
  | 3, h => exact h
  | 4, h => exact h
  | 5, h => exact h
  | 6, h => exact h
  | 7, h => exact h
  | 8, h => exact h
  | 9, h => exact h
  | 10, h => exact h
  | 11, h => exact h
  | 12, h => exact h
  | 13, h => exact h
  | 14, h => exact h
  | 15, h => exact h
  | 16, h => exact h
  | 17, h => exact h
  | 18, h => exact h
  | 19, h => exact h
  | 20, h => exact h
  | k + 21, h => trivial
def VKD (sb : Nat) (g : Nat) (o : Nat) (m : Nat) (d : Nat) (iq : Nat) (v : KV) (vi : KV) : Nat → Value → World → Prop
  | 0 => IsW (.pointer (some ⟨sb, 0 + 5, none⟩))
  | 1 => IsW (.bool false)
  | 2 => IsW (.bool true)
  | 3 => IsW (.bool true)
  | 4 => IsW (.pointer (some ⟨sb, 0, none⟩))
  | 5 => IsW (.pointer (some ⟨sb, 0, none⟩))
  | 6 => IsW (.int .i64 (v.n.fid))
  | 7 => IsW (.bool true)
  | 8 => IsW (.bool true)
  | 9 => IsW (.bool true)
  | 10 => IsW (.int .i64 ((iq : Nat) : Int))
  | 11 => IsW (.bool false)
  | 12 => IsW (.bool false)
  | 13 => IsW (KV.val v)
  | 14 => IsW (.slice (some ⟨g, o, none⟩) m d)
  | 15 => IsW (.int .i64 ((iq : Nat) : Int))
  | 16 => IsW (.pointer (some ⟨g, o + iq * 8, none⟩))
  | 17 => IsW (KV.val vi)
  | 18 => IsW (.bool (worseV v vi))
  | 19 => IsW (.bool (worseV v vi))
  | 20 => IsW (.bool (worseV v vi))
  | _ => fun _ _ => True
theorem VKD_stays (sb : Nat) (g : Nat) (o : Nat) (m : Nat) (d : Nat) (iq : Nat) (v : KV) (vi : KV) : ∀ i, Stays (VKD sb g o m d iq v vi i) := by
  intro i v W W' hb h
  match i, h with
  | 0, h => exact h
  | 1, h => exact h
  | 2, h => exact h
  | 3, h => exact h
  | 4, h => exact h
  | 5, h => exact h
  | 6, h => exact h
  | 7, h => exact h
  | 8, h => exact h
  | 9, h => exact h
  | 10, h => exact h
  | 11, h => exact h
  | 12, h => exact h
  | 13, h => exact h
  | 14, h => exact h
  | 15, h => exact h
  | 16, h => exact h
  | 17, h => exact h
  | 18, h => exact h
  | 19, h => exact h
  | 20, h => exact h
  | k + 21, h => trivial
/- VALS ends -/
variable [Inhabited BaseN]
theorem contMix {w : World} {v k : KV} {x y : M.Kp} (hv : ContKp w v x) (hk : ContKp w k y) : ContKp w (mixV v k) (M.mixK x y) := by
  refine ⟨hk.1, hk.2.1, ?_, hk.2.2.2⟩
  show (if k.worth < v.worth then v.worth else k.worth) = if y.worth < x.worth then x.worth else y.worth
  rw [hv.2.2.1, hk.2.2.1]
omit [Inhabited BaseN] in
theorem kept_take {w : World} {A : Option Addr} {n : Nat} {vs : List KV} (h : Kepts w A n vs) {j : Nat} (hj : j ≤ n) : Kepts w A j (vs.take j) := by
  obtain ⟨hn, h⟩ := h
  refine ⟨by rw [List.length_take]; omega, ?_⟩
  rcases h with h | ⟨b, o, e, hlt, hc⟩
  · left; rw [h]; simp
  · refine .inr ⟨b, o, e, hlt, fun j v hv => hc j v ?_⟩
    rw [List.getElem?_take] at hv
    split at hv
    · exact hv
    · cases hv
omit [Inhabited BaseN] in
theorem kept_drop {w : World} {b o n : Nat} {vs : List KV} (h : Kepts w (some ⟨b, o, none⟩) n vs) (j : Nat) : Kepts w (some ⟨b, o + j * 8, none⟩) (n - j) (vs.drop j) := by
  obtain ⟨hn, h⟩ := h
  refine ⟨by rw [List.length_drop]; omega, ?_⟩
  rcases h with h | ⟨b', o', e, hlt, hc⟩
  · left; rw [h]; simp
  · cases e
    refine .inr ⟨b, o + j * 8, rfl, hlt, fun i v hv k c hk => ?_⟩
    rw [List.getElem?_drop] at hv
    have := hc (j + i) v hv k c hk
    rw [show o + j * 8 + i * 8 + k = o + (j + i) * 8 + k by omega]
    exact this
omit [Inhabited BaseN] in
theorem erase_is {α : Type} (l : List α) (i : Nat) : l.eraseIdx i = l.take i ++ l.drop (i + 1) := List.eraseIdx_eq_take_drop_succ l i
omit [Inhabited BaseN] in
theorem noRoom_ownK {w : World} {B s : Nat} (h : w.heap[s]? = some (.cells #[] 63 (0, 0))) (hs : B ≤ s) : w.ownsRow B 63 8 (.slice (some ⟨s, 0, none⟩) 0 0) 0 (([] : List KV).flatMap KV.cells) :=
  ⟨rfl, .inr ⟨s, 0, #[], rfl, hs, h, Nat.le_refl _, by unfold maxLen; omega, rfl, rfl⟩⟩
/-- what Keep answers -/
def KeepPost (w : World) (spec : Int × List M.Kp) (e : Ending) (w' : World) : Prop :=
  ∃ (B : Option Addr) (m d : Nat) (us : List KV), e = .returned (.tuple #[.slice B m d, .int .i64 spec.1]) ∧ OwnK w' w.heap.size B m d us spec.2 ∧ Below w.heap.size w w'
theorem KeepPost.of {w w' : World} {s t : Int × List M.Kp} (h : s = t) {B : Option Addr} {m d : Nat} {us : List KV} (ho : OwnK w' w.heap.size B m d us t.2) (hb : Below w.heap.size w w') : KeepPost w s (.returned (.tuple #[.slice B m d, .int .i64 t.1])) w' := by
  subst h; exact ⟨B, m, d, us, rfl, ho, hb⟩


set_option maxRecDepth 8000 in
set_option maxHeartbeats 8000000 in
theorem refKeep_any (A : Option Addr) (n c : Nat) (room : Int) (vs : List KV) (xs : List M.Kp) (kv : KV) (kx : M.Kp) (w : World) (ht : KeptK w A n vs xs) (hkx : ContKp w kv kx) (hkb : kbase ≤ w.heap.size) (hn : (n + 2) * 96 ≤ 140737488355328) :
    Calls Try.prog 22 #[.slice A n c, .int .i64 room, kv.val] w (KeepPost w (M.keepS xs room kx)) := by
  have HT : Hid (KeptK w A n vs xs ∧ ContKp w kv kx ∧ kbase ≤ w.heap.size) := ⟨ht, hkx, hkb⟩
  have HLN : Hid (n = xs.length) := ht.len
  obtain ⟨iK, hiK, hzK, hsK, hbK⟩ := info_parts infoK
  have HW : Hid _ := boxK_one w kv
  clear ht hkx hkb
  go_enter Try.func22, Try.ntmps22
  go_upto_region 3 with (fail)
  obtain ⟨w1, hw1⟩ : ∃ W, W = w.alloc (.cells #[.int .i64 kv.n.fid, .bool kv.n.dir, .slice kv.n.dA kv.n.dn kv.n.dc, .slice kv.n.eA kv.n.en kv.n.ec, .int .i64 kv.n.ver, .bool kv.dirty, .int .i64 kv.worth, .int .i64 kv.last] 63) := ⟨_, rfl⟩
  have H1 : Hid (Below w.heap.size w w1 ∧ BoxK w1 w.heap.size kv ∧ w1.heap.size = w.heap.size + 1) := HW.out _ hw1
  rw [← hw1]
  clear hw1 HW
  have H0 : Hid (OwnK w1 w1.heap.size none 0 0 [] [] ∧ Below w1.heap.size w1 w1) := ⟨OwnK.nil _ _, Below.refl _ _⟩
  go_wp2_with (fail)
  go_loopw [8, 9, 18] (fun u t i W => ∃ (k : Nat) (b : Bool) (V : Option Addr) (d : Nat) (us : List KV) (ys : List M.Kp), k ≤ n ∧ i = .int .i64 k ∧ u = .slice V k d ∧ t = .bool b ∧ Hid (OwnK W w1.heap.size V k d us ys ∧ Below w1.heap.size w1 W ∧ (xs.take k).foldl (M.stepK kx) ([], false) = (ys, b))) (fun _ _ i _ => n - (intOf i).toNat)
  case atStart => exact ⟨0, false, none, 0, [], [], Nat.zero_le _, rfl, rfl, rfl, H0.out.1, H0.out.2, by rw [List.take_zero]; rfl⟩
  case round =>
    obtain ⟨k, b, V, d, us, ys, hk, rfl, rfl, rfl, HK⟩ := hrel
    rename World => wr
    have hbw : Below w.heap.size w wr := H1.out.1.trans (HK.out.2.1.mono H1.out.1.size)
    have HBW : Hid (Below w.heap.size w wr) := hbw
    by_cases hlt : k < n
    · have htr := HT.out.1.below (Nat.le_refl _) hbw
      obtain ⟨g, o, v, rfl, hgb, hvk, c0, c1, c2, c3, c4, c5, c6, c7⟩ := htr.1.at hlt
      obtain ⟨x, hx, hcx⟩ := htr.2.2.at hvk
      have HX : Hid (xs[k]? = some x ∧ ContKp wr v x ∧ ContKp wr kv kx) := ⟨hx, hcx, HT.out.2.1.below (Nat.le_refl _) hbw⟩
      have HWA : Hid _ := boxK_one wr v
      have HKN : Hid (k + 1 ≤ maxLen ∧ (k + 1) * 96 ≤ 140737488355328 ∧ ∀ W : World, Below wr.heap.size wr W → ∀ W', Below W.heap.size W W' → w1.heap.size ≤ W'.heap.size) := by
        refine ⟨by unfold maxLen; omega, Nat.le_trans (Nat.mul_le_mul_right 96 (by omega)) hn, fun W h W' h' => ?_⟩
        exact Nat.le_trans HK.out.2.1.size (Nat.le_trans h.size h'.size)
      clear htr hvk hx hcx hgb hbw
      go_upto_region 6 with (fail)
      obtain ⟨w3, hw3⟩ : ∃ W, W = wr.alloc (.cells #[.int .i64 v.n.fid, .bool v.n.dir, .slice v.n.dA v.n.dn v.n.dc, .slice v.n.eA v.n.en v.n.ec, .int .i64 v.n.ver, .bool v.dirty, .int .i64 v.worth, .int .i64 v.last] 63) := ⟨_, rfl⟩
      have H3 : Hid (Below wr.heap.size wr w3 ∧ BoxK w3 wr.heap.size v ∧ BoxK w3 w.heap.size kv) := by
        obtain ⟨q1, q2, q3⟩ := HWA.out _ hw3
        have hs1 := H1.out.2.2
        exact ⟨q1, q2, (H1.out.2.1.below HK.out.2.1 (by omega)).below q1 (by have := HK.out.2.1.size; omega)⟩
      rw [← hw3]
      clear hw3 HWA c0 c1 c2 c3 c4 c5 c6 c7
      obtain ⟨z0, z1, z2, z3, z4, z5, z6, z7, zf, zz⟩ := H3.out.2.1.facts
      obtain ⟨k0, k1, k2, k3, k4, k5, k6, k7, kf, kz⟩ := H3.out.2.2.facts
      have HWK : Hid _ := boxK_one w3 kv
      obtain ⟨hit, hhit⟩ : ∃ h : Bool, h = (decide (v.n.fid = kv.n.fid) && !b) := ⟨_, rfl⟩
      have HHIT : Hid (hit = (decide (v.n.fid = kv.n.fid) && !b)) := hhit
      have HST : Hid ((xs.take (k + 1)).foldl (M.stepK kx) ([], false) = if hit = true then (ys ++ [M.mixK x kx], true) else (ys ++ [x], b)) := by
        show _ = _
        rw [take_step HX.out.1, List.foldl_append, HK.out.2.2, HHIT.out, HX.out.2.1.1.1.1, HX.out.2.2.1.1.1]
        rfl
      clear hhit
      go_cut [32] from 22 to 32 (fun t W => t = .bool hit ∧ W = w3)
      case first =>
        by_cases hf : v.n.fid = kv.n.fid
        case' neg =>
          have d1 : (v.n.fid == kv.n.fid) = false := by simp [hf]
          have HE : Hid (hit = false) := by show _ = _; rw [HHIT.out]; simp [hf]
          clear hf
          go_wp2_with (fail)
          go_meet
          case rel => exact ⟨congrArg Value.bool HE.out.symm, rfl⟩
        have d1 : (v.n.fid == kv.n.fid) = true := by simp [hf]
        have HE : Hid (hit = !b) := by show _ = _; rw [HHIT.out]; simp [hf]
        clear hf
        cases b
        · go_wp2_with (fail)
          go_meet
          case rel => exact ⟨congrArg Value.bool HE.out.symm, rfl⟩
        · go_wp2_with (fail)
          go_meet
          case rel => exact ⟨congrArg Value.bool HE.out.symm, rfl⟩
      obtain ⟨rfl, hw3⟩ := hcut
      rw [hw3]
      clear hw3
      go_upto_if 32 with (fail)
      go_cut [9] from 32 to 42 (fun t W => t = .bool (b || hit) ∧ Hid (Below wr.heap.size wr W ∧ BoxK W wr.heap.size (if hit = true then mixV v kv else v)))
      case first =>
        cases hit
        case' false =>
          go_wp2_with (fail)
          go_meet
          case rel => exact ⟨congrArg Value.bool (by simp), H3.out.1, H3.out.2.1⟩
        go_upto_region 9 with (fail)
        obtain ⟨w4, hw4⟩ : ∃ W, W = w3.alloc (.cells #[.int .i64 kv.n.fid, .bool kv.n.dir, .slice kv.n.dA kv.n.dn kv.n.dc, .slice kv.n.eA kv.n.en kv.n.ec, .int .i64 kv.n.ver, .bool kv.dirty, .int .i64 kv.worth, .int .i64 kv.last] 63) := ⟨_, rfl⟩
        have H4 : Hid (Below wr.heap.size wr w4 ∧ BoxK w4 wr.heap.size v ∧ BoxK w4 w3.heap.size kv) := by
          obtain ⟨q1, q2, q3⟩ := HWK.out _ hw4
          exact ⟨H3.out.1.trans (q1.mono H3.out.1.size), H3.out.2.1.below q1 (lt_of_block H3.out.2.1), q2⟩
        rw [← hw4]
        have hne : wr.heap.size ≠ w3.heap.size := by have := lt_of_block H3.out.2.1; omega
        have hle : wr.heap.size ≤ w3.heap.size := H3.out.1.size
        clear hw4 HWK z0 z1 z2 z3 z4 z5 z6 z7 zf zz k0 k1 k2 k3 k4 k5 k6 k7 kf kz
        have HLE : Hid (wr.heap.size ≠ w3.heap.size ∧ wr.heap.size ≤ w3.heap.size) := ⟨hne, hle⟩
        generalize w3.heap.size = b4 at H4 HLE hne hle ⊢
        obtain ⟨z0, z1, z2, z3, z4, z5, z6, z7, zf, zz⟩ := H4.out.2.1.facts
        obtain ⟨k0, k1, k2, k3, k4, k5, k6, k7, kf, kz⟩ := H4.out.2.2.facts
        obtain ⟨gt, hgt⟩ : ∃ b : Bool, decide (kv.worth < v.worth) = b := ⟨_, rfl⟩
        go_upto_if 38 with (fail)
        have HGT : Hid (decide (kv.worth < v.worth) = gt) := hgt
        clear hgt
        go_cut [] from 38 to 41 (fun W => Hid (Below wr.heap.size wr W ∧ BoxK W wr.heap.size v ∧ BoxK W b4 (mixV v kv)))
        case first =>
          cases gt
          · have HF : Hid (Below wr.heap.size wr w4 ∧ BoxK w4 wr.heap.size v ∧ BoxK w4 b4 (mixV v kv)) := by
              have hw : ¬ kv.worth < v.worth := of_decide_eq_false HGT.out
              refine ⟨H4.out.1, H4.out.2.1, ?_⟩
              unfold mixV
              rw [if_neg hw]
              exact H4.out.2.2
            go_wp2_with (fail)
            go_meet
            case rel => exact HF
          · have HF : Hid (∀ W, W = w4.setCell ⟨b4, 6, none⟩ (.int .i64 v.worth) → Below wr.heap.size wr W ∧ BoxK W wr.heap.size v ∧ BoxK W b4 (mixV v kv)) := by
              intro W hW
              have hw : kv.worth < v.worth := of_decide_eq_true HGT.out
              obtain ⟨p1, p2, p3⟩ := boxK_worth w4 b4 kv v.worth H4.out.2.2 W hW
              refine ⟨H4.out.1.trans (p2 _ hle), ?_, ?_⟩
              · have h := H4.out.2.1
                unfold BoxK at h ⊢
                rw [hW, Below.heap_setCell _ _ _ _ (by exact hne)]
                exact h
              · unfold mixV
                rw [if_pos hw]
                exact p1
            go_wp2_with (fail)
            go_meet
            case rel => exact HF.out _ rfl
        rename World => w5
        have H5 : Hid (Below wr.heap.size wr w5 ∧ BoxK w5 wr.heap.size v ∧ BoxK w5 b4 (mixV v kv)) := hcut
        clear hcut H4 z0 z1 z2 z3 z4 z5 z6 z7 zf zz k0 k1 k2 k3 k4 k5 k6 k7 kf kz
        obtain ⟨z0, z1, z2, z3, z4, z5, z6, z7, zf, zz⟩ := H5.out.2.1.facts
        obtain ⟨k0, k1, k2, k3, k4, k5, k6, k7, kf, kz⟩ := H5.out.2.2.facts
        have HF : Hid _ := boxK_set w5 wr.heap.size v (mixV v kv) H5.out.2.1
        obtain ⟨mv, hmv⟩ : ∃ m, m = mixV v kv := ⟨_, rfl⟩
        have HMV : Hid (mv = mixV v kv) := hmv
        rw [← hmv] at HF k0 k1 k2 k3 k4 k5 k6 k7
        clear hmv
        go_wp2_with (fail)
        go_meet
        case rel =>
          obtain ⟨p1, p2, p3⟩ := HF.out _ rfl
          simp only [if_true]
          rw [← HMV.out]
          exact ⟨congrArg Value.bool (by simp), H5.out.1.trans (p2 _ (Nat.le_refl _)), p1⟩
      obtain ⟨rfl, H5⟩ := hcut
      rename World => w4
      clear z0 z1 z2 z3 z4 z5 z6 z7 zf zz k0 k1 k2 k3 k4 k5 k6 k7 kf kz H3 HWK
      have HC : Hid (ContKp wr (if hit = true then mixV v kv else v) (if hit = true then M.mixK x kx else x)) := by
        cases hit
        · exact HX.out.2.1
        · exact contMix HX.out.2.1 HX.out.2.2
      have HST2 : Hid ((xs.take (k + 1)).foldl (M.stepK kx) ([], false) = (ys ++ [if hit = true then M.mixK x kx else x], b || hit)) := by
        show _ = _
        rw [HST.out]
        cases hit
        · simp
        · simp
      generalize (if hit = true then mixV v kv else v) = mv at H5 HC
      generalize (if hit = true then M.mixK x kx else x) = mx at HC HST2
      clear HST
      obtain ⟨z0, z1, z2, z3, z4, z5, z6, z7, zf, zz⟩ := H5.out.2.facts
      have HWB : Hid _ := boxK_one w4 mv
      go_wp2_with (at_builtin; refine wpList_append_row _ (by rfl) (.tmp 43) (.tmp 45) 61 (by rfl) w1.heap.size 63 iK _ 96 Try.underlying61 hiK hzK hsK hbK rfl (by decide) _ k _ (by rfl) (own_below (own_below HK.out.1.1 H5.out.1 (Nat.le_refl _)) (HWB.out _ rfl).1 (Nat.le_refl _)) (some ⟨w4.heap.size, 0, none⟩) 1 1 [mv] (by rfl) (rowK_box (HWB.out _ rfl).2.1) kept_len kept_one HKN.out.1 HKN.out.2.1 (HKN.out.2.2 _ H5.out.1 _ (HWB.out _ rfl).1) ?_; intro v5 w5 hown5 hg5; obtain ⟨V5, d5, rfl, _, _⟩ := own_form hown5; have HR : Hid (OwnK w5 w1.heap.size V5 (k + 1) d5 (us ++ [mv]) (ys ++ [mx]) ∧ Below w1.heap.size w1 w5) := ⟨OwnK.snoc ((HK.out.1.below (Nat.le_refl _) H5.out.1).below (Nat.le_refl _) (HWB.out _ rfl).1) (Nat.le_trans HT.out.2.2 H1.out.1.size) (Nat.le_trans (Nat.le_trans HT.out.2.2 H1.out.1.size) (HKN.out.2.2 _ H5.out.1 _ (HWB.out _ rfl).1)) ((HC.out.below (Nat.le_refl _) H5.out.1).below (Nat.le_refl _) (HWB.out _ rfl).1) (by simpa using hown5) hg5, snoc_belowK (HK.out.2.1.trans ((H5.out.1.trans ((HWB.out _ rfl).1.mono H5.out.1.size)).mono HK.out.2.1.size)) (Nat.le_refl _) (own_below (own_below HK.out.1.1 H5.out.1 (Nat.le_refl _)) (HWB.out _ rfl).1 (Nat.le_refl _)) hg5⟩; clear hown5 hg5)
      go_roundw
      case rel => exact ⟨k + 1, b || hit, V5, d5, _, _, by omega, by go_num, rfl, rfl, HR.out.1, HR.out.2, HST2.out⟩
      case measure => simp [intOf]; omega
    · have hkn : k = n := by omega
      subst hkn
      have hfold := HK.out.2.2
      rw [List.take_of_length_le (by rw [← HLN.out]; exact Nat.le_refl _), M.fold_false, List.nil_append] at hfold
      have hys : ys = M.repK xs kx := (congrArg Prod.fst hfold).symm
      have hb : M.hasK xs kx.node.fid = b := congrArg Prod.snd hfold
      have H2 : Hid (OwnK wr w1.heap.size V k d us ys ∧ Below w1.heap.size w1 wr) := ⟨HK.out.1, HK.out.2.1⟩
      clear HK H0 hfold hlt hk
      cases b
      case' true =>
        have HR : Hid (M.keepS xs room kx = (0, ys)) := by show _ = _; rw [M.keep_there hb, hys]
        clear hys hb
        go_wp2_with (fail)
        go_ret2
        exact KeepPost.of HR.out (H2.out.1.mono H1.out.1.size) HBW.out
      have hyx : ys = xs := by rw [hys]; exact M.rep_not xs kx hb
      subst hyx
      have HR : Hid (M.hasK ys kx.node.fid = false) := hb
      have HKN : Hid (k = ys.length) := HLN.out
      clear hys hb HBW
      go_wp2_with (fail)
      go_loopw [8] (fun u W => ∃ (V : Option Addr) (m d : Nat) (us : List KV) (zs : List M.Kp), u = .slice V m d ∧ m ≤ k ∧ Hid (OwnK W w1.heap.size V m d us zs ∧ Below w1.heap.size w1 W ∧ M.shrinkS ys room = M.shrinkS zs room)) (fun u _ => sliceLen u)
      case atStart => exact ⟨V, k, d, us, ys, rfl, Nat.le_refl _, H2.out.1, H2.out.2, rfl⟩
      case round =>
        obtain ⟨V, m, d, us, zs, rfl, hmk, HZ⟩ := hrel
        rename World => wz
        have HML : Hid (m = zs.length) := HZ.out.1.kept.len
        by_cases hr : room ≤ (m : Int)
        · go_wp2_with (fail)
          go_loopw [13, 56] (fun t i W => ∃ j : Nat, j ≤ m ∧ i = .int .i64 j ∧ t = .int .i64 (idxV (M.worstS zs j)) ∧ Below wz.heap.size wz W) (fun _ i _ => m - (intOf i).toNat)
          case atStart => exact ⟨0, Nat.zero_le _, rfl, rfl, Below.refl _ _⟩
          case round =>
            obtain ⟨j, hj, rfl, rfl, hbj⟩ := hrel
            rename World => wj
            have HBJ : Hid (Below wz.heap.size wz wj) := hbj
            by_cases hlt : j < m
            · obtain ⟨g, o, v, hV, hgb, hvk, c0, c1, c2, c3, c4, c5, c6, c7⟩ := Kepts.at (HZ.out.1.kept.1.below (Nat.le_refl _) hbj) hlt
              obtain ⟨x, hx, hcx⟩ := HZ.out.1.2.at hvk
              subst hV
              obtain ⟨wi, hwi⟩ : ∃ q, q = M.worstS zs j := ⟨_, rfl⟩
              have HWI : Hid (wi = M.worstS zs j ∧ ∀ i, wi = some i → i < j) := ⟨hwi, fun i h => (M.worst_lt zs j i (by rw [← hwi]; exact h)).1⟩
              rw [← hwi]
              have HX : Hid (zs[j]? = some x ∧ ContKp wz v x) := ⟨hx, hcx⟩
              have HWA : Hid _ := boxK_one wj v
              clear hwi hvk hx hcx hgb hbj
              go_upto_region 21 with (fail)
              obtain ⟨w3, hw3⟩ : ∃ W, W = wj.alloc (.cells #[.int .i64 v.n.fid, .bool v.n.dir, .slice v.n.dA v.n.dn v.n.dc, .slice v.n.eA v.n.en v.n.ec, .int .i64 v.n.ver, .bool v.dirty, .int .i64 v.worth, .int .i64 v.last] 63) := ⟨_, rfl⟩
              have H3N : Hid (Below wz.heap.size wz w3) := HBJ.out.trans ((HWA.out _ hw3).1.mono HBJ.out.size)
              have H3 : Hid (Below wz.heap.size wz w3.drew ∧ BoxK w3.drew wj.heap.size v) := by
                obtain ⟨q1, q2, q3⟩ := HWA.out _ hw3
                exact ⟨(HBJ.out.trans (q1.mono HBJ.out.size)).drew, q2.below (Below.refl _ _).drew (Nat.lt_of_lt_of_eq (Nat.lt_succ_self _) q3.symm)⟩
              rw [← hw3]
              clear hw3 HWA c0 c1 c2 c3 c4 c5 c6 c7
              obtain ⟨z0, z1, z2, z3, z4, z5, z6, z7, zf, zz⟩ := H3.out.2.facts
              go_cut [81] from 61 to 81 (fun t W => t = .bool (M.freeK x && M.ahead zs x wi) ∧ Hid (Below wz.heap.size wz W))
              case first =>
                have HFK : Hid (M.freeK x = (!v.dirty && !decide (v.n.fid = 0))) := by show _ = _; unfold M.freeK; rw [HX.out.2.2.1, HX.out.2.1.1.1]
                obtain ⟨db, hdb⟩ : ∃ b, v.dirty = b := ⟨_, rfl⟩
                rw [hdb] at HFK
                have HDB : Hid (v.dirty = db) := hdb
                clear hdb z0 z1 z2 z3 z4 z5 z6 z7 zf zz
                have HVB : ∀ W, Below w3.drew.heap.size w3.drew W → KeptAt W wj.heap.size 0 v := fun W hb => (keptAt_box H3.out.2).below hb (lt_of_block H3.out.2)
                cases db
                case' true =>
                  have rb0 : v.dirty = true := HDB.out
                  have HE : Hid (M.freeK x = false) := by show _ = _; rw [HFK.out]; simp
/- ARM A -/
                  refine wp_region_vals (VKA wj.heap.size) (by kernel_rfl) (by kernel_rfl) (VKA_stays wj.heap.size) ?_ ?_
                  · intro j hj
                    match j, hj with
                    | 0, _ =>
                      refine StepAt.by rfl fun a' W hf hb hd => ?_
                      exact .inl ⟨want_none, does_run (run_fieldK1 ((hf.keeps 15 (by kernel_rfl)).trans rfl)) ⟨Below.refl _ _, rfl⟩⟩
                    | 1, _ =>
                      refine StepAt.by rfl fun a' W hf hb hd => ?_
                      exact .inl ⟨want_none, does_run (run_load4 (hd 0 (by kernel_rfl)) ((HVB W hb) 5 _ rfl)) ⟨Below.refl _ _, by show Value.bool _ = _; rw [rb0]⟩⟩
                    | 2, _ =>
                      refine StepAt.by rfl fun a' W hf hb hd => ?_
                      exact .inl ⟨want_none, does_not (hd 1 (by kernel_rfl)) ⟨Below.refl _ _, rfl⟩⟩
                    | 3, _ =>
                      refine StepAt.by rfl fun a' W hf hb hd => ?_
                      exact .inl ⟨want_none, does_move (hd 2 (by kernel_rfl)) ⟨Below.refl _ _, rfl⟩⟩
                    | 4, _ =>
                      refine StepAt.by rfl fun a' W hf hb hd => ?_
                      exact .inr ⟨want_some (k := 3) (t := 64) rfl (hd 3 (by kernel_rfl)), rfl⟩
                    | 5, _ =>
                      refine StepAt.by rfl fun a' W hf hb hd => ?_
                      exact .inr ⟨want_some (k := 3) (t := 64) rfl (hd 3 (by kernel_rfl)), rfl⟩
                    | 6, _ =>
                      refine StepAt.by rfl fun a' W hf hb hd => ?_
                      exact .inr ⟨want_some (k := 3) (t := 64) rfl (hd 3 (by kernel_rfl)), rfl⟩
                    | 7, _ =>
                      refine StepAt.by rfl fun a' W hf hb hd => ?_
                      exact .inr ⟨want_some (k := 3) (t := 64) rfl (hd 3 (by kernel_rfl)), rfl⟩
                    | 8, _ =>
                      refine StepAt.by rfl fun a' W hf hb hd => ?_
                      exact .inl ⟨want_none, does_pick (b := false) (hd 3 (by kernel_rfl)) rfl ⟨Below.refl _ _, rfl⟩⟩
                    | 9, _ =>
                      refine StepAt.by rfl fun a' W hf hb hd => ?_
                      exact .inl ⟨want_none, does_move (hd 8 (by kernel_rfl)) ⟨Below.refl _ _, rfl⟩⟩
                    | 10, _ =>
                      refine StepAt.by rfl fun a' W hf hb hd => ?_
                      exact .inr ⟨want_some (k := 9) (t := 70) rfl (hd 9 (by kernel_rfl)), rfl⟩
                    | 11, _ =>
                      refine StepAt.by rfl fun a' W hf hb hd => ?_
                      exact .inr ⟨want_some (k := 9) (t := 70) rfl (hd 9 (by kernel_rfl)), rfl⟩
                    | 12, _ =>
                      refine StepAt.by rfl fun a' W hf hb hd => ?_
                      exact .inr ⟨want_some (k := 9) (t := 70) rfl (hd 9 (by kernel_rfl)), rfl⟩
                    | 13, _ =>
                      refine StepAt.by rfl fun a' W hf hb hd => ?_
                      exact .inr ⟨want_undef (k := 12) (t := 73) rfl (hd 12 (by kernel_rfl)), rfl⟩
                    | 14, _ =>
                      refine StepAt.by rfl fun a' W hf hb hd => ?_
                      exact .inr ⟨want_undef (k := 12) (t := 73) rfl (hd 12 (by kernel_rfl)), rfl⟩
                    | 15, _ =>
                      refine StepAt.by rfl fun a' W hf hb hd => ?_
                      exact .inr ⟨want_undef (k := 12) (t := 73) rfl (hd 12 (by kernel_rfl)), rfl⟩
                    | 16, _ =>
                      refine StepAt.by rfl fun a' W hf hb hd => ?_
                      exact .inr ⟨want_undef (k := 12) (t := 73) rfl (hd 12 (by kernel_rfl)), rfl⟩
                    | 17, _ =>
                      refine StepAt.by rfl fun a' W hf hb hd => ?_
                      exact .inr ⟨want_undef (k := 12) (t := 73) rfl (hd 12 (by kernel_rfl)), rfl⟩
                    | 18, _ =>
                      refine StepAt.by rfl fun a' W hf hb hd => ?_
                      exact .inr ⟨want_undef (k := 12) (t := 73) rfl (hd 12 (by kernel_rfl)), rfl⟩
                    | 19, _ =>
                      refine StepAt.by rfl fun a' W hf hb hd => ?_
                      exact .inr ⟨want_some (k := 9) (t := 70) rfl (hd 9 (by kernel_rfl)), rfl⟩
                    | 20, _ =>
                      refine StepAt.by rfl fun a' W hf hb hd => ?_
                      exact .inl ⟨want_none, does_pick (b := false) (hd 9 (by kernel_rfl)) rfl ⟨Below.refl _ _, rfl⟩⟩
                    | k + 21, hi => exact absurd hi (Nat.not_lt.2 (Nat.le_add_left _ _))
                  · intro a' W hf hb hv
                    have hlast : a'.eval (.tmp 81) = .bool false := hv 20 (by decide)
                    have hl := hf.lit (fun t => decide (61 ≤ t) && decide (t ≤ 81)) (by kernel_rfl)
                    simp only [overL, Nat.reduceAdd, Nat.reduceLeDiff, decide_true, decide_false, Bool.and_true, Bool.and_false] at hl
                    rw [hl]
                    clear hl
                    go_wp2_with (fail)
                    go_meet
                    case rel => exact ⟨hlast.trans (congrArg Value.bool (by rw [HE.out]; rfl)), H3N.out.trans (hb.mono H3N.out.size)⟩
/- ARM A ends -/
                have rb0 : v.dirty = false := HDB.out
                by_cases hf : v.n.fid = 0
                case' pos =>
                  have HE : Hid (M.freeK x = false) := by show _ = _; rw [HFK.out]; simp [hf]
                  have rb1 : ((v.n.fid : Int) != (0 : Int)) = false := by simp [hf]
/- ARM B -/
                  refine wp_region_vals (VKB wj.heap.size v) (by kernel_rfl) (by kernel_rfl) (VKB_stays wj.heap.size v) ?_ ?_
                  · intro j hj
                    match j, hj with
                    | 0, _ =>
                      refine StepAt.by rfl fun a' W hf hb hd => ?_
                      exact .inl ⟨want_none, does_run (run_fieldK1 ((hf.keeps 15 (by kernel_rfl)).trans rfl)) ⟨Below.refl _ _, rfl⟩⟩
                    | 1, _ =>
                      refine StepAt.by rfl fun a' W hf hb hd => ?_
                      exact .inl ⟨want_none, does_run (run_load4 (hd 0 (by kernel_rfl)) ((HVB W hb) 5 _ rfl)) ⟨Below.refl _ _, by show Value.bool _ = _; rw [rb0]⟩⟩
                    | 2, _ =>
                      refine StepAt.by rfl fun a' W hf hb hd => ?_
                      exact .inl ⟨want_none, does_not (hd 1 (by kernel_rfl)) ⟨Below.refl _ _, rfl⟩⟩
                    | 3, _ =>
                      refine StepAt.by rfl fun a' W hf hb hd => ?_
                      exact .inl ⟨want_none, does_move (hd 2 (by kernel_rfl)) ⟨Below.refl _ _, rfl⟩⟩
                    | 4, _ =>
                      refine StepAt.by rfl fun a' W hf hb hd => ?_
                      exact .inl ⟨want_some (k := 3) (t := 64) rfl (hd 3 (by kernel_rfl)), does_run (run_fieldK0 ((hf.keeps 15 (by kernel_rfl)).trans rfl)) ⟨Below.refl _ _, rfl⟩⟩
                    | 5, _ =>
                      refine StepAt.by rfl fun a' W hf hb hd => ?_
                      exact .inl ⟨want_some (k := 3) (t := 64) rfl (hd 3 (by kernel_rfl)), does_run (run_fieldN0 (hd 4 (by kernel_rfl))) ⟨Below.refl _ _, rfl⟩⟩
                    | 6, _ =>
                      refine StepAt.by rfl fun a' W hf hb hd => ?_
                      exact .inl ⟨want_some (k := 3) (t := 64) rfl (hd 3 (by kernel_rfl)), does_run (run_load3 (hd 5 (by kernel_rfl)) ((HVB W hb) 0 _ rfl)) ⟨Below.refl _ _, rfl⟩⟩
                    | 7, _ =>
                      refine StepAt.by rfl fun a' W hf hb hd => ?_
                      exact .inl ⟨want_some (k := 3) (t := 64) rfl (hd 3 (by kernel_rfl)), does_run (run_neqI (hd 6 (by kernel_rfl)) rfl) ⟨Below.refl _ _, by show Value.bool _ = _; rw [rb1]⟩⟩
                    | 8, _ =>
                      refine StepAt.by rfl fun a' W hf hb hd => ?_
                      exact .inl ⟨want_none, does_pick (b := true) (hd 3 (by kernel_rfl)) (hd 7 (by kernel_rfl)) ⟨Below.refl _ _, rfl⟩⟩
                    | 9, _ =>
                      refine StepAt.by rfl fun a' W hf hb hd => ?_
                      exact .inl ⟨want_none, does_move (hd 8 (by kernel_rfl)) ⟨Below.refl _ _, rfl⟩⟩
                    | 10, _ =>
                      refine StepAt.by rfl fun a' W hf hb hd => ?_
                      exact .inr ⟨want_some (k := 9) (t := 70) rfl (hd 9 (by kernel_rfl)), rfl⟩
                    | 11, _ =>
                      refine StepAt.by rfl fun a' W hf hb hd => ?_
                      exact .inr ⟨want_some (k := 9) (t := 70) rfl (hd 9 (by kernel_rfl)), rfl⟩
                    | 12, _ =>
                      refine StepAt.by rfl fun a' W hf hb hd => ?_
                      exact .inr ⟨want_some (k := 9) (t := 70) rfl (hd 9 (by kernel_rfl)), rfl⟩
                    | 13, _ =>
                      refine StepAt.by rfl fun a' W hf hb hd => ?_
                      exact .inr ⟨want_undef (k := 12) (t := 73) rfl (hd 12 (by kernel_rfl)), rfl⟩
                    | 14, _ =>
                      refine StepAt.by rfl fun a' W hf hb hd => ?_
                      exact .inr ⟨want_undef (k := 12) (t := 73) rfl (hd 12 (by kernel_rfl)), rfl⟩
                    | 15, _ =>
                      refine StepAt.by rfl fun a' W hf hb hd => ?_
                      exact .inr ⟨want_undef (k := 12) (t := 73) rfl (hd 12 (by kernel_rfl)), rfl⟩
                    | 16, _ =>
                      refine StepAt.by rfl fun a' W hf hb hd => ?_
                      exact .inr ⟨want_undef (k := 12) (t := 73) rfl (hd 12 (by kernel_rfl)), rfl⟩
                    | 17, _ =>
                      refine StepAt.by rfl fun a' W hf hb hd => ?_
                      exact .inr ⟨want_undef (k := 12) (t := 73) rfl (hd 12 (by kernel_rfl)), rfl⟩
                    | 18, _ =>
                      refine StepAt.by rfl fun a' W hf hb hd => ?_
                      exact .inr ⟨want_undef (k := 12) (t := 73) rfl (hd 12 (by kernel_rfl)), rfl⟩
                    | 19, _ =>
                      refine StepAt.by rfl fun a' W hf hb hd => ?_
                      exact .inr ⟨want_some (k := 9) (t := 70) rfl (hd 9 (by kernel_rfl)), rfl⟩
                    | 20, _ =>
                      refine StepAt.by rfl fun a' W hf hb hd => ?_
                      exact .inl ⟨want_none, does_pick (b := false) (hd 9 (by kernel_rfl)) rfl ⟨Below.refl _ _, rfl⟩⟩
                    | k + 21, hi => exact absurd hi (Nat.not_lt.2 (Nat.le_add_left _ _))
                  · intro a' W hf hb hv
                    have hlast : a'.eval (.tmp 81) = .bool false := hv 20 (by decide)
                    have hl := hf.lit (fun t => decide (61 ≤ t) && decide (t ≤ 81)) (by kernel_rfl)
                    simp only [overL, Nat.reduceAdd, Nat.reduceLeDiff, decide_true, decide_false, Bool.and_true, Bool.and_false] at hl
                    rw [hl]
                    clear hl
                    go_wp2_with (fail)
                    go_meet
                    case rel => exact ⟨hlast.trans (congrArg Value.bool (by rw [HE.out]; rfl)), H3N.out.trans (hb.mono H3N.out.size)⟩
/- ARM B ends -/
                have HE : Hid (M.freeK x = true) := by show _ = _; rw [HFK.out]; simp [hf]
                have rb1 : ((v.n.fid : Int) != (0 : Int)) = true := by simp [hf]
                clear hf HFK
                cases wi with
                | none =>
                    have rb2 : decide ((-1 : Int) < (0 : Int)) = true := by decide
/- ARM C -/
                    refine wp_region_vals (VKC wj.heap.size v) (by kernel_rfl) (by kernel_rfl) (VKC_stays wj.heap.size v) ?_ ?_
                    · intro j hj
                      match j, hj with
                      | 0, _ =>
                        refine StepAt.by rfl fun a' W hf hb hd => ?_
                        exact .inl ⟨want_none, does_run (run_fieldK1 ((hf.keeps 15 (by kernel_rfl)).trans rfl)) ⟨Below.refl _ _, rfl⟩⟩
                      | 1, _ =>
                        refine StepAt.by rfl fun a' W hf hb hd => ?_
                        exact .inl ⟨want_none, does_run (run_load4 (hd 0 (by kernel_rfl)) ((HVB W hb) 5 _ rfl)) ⟨Below.refl _ _, by show Value.bool _ = _; rw [rb0]⟩⟩
                      | 2, _ =>
                        refine StepAt.by rfl fun a' W hf hb hd => ?_
                        exact .inl ⟨want_none, does_not (hd 1 (by kernel_rfl)) ⟨Below.refl _ _, rfl⟩⟩
                      | 3, _ =>
                        refine StepAt.by rfl fun a' W hf hb hd => ?_
                        exact .inl ⟨want_none, does_move (hd 2 (by kernel_rfl)) ⟨Below.refl _ _, rfl⟩⟩
                      | 4, _ =>
                        refine StepAt.by rfl fun a' W hf hb hd => ?_
                        exact .inl ⟨want_some (k := 3) (t := 64) rfl (hd 3 (by kernel_rfl)), does_run (run_fieldK0 ((hf.keeps 15 (by kernel_rfl)).trans rfl)) ⟨Below.refl _ _, rfl⟩⟩
                      | 5, _ =>
                        refine StepAt.by rfl fun a' W hf hb hd => ?_
                        exact .inl ⟨want_some (k := 3) (t := 64) rfl (hd 3 (by kernel_rfl)), does_run (run_fieldN0 (hd 4 (by kernel_rfl))) ⟨Below.refl _ _, rfl⟩⟩
                      | 6, _ =>
                        refine StepAt.by rfl fun a' W hf hb hd => ?_
                        exact .inl ⟨want_some (k := 3) (t := 64) rfl (hd 3 (by kernel_rfl)), does_run (run_load3 (hd 5 (by kernel_rfl)) ((HVB W hb) 0 _ rfl)) ⟨Below.refl _ _, rfl⟩⟩
                      | 7, _ =>
                        refine StepAt.by rfl fun a' W hf hb hd => ?_
                        exact .inl ⟨want_some (k := 3) (t := 64) rfl (hd 3 (by kernel_rfl)), does_run (run_neqI (hd 6 (by kernel_rfl)) rfl) ⟨Below.refl _ _, by show Value.bool _ = _; rw [rb1]⟩⟩
                      | 8, _ =>
                        refine StepAt.by rfl fun a' W hf hb hd => ?_
                        exact .inl ⟨want_none, does_pick (b := true) (hd 3 (by kernel_rfl)) (hd 7 (by kernel_rfl)) ⟨Below.refl _ _, rfl⟩⟩
                      | 9, _ =>
                        refine StepAt.by rfl fun a' W hf hb hd => ?_
                        exact .inl ⟨want_none, does_move (hd 8 (by kernel_rfl)) ⟨Below.refl _ _, rfl⟩⟩
                      | 10, _ =>
                        refine StepAt.by rfl fun a' W hf hb hd => ?_
                        exact .inl ⟨want_some (k := 9) (t := 70) rfl (hd 9 (by kernel_rfl)), does_move ((hf.keeps 13 (by kernel_rfl)).trans rfl) ⟨Below.refl _ _, rfl⟩⟩
                      | 11, _ =>
                        refine StepAt.by rfl fun a' W hf hb hd => ?_
                        exact .inl ⟨want_some (k := 9) (t := 70) rfl (hd 9 (by kernel_rfl)), does_run (run_lssI (hd 10 (by kernel_rfl)) rfl) ⟨Below.refl _ _, by show Value.bool _ = _; rw [rb2]⟩⟩
                      | 12, _ =>
                        refine StepAt.by rfl fun a' W hf hb hd => ?_
                        exact .inl ⟨want_some (k := 9) (t := 70) rfl (hd 9 (by kernel_rfl)), does_move (hd 11 (by kernel_rfl)) ⟨Below.refl _ _, rfl⟩⟩
                      | 13, _ =>
                        refine StepAt.by rfl fun a' W hf hb hd => ?_
                        exact .inr ⟨want_some (k := 12) (t := 73) rfl (hd 12 (by kernel_rfl)), rfl⟩
                      | 14, _ =>
                        refine StepAt.by rfl fun a' W hf hb hd => ?_
                        exact .inr ⟨want_some (k := 12) (t := 73) rfl (hd 12 (by kernel_rfl)), rfl⟩
                      | 15, _ =>
                        refine StepAt.by rfl fun a' W hf hb hd => ?_
                        exact .inr ⟨want_some (k := 12) (t := 73) rfl (hd 12 (by kernel_rfl)), rfl⟩
                      | 16, _ =>
                        refine StepAt.by rfl fun a' W hf hb hd => ?_
                        exact .inr ⟨want_some (k := 12) (t := 73) rfl (hd 12 (by kernel_rfl)), rfl⟩
                      | 17, _ =>
                        refine StepAt.by rfl fun a' W hf hb hd => ?_
                        exact .inr ⟨want_some (k := 12) (t := 73) rfl (hd 12 (by kernel_rfl)), rfl⟩
                      | 18, _ =>
                        refine StepAt.by rfl fun a' W hf hb hd => ?_
                        exact .inr ⟨want_some (k := 12) (t := 73) rfl (hd 12 (by kernel_rfl)), rfl⟩
                      | 19, _ =>
                        refine StepAt.by rfl fun a' W hf hb hd => ?_
                        exact .inl ⟨want_some (k := 9) (t := 70) rfl (hd 9 (by kernel_rfl)), does_pick (b := true) (hd 12 (by kernel_rfl)) rfl ⟨Below.refl _ _, rfl⟩⟩
                      | 20, _ =>
                        refine StepAt.by rfl fun a' W hf hb hd => ?_
                        exact .inl ⟨want_none, does_pick (b := true) (hd 9 (by kernel_rfl)) (hd 19 (by kernel_rfl)) ⟨Below.refl _ _, rfl⟩⟩
                      | k + 21, hi => exact absurd hi (Nat.not_lt.2 (Nat.le_add_left _ _))
                    · intro a' W hf hb hv
                      have hlast : a'.eval (.tmp 81) = .bool true := hv 20 (by decide)
                      have hl := hf.lit (fun t => decide (61 ≤ t) && decide (t ≤ 81)) (by kernel_rfl)
                      simp only [overL, Nat.reduceAdd, Nat.reduceLeDiff, decide_true, decide_false, Bool.and_true, Bool.and_false] at hl
                      rw [hl]
                      clear hl
                      go_wp2_with (fail)
                      go_meet
                      case rel => exact ⟨hlast.trans (congrArg Value.bool (by rw [HE.out]; rfl)), H3N.out.trans (hb.mono H3N.out.size)⟩
/- ARM C ends -/
                | some i =>
                    have hi : i < j := HWI.out.2 i rfl
                    have him : i < m := by omega
                    have rb2 : decide (((i : Nat) : Int) < (0 : Int)) = false := by simp
                    obtain ⟨_, _, vi, hV2, hgi, hvi, _⟩ := Kepts.at (HZ.out.1.kept.1.below (Nat.le_refl _) H3.out.1) him
                    cases hV2
                    obtain ⟨y, hy, hcy⟩ := HZ.out.1.2.at hvi
                    have HWV : Hid (M.ahead zs x (some i) = worseV v vi) := by
                      show _ = _
                      rw [M.ahead_some hy]
                      exact (worseV_is HX.out.2 hcy).symm
                    have HVI : ∀ W, Below w3.drew.heap.size w3.drew W → KeptAt W g (o + i * 8) vi := fun W hb => (keptAt_of (HZ.out.1.kept.1.below (Nat.le_refl _) H3.out.1) hvi).below hb hgi
                    clear hvi hy hcy
/- ARM D -/
                    refine wp_region_vals (VKD wj.heap.size g o m d i v vi) (by kernel_rfl) (by kernel_rfl) (VKD_stays wj.heap.size g o m d i v vi) ?_ ?_
                    · intro j hj
                      match j, hj with
                      | 0, _ =>
                        refine StepAt.by rfl fun a' W hf hb hd => ?_
                        exact .inl ⟨want_none, does_run (run_fieldK1 ((hf.keeps 15 (by kernel_rfl)).trans rfl)) ⟨Below.refl _ _, rfl⟩⟩
                      | 1, _ =>
                        refine StepAt.by rfl fun a' W hf hb hd => ?_
                        exact .inl ⟨want_none, does_run (run_load4 (hd 0 (by kernel_rfl)) ((HVB W hb) 5 _ rfl)) ⟨Below.refl _ _, by show Value.bool _ = _; rw [rb0]⟩⟩
                      | 2, _ =>
                        refine StepAt.by rfl fun a' W hf hb hd => ?_
                        exact .inl ⟨want_none, does_not (hd 1 (by kernel_rfl)) ⟨Below.refl _ _, rfl⟩⟩
                      | 3, _ =>
                        refine StepAt.by rfl fun a' W hf hb hd => ?_
                        exact .inl ⟨want_none, does_move (hd 2 (by kernel_rfl)) ⟨Below.refl _ _, rfl⟩⟩
                      | 4, _ =>
                        refine StepAt.by rfl fun a' W hf hb hd => ?_
                        exact .inl ⟨want_some (k := 3) (t := 64) rfl (hd 3 (by kernel_rfl)), does_run (run_fieldK0 ((hf.keeps 15 (by kernel_rfl)).trans rfl)) ⟨Below.refl _ _, rfl⟩⟩
                      | 5, _ =>
                        refine StepAt.by rfl fun a' W hf hb hd => ?_
                        exact .inl ⟨want_some (k := 3) (t := 64) rfl (hd 3 (by kernel_rfl)), does_run (run_fieldN0 (hd 4 (by kernel_rfl))) ⟨Below.refl _ _, rfl⟩⟩
                      | 6, _ =>
                        refine StepAt.by rfl fun a' W hf hb hd => ?_
                        exact .inl ⟨want_some (k := 3) (t := 64) rfl (hd 3 (by kernel_rfl)), does_run (run_load3 (hd 5 (by kernel_rfl)) ((HVB W hb) 0 _ rfl)) ⟨Below.refl _ _, rfl⟩⟩
                      | 7, _ =>
                        refine StepAt.by rfl fun a' W hf hb hd => ?_
                        exact .inl ⟨want_some (k := 3) (t := 64) rfl (hd 3 (by kernel_rfl)), does_run (run_neqI (hd 6 (by kernel_rfl)) rfl) ⟨Below.refl _ _, by show Value.bool _ = _; rw [rb1]⟩⟩
                      | 8, _ =>
                        refine StepAt.by rfl fun a' W hf hb hd => ?_
                        exact .inl ⟨want_none, does_pick (b := true) (hd 3 (by kernel_rfl)) (hd 7 (by kernel_rfl)) ⟨Below.refl _ _, rfl⟩⟩
                      | 9, _ =>
                        refine StepAt.by rfl fun a' W hf hb hd => ?_
                        exact .inl ⟨want_none, does_move (hd 8 (by kernel_rfl)) ⟨Below.refl _ _, rfl⟩⟩
                      | 10, _ =>
                        refine StepAt.by rfl fun a' W hf hb hd => ?_
                        exact .inl ⟨want_some (k := 9) (t := 70) rfl (hd 9 (by kernel_rfl)), does_move ((hf.keeps 13 (by kernel_rfl)).trans rfl) ⟨Below.refl _ _, rfl⟩⟩
                      | 11, _ =>
                        refine StepAt.by rfl fun a' W hf hb hd => ?_
                        exact .inl ⟨want_some (k := 9) (t := 70) rfl (hd 9 (by kernel_rfl)), does_run (run_lssI (hd 10 (by kernel_rfl)) rfl) ⟨Below.refl _ _, by show Value.bool _ = _; rw [rb2]⟩⟩
                      | 12, _ =>
                        refine StepAt.by rfl fun a' W hf hb hd => ?_
                        exact .inl ⟨want_some (k := 9) (t := 70) rfl (hd 9 (by kernel_rfl)), does_move (hd 11 (by kernel_rfl)) ⟨Below.refl _ _, rfl⟩⟩
                      | 13, _ =>
                        refine StepAt.by rfl fun a' W hf hb hd => ?_
                        exact .inl ⟨want_some (k := 12) (t := 73) rfl (hd 12 (by kernel_rfl)), does_run (run_loadKp ((hf.keeps 15 (by kernel_rfl)).trans rfl) (HVB W hb)) ⟨Below.refl _ _, rfl⟩⟩
                      | 14, _ =>
                        refine StepAt.by rfl fun a' W hf hb hd => ?_
                        exact .inl ⟨want_some (k := 12) (t := 73) rfl (hd 12 (by kernel_rfl)), does_move ((hf.keeps 8 (by kernel_rfl)).trans rfl) ⟨Below.refl _ _, rfl⟩⟩
                      | 15, _ =>
                        refine StepAt.by rfl fun a' W hf hb hd => ?_
                        exact .inl ⟨want_some (k := 12) (t := 73) rfl (hd 12 (by kernel_rfl)), does_move ((hf.keeps 13 (by kernel_rfl)).trans rfl) ⟨Below.refl _ _, rfl⟩⟩
                      | 16, _ =>
                        refine StepAt.by rfl fun a' W hf hb hd => ?_
                        exact .inl ⟨want_some (k := 12) (t := 73) rfl (hd 12 (by kernel_rfl)), does_run (run_indexK (hd 14 (by kernel_rfl)) (hd 15 (by kernel_rfl)) (by omega)) ⟨Below.refl _ _, rfl⟩⟩
                      | 17, _ =>
                        refine StepAt.by rfl fun a' W hf hb hd => ?_
                        exact .inl ⟨want_some (k := 12) (t := 73) rfl (hd 12 (by kernel_rfl)), does_run (run_loadKp (hd 16 (by kernel_rfl)) (HVI W hb)) ⟨Below.refl _ _, rfl⟩⟩
                      | 18, _ =>
                        refine StepAt.by rfl fun a' W hf hb hd => ?_
                        refine .inl ⟨want_some (k := 12) (t := 73) rfl (hd 12 (by kernel_rfl)), ?_⟩
                        exact does_call2 (enters_of Try.func30 (by kernel_rfl) (by kernel_rfl)) (hd 13 (by kernel_rfl)) (hd 17 (by kernel_rfl)) ((refWorse_any v vi W).mono fun e W2 ⟨he, hb2⟩ => ⟨_, he, hb2, rfl⟩)
                      | 19, _ =>
                        refine StepAt.by rfl fun a' W hf hb hd => ?_
                        exact .inl ⟨want_some (k := 9) (t := 70) rfl (hd 9 (by kernel_rfl)), does_pick (b := false) (hd 12 (by kernel_rfl)) (hd 18 (by kernel_rfl)) ⟨Below.refl _ _, rfl⟩⟩
                      | 20, _ =>
                        refine StepAt.by rfl fun a' W hf hb hd => ?_
                        exact .inl ⟨want_none, does_pick (b := true) (hd 9 (by kernel_rfl)) (hd 19 (by kernel_rfl)) ⟨Below.refl _ _, rfl⟩⟩
                      | k + 21, hi => exact absurd hi (Nat.not_lt.2 (Nat.le_add_left _ _))
                    · intro a' W hf hb hv
                      have hlast : a'.eval (.tmp 81) = .bool (worseV v vi) := hv 20 (by decide)
                      have hl := hf.lit (fun t => decide (61 ≤ t) && decide (t ≤ 81)) (by kernel_rfl)
                      simp only [overL, Nat.reduceAdd, Nat.reduceLeDiff, decide_true, decide_false, Bool.and_true, Bool.and_false] at hl
                      rw [hl]
                      clear hl
                      go_wp2_with (fail)
                      go_meet
                      case rel => exact ⟨hlast.trans (congrArg Value.bool (by rw [HE.out, HWV.out]; simp)), H3N.out.trans (hb.mono H3N.out.size)⟩
/- ARM D ends -/
              obtain ⟨rfl, H4⟩ := hcut
              rename World => w4
              clear z0 z1 z2 z3 z4 z5 z6 z7 zf zz H3
              have HST : Hid (M.worstS zs (j + 1) = if (M.freeK x && M.ahead zs x wi) = true then some j else wi) := by
                show _ = _
                rw [M.worst_step HX.out.1, HWI.out.1]
              generalize (M.freeK x && M.ahead zs x wi) = fl at HST ⊢
              cases fl
              · go_wp2_with (fail)
                go_roundw
                case rel => exact ⟨j + 1, by omega, by go_num, congrArg (fun q => Value.int .i64 (idxV q)) (by rw [HST.out]; rfl), H4.out⟩
                case measure => simp [intOf]; omega
              · go_wp2_with (fail)
                go_roundw
                case rel => exact ⟨j + 1, by omega, by go_num, (by rw [HST.out]; rfl), H4.out⟩
                case measure => simp [intOf]; omega
            · have hjm : j = m := by omega
              subst hjm
              have hrz : room ≤ (zs.length : Int) := by rw [← HML.out]; exact hr
              have hwl := M.worst_lt zs j
              obtain ⟨wi, hwi⟩ : ∃ q, q = M.worstS zs j := ⟨_, rfl⟩
              rw [← hwi]
              rw [← hwi] at hwl
              have hwz : M.worstS zs zs.length = wi := by rw [hwi, HML.out]
              have HBW : Hid (Below w1.heap.size w1 wj) := HZ.out.2.1.trans (hbj.mono HZ.out.2.1.size)
              cases wi with
              | none =>
                have HRR : Hid (M.keepS ys room kx = (5, [])) := M.keep_none HR.out (by rw [HZ.out.2.2, M.shrink_none hrz hwz])
                rw [show idxV none = -1 from rfl]
                clear hwl hwi hwz hrz hbj
                go_wp2_with (fail)
                go_ret2
                exact KeepPost.of HRR.out (OwnK.nil _ _) (H1.out.1.trans (HBW.out.mono H1.out.1.size))
              | some i =>
                have him : i < j := (hwl i rfl).1
                have HSH : Hid (M.shrinkS ys room = M.shrinkS (zs.eraseIdx i) room) := by show _ = _; rw [HZ.out.2.2, M.shrink_some hrz hwz]
                obtain ⟨g, o, vi, hV, hgi, _, _⟩ := Kepts.at (HZ.out.1.kept.1.below (Nat.le_refl _) hbj) him
                subst hV
                rw [show idxV (some i) = (i : Int) from rfl]
                have hjd : j ≤ d := by
                  obtain ⟨A9, c9, e9, h9, _⟩ := own_form HZ.out.1.1
                  cases e9
                  exact h9
                clear hwl hwi hwz hrz
                have H4 : Hid (Kepts wj (some ⟨g, o, none⟩) j us ∧ All2 (ContKp wj) us zs ∧ g < wj.heap.size) := ⟨HZ.out.1.kept.1.below (Nat.le_refl _) hbj, HZ.out.1.2.imp fun _ _ h => h.below (Nat.le_refl _) hbj, hgi⟩
                clear hgi hbj
                go_upto_region 26 with (fail)
                have HL : Hid (j - 1 < j) := by show _ < _; omega
                have hi1 : ((i : Int) + 1).toNat = i + 1 := by omega
                have hw1 : IntKind.i64.wrap ((i : Int) + 1) = (i : Int) + 1 := by rw [IntKind.wrap_i64]; omega
                have hi0 : (0 : Int) ≤ (i : Int) + 1 := by omega
                obtain ⟨AX, hax⟩ : ∃ a, (if d = i + 1 then some ⟨g, o, none⟩ else some ⟨g, o + (i + 1) * 8, none⟩ : Option Addr) = a := ⟨_, rfl⟩
                have HDR : Hid (∀ W, Kepts W (some ⟨g, o, none⟩) j us → Kepts W AX (j - (i + 1)) (us.drop (i + 1))) := by
                  intro W hW
                  rw [← hax]
                  by_cases hd : d = i + 1
                  · rw [if_pos hd]
                    have e : us.drop (i + 1) = [] := List.drop_eq_nil_iff.2 (by rw [← hW.1]; omega)
                    rw [e]
                    exact ⟨by show j - (i + 1) = 0; omega, .inl rfl⟩
                  · rw [if_neg hd]
                    exact kept_drop hW (i + 1)
                have hle1 : (i : Int) + 1 ≤ (j : Int) := by omega
                have hid : i ≤ d := by omega
                have HA0 : Hid (∀ W, W = wj.drew.alloc (.cells #[] 63) → Below wj.heap.size wj W ∧ W.heap[wj.heap.size]? = some (.cells #[] 63 (0, 0)) ∧ Below w1.heap.size w1 W ∧ w1.heap.size ≤ W.heap.size) := by
                  rintro W rfl
                  have h1 : Below wj.heap.size wj (wj.drew.alloc (.cells #[] 63)) := (Below.refl _ _).drew.alloc (Nat.le_refl _) _
                  exact ⟨h1, heap_alloc_new wj.drew _, HBW.out.trans (h1.mono HBW.out.size), Nat.le_trans HBW.out.size h1.size⟩
                have HN : Hid (0 + i ≤ maxLen ∧ (0 + i) * 96 ≤ 140737488355328 ∧ w1.heap.size ≤ wj.heap.size ∧ i + (j - (i + 1)) ≤ maxLen ∧ (i + (j - (i + 1))) * 96 ≤ 140737488355328) := ⟨by unfold maxLen; omega, Nat.le_trans (Nat.mul_le_mul_right 96 (by omega)) hn, HBW.out.size, by unfold maxLen; omega, Nat.le_trans (Nat.mul_le_mul_right 96 (by omega)) hn⟩
                go_region_law (first | (refine step_append_row (by rfl) (.tmp 86) (.tmp 89) 61 (by rfl) w1.heap.size 63 iK _ 96 Try.underlying61 hiK hzK hsK hbK rfl (by decide) (.slice (some ⟨wj.heap.size, 0, none⟩) 0 0) 0 (([] : List KV).flatMap KV.cells) (by simp [Act.eval]) (noRoom_ownK (HA0.out _ rfl).2.1 HN.out.2.2.1) (some ⟨g, o, none⟩) i d (us.take i) (by simp [Act.eval]) (kept_take (H4.out.1.below (Nat.le_refl _) (HA0.out _ rfl).1) (Nat.le_of_lt him)) kept_len kept_one HN.out.1 HN.out.2.1 (HA0.out _ rfl).2.2.2 ?_; intro v5 w5 hown5 hg5; rw [Nat.zero_add, List.flatMap_nil, List.nil_append] at hown5; obtain ⟨V5, d5, rfl, _, _⟩ := own_form hown5; have H5 : Hid (w5.ownsRow w1.heap.size 63 8 (.slice V5 i d5) i ((us.take i).flatMap KV.cells) ∧ Below wj.heap.size wj w5 ∧ w1.heap.size ≤ w5.heap.size) := ⟨hown5, (Below.grown (HA0.out _ rfl).1 hg5 (HA0.out _ rfl).1.size (fun k hk => by simp [Value.ownBlock] at hk; omega)), Nat.le_trans (HA0.out _ rfl).2.2.2 hg5.size⟩; clear hown5 hg5) | (refine step_append_row (by rfl) (.tmp 90) (.tmp 94) 61 (by rfl) w1.heap.size 63 iK _ 96 Try.underlying61 hiK hzK hsK hbK rfl (by decide) (.slice V5 i d5) i ((us.take i).flatMap KV.cells) (by simp [Act.eval]) H5.out.1 AX (j - (i + 1)) (d - (i + 1)) (us.drop (i + 1)) (by simp [Act.eval]) (HDR.out _ (H4.out.1.below (Nat.le_refl _) H5.out.2.1)) kept_len kept_one HN.out.2.2.2.1 HN.out.2.2.2.2 H5.out.2.2 ?_; intro v6 w6 hown6 hg6; obtain ⟨V6, d6, rfl, _, _⟩ := own_form hown6; have H6 : Hid (w6.ownsRow w1.heap.size 63 8 (.slice V6 (i + (j - (i + 1))) d6) (i + (j - (i + 1))) ((us.take i).flatMap KV.cells ++ (us.drop (i + 1)).flatMap KV.cells) ∧ Below kbase w5 w6 ∧ Below w1.heap.size w1 w6 ∧ KeepE 5 w5 w6 ∧ KeepE 81 w5 w6) := ⟨hown6, Below.grown (Below.refl _ _) hg6 (Nat.le_trans (Nat.le_trans HT.out.2.2 H1.out.1.size) H5.out.2.2) (fun k hk => Nat.le_trans (Nat.le_trans HT.out.2.2 H1.out.1.size) (H5.out.1.lt k hk).1), Below.grown (HBW.out.trans (H5.out.2.1.mono HBW.out.size)) hg6 H5.out.2.2 (fun k hk => (H5.out.1.lt k hk).1), .grown H5.out.1 (by decide) hg6, .grown H5.out.1 (by decide) hg6⟩; clear hown6 hg6))
                all_goals
                  have HR6 : Hid (OwnK w6 w1.heap.size V6 (i + (j - (i + 1))) d6 (us.eraseIdx i) (zs.eraseIdx i)) := by
                    have hk := (H4.out.2.1.imp fun _ _ h => (h.below (Nat.le_refl _) H5.out.2.1).keep H6.out.2.1 H6.out.2.2.2.1 H6.out.2.2.2.2 : All2 (ContKp w6) us zs)
                    refine ⟨?_, ?_⟩
                    · rw [erase_is, List.flatMap_append]
                      exact H6.out.1
                    · rw [erase_is, erase_is]
                      exact All2.append (hk.take i) (hk.drop (i + 1))
                  have HJ1 : Hid (i + (j - (i + 1)) = j - 1) := by show _ = _; omega
                  rw [HJ1.out] at HR6
                  rw [HJ1.out]
                  go_wp2_with (fail)
                  have HRL : ∃ (V : Option Addr) (m d : Nat) (us : List KV) (zs : List M.Kp), Value.slice V6 (j - 1) d6 = .slice V m d ∧ m ≤ k ∧ Hid (OwnK w6 w1.heap.size V m d us zs ∧ Below w1.heap.size w1 w6 ∧ M.shrinkS ys room = M.shrinkS zs room) := ⟨V6, j - 1, d6, _, _, rfl, by omega, HR6.out, H6.out.2.2.1, HSH.out⟩
                  go_roundw
                  case rel =>
                    repeat apply Exists.intro
                    exact ⟨HRL, rfl⟩
                  case measure => exact HL.out
        · have HRR : Hid (M.keepS ys room kx = (0, zs ++ [kx])) := by
            show _ = _
            exact M.keep_some HR.out (by rw [HZ.out.2.2, M.shrink_end (by rw [← HML.out]; exact hr)])
          have hbw : Below w.heap.size w wz := H1.out.1.trans (HZ.out.2.1.mono H1.out.1.size)
          have HBZ : Hid (Below w.heap.size w wz ∧ BoxK wz w.heap.size kv ∧ ContKp wz kv kx) := ⟨hbw, H1.out.2.1.below HZ.out.2.1 (by have := H1.out.2.2; omega), HT.out.2.1.below (Nat.le_refl _) hbw⟩
          have HWB : Hid _ := boxK_one wz kv
          have HKN : Hid (m + 1 ≤ maxLen ∧ (m + 1) * 96 ≤ 140737488355328 ∧ ∀ W', Below wz.heap.size wz W' → w1.heap.size ≤ W'.heap.size) := by
            refine ⟨by unfold maxLen; omega, Nat.le_trans (Nat.mul_le_mul_right 96 (by omega)) hn, fun W' h' => ?_⟩
            exact Nat.le_trans HZ.out.2.1.size h'.size
          obtain ⟨k0, k1, k2, k3, k4, k5, k6, k7, kf, kz⟩ := HBZ.out.2.1.facts
          clear hbw HR
          go_wp2_with (at_builtin; refine wpList_append_row _ (by rfl) (.tmp 96) (.tmp 98) 61 (by rfl) w1.heap.size 63 iK _ 96 Try.underlying61 hiK hzK hsK hbK rfl (by decide) _ m _ (by rfl) (own_below HZ.out.1.1 (HWB.out _ rfl).1 (Nat.le_refl _)) (some ⟨wz.heap.size, 0, none⟩) 1 1 [kv] (by rfl) (rowK_box (HWB.out _ rfl).2.1) kept_len kept_one HKN.out.1 HKN.out.2.1 (HKN.out.2.2 _ (HWB.out _ rfl).1) ?_; intro v5 w5 hown5 hg5; obtain ⟨V5, d5, rfl, _, _⟩ := own_form hown5; have HRR2 : Hid (OwnK w5 w1.heap.size V5 (m + 1) d5 (us ++ [kv]) (zs ++ [kx]) ∧ Below w1.heap.size w1 w5) := ⟨OwnK.snoc (HZ.out.1.below (Nat.le_refl _) (HWB.out _ rfl).1) (Nat.le_trans HT.out.2.2 H1.out.1.size) (Nat.le_trans (Nat.le_trans HT.out.2.2 H1.out.1.size) (HKN.out.2.2 _ (HWB.out _ rfl).1)) (HBZ.out.2.2.below (Nat.le_refl _) (HWB.out _ rfl).1) (by simpa using hown5) hg5, snoc_belowK (HZ.out.2.1.trans ((HWB.out _ rfl).1.mono HZ.out.2.1.size)) (Nat.le_refl _) (own_below HZ.out.1.1 (HWB.out _ rfl).1 (Nat.le_refl _)) hg5⟩; clear hown5 hg5)
          go_ret2
          exact KeepPost.of HRR.out (HRR2.out.1.mono H1.out.1.size) (H1.out.1.trans (HRR2.out.2.mono H1.out.1.size))
end Go.Proofs.Ytjpdoblmdchmkad
