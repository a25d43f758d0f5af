/- TEXTS LAID TOGETHER: Kcc, Vals, Does, Doesl, Doesk, Frame -/
import Derived.Test.YtjpdoblmdchmkaePart4
import Derived.Test.YtjpdoblmdchmkaePart2
import Derived.Test.YtjpdoblmdchmkaePart1
import Derived.RegionTactic
import Derived.Test.YtjpdoblmdchmkaePart3
/-
  PACKAGE cache: who stays; Own, Fresh, Clean.
-/
namespace Go.Proofs.Ytjpdoblmdchmkae
open Go.RowKit

theorem own1_kept (v : KV) (w : World) : Calls Try.prog 30 #[v.val] w fun e w' => e = .returned (.bool true) ∧ Below w.heap.size w w' := by
  have HW : Hid _ := boxK_one w v
  go_enter Try.func30, Try.ntmps30
  go_wp2
  go_ret
  exact ⟨rfl, (HW.out _ rfl).1⟩
theorem clean1_kept (v : KV) (w : World) : Calls Try.prog 25 #[v.val] w fun e w' => e = .returned (.bool (!v.dirty)) ∧ Below w.heap.size w w' := by
  have HW : Hid _ := boxK_one w v
  go_enter Try.func25, Try.ntmps25
  go_wp2
  go_ret
  exact ⟨rfl, (HW.out _ rfl).1⟩
set_option maxHeartbeats 1000000 in
theorem fresh11_kept (y : NV) (p : Nat) (v : KV) (w : World) (hp : BoxK w p v) :
    Calls Try.prog 19 #[y.val, .pointer (some ⟨p, 0, none⟩)] w fun e w' => e = .returned (.bool (decide (y.fid = v.n.fid) && decide (y.ver = v.n.ver))) ∧ Below w.heap.size w w' := by
  have HW : Hid (∀ W, W = w.alloc (.cells #[.int .i64 y.fid, .bool y.dir, .slice y.dA y.dn y.dc, .slice y.eA y.en y.ec, .int .i64 y.ver] 34) → Below w.heap.size w W) := by
    rintro W rfl
    exact (Below.refl _ _).alloc (Nat.le_refl _) _
  obtain ⟨b0, b1, b2, b3, b4, b5, b6, b7, bf, bz⟩ := hp.facts
  clear hp
  by_cases hf : y.fid = v.n.fid
  · have kf : (y.fid == v.n.fid) = true := by simp [hf]
    by_cases hv : y.ver = v.n.ver
    · have kv : (y.ver == v.n.ver) = true := by simp [hv]
      have HU : Hid ((decide (y.fid = v.n.fid) && decide (y.ver = v.n.ver)) = true) := by show _ = _; simp [hf, hv]
      clear hf hv
      go_enter Try.func19, Try.ntmps19
      go_wp2
      go_ret
      exact ⟨ret_bool HU.out.symm, HW.out _ rfl⟩
    · have kv : (y.ver == v.n.ver) = false := by simp [hv]
      have HU : Hid ((decide (y.fid = v.n.fid) && decide (y.ver = v.n.ver)) = false) := by show _ = _; simp [hv]
      clear hf hv
      go_enter Try.func19, Try.ntmps19
      go_wp2
      go_ret
      exact ⟨ret_bool HU.out.symm, HW.out _ rfl⟩
  · have kf : (y.fid == v.n.fid) = false := by simp [hf]
    have HU : Hid ((decide (y.fid = v.n.fid) && decide (y.ver = v.n.ver)) = false) := by show _ = _; simp [hf]
    clear hf
    go_enter Try.func19, Try.ntmps19
    go_wp2
    go_ret
    exact ⟨ret_bool HU.out.symm, HW.out _ rfl⟩
/-- where such a node stands -/
def idxN : Option Nat → Int
  | none => -1
  | some k => k
theorem idxN_none {xs : List M.Nd} {p : M.Nd → Bool} (h : ∀ x ∈ xs, p x = false) : idxN (xs.findIdx? p) = -1 := by
  rw [List.findIdx?_eq_none_iff.2 (fun x hx => by simpa using h x hx)]; rfl
theorem idxN_at {xs : List M.Nd} {p : M.Nd → Bool} {k : Nat} {x : M.Nd} (h : ∀ x ∈ xs.take k, p x = false) (hx : xs[k]? = some x) (hp : p x = true) : idxN (xs.findIdx? p) = (k : Int) := by
  obtain ⟨hk, he⟩ := List.getElem?_eq_some_iff.1 hx
  have : xs.findIdx? p = some k := by
    rw [List.findIdx?_eq_some_iff_getElem]
    refine ⟨hk, by rw [he]; exact hp, fun j hj => ?_⟩
    have hjl : j < xs.length := by omega
    have := h xs[j] (List.mem_of_getElem? (i := j) (by rw [List.getElem?_take, if_pos hj]; exact List.getElem?_eq_getElem hjl))
    rw [this]; simp
  rw [this]; rfl
theorem idxN_any (xs : List M.Nd) (p : M.Nd → Bool) : xs.any p = decide (0 ≤ idxN (xs.findIdx? p)) := by
  cases h : xs.findIdx? p with
  | none =>
    rw [List.findIdx?_eq_none_iff] at h
    rw [List.any_eq_false.2 (fun x hx => by rw [h x hx]; decide)]
    simp [idxN]
  | some k =>
    obtain ⟨hk, hp, _⟩ := List.findIdx?_eq_some_iff_getElem.1 h
    rw [List.any_eq_true.2 ⟨xs[k], List.getElem_mem hk, hp⟩]
    simp [idxN]
def M.verB (f v : Int) (y : M.Nd) : Bool := decide (y.fid = f) && decide (y.ver = v)
set_option maxHeartbeats 1000000 in
theorem freshIdx_kept (A : Option Addr) (n c : Nat) (vs : List NV) (xs : List M.Nd) (p : Nat) (v : KV) (w : World) (ht : Tree w A n vs xs) (hn : n ≤ 140737488355328) (hp : BoxK w p v) :
    Calls Try.prog 31 #[.slice A n c, .func (.func 19) #[] #[.pointer (some ⟨p, 0, none⟩)]] w fun e w' => e = .returned (.int .i64 (idxN (xs.findIdx? (M.verB v.n.fid v.n.ver)))) ∧ Below w.heap.size w w' := by
  have hpl : p < w.heap.size := lt_of_block hp
  have HT : Hid (Tree w A n vs xs ∧ BoxK w p v) := ⟨ht, hp⟩
  have HL : Hid (n = xs.length) := by show _ = _; rw [ht.1.1, ht.2.1]
  clear ht hp
  go_enter Try.func31, Try.ntmps31
  go_wp2
  go_loopw [8] (fun i wr => ∃ k : Nat, k ≤ n ∧ i = .int .i64 k ∧ Hid (∀ x ∈ xs.take k, M.verB v.n.fid v.n.ver x = false) ∧ Below w.heap.size w wr) (fun i _ => n - (intOf i).toNat)
  case atStart => exact ⟨0, Nat.zero_le _, rfl, (by show ∀ x ∈ _, _; simp), Below.refl _ _⟩
  case round =>
    obtain ⟨k, hk, rfl, HN, hb⟩ := hrel
    have hsz := hb.size
    by_cases hlt : k < n
    · have htr := HT.out.1.below (Nat.le_refl _) hb
      obtain ⟨g, o, y, rfl, hgb, hvk, c0, c1, c2, c3, c4⟩ := htr.1.at hlt
      obtain ⟨x, hx, hcx⟩ := htr.2.at hvk
      have HX : Hid (xs[k]? = some x ∧ (decide (y.fid = v.n.fid) && decide (y.ver = v.n.ver)) = M.verB v.n.fid v.n.ver x ∧ BoxK wr p v) := ⟨hx, by unfold M.verB; rw [hcx.1, hcx.2.2.1], HT.out.2.below hb hpl⟩
      have HB : Hid (Below w.heap.size w wr) := hb
      clear hvk htr hx hcx hb
      go_wp2_with (fail)
      refine (fresh11_kept y p v _ HX.out.2.2).mono ?_
      rintro e w1 ⟨rfl, hb1⟩
      have HB1 : Hid (Below w.heap.size w w1) := HB.out.trans (hb1.mono hsz)
      have HPX : Hid ((decide (y.fid = v.n.fid) && decide (y.ver = v.n.ver)) = M.verB v.n.fid v.n.ver x) := HX.out.2.1
      clear hb1
      generalize (decide (y.fid = v.n.fid) && decide (y.ver = v.n.ver)) = q at HPX ⊢
      cases q
      · have HN2 : Hid (∀ y ∈ xs.take (k + 1), M.verB v.n.fid v.n.ver y = false) := by
          show ∀ y ∈ _, _
          intro y hy
          rw [take_step HX.out.1] at hy
          rcases List.mem_append.1 hy with h | h
          · exact HN.out y h
          · rw [List.mem_singleton.1 h]; exact HPX.out.symm
        go_wp2_with (fail)
        go_roundw
        case rel => exact ⟨k + 1, by omega, by go_num, HN2, HB1.out⟩
        case measure => simp [intOf]; omega
      · have HR : Hid (idxN (xs.findIdx? (M.verB v.n.fid v.n.ver)) = (k : Int)) := idxN_at HN.out HX.out.1 HPX.out.symm
        go_wp2_with (fail)
        go_ret
        exact ⟨ret_int HR.out.symm, HB1.out⟩
    · have HR : Hid (idxN (xs.findIdx? (M.verB v.n.fid v.n.ver)) = -1) := idxN_none (by
        have := HN.out
        rw [List.take_of_length_le (by rw [← HL.out]; omega)] at this
        exact this)
      go_wp2
      go_ret
      exact ⟨ret_int HR.out.symm, hb⟩
theorem freshHas_kept (A : Option Addr) (n c : Nat) (vs : List NV) (xs : List M.Nd) (p : Nat) (v : KV) (w : World) (ht : Tree w A n vs xs) (hn : n ≤ 140737488355328) (hp : BoxK w p v) :
    Calls Try.prog 18 #[.slice A n c, .func (.func 19) #[] #[.pointer (some ⟨p, 0, none⟩)]] w fun e w' => e = .returned (.bool (xs.any (M.verB v.n.fid v.n.ver))) ∧ Below w.heap.size w w' := by
  have HT : Hid (Tree w A n vs xs ∧ BoxK w p v) := ⟨ht, hp⟩
  have HU : Hid (xs.any (M.verB v.n.fid v.n.ver) = decide (0 ≤ idxN (xs.findIdx? (M.verB v.n.fid v.n.ver)))) := idxN_any _ _
  clear ht hp
  go_enter Try.func18, Try.ntmps18
  go_wp2_with (fail)
  refine (freshIdx_kept A n c vs xs p v _ HT.out.1 hn HT.out.2).mono ?_
  rintro e w1 ⟨rfl, hb1⟩
  have HB : Hid (Below w.heap.size w w1) := hb1
  clear hb1
  go_wp2
  go_ret
  exact ⟨ret_bool HU.out.symm, HB.out⟩
/-- a list's header in a block of its own -/
def BoxH (w : World) (p : Nat) (A : Option Addr) (n c : Nat) : Prop := w.heap[p]? = some (.cells #[.slice A n c] 23 (0, 0))
theorem BoxH.below {w w' : World} {p : Nat} {A : Option Addr} {n c B : Nat} (h : BoxH w p A n c) (hb : Below B w w') (hs : p < B) : BoxH w' p A n c := by
  unfold BoxH at h ⊢; rw [hb.block p hs]; exact h
theorem BoxH.cell {w : World} {p : Nat} {A : Option Addr} {n c : Nat} (h : BoxH w p A n c) : w.cell? ⟨p, 0, none⟩ = some (.slice A n c) := by
  unfold BoxH at h; simp [World.cell?, h]
def M.stayB (ts : List M.Nd) (x : M.Kp) : Bool := x.dirty || ts.any (M.verB x.node.fid x.node.ver)
set_option maxHeartbeats 1000000 in
theorem fresh1_kept (v : KV) (x : M.Kp) (p : Nat) (A : Option Addr) (n c : Nat) (us : List NV) (ts : List M.Nd) (w : World) (hv : ContC w v x) (hp : BoxH w p A n c) (ht : Tree w A n us ts) (hn : n ≤ 140737488355328) :
    Calls Try.prog 17 #[v.val, .pointer (some ⟨p, 0, none⟩)] w fun e w' => e = .returned (.bool (M.stayB ts x)) ∧ Below w.heap.size w w' := by
  have HT : Hid (Tree w A n us ts) := ht
  have HP : Hid (v.dirty = x.dirty ∧ v.n.fid = x.node.fid ∧ v.n.ver = x.node.ver) := ⟨hv.2.1, hv.1.1, hv.1.2.2.1⟩
  have hpl : p < w.heap.size := lt_of_block hp
  have hpc := hp.cell
  clear ht hv hp
  obtain ⟨vn, vd, vw, vl⟩ := v
  have HW : Hid _ := boxK_one w ⟨vn, vd, vw, vl⟩
  cases vd
  · have HS : Hid (M.stayB ts x = ts.any (M.verB vn.fid vn.ver)) := by
      show _ = _
      unfold M.stayB
      rw [← HP.out.1, ← HP.out.2.1, ← HP.out.2.2]; rfl
    go_enter Try.func17, Try.ntmps17
    go_wp2_with (fail)
    obtain ⟨q1, q2, q3⟩ := HW.out _ rfl
    refine (freshHas_kept A n c us ts w.heap.size ⟨vn, false, vw, vl⟩ _ (HT.out.below (Nat.le_refl _) q1) hn q2).mono ?_
    rintro e w1 ⟨rfl, hb1⟩
    have HB : Hid (Below w.heap.size w w1) := q1.trans (hb1.mono (by omega))
    clear q1 q2 q3 hb1 HW
    go_wp2
    go_ret
    exact ⟨ret_bool HS.out.symm, HB.out⟩
  · have HS : Hid (M.stayB ts x = true) := by
      show _ = _
      unfold M.stayB
      rw [← HP.out.1]; rfl
    go_enter Try.func17, Try.ntmps17
    go_wp2_with (fail)
    go_ret
    exact ⟨ret_bool HS.out.symm, (HW.out _ rfl).1⟩
theorem filterK_step {xs : List M.Kp} {k : Nat} {x : M.Kp} (h : xs[k]? = some x) (p : M.Kp → Bool) : (xs.take (k + 1)).filter p = (xs.take k).filter p ++ (if p x then [x] else []) := by
  rw [take_step h, List.filter_append]
  congr 1
  cases hp : p x <;> simp [hp]
set_option maxRecDepth 8000 in
set_option maxHeartbeats 4000000 in
theorem thoseOwn_kept (A : Option Addr) (n c : Nat) (vs : List KV) (xs : List M.Kp) (w : World) (ht : TreeC w A n vs xs) (hs : ∀ x ∈ xs, Small x.node) (hn : (n + 1) * 96 ≤ 140737488355328) :
    Calls Try.prog 16 #[.slice A n c, .func (.func 30) #[] #[]] w fun e w' => ∃ (B : Option Addr) (m d : Nat) (us : List KV), e = .returned (.slice B m d) ∧ OwnC w' w.heap.size B m d us (xs.filter (fun _ => true)) ∧ Below w.heap.size w w' := by
  have HT : Hid (TreeC w A n vs xs ∧ (∀ x ∈ xs, Small x.node) ∧ True) := ⟨ht, hs, trivial⟩
  have HLN : Hid (n = xs.length) := ht.len
  obtain ⟨iK, hiK, hzK, hsK, hbK⟩ := info_parts infoK
  have H0 : Hid (OwnC w w.heap.size none 0 0 [] [] ∧ Below w.heap.size w w) := ⟨OwnC.nil _ _, Below.refl _ _⟩
  clear ht hs
  go_enter Try.func16, Try.ntmps16
  go_wp2_with (fail)
  go_loopw [5, 10] (fun u i W => ∃ (k : Nat) (V : Option Addr) (m d : Nat) (us : List KV), k ≤ n ∧ m ≤ k ∧ i = .int .i64 k ∧ u = .slice V m d ∧ Hid (OwnC W w.heap.size V m d us ((xs.take k).filter (fun _ => true)) ∧ Below w.heap.size w W)) (fun _ i _ => n - (intOf i).toNat)
  case atStart => exact ⟨0, none, 0, 0, [], Nat.zero_le _, Nat.le_refl _, rfl, rfl, H0⟩
  case round =>
    obtain ⟨k, V, m, d, us, hk, hmk, rfl, rfl, HK⟩ := hrel
    rename World => wr
    have hsz := HK.out.2.size
    by_cases hlt : k < n
    · have htr := HT.out.1.below (Nat.le_refl _) HK.out.2
      obtain ⟨g, o, v, rfl, hgb, hvk, c0, c1, c2, c3, c4, c5, c6, c7⟩ := htr.1.at hlt
      obtain ⟨x, hx, hcx⟩ := htr.2.at hvk
      have HX : Hid (xs[k]? = some x ∧ ContC wr v x ∧ Small x.node) := ⟨hx, hcx, HT.out.2.1 x (List.mem_of_getElem? hx)⟩
      have HWA : Hid _ := boxK_one wr v
      have HKN : Hid (m + 1 ≤ maxLen ∧ (m + 1) * 96 ≤ 140737488355328) := ⟨by unfold maxLen; omega, Nat.le_trans (Nat.mul_le_mul_right 96 (by omega)) hn⟩
      have HFS : Hid ((xs.take (k + 1)).filter (fun _ => true) = (xs.take k).filter (fun _ => true) ++ (if true then [x] else [])) := filterK_step hx (fun _ => true)
      clear htr hvk hx hcx hgb
      go_wp2_with (fail)
      obtain ⟨q1, q2, q3⟩ := HWA.out _ rfl
      refine (own1_kept v _).mono ?_
      rintro e w2 ⟨rfl, hb2⟩
      have hz2 := hb2.size
      rw [q3] at hz2
      have h12 : Below wr.heap.size wr w2 := q1.trans (hb2.mono (by omega))
      have HB2 : Hid (Below w.heap.size w w2 ∧ BoxK w2 wr.heap.size v ∧ OwnC w2 w.heap.size V m d us ((xs.take k).filter (fun _ => true)) ∧ Below wr.heap.size wr w2) := ⟨HK.out.2.trans (h12.mono hsz), q2.below hb2 (by omega), HK.out.1.below (Nat.le_refl _) h12, h12⟩
      obtain ⟨b0, b1, b2, b3, b4, b5, b6, b7, bf, bz⟩ := HB2.out.2.1.facts
      have HFS1 := HFS
      clear q1 q2 q3 hb2 HWA h12 c0 c1 c2 c3 c4 c5 c6 c7
      obtain ⟨px, hpx⟩ : ∃ px : Bool, true = px := ⟨_, rfl⟩
      rw [hpx]
      cases px
      · have HFS2 : Hid ((xs.take (k + 1)).filter (fun _ => true) = (xs.take k).filter (fun _ => true)) := by show _ = _; cases hpx
        have HPX : Hid (true = false) := hpx
        clear hpx
        go_wp2_with (fail)
        go_roundw
        case rel => exact ⟨k + 1, V, m, d, us, by omega, by omega, by go_num, rfl, (by show _ ∧ _; rw [HFS2.out]; exact ⟨HB2.out.2.2.1, HB2.out.1⟩)⟩
        case measure => simp [intOf]; omega
      · have HFS2 : Hid ((xs.take (k + 1)).filter (fun _ => true) = (xs.take k).filter (fun _ => true) ++ [x]) := by show _ = _; rw [HFS.out]; rfl
        have HPX : Hid (true = true) := hpx
        clear hpx
        go_wp2_with (fail)
        refine (own_kept v x _ (HX.out.2.1.below (Nat.le_refl _) HB2.out.2.2.2) HX.out.2.2).mono ?_
        rintro e w3 ⟨r', rfl, hor, hb3⟩
        have hz3 := hb3.size
        have HB3 : Hid (Below w.heap.size w w3 ∧ OwnC w3 w.heap.size V m d us ((xs.take k).filter (fun _ => true)) ∧ OwnKp w3 w.heap.size r' x) := ⟨HB2.out.1.trans (hb3.mono (by omega)), HB2.out.2.2.1.below (Nat.le_refl _) hb3, hor.mono (by omega)⟩
        have HWB : Hid _ := boxK_one w3 r'
        have hz3w : w.heap.size ≤ w3.heap.size := HB3.out.1.size
        clear hor hb3
        go_wp2_with (at_builtin; refine wpList_append_row _ (by rfl) (.tmp 17) (.tmp 20) 22 (by rfl) w.heap.size 36 iK _ 96 Try.underlying22 hiK hzK hsK hbK rfl (by decide) _ m _ (by rfl) (own_below HB3.out.2.1.1 (HWB.out _ rfl).1 (Nat.le_refl _)) (some ⟨w3.heap.size, 0, none⟩) 1 1 [r'] (by rfl) (rowK_box (HWB.out _ rfl).2.1) kept_len kept_one HKN.out.1 HKN.out.2 (Nat.le_trans hz3w (HWB.out _ rfl).1.size) ?_; intro v4 w4 hown4 hg4; obtain ⟨A4, c4', rfl, _, _⟩ := own_form hown4; have HR : Hid (OwnC w4 w.heap.size A4 (m + 1) c4' (us ++ [r']) ((xs.take (k + 1)).filter (fun _ => true)) ∧ Below w.heap.size w w4) := ⟨by rw [HFS2.out]; exact OwnC.snoc (HB3.out.2.1.below (Nat.le_refl _) (HWB.out _ rfl).1) (HB3.out.2.2.below (Nat.le_refl _) (HWB.out _ rfl).1) (by simpa using hown4) hg4, snoc_belowK (HB3.out.1.trans ((HWB.out _ rfl).1.mono HB3.out.1.size)) (Nat.le_refl _) (own_below HB3.out.2.1.1 (HWB.out _ rfl).1 (Nat.le_refl _)) hg4⟩; clear hown4 hg4)
        go_roundw
        case rel => exact ⟨k + 1, A4, m + 1, c4', us ++ [r'], by omega, by omega, by go_num, rfl, HR⟩
        case measure => simp [intOf]; omega
    · have HE : Hid (OwnC wr w.heap.size V m d us (xs.filter (fun _ => true)) ∧ Below w.heap.size w wr) := by
        have h := HK.out
        rw [List.take_of_length_le (by rw [← HLN.out]; omega)] at h
        exact h
      clear HK H0
      go_wp2_with (fail)
      go_ret
      exact ⟨V, m, d, us, rfl, HE.out⟩
set_option maxRecDepth 8000 in
set_option maxHeartbeats 4000000 in
theorem thoseClean_kept (A : Option Addr) (n c : Nat) (vs : List KV) (xs : List M.Kp) (w : World) (ht : TreeC w A n vs xs) (hs : ∀ x ∈ xs, Small x.node) (hn : (n + 1) * 96 ≤ 140737488355328) :
    Calls Try.prog 16 #[.slice A n c, .func (.func 25) #[] #[]] w fun e w' => ∃ (B : Option Addr) (m d : Nat) (us : List KV), e = .returned (.slice B m d) ∧ OwnC w' w.heap.size B m d us (xs.filter (fun x => !x.dirty)) ∧ Below w.heap.size w w' := by
  have HT : Hid (TreeC w A n vs xs ∧ (∀ x ∈ xs, Small x.node) ∧ True) := ⟨ht, hs, trivial⟩
  have HLN : Hid (n = xs.length) := ht.len
  obtain ⟨iK, hiK, hzK, hsK, hbK⟩ := info_parts infoK
  have H0 : Hid (OwnC w w.heap.size none 0 0 [] [] ∧ Below w.heap.size w w) := ⟨OwnC.nil _ _, Below.refl _ _⟩
  clear ht hs
  go_enter Try.func16, Try.ntmps16
  go_wp2_with (fail)
  go_loopw [5, 10] (fun u i W => ∃ (k : Nat) (V : Option Addr) (m d : Nat) (us : List KV), k ≤ n ∧ m ≤ k ∧ i = .int .i64 k ∧ u = .slice V m d ∧ Hid (OwnC W w.heap.size V m d us ((xs.take k).filter (fun x => !x.dirty)) ∧ Below w.heap.size w W)) (fun _ i _ => n - (intOf i).toNat)
  case atStart => exact ⟨0, none, 0, 0, [], Nat.zero_le _, Nat.le_refl _, rfl, rfl, H0⟩
  case round =>
    obtain ⟨k, V, m, d, us, hk, hmk, rfl, rfl, HK⟩ := hrel
    rename World => wr
    have hsz := HK.out.2.size
    by_cases hlt : k < n
    · have htr := HT.out.1.below (Nat.le_refl _) HK.out.2
      obtain ⟨g, o, v, rfl, hgb, hvk, c0, c1, c2, c3, c4, c5, c6, c7⟩ := htr.1.at hlt
      obtain ⟨x, hx, hcx⟩ := htr.2.at hvk
      have HX : Hid (xs[k]? = some x ∧ ContC wr v x ∧ Small x.node) := ⟨hx, hcx, HT.out.2.1 x (List.mem_of_getElem? hx)⟩
      have HWA : Hid _ := boxK_one wr v
      have HKN : Hid (m + 1 ≤ maxLen ∧ (m + 1) * 96 ≤ 140737488355328) := ⟨by unfold maxLen; omega, Nat.le_trans (Nat.mul_le_mul_right 96 (by omega)) hn⟩
      have HFS : Hid ((xs.take (k + 1)).filter (fun x => !x.dirty) = (xs.take k).filter (fun x => !x.dirty) ++ (if (!x.dirty) then [x] else [])) := filterK_step hx (fun x => !x.dirty)
      clear htr hvk hx hcx hgb
      go_wp2_with (fail)
      obtain ⟨q1, q2, q3⟩ := HWA.out _ rfl
      refine (clean1_kept v _).mono ?_
      rintro e w2 ⟨rfl, hb2⟩
      have hz2 := hb2.size
      rw [q3] at hz2
      have h12 : Below wr.heap.size wr w2 := q1.trans (hb2.mono (by omega))
      have HB2 : Hid (Below w.heap.size w w2 ∧ BoxK w2 wr.heap.size v ∧ OwnC w2 w.heap.size V m d us ((xs.take k).filter (fun x => !x.dirty)) ∧ Below wr.heap.size wr w2) := ⟨HK.out.2.trans (h12.mono hsz), q2.below hb2 (by omega), HK.out.1.below (Nat.le_refl _) h12, h12⟩
      obtain ⟨b0, b1, b2, b3, b4, b5, b6, b7, bf, bz⟩ := HB2.out.2.1.facts
      have HVX : Hid (v.dirty = x.dirty) := HX.out.2.1.2.1
      have HFS1 := HFS
      clear q1 q2 q3 hb2 HWA h12 c0 c1 c2 c3 c4 c5 c6 c7
      obtain ⟨px, hpx⟩ : ∃ px : Bool, (!v.dirty) = px := ⟨_, rfl⟩
      rw [hpx]
      cases px
      · have HFS2 : Hid ((xs.take (k + 1)).filter (fun x => !x.dirty) = (xs.take k).filter (fun x => !x.dirty)) := by show _ = _; rw [HFS.out, ← HVX.out, hpx]; simp
        have HPX : Hid ((!v.dirty) = false) := hpx
        clear hpx
        go_wp2_with (fail)
        go_roundw
        case rel => exact ⟨k + 1, V, m, d, us, by omega, by omega, by go_num, rfl, (by show _ ∧ _; rw [HFS2.out]; exact ⟨HB2.out.2.2.1, HB2.out.1⟩)⟩
        case measure => simp [intOf]; omega
      · have HFS2 : Hid ((xs.take (k + 1)).filter (fun x => !x.dirty) = (xs.take k).filter (fun x => !x.dirty) ++ [x]) := by show _ = _; rw [HFS.out, ← HVX.out, hpx]; rfl
        have HPX : Hid ((!v.dirty) = true) := hpx
        clear hpx
        go_wp2_with (fail)
        refine (own_kept v x _ (HX.out.2.1.below (Nat.le_refl _) HB2.out.2.2.2) HX.out.2.2).mono ?_
        rintro e w3 ⟨r', rfl, hor, hb3⟩
        have hz3 := hb3.size
        have HB3 : Hid (Below w.heap.size w w3 ∧ OwnC w3 w.heap.size V m d us ((xs.take k).filter (fun x => !x.dirty)) ∧ OwnKp w3 w.heap.size r' x) := ⟨HB2.out.1.trans (hb3.mono (by omega)), HB2.out.2.2.1.below (Nat.le_refl _) hb3, hor.mono (by omega)⟩
        have HWB : Hid _ := boxK_one w3 r'
        have hz3w : w.heap.size ≤ w3.heap.size := HB3.out.1.size
        clear hor hb3
        go_wp2_with (at_builtin; refine wpList_append_row _ (by rfl) (.tmp 17) (.tmp 20) 22 (by rfl) w.heap.size 36 iK _ 96 Try.underlying22 hiK hzK hsK hbK rfl (by decide) _ m _ (by rfl) (own_below HB3.out.2.1.1 (HWB.out _ rfl).1 (Nat.le_refl _)) (some ⟨w3.heap.size, 0, none⟩) 1 1 [r'] (by rfl) (rowK_box (HWB.out _ rfl).2.1) kept_len kept_one HKN.out.1 HKN.out.2 (Nat.le_trans hz3w (HWB.out _ rfl).1.size) ?_; intro v4 w4 hown4 hg4; obtain ⟨A4, c4', rfl, _, _⟩ := own_form hown4; have HR : Hid (OwnC w4 w.heap.size A4 (m + 1) c4' (us ++ [r']) ((xs.take (k + 1)).filter (fun x => !x.dirty)) ∧ Below w.heap.size w w4) := ⟨by rw [HFS2.out]; exact OwnC.snoc (HB3.out.2.1.below (Nat.le_refl _) (HWB.out _ rfl).1) (HB3.out.2.2.below (Nat.le_refl _) (HWB.out _ rfl).1) (by simpa using hown4) hg4, snoc_belowK (HB3.out.1.trans ((HWB.out _ rfl).1.mono HB3.out.1.size)) (Nat.le_refl _) (own_below HB3.out.2.1.1 (HWB.out _ rfl).1 (Nat.le_refl _)) hg4⟩; clear hown4 hg4)
        go_roundw
        case rel => exact ⟨k + 1, A4, m + 1, c4', us ++ [r'], by omega, by omega, by go_num, rfl, HR⟩
        case measure => simp [intOf]; omega
    · have HE : Hid (OwnC wr w.heap.size V m d us (xs.filter (fun x => !x.dirty)) ∧ Below w.heap.size w wr) := by
        have h := HK.out
        rw [List.take_of_length_le (by rw [← HLN.out]; omega)] at h
        exact h
      clear HK H0
      go_wp2_with (fail)
      go_ret
      exact ⟨V, m, d, us, rfl, HE.out⟩
set_option maxRecDepth 8000 in
set_option maxHeartbeats 4000000 in
theorem thoseFresh_kept (A : Option Addr) (n c : Nat) (vs : List KV) (xs : List M.Kp) (w : World) (p : Nat) (AT : Option Addr) (nt ct : Nat) (ut : List NV) (ts : List M.Nd) (hp : BoxH w p AT nt ct) (htt : Tree w AT nt ut ts) (hnt : nt ≤ 140737488355328) (ht : TreeC w A n vs xs) (hs : ∀ x ∈ xs, Small x.node) (hn : (n + 1) * 96 ≤ 140737488355328) :
    Calls Try.prog 16 #[.slice A n c, .func (.func 17) #[] #[.pointer (some ⟨p, 0, none⟩)]] w fun e w' => ∃ (B : Option Addr) (m d : Nat) (us : List KV), e = .returned (.slice B m d) ∧ OwnC w' w.heap.size B m d us (xs.filter (M.stayB ts)) ∧ Below w.heap.size w w' := by
  have HT : Hid (TreeC w A n vs xs ∧ (∀ x ∈ xs, Small x.node) ∧ BoxH w p AT nt ct ∧ Tree w AT nt ut ts ∧ p < w.heap.size) := ⟨ht, hs, hp, htt, lt_of_block hp⟩
  have HLN : Hid (n = xs.length) := ht.len
  obtain ⟨iK, hiK, hzK, hsK, hbK⟩ := info_parts infoK
  have H0 : Hid (OwnC w w.heap.size none 0 0 [] [] ∧ Below w.heap.size w w) := ⟨OwnC.nil _ _, Below.refl _ _⟩
  clear ht hs hp htt
  go_enter Try.func16, Try.ntmps16
  go_wp2_with (fail)
  go_loopw [5, 10] (fun u i W => ∃ (k : Nat) (V : Option Addr) (m d : Nat) (us : List KV), k ≤ n ∧ m ≤ k ∧ i = .int .i64 k ∧ u = .slice V m d ∧ Hid (OwnC W w.heap.size V m d us ((xs.take k).filter (M.stayB ts)) ∧ Below w.heap.size w W)) (fun _ i _ => n - (intOf i).toNat)
  case atStart => exact ⟨0, none, 0, 0, [], Nat.zero_le _, Nat.le_refl _, rfl, rfl, H0⟩
  case round =>
    obtain ⟨k, V, m, d, us, hk, hmk, rfl, rfl, HK⟩ := hrel
    rename World => wr
    have hsz := HK.out.2.size
    by_cases hlt : k < n
    · have htr := HT.out.1.below (Nat.le_refl _) HK.out.2
      obtain ⟨g, o, v, rfl, hgb, hvk, c0, c1, c2, c3, c4, c5, c6, c7⟩ := htr.1.at hlt
      obtain ⟨x, hx, hcx⟩ := htr.2.at hvk
      have HX : Hid (xs[k]? = some x ∧ ContC wr v x ∧ Small x.node) := ⟨hx, hcx, HT.out.2.1 x (List.mem_of_getElem? hx)⟩
      have HWA : Hid _ := boxK_one wr v
      have HKN : Hid (m + 1 ≤ maxLen ∧ (m + 1) * 96 ≤ 140737488355328) := ⟨by unfold maxLen; omega, Nat.le_trans (Nat.mul_le_mul_right 96 (by omega)) hn⟩
      have HFS : Hid ((xs.take (k + 1)).filter (M.stayB ts) = (xs.take k).filter (M.stayB ts) ++ (if (M.stayB ts x) then [x] else [])) := filterK_step hx (M.stayB ts)
      clear htr hvk hx hcx hgb
      go_wp2_with (fail)
      obtain ⟨q1, q2, q3⟩ := HWA.out _ rfl
      refine (fresh1_kept v x p AT nt ct ut ts _ (HX.out.2.1.below (Nat.le_refl _) q1) ((HT.out.2.2.1.below HK.out.2 HT.out.2.2.2.2).below q1 (by have := HT.out.2.2.2.2; omega)) ((HT.out.2.2.2.1.below (Nat.le_refl _) HK.out.2).below (Nat.le_refl _) q1) hnt).mono ?_
      rintro e w2 ⟨rfl, hb2⟩
      have hz2 := hb2.size
      rw [q3] at hz2
      have h12 : Below wr.heap.size wr w2 := q1.trans (hb2.mono (by omega))
      have HB2 : Hid (Below w.heap.size w w2 ∧ BoxK w2 wr.heap.size v ∧ OwnC w2 w.heap.size V m d us ((xs.take k).filter (M.stayB ts)) ∧ Below wr.heap.size wr w2) := ⟨HK.out.2.trans (h12.mono hsz), q2.below hb2 (by omega), HK.out.1.below (Nat.le_refl _) h12, h12⟩
      obtain ⟨b0, b1, b2, b3, b4, b5, b6, b7, bf, bz⟩ := HB2.out.2.1.facts
      have HFS1 := HFS
      clear q1 q2 q3 hb2 HWA h12 c0 c1 c2 c3 c4 c5 c6 c7
      obtain ⟨px, hpx⟩ : ∃ px : Bool, M.stayB ts x = px := ⟨_, rfl⟩
      rw [hpx]
      cases px
      · have HFS2 : Hid ((xs.take (k + 1)).filter (M.stayB ts) = (xs.take k).filter (M.stayB ts)) := by show _ = _; rw [HFS.out, hpx]; simp
        have HPX : Hid (M.stayB ts x = false) := hpx
        clear hpx
        go_wp2_with (fail)
        go_roundw
        case rel => exact ⟨k + 1, V, m, d, us, by omega, by omega, by go_num, rfl, (by show _ ∧ _; rw [HFS2.out]; exact ⟨HB2.out.2.2.1, HB2.out.1⟩)⟩
        case measure => simp [intOf]; omega
      · have HFS2 : Hid ((xs.take (k + 1)).filter (M.stayB ts) = (xs.take k).filter (M.stayB ts) ++ [x]) := by show _ = _; rw [HFS.out, hpx]; rfl
        have HPX : Hid (M.stayB ts x = true) := hpx
        clear hpx
        go_wp2_with (fail)
        refine (own_kept v x _ (HX.out.2.1.below (Nat.le_refl _) HB2.out.2.2.2) HX.out.2.2).mono ?_
        rintro e w3 ⟨r', rfl, hor, hb3⟩
        have hz3 := hb3.size
        have HB3 : Hid (Below w.heap.size w w3 ∧ OwnC w3 w.heap.size V m d us ((xs.take k).filter (M.stayB ts)) ∧ OwnKp w3 w.heap.size r' x) := ⟨HB2.out.1.trans (hb3.mono (by omega)), HB2.out.2.2.1.below (Nat.le_refl _) hb3, hor.mono (by omega)⟩
        have HWB : Hid _ := boxK_one w3 r'
        have hz3w : w.heap.size ≤ w3.heap.size := HB3.out.1.size
        clear hor hb3
        go_wp2_with (at_builtin; refine wpList_append_row _ (by rfl) (.tmp 17) (.tmp 20) 22 (by rfl) w.heap.size 36 iK _ 96 Try.underlying22 hiK hzK hsK hbK rfl (by decide) _ m _ (by rfl) (own_below HB3.out.2.1.1 (HWB.out _ rfl).1 (Nat.le_refl _)) (some ⟨w3.heap.size, 0, none⟩) 1 1 [r'] (by rfl) (rowK_box (HWB.out _ rfl).2.1) kept_len kept_one HKN.out.1 HKN.out.2 (Nat.le_trans hz3w (HWB.out _ rfl).1.size) ?_; intro v4 w4 hown4 hg4; obtain ⟨A4, c4', rfl, _, _⟩ := own_form hown4; have HR : Hid (OwnC w4 w.heap.size A4 (m + 1) c4' (us ++ [r']) ((xs.take (k + 1)).filter (M.stayB ts)) ∧ Below w.heap.size w w4) := ⟨by rw [HFS2.out]; exact OwnC.snoc (HB3.out.2.1.below (Nat.le_refl _) (HWB.out _ rfl).1) (HB3.out.2.2.below (Nat.le_refl _) (HWB.out _ rfl).1) (by simpa using hown4) hg4, snoc_belowK (HB3.out.1.trans ((HWB.out _ rfl).1.mono HB3.out.1.size)) (Nat.le_refl _) (own_below HB3.out.2.1.1 (HWB.out _ rfl).1 (Nat.le_refl _)) hg4⟩; clear hown4 hg4)
        go_roundw
        case rel => exact ⟨k + 1, A4, m + 1, c4', us ++ [r'], by omega, by omega, by go_num, rfl, HR⟩
        case measure => simp [intOf]; omega
    · have HE : Hid (OwnC wr w.heap.size V m d us (xs.filter (M.stayB ts)) ∧ Below w.heap.size w wr) := by
        have h := HK.out
        rw [List.take_of_length_le (by rw [← HLN.out]; omega)] at h
        exact h
      clear HK H0
      go_wp2_with (fail)
      go_ret
      exact ⟨V, m, d, us, rfl, HE.out⟩
theorem ownL_kept (A : Option Addr) (n c : Nat) (vs : List KV) (xs : List M.Kp) (w : World) (ht : TreeC w A n vs xs) (hs : ∀ x ∈ xs, Small x.node) (hn : (n + 1) * 96 ≤ 140737488355328) :
    Calls Try.prog 15 #[.slice A n c] w fun e w' => ∃ (B : Option Addr) (d : Nat) (us : List KV), e = .returned (.slice B n d) ∧ OwnC w' w.heap.size B n d us xs ∧ Below w.heap.size w w' := by
  have HT : Hid (TreeC w A n vs xs ∧ ∀ x ∈ xs, Small x.node) := ⟨ht, hs⟩
  clear ht hs
  go_enter Try.func15, Try.ntmps15
  go_wp2_with (fail)
  refine (thoseOwn_kept A n c vs xs w HT.out.1 HT.out.2 hn).mono ?_
  rintro e w1 ⟨B, m, d, us, rfl, ho, hb⟩
  have e : (xs.filter fun _ => true) = xs := List.filter_eq_self.2 (fun _ _ => rfl)
  rw [e] at ho
  obtain rfl : m = n := by rw [ho.len, HT.out.1.len]
  have HO : Hid (OwnC w1 w.heap.size B m d us xs ∧ Below w.heap.size w w1) := ⟨ho, hb⟩
  clear ho hb e
  go_wp2
  go_ret
  exact ⟨B, d, us, rfl, HO.out⟩
theorem cleanL_kept (A : Option Addr) (n c : Nat) (vs : List KV) (xs : List M.Kp) (w : World) (ht : TreeC w A n vs xs) (hs : ∀ x ∈ xs, Small x.node) (hn : (n + 1) * 96 ≤ 140737488355328) :
    Calls Try.prog 13 #[.slice A n c] w fun e w' => ∃ (B : Option Addr) (m d : Nat) (us : List KV), e = .returned (.slice B m d) ∧ OwnC w' w.heap.size B m d us (xs.filter fun x => !x.dirty) ∧ Below w.heap.size w w' := by
  have HT : Hid (TreeC w A n vs xs ∧ ∀ x ∈ xs, Small x.node) := ⟨ht, hs⟩
  clear ht hs
  go_enter Try.func13, Try.ntmps13
  go_wp2_with (fail)
  refine (thoseClean_kept A n c vs xs w HT.out.1 HT.out.2 hn).mono ?_
  rintro e w1 ⟨B, m, d, us, rfl, ho, hb⟩
  have HO : Hid (OwnC w1 w.heap.size B m d us (xs.filter fun x => !x.dirty) ∧ Below w.heap.size w w1) := ⟨ho, hb⟩
  clear ho hb
  go_wp2
  go_ret
  exact ⟨B, m, d, us, rfl, HO.out⟩
theorem freshL_kept (A : Option Addr) (n c : Nat) (vs : List KV) (xs : List M.Kp) (AT : Option Addr) (nt ct : Nat) (ut : List NV) (ts : List M.Nd) (w : World) (ht : TreeC w A n vs xs) (hs : ∀ x ∈ xs, Small x.node) (hn : (n + 1) * 96 ≤ 140737488355328) (htt : Tree w AT nt ut ts) (hnt : nt ≤ 140737488355328) :
    Calls Try.prog 7 #[.slice A n c, .slice AT nt ct] w fun e w' => ∃ (B : Option Addr) (m d : Nat) (us : List KV), e = .returned (.slice B m d) ∧ OwnC w' w.heap.size B m d us (xs.filter (M.stayB ts)) ∧ Below w.heap.size w w' := by
  have HT : Hid (TreeC w A n vs xs ∧ (∀ x ∈ xs, Small x.node) ∧ Tree w AT nt ut ts) := ⟨ht, hs, htt⟩
  have HW : Hid (∀ W, W = w.alloc (.cells #[.slice AT nt ct] 23) → Below w.heap.size w W ∧ BoxH W w.heap.size AT nt ct ∧ W.heap.size = w.heap.size + 1) := by
    rintro W rfl
    exact ⟨(Below.refl _ _).alloc (Nat.le_refl _) _, heap_alloc_new w _, by simp⟩
  clear ht hs htt
  go_enter Try.func7, Try.ntmps7
  go_wp2_with (fail)
  obtain ⟨q1, q2, q3⟩ := HW.out _ rfl
  refine (thoseFresh_kept A n c vs xs _ w.heap.size AT nt ct ut ts q2 (HT.out.2.2.below (Nat.le_refl _) q1) hnt (HT.out.1.below (Nat.le_refl _) q1) HT.out.2.1 hn).mono ?_
  rintro e w1 ⟨B, m, d, us, rfl, ho, hb⟩
  have HO : Hid (OwnC w1 w.heap.size B m d us (xs.filter (M.stayB ts)) ∧ Below w.heap.size w w1) := ⟨ho.mono (by omega), q1.trans (hb.mono (by omega))⟩
  clear ho hb q1 q2 q3 HW
  go_wp2
  go_ret
  exact ⟨B, m, d, us, rfl, HO.out⟩
end Go.Proofs.Ytjpdoblmdchmkae
/-
  A REGION THAT DRAWS THE ORDER OF MANY OPERATIONS: of each operation it is said what its value is, in words that last while memory below is as it was;
  each operation is looked at once, whatever came up before it.
-/
namespace Go.Proofs.Ytjpdoblmdchmkae
open Go.RowKit

/-- the slot of operation j -/
def slotAt (ops : Array Oper) (j : Nat) : Nat := ((ops[j]?).bind (·.dst)).getD 0
/-- each operation has a slot of its own in the frame, and waits for earlier ones alone -/
def tidy (ops : Array Oper) (size : Nat) : Bool :=
  (List.range ops.size).all fun i => match ops[i]? with
    | some o => (o.after.all fun e => decide (e.on < i)) && (match o.dst with
        | some d => decide (d < size) && ((List.range i).all fun j => ((ops[j]?).bind (·.dst)) != some d)
        | none => false)
    | none => true
/-- operation i waits for operation j -/
def waits (o : Oper) (j : Nat) : Bool := o.after.any fun e => Region.binds .any e && e.on == j
/-- slot t is no operation's -/
def apart (ops : Array Oper) (t : Nat) : Bool := ops.all fun o => o.dst != some t

theorem tidy_at {ops : Array Oper} {size i : Nat} {o : Oper} (h : tidy ops size = true) (hi : ops[i]? = some o) :
    (∀ e ∈ o.after, e.on < i) ∧ ∃ d, o.dst = some d ∧ d < size ∧ slotAt ops i = d ∧ ∀ j, j < i → ((ops[j]?).bind (·.dst)) ≠ some d := by
  unfold tidy at h
  rw [List.all_eq_true] at h
  have hlt : i < ops.size := (Array.getElem?_eq_some_iff.1 hi).1
  have h1 := h i (List.mem_range.2 hlt)
  rw [hi] at h1
  simp only [Bool.and_eq_true] at h1
  obtain ⟨h2, h3⟩ := h1
  refine ⟨fun e he => ?_, ?_⟩
  · have := Array.all_eq_true_iff_forall_mem.1 h2 e he
    simpa using this
  · cases hd : o.dst with
    | none => rw [hd] at h3; cases h3
    | some d =>
      rw [hd] at h3
      simp only [Bool.and_eq_true, decide_eq_true_eq, List.all_eq_true, List.mem_range] at h3
      refine ⟨d, rfl, h3.1, by simp [slotAt, hi, hd], fun j hj => ?_⟩
      have := h3.2 j hj
      simpa using this

theorem tidy_ne {ops : Array Oper} {size i j : Nat} {o u : Oper} (h : tidy ops size = true) (hi : ops[i]? = some o) (hj : ops[j]? = some u) (hne : i ≠ j) : slotAt ops i ≠ slotAt ops j := by
  obtain ⟨_, d, hd, _, hs, hall⟩ := tidy_at h hi
  obtain ⟨_, e, he, _, ht, hall'⟩ := tidy_at h hj
  rw [hs, ht]
  intro hde
  subst hde
  rcases Nat.lt_or_gt_of_ne hne with hl | hl
  · exact hall' i hl (by rw [hi]; exact hd)
  · exact hall j hl (by rw [hj]; exact he)

/-- what lasts while memory below is as it was -/
def Stays (p : Value → World → Prop) : Prop := ∀ v w w', Below w.heap.size w w' → p v w → p v w'

/-- the frame behind some operations of the region -/
structure Framed (ops : Array Oper) (a0 a : Act) : Prop where
  size : a.tmps.size = a0.tmps.size
  defers : a.defers = a0.defers
  keeps : ∀ t, apart ops t = true → a.eval (.tmp t) = a0.eval (.tmp t)

/-- slot t holds, when operation i comes up, what it held when the region began: whoever writes it waits for i -/
def freeFor (ops : Array Oper) (i t : Nat) : Bool := (List.range ops.size).all fun j => match ops[j]? with
  | some o => j == i || o.dst != some t || waits o i
  | none => true
structure FramedAt (ops : Array Oper) (i : Nat) (a0 a : Act) : Prop where
  size : a.tmps.size = a0.tmps.size
  defers : a.defers = a0.defers
  keeps : ∀ t, freeFor ops i t = true → a.eval (.tmp t) = a0.eval (.tmp t)
/-- the frame behind the operations that are listed; what is listed waits for nothing more -/
structure FramedBy (ops : Array Oper) (listed : Array Bool) (a0 a : Act) : Prop where
  size : a.tmps.size = a0.tmps.size
  defers : a.defers = a0.defers
  keeps : ∀ t, (∀ j o, ops[j]? = some o → listed.getD j true = true → o.dst ≠ some t) → a.eval (.tmp t) = a0.eval (.tmp t)
  closed : ∀ j o, ops[j]? = some o → listed.getD j true = true → ∀ i, waits o i = true → listed.getD i true = true
theorem FramedBy.at_ {ops : Array Oper} {listed : Array Bool} {a0 a : Act} (h : FramedBy ops listed a0 a) {i : Nat} (hi : listed.getD i true = false) : FramedAt ops i a0 a := by
  refine ⟨h.size, h.defers, fun t ht => h.keeps t fun j o hj hl hd => ?_⟩
  unfold freeFor at ht
  rw [List.all_eq_true] at ht
  have h1 := ht j (List.mem_range.2 (Array.getElem?_eq_some_iff.1 hj).1)
  simp only [hj, hd, bne_self_eq_false, Bool.or_false, Bool.or_eq_true, beq_iff_eq] at h1
  rcases h1 with h1 | h1
  · subst h1; rw [hl] at hi; cases hi
  · have := h.closed j o hj hl i h1; rw [this] at hi; cases hi
theorem FramedBy.all {ops : Array Oper} {listed : Array Bool} {a0 a : Act} (h : FramedBy ops listed a0 a) : Framed ops a0 a := by
  refine ⟨h.size, h.defers, fun t ht => h.keeps t fun j o hj _ hd => ?_⟩
  have := Array.all_eq_true_iff_forall_mem.1 ht o (Array.mem_of_getElem? hj)
  simp [hd] at this
theorem FramedBy.put {ops : Array Oper} {listed : Array Bool} {a0 a : Act} (h : FramedBy ops listed a0 a) {i : Nat} {o : Oper} (hi : ops[i]? = some o) (hsz : listed.size = ops.size)
    (hw : ∀ j, waits o j = true → listed.getD j true = true) (v : Value) : FramedBy ops (listed.setIfInBounds i true) a0 (a.put o.dst v) := by
  have hil : i < listed.size := by rw [hsz]; exact (Array.getElem?_eq_some_iff.1 hi).1
  have hself : (listed.setIfInBounds i true).getD i true = true := by simp [hil]
  have hup : ∀ j, listed.getD j true = true → (listed.setIfInBounds i true).getD j true = true := by
    intro j hj
    by_cases hji : j = i
    · rw [hji]; exact hself
    · rw [getD_set_ne true (Ne.symm hji)]; exact hj
  refine ⟨?_, ?_, fun t ht => ?_, fun j u hj hl q hq => ?_⟩
  · cases hd : o.dst <;> simp [Act.put, h.size]
  · cases hd : o.dst <;> simp [Act.put, h.defers]
  · rw [Act.eval_put, h.keeps t fun j u hj hl => ht j u hj (hup j hl)]
    intro d hd e
    injection e with e
    exact ht i o hi hself (by rw [hd, e])
  · by_cases hji : j = i
    · subst hji
      rw [hi] at hj
      injection hj with hj
      subst hj
      exact hup q (hw q hq)
    · rw [getD_set_ne true (Ne.symm hji)] at hl
      exact hup q (h.closed j u hj hl q hq)

/-- What is asked of operation i: whatever came up before it, its value is as it is said. -/
def StepAt (P : Program) (ops : Array Oper) (Q : Exit → Act → World → Prop) (a0 : Act) (w0 : World) (V : Nat → Value → World → Prop) (i : Nat) : Prop :=
  ∀ o, ops[i]? = some o → ∀ a w, FramedAt ops i a0 a → Below w0.heap.size w0 w → (∀ j, waits o j = true → V j (a.eval (.tmp (slotAt ops j))) w) →
    ∀ K : Act → World → Prop, Hid (∀ v w', Below w.heap.size w w' → V i v w' → K (a.put o.dst v) w') →
      if Region.wanted o (yielded ops a.tmps) = true then Oper.wp P o a w K Q else K (a.put o.dst undef) w

def unlisted (listed : Array Bool) : Nat := (listed.toList.filter (fun b => !b)).length

theorem unlisted_set {listed : Array Bool} {i : Nat} (h : listed.getD i true = false) : unlisted (listed.setIfInBounds i true) + 1 = unlisted listed := by
  obtain ⟨l⟩ := listed
  simp only [unlisted, Array.getD_eq_getD_getElem?, List.getElem?_toArray, List.setIfInBounds_toArray] at h ⊢
  induction l generalizing i with
  | nil => simp at h
  | cons b l ih =>
    cases i with
    | zero => simp at h; subst h; simp
    | succ i =>
      simp only [List.getElem?_cons_succ] at h
      have := ih (i := i) (by simpa using h)
      cases b <;> simp [List.set_cons_succ] at this ⊢ <;> omega

theorem wpAny_vals {P : Program} {ops : Array Oper} {Q : Exit → Act → World → Prop} {a0 : Act} {w0 : World} {V : Nat → Value → World → Prop} (ht : tidy ops a0.tmps.size = true) (hst : ∀ i, Stays (V i))
    (steps : ∀ i, i < ops.size → StepAt P ops Q a0 w0 V i)
    (last : ∀ a w, Framed ops a0 a → Below w0.heap.size w0 w → (∀ j, j < ops.size → V j (a.eval (.tmp (slotAt ops j))) w) → Q .normal a w) :
    ∀ (fuel : Nat) (listed : Array Bool) (a : Act) (w : World), listed.size = ops.size → unlisted listed ≤ fuel → FramedBy ops listed a0 a → Below w0.heap.size w0 w →
      (∀ j, j < ops.size → listed.getD j true = true → V j (a.eval (.tmp (slotAt ops j))) w) → wpAny P .any ops Q fuel listed a w := by
  have hdone : ∀ (listed : Array Bool), listed.size = ops.size → Region.ready .any ops listed = [] → ∀ j, j < ops.size → listed.getD j true = true := by
    intro listed hsz hr j
    induction j using Nat.strongRecOn with
    | ind j ih =>
      intro hj
      cases hb : listed.getD j true with
      | true => rfl
      | false =>
        have ho : ops[j]? = some ops[j] := Array.getElem?_eq_getElem hj
        have hm : j ∈ Region.ready .any ops listed := by
          rw [mem_ready]
          refine ⟨hb, _, ho, fun e he _ => ?_⟩
          have hlt := (tidy_at ht ho).1 e he
          have h1 := ih e.on hlt (by omega)
          have h2 : e.on < listed.size := by omega
          simp only [Array.getD_eq_getD_getElem?, Array.getElem?_eq_getElem h2, Option.getD_some] at h1 ⊢
          exact h1
        rw [hr] at hm
        cases hm
  intro fuel
  induction fuel with
  | zero =>
    intro listed a w hsz hu hf hb hV
    have hall : ∀ j, listed.getD j true = true := by
      intro j
      have h0 : listed.toList.filter (fun b => !b) = [] := List.eq_nil_of_length_eq_zero (by simpa [unlisted] using hu)
      rw [List.filter_eq_nil_iff] at h0
      rcases Nat.lt_or_ge j listed.size with h | h
      · have := h0 listed[j] (by simp)
        simp [h] at this ⊢
        exact this
      · simp [h]
    refine ⟨?_, last a w hf.all hb fun j hj => hV j hj (hall j)⟩
    unfold Region.ready
    rw [List.filter_eq_nil_iff]
    intro j _
    rw [hall j]
    simp
  | succ fuel ih =>
    intro listed a w hsz hu hf hb hV
    refine ⟨fun hr => last a w hf.all hb fun j hj => hV j hj (hdone listed hsz hr j hj), fun i hi => ?_⟩
    obtain ⟨hun, o, ho, hall⟩ := mem_ready.1 hi
    have hilt : i < ops.size := (Array.getElem?_eq_some_iff.1 ho).1
    obtain ⟨hback, d, hd, hdlt, hslot, _⟩ := tidy_at ht ho
    refine wpOp_step ho fun K' hK => ?_
    have hlw : ∀ j, waits o j = true → listed.getD j true = true := by
      intro j hj
      obtain ⟨e, he, hbe⟩ := Array.any_eq_true'.1 hj
      simp only [Bool.and_eq_true, beq_iff_eq] at hbe
      have h1 := hall e he hbe.1
      have h2 := hback e he
      rw [← hbe.2]
      have h3 : e.on < listed.size := by omega
      simp only [Array.getD_eq_getD_getElem?, Array.getElem?_eq_getElem h3, Option.getD_some] at h1 ⊢
      exact h1
    refine steps i hilt o ho a w (hf.at_ hun) hb ?_ K' ?_
    · intro j hj
      obtain ⟨e, he, hbe⟩ := Array.any_eq_true'.1 hj
      simp only [Bool.and_eq_true, beq_iff_eq] at hbe
      have h1 := hall e he hbe.1
      have h2 := hback e he
      rw [← hbe.2]
      refine hV e.on (by omega) ?_
      have h3 : e.on < listed.size := by omega
      simp only [Array.getD_eq_getD_getElem?, Array.getElem?_eq_getElem h3, Option.getD_some] at h1 ⊢
      exact h1
    · intro v w' hw hv
      refine hK _ _ (ih _ _ _ (by simp [hsz]) (by have := unlisted_set hun; omega) (hf.put ho hsz hlw v) (hb.trans (hw.mono hb.size)) fun j hj hl => ?_)
      by_cases hji : j = i
      · subst hji
        have : (a.put o.dst v).eval (.tmp (slotAt ops j)) = v := by
          rw [hslot, hd]
          have hlt : d < a.tmps.size := by rw [hf.size]; exact hdlt
          simp [Act.eval, Act.put, hlt]
        rw [this]
        exact hv
      · have hoj : ops[j]? = some ops[j] := Array.getElem?_eq_getElem hj
        have hne := tidy_ne ht hoj ho hji
        rw [Act.eval_put (by intro d' hd' e; injection e with e; rw [hd] at hd'; injection hd' with hd'; rw [hslot] at hne; exact hne (e.trans hd'.symm))]
        rw [getD_set_ne true (Ne.symm hji)] at hl
        exact hst j _ _ _ hw (hV j hj hl)

/-- THE RULE. -/
theorem wp_region_vals {P : Program} {ops : Array Oper} {Q : Exit → Act → World → Prop} {a0 : Act} {w0 : World} (V : Nat → Value → World → Prop) {id : Nat} (hm : P.follows .mixedOrders = true)
    (ht : tidy ops a0.tmps.size = true) (hst : ∀ i, Stays (V i)) (steps : ∀ i, i < ops.size → StepAt P ops Q a0 w0.drew V i)
    (last : ∀ a w, Framed ops a0 a → Below w0.heap.size w0 w → (∀ j, j < ops.size → V j (a.eval (.tmp (slotAt ops j))) w) → Q .normal a w) :
    (Code.region id ops true).wp P Q a0 w0 := by
  refine wp_region_any hm ?_
  refine wpAny_vals (w0 := w0.drew) ht hst steps (fun a w hf hb hv => last a w hf ((Below.refl _ _).drew.trans hb) hv) _ _ _ _ (by simp) ?_ ?_ (Below.refl _ _) ?_
  · simp [unlisted]
  · refine ⟨rfl, rfl, fun _ _ => rfl, fun j o hj hl => ?_⟩
    have hlt := (Array.getElem?_eq_some_iff.1 hj).1
    simp [hlt] at hl
  · intro j hj hl
    simp [hj] at hl
end Go.Proofs.Ytjpdoblmdchmkae
/-
  WHAT SINGLE OPERATIONS DO, for regions that draw their order (text Vals).
-/
namespace Go.Proofs.Ytjpdoblmdchmkae
open Go.RowKit

/-- the operation makes a value and a world of which R is true, by itself or by a call -/
def Does (P : Program) (o : Oper) (a : Act) (w : World) (R : Value → World → Prop) : Prop :=
  (∃ v w', (execOp a.eval o).run P w = .ok (.value v) w' ∧ R v w') ∨
  ∃ f args w', (execOp a.eval o).run P w = .ok (.enter f args) w' ∧ Calls P f args w' fun e w'' => ∃ r, e = .returned r ∧ R r w''

theorem StepAt.by {P : Program} {ops : Array Oper} {Q : Exit → Act → World → Prop} {a0 : Act} {w0 : World} {V : Nat → Value → World → Prop} {i : Nat} {o : Oper} (ho : ops[i]? = some o)
    (h : ∀ a w, FramedAt ops i a0 a → Below w0.heap.size w0 w → (∀ j, waits o j = true → V j (a.eval (.tmp (slotAt ops j))) w) →
      (Region.wanted o (yielded ops a.tmps) = true ∧ Does P o a w (fun v w' => Below w.heap.size w w' ∧ V i v w')) ∨ (Region.wanted o (yielded ops a.tmps) = false ∧ V i undef w)) : StepAt P ops Q a0 w0 V i := by
  intro o' ho' a w hf hb hd K hK
  have e : o = o' := Option.some.inj (ho.symm.trans ho')
  subst e
  rcases h a w hf hb hd with ⟨hw, hr⟩ | ⟨hw, hv⟩
  · rw [if_pos hw]
    unfold Oper.wp
    rcases hr with ⟨v, w', hr, hb', hv⟩ | ⟨f, args, w', hr, hc⟩
    · rw [hr]
      exact hK.out v w' hb' hv
    · rw [hr]
      refine Calls.mono hc ?_
      rintro e w'' ⟨r, rfl, hb', hv⟩
      exact hK.out r w'' hb' hv
  · rw [hw]
    exact hK.out undef w (Below.refl _ _) hv

/-- function f is the program's own -/
def Enters (P : Program) (f : FuncId) : Prop := ∀ args w, (callFunc f args).run P w = .ok (.enter f args) w
theorem Enters.out {P : Program} {f : FuncId} (h : Enters P f) (args : Array Value) (w : World) : (callFunc f args).run P w = .ok (.enter f args) w := h args w
theorem eval_func (a : Act) (f : FuncId) : a.eval (.func f) = .func (.func f) #[] #[] := rfl
theorem eval_const (a : Act) (v : Value) : a.eval (.const v) = v := rfl
theorem enters_of {P : Program} {f : FuncId} {fn : Func} (hf : P.funcs[f]? = some fn) (hn : (fn.name == "runtime.NumGoroutine") = false) (hb : fn.body.isNone = false) : Enters P f := by
  intro args w
  unfold callFunc
  simp only [Sem.run_bind, run_program, Result.andThen_ok, hf, hn, hb, Bool.false_eq_true, if_false]
  rfl
theorem run_call {P : Program} {ρ : Operand → Value} {w : World} {d : Option Tmp} {ty : TypeId} {pos : String} {af : Array Edge} {g : Option (Nat × Bool)} {f : FuncId} {xs : Array Operand} {us : Array Value} {ts : Array TypeId} (hcf : Enters P f) (hfn : ρ (.func f) = .func (.func f) #[] #[]) (hx : xs.map ρ = us) :
    (execOp ρ ⟨d, .call { callee := .value (.func f), args := xs, argTypes := ts }, ty, pos, af, g⟩).run P w = .ok (.enter f us) w := by
  simp [execOp, resolve, invoke, hcf.out, hfn, hx, go_sem]
theorem run_not {P : Program} {ρ : Operand → Value} {w : World} {d : Option Tmp} {ty : TypeId} {pos : String} {af : Array Edge} {g : Option (Nat × Bool)} {x : Operand} {b : Bool} {t : TypeId} (hx : ρ x = .bool b) : (execOp ρ ⟨d, .unOp .not t x, ty, pos, af, g⟩).run P w = .ok (.value (.bool !b)) w := by
  simp [execOp, hx, go_sem]
theorem run_pick {P : Program} {ρ : Operand → Value} {w : World} {d : Option Tmp} {ty : TypeId} {pos : String} {af : Array Edge} {g : Option (Nat × Bool)} {c x y : Operand} {b : Bool} (hc : ρ c = .bool b) : (execOp ρ ⟨d, .pick c x y, ty, pos, af, g⟩).run P w = .ok (.value (if b then ρ x else ρ y)) w := by
  cases b <;> simp [execOp, hc, go_sem]
theorem run_neqB {ρ : Operand → Value} {w : World} {d : Option Tmp} {ty : TypeId} {pos : String} {af : Array Edge} {g : Option (Nat × Bool)} {x y : Operand} {b c : Bool} (hx : ρ x = .bool b) (hy : ρ y = .bool c) : (execOp ρ ⟨d, .binOp .neq 4 x y 4, ty, pos, af, g⟩).run Try.prog w = .ok (.value (.bool (b != c))) w := by
  simp [execOp, hx, hy, go_sem, bne]
theorem run_neqI {ρ : Operand → Value} {w : World} {d : Option Tmp} {ty : TypeId} {pos : String} {af : Array Edge} {g : Option (Nat × Bool)} {x y : Operand} {b c : Int} (hx : ρ x = .int .i64 b) (hy : ρ y = .int .i64 c) : (execOp ρ ⟨d, .binOp .neq 3 x y 3, ty, pos, af, g⟩).run Try.prog w = .ok (.value (.bool (b != c))) w := by
  simp [execOp, hx, hy, go_sem, bne]
theorem run_load26 {ρ : Operand → Value} {w : World} {d : Option Tmp} {ty : TypeId} {pos : String} {af : Array Edge} {g : Option (Nat × Bool)} {x : Operand} {s : Nat} {v : NV} (hx : ρ x = .pointer (some ⟨s, 0, none⟩)) (hb : Box w s v) : (execOp ρ ⟨d, .load 34 x, ty, pos, af, g⟩).run Try.prog w = .ok (.value v.val) w := by
  obtain ⟨p0, p1, p2, p3, p4, pf, pz⟩ := hb.facts
  simp [execOp, hx, go_sem, p0, p1, p2, p3, p4]
section
variable {P : Program} {ops : Array Oper} {a : Act} {w : World} {R : Value → World → Prop} {d : Option Tmp} {ty : TypeId} {pos : String} {af : Array Edge} {g : Option (Nat × Bool)} {op : Op}
theorem want_none : Region.wanted ⟨d, op, ty, pos, af, none⟩ (yielded ops a.tmps) = true := rfl
theorem want_some {k t : Nat} {b want : Bool} (hk : (ops[k]?).bind (·.dst) = some t) (h : a.eval (.tmp t) = .bool b) : Region.wanted ⟨d, op, ty, pos, af, some (k, want)⟩ (yielded ops a.tmps) = (b == want) := by
  have ht : a.tmps[t]? = some (.bool b) := by
    have h : a.tmps.getD t undef = .bool b := h
    rw [Array.getD_eq_getD_getElem?] at h
    cases hx : a.tmps[t]? with
    | none => rw [hx] at h; cases h
    | some v => rw [hx] at h; exact congrArg some h
  unfold Region.wanted yielded
  simp only [hk, Option.bind_some, ht]
  cases b <;> cases want <;> rfl

theorem does_move {x : Operand} {v : Value} (hx : a.eval x = v) (h : R v w) : Does P ⟨d, .move x, ty, pos, af, g⟩ a w R := .inl ⟨_, _, rfl, by rw [hx]; exact h⟩
theorem does_assign {x : Operand} {v : Value} (hx : a.eval x = v) (h : R v w) : Does P ⟨d, .assign x, ty, pos, af, g⟩ a w R := .inl ⟨_, _, rfl, by rw [hx]; exact h⟩
theorem does_call0 {f : FuncId} {ts : Array TypeId} (hcf : Enters P f) (h : Calls P f #[] w fun e w'' => ∃ r, e = .returned r ∧ R r w'') :
    Does P ⟨d, .call { callee := .value (.func f), args := #[], argTypes := ts }, ty, pos, af, g⟩ a w R := .inr ⟨f, #[], w, run_call hcf rfl (by simp), h⟩
theorem does_call1 {f : FuncId} {x : Operand} {u : Value} {ts : Array TypeId} (hcf : Enters P f) (hx : a.eval x = u) (h : Calls P f #[u] w fun e w'' => ∃ r, e = .returned r ∧ R r w'') :
    Does P ⟨d, .call { callee := .value (.func f), args := #[x], argTypes := ts }, ty, pos, af, g⟩ a w R := .inr ⟨f, #[u], w, run_call hcf rfl (by simp [hx]), h⟩
theorem does_call2 {f : FuncId} {x y : Operand} {u v : Value} {ts : Array TypeId} (hcf : Enters P f) (hx : a.eval x = u) (hy : a.eval y = v) (h : Calls P f #[u, v] w fun e w'' => ∃ r, e = .returned r ∧ R r w'') :
    Does P ⟨d, .call { callee := .value (.func f), args := #[x, y], argTypes := ts }, ty, pos, af, g⟩ a w R := .inr ⟨f, #[u, v], w, run_call hcf rfl (by simp [hx, hy]), h⟩
theorem does_call3 {f : FuncId} {x y z : Operand} {u v t : Value} {ts : Array TypeId} (hcf : Enters P f) (hx : a.eval x = u) (hy : a.eval y = v) (hz : a.eval z = t) (h : Calls P f #[u, v, t] w fun e w'' => ∃ r, e = .returned r ∧ R r w'') :
    Does P ⟨d, .call { callee := .value (.func f), args := #[x, y, z], argTypes := ts }, ty, pos, af, g⟩ a w R := .inr ⟨f, #[u, v, t], w, run_call hcf rfl (by simp [hx, hy, hz]), h⟩
theorem does_not {x : Operand} {b : Bool} {t : TypeId} (hx : a.eval x = .bool b) (h : R (.bool !b) w) : Does P ⟨d, .unOp .not t x, ty, pos, af, g⟩ a w R := .inl ⟨_, _, run_not hx, h⟩
theorem does_pick {c x y : Operand} {b : Bool} {v : Value} (hc : a.eval c = .bool b) (hv : (if b then a.eval x else a.eval y) = v) (h : R v w) : Does P ⟨d, .pick c x y, ty, pos, af, g⟩ a w R := .inl ⟨_, _, run_pick hc, by rw [hv]; exact h⟩
end
theorem does_neqB {a : Act} {w : World} {R : Value → World → Prop} {d : Option Tmp} {ty : TypeId} {pos : String} {af : Array Edge} {g : Option (Nat × Bool)} {x y : Operand} {b c : Bool} (hx : a.eval x = .bool b) (hy : a.eval y = .bool c) (h : R (.bool (b != c)) w) : Does Try.prog ⟨d, .binOp .neq 4 x y 4, ty, pos, af, g⟩ a w R := .inl ⟨_, _, run_neqB hx hy, h⟩
theorem does_neqI {a : Act} {w : World} {R : Value → World → Prop} {d : Option Tmp} {ty : TypeId} {pos : String} {af : Array Edge} {g : Option (Nat × Bool)} {x y : Operand} {b c : Int} (hx : a.eval x = .int .i64 b) (hy : a.eval y = .int .i64 c) (h : R (.bool (b != c)) w) : Does Try.prog ⟨d, .binOp .neq 3 x y 3, ty, pos, af, g⟩ a w R := .inl ⟨_, _, run_neqI hx hy, h⟩
theorem does_load26 {a : Act} {w : World} {R : Value → World → Prop} {d : Option Tmp} {ty : TypeId} {pos : String} {af : Array Edge} {g : Option (Nat × Bool)} {x : Operand} {s : Nat} {v : NV} (hx : a.eval x = .pointer (some ⟨s, 0, none⟩)) (hb : Box w s v) (h : R v.val w) : Does Try.prog ⟨d, .load 34 x, ty, pos, af, g⟩ a w R := .inl ⟨_, _, run_load26 hx hb, h⟩
end Go.Proofs.Ytjpdoblmdchmkae
/-
  WHAT SINGLE OPERATIONS DO, further: indices, numbers, loads (for regions that draw their order).
-/
namespace Go.Proofs.Ytjpdoblmdchmkae
open Go.RowKit

theorem does_run {a : Act} {w w' : World} {R : Value → World → Prop} {o : Oper} {v : Value} (h : (execOp a.eval o).run Try.prog w = .ok (.value v) w') (hR : R v w') : Does Try.prog o a w R := .inl ⟨v, w', h, hR⟩
/-- the value is this -/
def IsW (c : Value) : Value → World → Prop := fun v _ => v = c
theorem want_undef {ops : Array Oper} {a : Act} {d : Option Tmp} {ty : TypeId} {pos : String} {af : Array Edge} {op : Op} {k t : Nat} {want : Bool} (hk : (ops[k]?).bind (·.dst) = some t) (h : a.eval (.tmp t) = undef) : Region.wanted ⟨d, op, ty, pos, af, some (k, want)⟩ (yielded ops a.tmps) = false := by
  have ht : a.tmps[t]? = some undef ∨ a.tmps[t]? = none := by
    have h : a.tmps.getD t undef = undef := h
    rw [Array.getD_eq_getD_getElem?] at h
    cases hx : a.tmps[t]? with
    | none => exact .inr rfl
    | some v => rw [hx] at h; exact .inl (congrArg some h)
  unfold Region.wanted yielded
  simp only [hk, Option.bind_some]
  rcases ht with ht | ht
  · rw [ht]; rfl
  · rw [ht]; rfl

section
variable {w : World} {R : Value → World → Prop} {d : Option Tmp} {ty : TypeId} {pos : String} {af : Array Edge} {g : Option (Nat × Bool)} {x y : Operand}
theorem run_eqI {ρ : Operand → Value} {b c : Int} (hx : ρ x = .int .i64 b) (hy : ρ y = .int .i64 c) : (execOp ρ ⟨d, .binOp .eql 3 x y 3, ty, pos, af, g⟩).run Try.prog w = .ok (.value (.bool (b == c))) w := by
  simp [execOp, hx, hy, go_sem]
theorem run_lssI {ρ : Operand → Value} {b c : Int} (hx : ρ x = .int .i64 b) (hy : ρ y = .int .i64 c) : (execOp ρ ⟨d, .binOp .lss 3 x y 3, ty, pos, af, g⟩).run Try.prog w = .ok (.value (.bool (decide (b < c)))) w := by
  simp [execOp, hx, hy, go_sem]
theorem run_gtrI {ρ : Operand → Value} {b c : Int} (hx : ρ x = .int .i64 b) (hy : ρ y = .int .i64 c) : (execOp ρ ⟨d, .binOp .gtr 3 x y 3, ty, pos, af, g⟩).run Try.prog w = .ok (.value (.bool (decide (c < b)))) w := by
  simp [execOp, hx, hy, go_sem]
theorem run_addN {ρ : Operand → Value} {m k : Nat} (hx : ρ x = .int .i64 (m : Int)) (hy : ρ y = .int .i64 (k : Int)) (h : m + k ≤ 9223372036854775807) : (execOp ρ ⟨d, .binOp .add 3 x y 3, ty, pos, af, g⟩).run Try.prog w = .ok (.value (.int .i64 ((m + k : Nat) : Int))) w := by
  have h1 : (m : Int) + (k : Int) ≤ 9223372036854775807 := by omega
  have h2 : (-9223372036854775808 : Int) ≤ (m : Int) + (k : Int) := by omega
  simp [execOp, hx, hy, go_sem, IntWalk.i64_in _ ⟨h2, h1⟩]
theorem run_subN {ρ : Operand → Value} {m k : Nat} (hx : ρ x = .int .i64 (m : Int)) (hy : ρ y = .int .i64 (k : Int)) (h : k ≤ m) (hm : m ≤ 9223372036854775807) : (execOp ρ ⟨d, .binOp .sub 3 x y 3, ty, pos, af, g⟩).run Try.prog w = .ok (.value (.int .i64 ((m - k : Nat) : Int))) w := by
  have h1 : (m : Int) - (k : Int) ≤ 9223372036854775807 := by omega
  have h2 : (-9223372036854775808 : Int) ≤ (m : Int) - (k : Int) := by omega
  have h3 : ((m - k : Nat) : Int) = (m : Int) - (k : Int) := by omega
  rw [h3]
  simp [execOp, hx, hy, go_sem, IntWalk.i64_in _ ⟨h2, h1⟩]
theorem run_lenS {ρ : Operand → Value} {A : Option Addr} {n c : Nat} {t : TypeId} (h : Try.prog.underlying t = some (.slice (Try.prog.elem t))) (hx : ρ x = .slice A n c) : (execOp ρ ⟨d, .call { callee := .builtin .len, args := #[x], argTypes := #[t] }, ty, pos, af, g⟩).run Try.prog w = .ok (.value (.int .i64 (n : Int))) w := by
  have hl := run_len_slice (P := Try.prog) (w := w) t ty A n c h
  clear h
  simp [hx, go_sem, hl]
end
section
variable {a : Act} {w : World} {R : Value → World → Prop} {d : Option Tmp} {ty : TypeId} {pos : String} {af : Array Edge} {g : Option (Nat × Bool)}
theorem run_load3 {ρ : Operand → Value} {x : Operand} {p : Addr} {i : Int} (hx : ρ x = .pointer (some p)) (hc : w.cell? p = some (.int .i64 i)) : (execOp ρ ⟨d, .load 3 x, ty, pos, af, g⟩).run Try.prog w = .ok (.value (.int .i64 i)) w := by
  simp [execOp, hx, go_sem, hc]
theorem run_load9 {ρ : Operand → Value} {x : Operand} {p : Addr} {s : ByteArray} (hx : ρ x = .pointer (some p)) (hc : w.cell? p = some (.string s)) : (execOp ρ ⟨d, .load 9 x, ty, pos, af, g⟩).run Try.prog w = .ok (.value (.string s)) w := by
  simp [execOp, hx, go_sem, hc]
end
end Go.Proofs.Ytjpdoblmdchmkae
/-
  WHAT SINGLE OPERATIONS DO, further: nodes that are kept (for regions that draw their order).
-/
namespace Go.Proofs.Ytjpdoblmdchmkae
open Go.RowKit
/-- cells of one that is kept, that begins here -/
def KeptAt (w : World) (b o : Nat) (r : KV) : Prop := ∀ i c, (KV.cells r)[i]? = some c → w.cell? ⟨b, o + i, none⟩ = some c
theorem KeptAt.below {w w' : World} {b o B : Nat} {r : KV} (h : KeptAt w b o r) (hb : Below B w w') (hs : b < B) : KeptAt w' b o r := fun i c hc => by
  rw [hb.cell (p := ⟨b, o + i, none⟩) hs]; exact h i c hc
theorem keptAt_of {w : World} {b o n : Nat} {vs : List KV} (h : Row 8 KV.cells w (some ⟨b, o, none⟩) n vs) {j : Nat} {v : KV} (hv : vs[j]? = some v) : KeptAt w b (o + j * 8) v := by
  have hj : j < n := by rw [h.1]; exact (List.getElem?_eq_some_iff.1 hv).1
  obtain ⟨b', o', v', e, _, hv', hc⟩ := Row.at h hj
  cases e
  rw [hv] at hv'
  cases hv'
  exact hc
theorem keptAt_box {w : World} {g : Nat} {v : KV} (h : BoxK w g v) : KeptAt w g 0 v := by
  obtain ⟨b0, b1, b2, b3, b4, b5, b6, b7, bf, bz⟩ := h.facts
  intro i c hi
  rw [Nat.zero_add]
  match i, hi with
  | 0, hi => cases hi; exact b0
  | 1, hi => cases hi; exact b1
  | 2, hi => cases hi; exact b2
  | 3, hi => cases hi; exact b3
  | 4, hi => cases hi; exact b4
  | 5, hi => cases hi; exact b5
  | 6, hi => cases hi; exact b6
  | 7, hi => cases hi; exact b7
  | i + 8, hi => cases hi
section
variable {w : World} {d : Option Tmp} {ty : TypeId} {pos : String} {af : Array Edge} {g : Option (Nat × Bool)} {x y : Operand}
theorem run_indexK {ρ : Operand → Value} {b o n c k : Nat} (hx : ρ x = .slice (some ⟨b, o, none⟩) n c) (hy : ρ y = .int .i64 (k : Int)) (hk : k < n) : (execOp ρ ⟨d, .indexAddr 22 x y, ty, pos, af, g⟩).run Try.prog w = .ok (.value (.pointer (some ⟨b, o + k * 8, none⟩))) w := by
  have h1 : (k : Int) < (n : Int) := by omega
  have h0 : (0 : Int) ≤ (k : Int) := by omega
  simp [execOp, hx, hy, go_sem, h1]
theorem run_fieldK0 {ρ : Operand → Value} {s o : Nat} (hx : ρ x = .pointer (some ⟨s, o, none⟩)) : (execOp ρ ⟨d, .fieldAddr 36 x 0, ty, pos, af, g⟩).run Try.prog w = .ok (.value (.pointer (some ⟨s, o, none⟩))) w := by simp [execOp, hx, go_sem]
theorem run_fieldK1 {ρ : Operand → Value} {s o : Nat} (hx : ρ x = .pointer (some ⟨s, o, none⟩)) : (execOp ρ ⟨d, .fieldAddr 36 x 1, ty, pos, af, g⟩).run Try.prog w = .ok (.value (.pointer (some ⟨s, o + 5, none⟩))) w := by simp [execOp, hx, go_sem]
theorem run_fieldK2 {ρ : Operand → Value} {s o : Nat} (hx : ρ x = .pointer (some ⟨s, o, none⟩)) : (execOp ρ ⟨d, .fieldAddr 36 x 2, ty, pos, af, g⟩).run Try.prog w = .ok (.value (.pointer (some ⟨s, o + 6, none⟩))) w := by simp [execOp, hx, go_sem]
theorem run_fieldK3 {ρ : Operand → Value} {s o : Nat} (hx : ρ x = .pointer (some ⟨s, o, none⟩)) : (execOp ρ ⟨d, .fieldAddr 36 x 3, ty, pos, af, g⟩).run Try.prog w = .ok (.value (.pointer (some ⟨s, o + 7, none⟩))) w := by simp [execOp, hx, go_sem]
theorem run_fieldN0 {ρ : Operand → Value} {s o : Nat} (hx : ρ x = .pointer (some ⟨s, o, none⟩)) : (execOp ρ ⟨d, .fieldAddr 34 x 0, ty, pos, af, g⟩).run Try.prog w = .ok (.value (.pointer (some ⟨s, o, none⟩))) w := by simp [execOp, hx, go_sem]
theorem run_fieldN4 {ρ : Operand → Value} {s o : Nat} (hx : ρ x = .pointer (some ⟨s, o, none⟩)) : (execOp ρ ⟨d, .fieldAddr 34 x 4, ty, pos, af, g⟩).run Try.prog w = .ok (.value (.pointer (some ⟨s, o + 4, none⟩))) w := by simp [execOp, hx, go_sem]
theorem run_load4 {ρ : Operand → Value} {p : Addr} {b : Bool} (hx : ρ x = .pointer (some p)) (hc : w.cell? p = some (.bool b)) : (execOp ρ ⟨d, .load 4 x, ty, pos, af, g⟩).run Try.prog w = .ok (.value (.bool b)) w := by
  simp [execOp, hx, go_sem, hc]
theorem run_loadKp {ρ : Operand → Value} {b o : Nat} {v : KV} (hx : ρ x = .pointer (some ⟨b, o, none⟩)) (h : KeptAt w b o v) : (execOp ρ ⟨d, .load 36 x, ty, pos, af, g⟩).run Try.prog w = .ok (.value v.val) w := by
  have c0 := h 0 _ rfl
  have c1 := h 1 _ rfl
  have c2 := h 2 _ rfl
  have c3 := h 3 _ rfl
  have c4 := h 4 _ rfl
  have c5 := h 5 _ rfl
  have c6 := h 6 _ rfl
  have c7 := h 7 _ rfl
  simp only [Nat.add_zero] at c0
  simp [execOp, hx, go_sem, c0, c1, c2, c3, c4, c5, c6, c7]
end
end Go.Proofs.Ytjpdoblmdchmkae
/-
  THE FRAME behind a region that draws its order, written out.
-/
namespace Go.Proofs.Ytjpdoblmdchmkae
open Go.RowKit

/-- the frame behind a region: slots for which wr is true hold something -/
def overL (wr : Nat → Bool) (a : Act) : Nat → List Value → List Value
  | _, [] => []
  | t, v :: vs => (match wr t with | true => a.eval (.tmp t) | false => v) :: overL wr a (t + 1) vs
theorem overL_len (wr : Nat → Bool) (a : Act) : ∀ (l : List Value) (t : Nat), (overL wr a t l).length = l.length
  | [], _ => rfl
  | _ :: l, t => by simp [overL, overL_len wr a l (t + 1)]
theorem overL_get (wr : Nat → Bool) (a : Act) : ∀ (l : List Value) (t i : Nat) (v : Value), l[i]? = some v → (overL wr a t l)[i]? = some (match wr (t + i) with | true => a.eval (.tmp (t + i)) | false => v)
  | [], _, _, _, h => by cases h
  | x :: l, t, 0, v, h => by
    simp at h
    subst h
    simp [overL]
  | x :: l, t, i + 1, v, h => by
    simp only [List.getElem?_cons_succ] at h
    have := overL_get wr a l (t + 1) i v h
    simp only [overL, List.getElem?_cons_succ]
    rw [this, show t + 1 + i = t + (i + 1) by omega]
theorem Framed.lit {ops : Array Oper} {a0 a : Act} (hf : Framed ops a0 a) (wr : Nat → Bool) (hw : (ops.all fun o => match o.dst with | some d => wr d | none => true) = true) : a = ⟨(overL wr a 0 a0.tmps.toList).toArray, a0.defers⟩ := by
  have hs : a.tmps = (overL wr a 0 a0.tmps.toList).toArray := by
    apply Array.ext_getElem?
    intro i
    have hr : (overL wr a 0 a0.tmps.toList).toArray[i]? = (overL wr a 0 a0.tmps.toList)[i]? := by simp
    rw [hr]
    rcases Nat.lt_or_ge i a0.tmps.size with hi | hi
    · have h0 : a0.tmps.toList[i]? = some a0.tmps[i] := by rw [Array.getElem?_toList]; exact Array.getElem?_eq_getElem hi
      rw [overL_get wr a _ 0 i _ h0, Nat.zero_add]
      have hi' : i < a.tmps.size := by rw [hf.size]; exact hi
      have hev : a.eval (.tmp i) = a.tmps[i] := by simp [Act.eval, hi']
      rw [Array.getElem?_eq_getElem hi']
      cases hwi : wr i with
      | true => rw [← hev]
      | false =>
        have hap : apart ops i = true := by
          unfold apart
          rw [Array.all_eq_true_iff_forall_mem] at hw ⊢
          intro o ho
          have := hw o ho
          cases hd : o.dst with
          | none => rfl
          | some d =>
            rw [hd] at this
            simp only at this
            simp only [bne_iff_ne, ne_eq, Option.some.injEq]
            intro e
            subst e
            rw [hwi] at this
            cases this
        have := hf.keeps i hap
        rw [hev] at this
        rw [this]
        simp [Act.eval, hi]
    · rw [Array.getElem?_eq_none (by rw [hf.size]; exact hi), List.getElem?_eq_none (by rw [overL_len]; simpa using hi)]
  have hd := hf.defers
  cases a
  simp only at hs hd
  subst hd
  rw [Act.mk.injEq]
  exact ⟨hs, rfl⟩

end Go.Proofs.Ytjpdoblmdchmkae
