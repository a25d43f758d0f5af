/-
  Same: trees alike in all but their versions.
-/
import Derived.Test.YtkdpdgbacladhaaReadb
namespace Go.Proofs.Ytkdpdgbacladhaa
open Go.RowKit

set_option maxHeartbeats 400000 in
theorem same1_any (v u : NV) (x y : M.Nd) (w : World) (hx : Cont w v x) (hy : Cont w u y) (sx : Small x) (sy : Small y) :
    Calls Try.prog 44 #[v.val, u.val] w fun e w' => e = .returned (.bool (alike x y)) ∧ Below w.heap.size w w' := by
  have hwa : Below w.heap.size w ((w.alloc (.cells #[.int .i64 v.fid, .bool v.dir, .slice v.dA v.dn v.dc, .slice v.eA v.en v.ec, .int .i64 v.ver] 26)).alloc (.cells #[.int .i64 u.fid, .bool u.dir, .slice u.dA u.dn u.dc, .slice u.eA u.en u.ec, .int .i64 u.ver] 26)) := ((Below.refl _ _).alloc (Nat.le_refl _) _).alloc (by simp) _
  have HX : Hid (Cont _ v x ∧ Small x) := ⟨hx.below (Nat.le_refl _) hwa, sx⟩
  have HY : Hid (Cont _ u y ∧ Small y) := ⟨hy.below (Nat.le_refl _) hwa, sy⟩
  have HF : Hid ((v.fid = x.fid ∧ v.dir = x.dir) ∧ (u.fid = y.fid ∧ u.dir = y.dir)) := ⟨⟨hx.1, hx.2.1⟩, ⟨hy.1, hy.2.1⟩⟩
  clear hx hy sx sy
  by_cases h1 : v.fid = u.fid
  · have q1 : (v.fid == u.fid) = true := by simp [h1]
    have H1 : Hid (v.fid = u.fid) := h1
    clear h1
    by_cases h2 : v.dir = u.dir
    · have q2 : (v.dir == u.dir) = true := by simp [h2]
      have H2 : Hid (v.dir = u.dir) := h2
      clear h2
      have hb : ∀ (b : Bool), Hid (decide (x.data = y.data) = b) → Hid (alike x y = (b && decide (x.ents = y.ents))) := fun b h => by
        show _ = _
        unfold alike
        rw [h.out, ← HF.out.1.1, ← HF.out.1.2, ← HF.out.2.1, ← HF.out.2.2, decide_eq_true H1.out, decide_eq_true H2.out]
        rfl
      by_cases h3 : x.data = y.data
      · have HA := hb true (decide_eq_true h3)
        have H3 : Hid (x.data = y.data) := h3
        clear h3 hb
        go_enter Try.func44, Try.ntmps44
        go_wp2_with (first
          | (go_at_call 45; refine (bytesEq_any _ _ _ _ _ _ x.data y.data _ HX.out.1.2.2.2.1 HY.out.1.2.2.2.1).mono ?_; rintro e w1 ⟨rfl, hw⟩; rw [hw]; clear hw; rw [decide_eq_true H3.out])
          | (go_at_call 46; refine (entsEq_any _ _ _ _ _ _ x.ents y.ents _ HX.out.1.2.2.2.2 HY.out.1.2.2.2.2 (by have := HX.out.2.2; have := HX.out.1.2.2.2.2.1; omega) (by have := HY.out.2.2; have := HY.out.1.2.2.2.2.1; omega)).mono ?_; rintro e w2 ⟨rfl, q, hw⟩; rw [hw]; clear hw))
        go_ret
        exact ⟨ret_bool HA.out.symm, below_drewN hwa q⟩
      · have HA := hb false (decide_eq_false h3)
        have H3 : Hid (x.data ≠ y.data) := h3
        clear h3 hb
        go_enter Try.func44, Try.ntmps44
        go_wp2_with (first
          | (go_at_call 45; refine (bytesEq_any _ _ _ _ _ _ x.data y.data _ HX.out.1.2.2.2.1 HY.out.1.2.2.2.1).mono ?_; rintro e w1 ⟨rfl, hw⟩; rw [hw]; clear hw; rw [decide_eq_false H3.out]))
        go_ret
        exact ⟨ret_bool HA.out.symm, hwa⟩
    · have q2 : (v.dir == u.dir) = false := by simp [h2]
      have HA : Hid (alike x y = false) := by
        show _ = _
        unfold alike
        rw [← HF.out.1.2, ← HF.out.2.2, decide_eq_false h2]; simp
      clear h2
      go_enter Try.func44, Try.ntmps44
      go_wp2
      go_ret
      exact ⟨ret_bool HA.out.symm, hwa⟩
  · have q1 : (v.fid == u.fid) = false := by simp [h1]
    have HA : Hid (alike x y = false) := by
      show _ = _
      unfold alike
      rw [← HF.out.1.1, ← HF.out.2.1, decide_eq_false h1]; simp
    clear h1
    go_enter Try.func44, Try.ntmps44
    go_wp2
    go_ret
    exact ⟨ret_bool HA.out.symm, hwa⟩

set_option maxHeartbeats 400000 in
theorem equalF_any (A B : Option Addr) (n m ca cb : Nat) (vs us : List NV) (xs ys : List M.Nd) (w : World) (hx : Tree w A n vs xs) (hy : Tree w B m us ys) (hn : n * 72 ≤ 140737488355328) (hm : m * 72 ≤ 140737488355328) (sx : ∀ x ∈ xs, Small x) (sy : ∀ y ∈ ys, Small y) :
    Calls Try.prog 43 #[.slice A n ca, .slice B m cb, .func (.func 44) #[] #[]] w fun e w' => e = .returned (.bool (allB alike xs ys)) ∧ Below w.heap.size w w' := by
  have HS : Hid ((∀ x ∈ xs, Small x) ∧ (∀ y ∈ ys, Small y)) := ⟨sx, sy⟩
  clear sx sy
  by_cases hnm : n = m
  · subst hnm
    go_enter Try.func43, Try.ntmps43
    go_wp2
    go_loopw [17] (fun i wr => ∃ k : Nat, k ≤ n ∧ i = .int .i64 k ∧ allB alike (xs.take k) (ys.take k) = true ∧ Below w.heap.size w wr) (fun i _ => n - (intOf i).toNat)
    case atStart => exact ⟨0, Nat.zero_le _, rfl, rfl, Below.refl _ _⟩
    case round =>
      obtain ⟨k, hk, rfl, heq, hb⟩ := hrel
      have HE : Hid (allB alike (xs.take k) (ys.take k) = true) := heq
      clear heq
      have hsz := hb.size
      by_cases hlt : k < n
      · have hxr := hx.below (Nat.le_refl _) hb
        have hyr := hy.below (Nat.le_refl _) hb
        obtain ⟨b, o, v, rfl, _, hvk, a0, a1, a2, a3, a4⟩ := hxr.1.at hlt
        obtain ⟨b2, o2, u, rfl, _, huk, c0, c1, c2, c3, c4⟩ := hyr.1.at hlt
        obtain ⟨x, hxk, hcx⟩ := hxr.2.at hvk
        obtain ⟨y, hyk, hcy⟩ := hyr.2.at huk
        have hwa : Below wr.heap.size wr ((wr.alloc (.cells #[.int .i64 v.fid, .bool v.dir, .slice v.dA v.dn v.dc, .slice v.eA v.en v.ec, .int .i64 v.ver] 26)).alloc (.cells #[.int .i64 u.fid, .bool u.dir, .slice u.dA u.dn u.dc, .slice u.eA u.en u.ec, .int .i64 u.ver] 26)) := ((Below.refl _ _).alloc (Nat.le_refl _) _).alloc (by simp) _
        have HX : Hid (Cont wr v x ∧ Small x ∧ xs[k]? = some x) := ⟨hcx, HS.out.1 x (List.mem_of_getElem? hxk), hxk⟩
        have HY : Hid (Cont wr u y ∧ Small y ∧ ys[k]? = some y) := ⟨hcy, HS.out.2 y (List.mem_of_getElem? hyk), hyk⟩
        have HL : Hid ((xs.take k).length = (ys.take k).length) := by
          show _ = _
          rw [List.length_take, List.length_take, ← hx.2.1, ← hy.2.1, ← hx.1.1, ← hy.1.1]
        clear hxk hyk hvk huk hcx hcy hxr hyr
        cases hal : alike x y
        · go_wp2_with (go_at_call 44; refine (same1_any v u x y _ (HX.out.1.below (Nat.le_refl _) hwa) (HY.out.1.below (Nat.le_refl _) hwa) HX.out.2.1 HY.out.2.1).mono ?_; rintro e w1 ⟨rfl, hb1⟩; rw [hal])
          go_ret
          exact ⟨ret_bool (allB_no HX.out.2.2 HY.out.2.2 hal).symm, (hb.trans (hwa.mono hsz)).trans (hb1.mono (by simp; omega))⟩
        · go_wp2_with (go_at_call 44; refine (same1_any v u x y _ (HX.out.1.below (Nat.le_refl _) hwa) (HY.out.1.below (Nat.le_refl _) hwa) HX.out.2.1 HY.out.2.1).mono ?_; rintro e w1 ⟨rfl, hb1⟩; rw [hal])
          go_roundw
          case rel => exact ⟨k + 1, by omega, by go_num, by rw [take_step HX.out.2.2, take_step HY.out.2.2, allB_snoc HL.out, HE.out, hal]; rfl, (hb.trans (hwa.mono hsz)).trans (hb1.mono (by simp; omega))⟩
          case measure => simp [intOf]; omega
      · have HN : Hid (xs.length ≤ k ∧ ys.length ≤ k) := by show _ ∧ _; rw [← hx.2.1, ← hy.2.1, ← hx.1.1, ← hy.1.1]; omega
        go_wp2
        go_ret
        exact ⟨ret_bool (by
          have e := HE.out
          rw [List.take_of_length_le HN.out.1, List.take_of_length_le HN.out.2] at e
          exact e.symm), hb⟩
  · have HN : Hid (xs.length ≠ ys.length) := by show _ ≠ _; rw [← hx.2.1, ← hy.2.1, ← hx.1.1, ← hy.1.1]; exact hnm
    go_enter Try.func43, Try.ntmps43
    go_wp2
    go_ret
    exact ⟨ret_bool (allB_len HN.out).symm, Below.refl _ _⟩

theorem same_any (A B : Option Addr) (n m ca cb : Nat) (vs us : List NV) (xs ys : List M.Nd) (w : World) (hx : Tree w A n vs xs) (hy : Tree w B m us ys) (hn : n * 72 ≤ 140737488355328) (hm : m * 72 ≤ 140737488355328) (sx : ∀ x ∈ xs, Small x) (sy : ∀ y ∈ ys, Small y) :
    Calls Try.prog 19 #[.slice A n ca, .slice B m cb] w fun e w' => e = .returned (.bool (allB alike xs ys)) ∧ Below w.heap.size w w' := by
  go_enter Try.func19, Try.ntmps19
  go_wp2_with (go_at_call 43; refine (equalF_any A B n m ca cb vs us xs ys _ hx hy hn hm sx sy).mono ?_; rintro e w1 ⟨rfl, hb1⟩)
  go_ret
  exact ⟨rfl, hb1⟩
end Go.Proofs.Ytkdpdgbacladhaa
