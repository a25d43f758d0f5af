/-
  THE REFERENCE's Same (of lists of nodes).
-/
import Derived.Test.YtlegjdlmcphhlabRises
import Derived.Test.YtlegjdlmcphhlabPlainb
namespace Go.Proofs.Ytlegjdlmcphhlab
open Go.RowKit

set_option maxHeartbeats 2000000 in
theorem refSame_any (A B : Option Addr) (n m ca cb : Nat) (vs us : List NV) (xs ys : List M.Nd) (vb : Bool) (w : World) (hx : Tree w A n vs xs) (hy : Tree w B m us ys) (hn : n * 72 ≤ 140737488355328) (hm : m * 72 ≤ 140737488355328) (sx : ∀ x ∈ xs, Small x) (sy : ∀ y ∈ ys, Small y) :
    Calls Try.prog 12 #[.slice A n ca, .slice B m cb, .bool vb] w fun e w' => e = .returned (.bool (allB (sameNd vb) xs ys)) ∧ Below w.heap.size w w' := by
  have HS : Hid ((∀ x ∈ xs, Small x) ∧ (∀ y ∈ ys, Small y)) := ⟨sx, sy⟩
  have HT : Hid (Tree w A n vs xs ∧ Tree w B m us ys) := ⟨hx, hy⟩
  clear sx sy
  by_cases hnm : n = m
  · subst hnm
    have q0 : ((n : Int) == (n : Int)) = true := by simp
    have q1 : ((n : Int) != (n : Int)) = false := by simp
    clear hx hy
    go_enter Try.func12, Try.ntmps12
    go_wp2
    go_loopw [15] (fun i wr => ∃ k : Nat, k ≤ n ∧ i = .int .i64 k ∧ Hid (allB (sameNd vb) (xs.take k) (ys.take k) = true) ∧ Below w.heap.size w wr) (fun i _ => n - (intOf i).toNat)
    case atStart => exact ⟨0, Nat.zero_le _, rfl, rfl, Below.refl _ _⟩
    case round =>
      obtain ⟨k, hk, rfl, HE, hb⟩ := hrel
      have hsz := hb.size
      by_cases hlt : k < n
      · have hxr := HT.out.1.below (Nat.le_refl _) hb
        have hyr := HT.out.2.below (Nat.le_refl _) hb
        obtain ⟨b, o, v, rfl, _, hvk, a0, a1, a2, a3, a4⟩ := hxr.1.at hlt
        obtain ⟨b2, o2, u, rfl, _, huk, c0, c1, c2, c3, c4⟩ := hyr.1.at hlt
        obtain ⟨x, hxk, hcx⟩ := hxr.2.at hvk
        obtain ⟨y, hyk, hcy⟩ := hyr.2.at huk
        have HX : Hid (Cont wr v x ∧ Small x ∧ xs[k]? = some x) := ⟨hcx, HS.out.1 x (List.mem_of_getElem? hxk), hxk⟩
        have HY : Hid (Cont wr u y ∧ Small y ∧ ys[k]? = some y) := ⟨hcy, HS.out.2 y (List.mem_of_getElem? hyk), hyk⟩
        have HL : Hid ((xs.take k).length = (ys.take k).length) := by
          show _ = _
          rw [List.length_take, List.length_take, ← HT.out.1.2.1, ← HT.out.2.2.1, ← HT.out.1.1.1, ← HT.out.2.1.1]
        have hkn : (k : Int) < (n : Int) := by omega
        have hk0 : (0 : Int) ≤ (k : Int) := by omega
        clear hxk hyk hvk huk hcx hcy hxr hyr
        cases hal : sameNd vb x y
        · have HAL : Hid (sameNd vb x y = false) := hal
          clear hal
          go_wp2
          go_region_with (go_at_call 16; refine (sameNode_any v u x y vb _ (HX.out.1.below (Nat.le_refl _) ((Below.refl _ _).drew)) (HY.out.1.below (Nat.le_refl _) ((Below.refl _ _).drew)) HX.out.2.1 HY.out.2.1).mono ?_; rintro e w1 ⟨rfl, hb1⟩; rw [HAL.out]; have H1 : Hid (Below w.heap.size w w1) := hb.drew.trans (hb1.mono hsz); clear hb1)
          all_goals
            go_wp2
            go_ret
            exact ⟨ret_bool (allB_no HX.out.2.2 HY.out.2.2 HAL.out).symm, H1.out⟩
        · have HAL : Hid (sameNd vb x y = true) := hal
          clear hal
          go_wp2
          go_region_with (go_at_call 16; refine (sameNode_any v u x y vb _ (HX.out.1.below (Nat.le_refl _) ((Below.refl _ _).drew)) (HY.out.1.below (Nat.le_refl _) ((Below.refl _ _).drew)) HX.out.2.1 HY.out.2.1).mono ?_; rintro e w1 ⟨rfl, hb1⟩; rw [HAL.out]; have H1 : Hid (Below w.heap.size w w1) := hb.drew.trans (hb1.mono hsz); clear hb1)
          all_goals
            go_wp2
            go_roundw
            case rel => exact ⟨k + 1, by omega, by go_num, by show _ = true; rw [take_step HX.out.2.2, take_step HY.out.2.2, allB_snoc HL.out, HE.out, HAL.out]; rfl, H1.out⟩
            case measure => simp [intOf]; omega
      · have HN : Hid (xs.length ≤ k ∧ ys.length ≤ k) := by show _ ∧ _; rw [← HT.out.1.2.1, ← HT.out.2.2.1, ← HT.out.1.1.1, ← HT.out.2.1.1]; omega
        go_wp2
        go_ret
        exact ⟨ret_bool (by
          have e := HE.out
          rw [List.take_of_length_le HN.out.1, List.take_of_length_le HN.out.2] at e
          exact e.symm), hb⟩
  · have HN : Hid (xs.length ≠ ys.length) := by show _ ≠ _; rw [← hx.2.1, ← hy.2.1, ← hx.1.1, ← hy.1.1]; exact hnm
    have q0 : ((n : Int) == (m : Int)) = false := by rw [beq_eq_false_iff_ne]; omega
    have q1 : ((n : Int) != (m : Int)) = true := by rw [bne, q0]; rfl
    clear hx hy
    go_enter Try.func12, Try.ntmps12
    go_wp2
    go_ret
    exact ⟨ret_bool (allB_len HN.out).symm, Below.refl _ _⟩

end Go.Proofs.Ytlegjdlmcphhlab
