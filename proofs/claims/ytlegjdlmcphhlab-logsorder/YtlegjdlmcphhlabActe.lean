/-
  PACKAGE acts: Apply.
-/
import Derived.Test.YtlegjdlmcphhlabActd
namespace Go.Proofs.Ytlegjdlmcphhlab
open Go.RowKit

theorem Applied.over {xs : List M.Nd} {spec : Int × List M.Nd} {w W w' : World} {e : Ending} (h : Applied xs spec W e w') (hb : Below w.heap.size w W) : Applied xs spec w e w' := by
  obtain ⟨B, m, d, r, e1, h1, h2⟩ := h
  exact ⟨B, m, d, r, e1, fun hr => ⟨(h1 hr).1, (h1 hr).2.choose, (h1 hr).2.choose_spec.mono hb.size⟩, hb.trans (h2.mono hb.size)⟩

set_option maxHeartbeats 1000000 in
theorem apply_any (A : Option Addr) (n c : Nat) (vs : List NV) (xs : List M.Nd) (a : AV) (ac : M.Act) (ver : Int) (w : World) (ht : Tree w A n vs xs) (hn : (n + 2) * 72 ≤ 140737488355328) (hs : ∀ x ∈ xs, Small x) (ha : ContA w a ac) (hsa : SmallA ac) :
    Calls Try.prog 10 #[.slice A n c, a.val, .int .i64 ver] w (Applied xs (M.applyS xs ac ver) w) := by
  have HW : Hid (∀ W, W = w.alloc (.cells #[.int .i64 a.kind, .int .i64 a.fid, .int .i64 a.dir, .string a.name, .int .i64 a.to, .string a.toName, .slice a.dA a.dn a.dc] 26) → Below w.heap.size w W ∧ Tree W A n vs xs ∧ ContA W a ac) := fun W hW => by
    obtain ⟨q1, q2, q3⟩ := boxA_start w a W hW
    exact ⟨q1, ht.below (Nat.le_refl _) q1, ha.below (Nat.le_refl _) q1⟩
  have HT : Hid ((∀ x ∈ xs, Small x) ∧ SmallA ac) := ⟨hs, hsa⟩
  have HK : Hid (a.kind = ac.kind) := ha.1
  clear ht hs ha hsa
  by_cases h1 : a.kind = 1
  case' pos =>
    have HS : Hid (M.applyS xs ac ver = M.bringS xs ac ver) := by show _ = _; unfold M.applyS; rw [← HK.out, if_pos (.inl h1)]
    have k1 : (a.kind == 1) = true := by simp [h1]
    clear h1
    go_enter Try.func10, Try.ntmps10
    go_wp2_with (fail)
    obtain ⟨q1, q2, q3⟩ := HW.out _ rfl
    refine (bring_any A n c vs xs a ac ver _ q2 (by omega) HT.out.1 q3 HT.out.2).mono ?_
    rintro e w1 hap
    rw [← HS.out] at hap
    have HP : Hid (Applied xs (M.applyS xs ac ver) w e w1) := hap.over q1
    obtain ⟨B, m, d, r, rfl, _, _⟩ := hap
    clear q1 q2 q3
    go_wp2
    go_ret2
    exact HP.out
  by_cases h2 : a.kind = 2
  case' pos =>
    have HS : Hid (M.applyS xs ac ver = M.bringS xs ac ver) := by show _ = _; unfold M.applyS; rw [← HK.out, if_pos (.inr h2)]
    have k1 : (a.kind == 1) = false := by simp [h1]
    have k2 : (a.kind == 2) = true := by simp [h2]
    clear h1 h2
    go_enter Try.func10, Try.ntmps10
    go_wp2_with (fail)
    obtain ⟨q1, q2, q3⟩ := HW.out _ rfl
    refine (bring_any A n c vs xs a ac ver _ q2 (by omega) HT.out.1 q3 HT.out.2).mono ?_
    rintro e w1 hap
    rw [← HS.out] at hap
    have HP : Hid (Applied xs (M.applyS xs ac ver) w e w1) := hap.over q1
    obtain ⟨B, m, d, r, rfl, _, _⟩ := hap
    clear q1 q2 q3
    go_wp2
    go_ret2
    exact HP.out
  have k1 : (a.kind == 1) = false := by simp [h1]
  have k2 : (a.kind == 2) = false := by simp [h2]
  have HN12 : Hid (¬ (ac.kind = 1 ∨ ac.kind = 2)) := by rw [HK.out] at h1 h2; exact fun h => h.elim h1 h2
  clear h1 h2
  by_cases h3 : a.kind = 3
  case' pos =>
    have HS : Hid (M.applyS xs ac ver = M.storeS xs ac ver) := by show _ = _; unfold M.applyS; rw [if_neg HN12.out, if_pos (by rw [← HK.out]; exact h3)]
    have k3 : (a.kind == 3) = true := by simp [h3]
    clear h3
    go_enter Try.func10, Try.ntmps10
    go_wp2_with (fail)
    obtain ⟨q1, q2, q3⟩ := HW.out _ rfl
    refine (store_any A n c vs xs a ac ver _ q2 (by omega) HT.out.1 q3 HT.out.2).mono ?_
    rintro e w1 hap
    rw [← HS.out] at hap
    have HP : Hid (Applied xs (M.applyS xs ac ver) w e w1) := hap.over q1
    obtain ⟨B, m, d, r, rfl, _, _⟩ := hap
    clear q1 q2 q3
    go_wp2
    go_ret2
    exact HP.out
  have k3 : (a.kind == 3) = false := by simp [h3]
  by_cases h4 : a.kind = 4
  case' pos =>
    have HS : Hid (M.applyS xs ac ver = M.removeS xs ac ver) := by show _ = _; unfold M.applyS; rw [if_neg HN12.out, if_neg (by rw [← HK.out]; exact h3), if_pos (by rw [← HK.out]; exact h4)]
    have k4 : (a.kind == 4) = true := by simp [h4]
    clear h3 h4
    go_enter Try.func10, Try.ntmps10
    go_wp2_with (fail)
    obtain ⟨q1, q2, q3⟩ := HW.out _ rfl
    refine (remove_any A n c vs xs a ac ver _ q2 (by omega) HT.out.1 q3).mono ?_
    rintro e w1 hap
    rw [← HS.out] at hap
    have HP : Hid (Applied xs (M.applyS xs ac ver) w e w1) := hap.over q1
    obtain ⟨B, m, d, r, rfl, _, _⟩ := hap
    clear q1 q2 q3
    go_wp2
    go_ret2
    exact HP.out
  have k4 : (a.kind == 4) = false := by simp [h4]
  by_cases h5 : a.kind = 5
  case' pos =>
    have HS : Hid (M.applyS xs ac ver = M.renameS xs ac ver) := by show _ = _; unfold M.applyS; rw [if_neg HN12.out, if_neg (by rw [← HK.out]; exact h3), if_neg (by rw [← HK.out]; exact h4), if_pos (by rw [← HK.out]; exact h5)]
    have k5 : (a.kind == 5) = true := by simp [h5]
    clear h3 h4 h5
    go_enter Try.func10, Try.ntmps10
    go_wp2_with (fail)
    obtain ⟨q1, q2, q3⟩ := HW.out _ rfl
    refine (rename_any A n c vs xs a ac ver _ q2 hn HT.out.1 q3 HT.out.2).mono ?_
    rintro e w1 hap
    rw [← HS.out] at hap
    have HP : Hid (Applied xs (M.applyS xs ac ver) w e w1) := hap.over q1
    obtain ⟨B, m, d, r, rfl, _, _⟩ := hap
    clear q1 q2 q3
    go_wp2
    go_ret2
    exact HP.out
  have k5 : (a.kind == 5) = false := by simp [h5]
  have HS : Hid (M.applyS xs ac ver = (1, [])) := by show _ = _; unfold M.applyS; rw [if_neg HN12.out, if_neg (by rw [← HK.out]; exact h3), if_neg (by rw [← HK.out]; exact h4), if_neg (by rw [← HK.out]; exact h5)]
  clear h3 h4 h5
  go_enter Try.func10, Try.ntmps10
  go_wp2_with (fail)
  go_ret2
  exact Applied.err (fun _ => HS.out) ((Below.refl _ _).alloc (Nat.le_refl _) _)
end Go.Proofs.Ytlegjdlmcphhlab
