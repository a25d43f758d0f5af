/-
  THE LEAVES: sign, names.Name and the reference's Name tell of any text whether it is a name; the world stays.
-/
import Derived.Test.YtlegjdlmcphhlabBase
namespace Go.Proofs.Ytlegjdlmcphhlab
open Go.RowKit

namespace M
def signB (b : UInt8) : Bool := (97 ≤ b && b ≤ 122) || (48 ≤ b && b ≤ 57)
def nameB (l : List UInt8) : Bool := decide (1 ≤ l.length) && decide (l.length ≤ 8) && l.all signB
end M


theorem signB_int (c : UInt8) : M.signB c = (decide (97 ≤ (c.toNat : Int)) && decide ((c.toNat : Int) ≤ 122) || decide (48 ≤ (c.toNat : Int)) && decide ((c.toNat : Int) ≤ 57)) := by
  unfold M.signB
  have e1 : decide ((97 : UInt8) ≤ c) = decide (97 ≤ (c.toNat : Int)) := by rw [decide_eq_decide, UInt8.le_iff_toNat_le]; simp; omega
  have e2 : decide (c ≤ (122 : UInt8)) = decide ((c.toNat : Int) ≤ 122) := by rw [decide_eq_decide, UInt8.le_iff_toNat_le]; simp; omega
  have e3 : decide ((48 : UInt8) ≤ c) = decide (48 ≤ (c.toNat : Int)) := by rw [decide_eq_decide, UInt8.le_iff_toNat_le]; simp; omega
  have e4 : decide (c ≤ (57 : UInt8)) = decide ((c.toNat : Int) ≤ 57) := by rw [decide_eq_decide, UInt8.le_iff_toNat_le]; simp; omega
  rw [e1, e2, e3, e4]

set_option maxHeartbeats 400000 in
theorem sign_any (c : UInt8) (w : World) :
    Calls Try.prog 89 #[.int .u8 (c.toNat : Int)] w fun e w' => e = .returned (.bool (M.signB c)) ∧ w' = w := by
  have HS : Hid (M.signB c = (decide (97 ≤ (c.toNat : Int)) && decide ((c.toNat : Int) ≤ 122) || decide (48 ≤ (c.toNat : Int)) && decide ((c.toNat : Int) ≤ 57))) := signB_int c
  by_cases h1 : 97 ≤ (c.toNat : Int) <;> by_cases h2 : (c.toNat : Int) ≤ 122 <;> by_cases h3 : 48 ≤ (c.toNat : Int) <;> by_cases h4 : (c.toNat : Int) ≤ 57 <;>
  (go_enter Try.func89, Try.ntmps89
   go_wp2
   go_ret
   exact ⟨ret_bool (by rw [HS.out]; first | omega | (simp; omega)), rfl⟩)

/-- a list's sign by its place -/
theorem take_snoc (s : ByteArray) (k : Nat) (h : k < s.size) : s.data.toList.take (k + 1) = s.data.toList.take k ++ [s[k]] := by
  rw [List.take_succ_eq_append_getElem (by simpa using h)]; rfl
theorem take_all (s : ByteArray) (k : Nat) (h : s.size ≤ k) : s.data.toList.take k = s.data.toList :=
  List.take_of_length_le (by simpa using h)
theorem len_data (s : ByteArray) : s.data.toList.length = s.size := by simp

theorem name_long {s : ByteArray} (h : s.size < 1 ∨ 8 < s.size) : M.nameB s.data.toList = false := by
  have e := len_data s
  unfold M.nameB
  rw [e]
  simp only [Bool.and_eq_false_iff, decide_eq_false_iff_not]
  omega
theorem name_yes {s : ByteArray} (h1 : 1 ≤ s.size) (h2 : s.size ≤ 8) (h : s.data.toList.all M.signB = true) : M.nameB s.data.toList = true := by
  have e := len_data s
  unfold M.nameB
  rw [e, h]
  simp [h1, h2]
theorem name_bad {s : ByteArray} (h : s.data.toList.all M.signB = false) : M.nameB s.data.toList = false := by
  unfold M.nameB
  rw [h]
  simp
theorem all_bad (s : ByteArray) (k : Nat) (h : k < s.size) (hb : M.signB s[k] = false) : s.data.toList.all M.signB = false := by
  rw [List.all_eq_false]
  have hm : s.data.toList[k]'(by simpa using h) ∈ s.data.toList := List.getElem_mem _
  exact ⟨s[k], hm, by simp [hb]⟩

set_option maxHeartbeats 400000 in
theorem name_any (s : ByteArray) (w : World) (hs : s.size ≤ maxLen) :
    Calls Try.prog 75 #[.string s] w fun e w' => e = .returned (.bool (M.nameB s.data.toList)) ∧ w' = w := by
  unfold maxLen at hs
  by_cases h1 : 1 ≤ s.size
  · by_cases h2 : s.size ≤ 8
    · go_enter Try.func75, Try.ntmps75
      go_wp2
      go_loop [14] (fun i => ∃ k : Nat, k ≤ s.size ∧ i = .int .i64 k ∧ (s.data.toList.take k).all M.signB = true) (fun i => s.size - (intOf i).toNat)
      case atStart => exact ⟨0, Nat.zero_le _, rfl, rfl⟩
      case round =>
        obtain ⟨k, hk, rfl, hall⟩ := hrel
        have HA : Hid ((s.data.toList.take k).all M.signB = true) := hall
        clear hall
        by_cases hlt : k < s.size
        · cases hb : M.signB s[k]
          · go_wp2_with (go_at_call 89; refine (sign_any _ _).mono ?_; rintro e w' ⟨rfl, rfl⟩)
            go_ret
            exact ⟨ret_bool (name_bad (all_bad s k hlt hb)).symm, rfl⟩
          · go_wp2_with (go_at_call 89; refine (sign_any _ _).mono ?_; rintro e w' ⟨rfl, rfl⟩)
            go_round
            case rel => exact ⟨k + 1, by omega, by go_num, by rw [take_snoc s k hlt, List.all_append, HA.out]; simp [hb]⟩
            case measure => simp [intOf]; omega
        · go_wp2
          go_ret
          exact ⟨ret_bool (name_yes h1 h2 (by have := HA.out; rwa [take_all s k (by omega)] at this)).symm, rfl⟩
    · go_enter Try.func75, Try.ntmps75
      go_wp2
      go_ret
      exact ⟨ret_bool (name_long (by omega)).symm, rfl⟩
  · go_enter Try.func75, Try.ntmps75
    go_wp2
    go_ret
    exact ⟨ret_bool (name_long (by omega)).symm, rfl⟩

theorem sign_no (c : UInt8) (h : (¬ 97 ≤ (c.toNat : Int) ∨ ¬ (c.toNat : Int) ≤ 122) ∧ (¬ 48 ≤ (c.toNat : Int) ∨ ¬ (c.toNat : Int) ≤ 57)) : M.signB c = false := by
  rw [signB_int]; simp; omega
theorem sign_yes (c : UInt8) (h : (97 ≤ (c.toNat : Int) ∧ (c.toNat : Int) ≤ 122) ∨ (48 ≤ (c.toNat : Int) ∧ (c.toNat : Int) ≤ 57)) : M.signB c = true := by
  rw [signB_int]; simp; omega

set_option maxHeartbeats 400000 in
theorem refName_any (s : ByteArray) (w : World) (hs : s.size ≤ maxLen) :
    Calls Try.prog 15 #[.string s] w fun e w' => e = .returned (.bool (M.nameB s.data.toList)) ∧ w' = w := by
  unfold maxLen at hs
  go_enter Try.func15, Try.ntmps15
  go_wp2
  go_loop [7] (fun i => ∃ k : Nat, k ≤ s.size ∧ i = .int .i64 k ∧ (s.data.toList.take k).all M.signB = true) (fun i => s.size - (intOf i).toNat)
  case atStart => exact ⟨0, Nat.zero_le _, rfl, rfl⟩
  case round =>
    obtain ⟨k, hk, rfl, hall⟩ := hrel
    have HA : Hid ((s.data.toList.take k).all M.signB = true) := hall
    clear hall
    by_cases hlt : k < s.size
    · by_cases h1 : 97 ≤ (s[k].toNat : Int) <;> by_cases h2 : (s[k].toNat : Int) ≤ 122 <;> by_cases h3 : 48 ≤ (s[k].toNat : Int) <;> by_cases h4 : (s[k].toNat : Int) ≤ 57 <;>
      first
      | (exfalso; omega)
      | (have HB : Hid (M.signB s[k] = false) := sign_no _ (by omega)
         go_wp2
         go_ret
         exact ⟨ret_bool (name_bad (all_bad s k hlt HB.out)).symm, rfl⟩)
      | (have HB : Hid (M.signB s[k] = true) := sign_yes _ (by omega)
         go_wp2
         go_round
         case rel => exact ⟨k + 1, by omega, by go_num, by rw [take_snoc s k hlt, List.all_append, HA.out]; simp [HB.out]⟩
         case measure => simp [intOf]; omega)
    · have HB : Hid (s.data.toList.all M.signB = true) := by have := HA.out; rwa [take_all s k (by omega)] at this
      by_cases h1 : 1 ≤ s.size
      · by_cases h2 : s.size ≤ 8
        · go_wp2
          go_ret
          exact ⟨ret_bool (by rw [name_yes h1 h2 HB.out]; first | rfl | (simp; omega)), rfl⟩
        · go_wp2
          go_ret
          exact ⟨ret_bool (by rw [name_long (s := s) (by omega)]; first | rfl | (simp; omega)), rfl⟩
      · go_wp2
        go_ret
        exact ⟨ret_bool (name_long (by omega)).symm, rfl⟩
end Go.Proofs.Ytlegjdlmcphhlab
