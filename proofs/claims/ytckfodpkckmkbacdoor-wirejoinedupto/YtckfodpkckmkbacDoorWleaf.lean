/-
  PACKAGE wire, the leaves: word, kindOf, readNumber; what of the world they want.
-/
import Derived.Test.YtckfodpkckmkbacDoorWmathb
import Derived.Test.YtckfodpkckmkbacDoorShelf
import Derived.Lib.AppendIntMem
import Derived.Lib.AtoiErrMem
namespace Go.Proofs.YtckfodpkckmkbacDoor
open Go.RowKit

/-- WHAT THE PACKAGE's VARIABLES HOLD, as far as a road comes by them -/
structure Env (w : World) : Prop where
  g : 8 ≤ w.heap.size
  tab : Lib.TabIs Tryd.prog w "internal/strconv.uint64pow10" .u64 Lib.pow10Tab
  max : ∃ m, w.cell? ⟨0, 0, none⟩ = some (.int .i64 m)
  syn : ∃ ev, w.cell? ⟨2, 0, none⟩ = some ev ∧ (ev = .nilIface ∨ ∃ te pe, ev = .iface te pe)
  rng : ∃ ev, w.cell? ⟨3, 0, none⟩ = some ev ∧ (ev = .nilIface ∨ ∃ te pe, ev = .iface te pe)
theorem gPow : Tryd.prog.globalNamed "internal/strconv.uint64pow10" = some 1 := by kernel_rfl
theorem Env.below {w w' : World} {B : Nat} (h : Env w) (hB : 8 ≤ B) (hb : Below B w w') : Env w' := by
  have c : ∀ g, g < 8 → w'.cell? ⟨g, 0, none⟩ = w.cell? ⟨g, 0, none⟩ := fun g hg => hb.cell (p := ⟨g, 0, none⟩) (by show g < B; omega)
  refine ⟨Nat.le_trans h.g hb.size, ?_, ?_, ?_, ?_⟩
  · have ht := h.tab
    unfold Lib.TabIs World.var? at ht ⊢
    rw [gPow] at ht ⊢
    simp only [Option.bind_some] at ht ⊢
    rw [hb.block 1 (by omega)]
    exact ht
  · obtain ⟨m, hm⟩ := h.max
    exact ⟨m, by rw [c 0 (by omega)]; exact hm⟩
  · obtain ⟨m, hm, hv⟩ := h.syn
    exact ⟨m, by rw [c 2 (by omega)]; exact hm, hv⟩
  · obtain ⟨m, hm, hv⟩ := h.rng
    exact ⟨m, by rw [c 3 (by omega)]; exact hm, hv⟩

theorem ret_str {a b : ByteArray} (h : a = b) : Ending.returned (.string a) = .returned (.string b) := by rw [h]
theorem itoa_any (n : Int) (h : M.Fit n) (w : World) (he : Env w) :
    Calls Tryd.prog 19 #[.int .i64 n] w fun e w' => e = .returned (.string (M.itB n)) ∧ Below w.heap.size w w' := by
  refine (Tryd.strconv_Itoa n h.1 h.2 w he.tab).mono ?_
  rintro e w' ⟨rfl, k, os, rfl⟩
  exact ⟨rfl, Lib.below_grow _ _ (Nat.le_refl _) _ _⟩

set_option maxHeartbeats 400000 in
theorem word_any (k : Int) (w : World) : Calls Tryd.prog 15 #[.int .i64 k] w fun e w' => e = .returned (.string (M.wordB k)) ∧ w' = w := by
  by_cases h1 : k = 1
  · subst h1
    go_enter Tryd.func15, Tryd.ntmps15
    go_wp2
    go_ret
    exact ⟨rfl, rfl⟩
  by_cases h2 : k = 2
  · subst h2
    go_enter Tryd.func15, Tryd.ntmps15
    go_wp2
    go_ret
    exact ⟨rfl, rfl⟩
  by_cases h3 : k = 3
  · subst h3
    go_enter Tryd.func15, Tryd.ntmps15
    go_wp2
    go_ret
    exact ⟨rfl, rfl⟩
  by_cases h4 : k = 4
  · subst h4
    go_enter Tryd.func15, Tryd.ntmps15
    go_wp2
    go_ret
    exact ⟨rfl, rfl⟩
  by_cases h5 : k = 5
  · subst h5
    go_enter Tryd.func15, Tryd.ntmps15
    go_wp2
    go_ret
    exact ⟨rfl, rfl⟩
  have HW : Hid (M.wordB k = ⟨#[]⟩) := by show _ = _; unfold M.wordB; rw [if_neg h1, if_neg h2, if_neg h3, if_neg h4, if_neg h5]
  have k1 : (k == 1) = false := by simp [h1]
  have k2 : (k == 2) = false := by simp [h2]
  have k3 : (k == 3) = false := by simp [h3]
  have k4 : (k == 4) = false := by simp [h4]
  have k5 : (k == 5) = false := by simp [h5]
  clear h1 h2 h3 h4 h5
  go_enter Tryd.func15, Tryd.ntmps15
  go_wp2
  go_ret
  exact ⟨ret_str HW.out.symm, rfl⟩

theorem kind_hit {s : ByteArray} {k : Nat} (h1 : 1 ≤ k) (h5 : k ≤ 5) (hn : ∀ j : Nat, 1 ≤ j → j < k → M.wordB j ≠ s) (h : M.wordB k = s) : M.kindS s = k := by
  unfold M.kindS
  have n1 : 1 ≤ 1 → 1 < k → M.wordB 1 ≠ s := hn 1
  have n2 : 1 ≤ 2 → 2 < k → M.wordB 2 ≠ s := hn 2
  have n3 : 1 ≤ 3 → 3 < k → M.wordB 3 ≠ s := hn 3
  have n4 : 1 ≤ 4 → 4 < k → M.wordB 4 ≠ s := hn 4
  have : k = 1 ∨ k = 2 ∨ k = 3 ∨ k = 4 ∨ k = 5 := by omega
  rcases this with rfl | rfl | rfl | rfl | rfl
  · have h : M.wordB 1 = s := h
    rw [if_pos h]; rfl
  · have h : M.wordB 2 = s := h
    rw [if_neg (n1 (by omega) (by omega)), if_pos h]; rfl
  · have h : M.wordB 3 = s := h
    rw [if_neg (n1 (by omega) (by omega)), if_neg (n2 (by omega) (by omega)), if_pos h]; rfl
  · have h : M.wordB 4 = s := h
    rw [if_neg (n1 (by omega) (by omega)), if_neg (n2 (by omega) (by omega)), if_neg (n3 (by omega) (by omega)), if_pos h]; rfl
  · have h : M.wordB 5 = s := h
    rw [if_neg (n1 (by omega) (by omega)), if_neg (n2 (by omega) (by omega)), if_neg (n3 (by omega) (by omega)), if_neg (n4 (by omega) (by omega)), if_pos h]; rfl
theorem kind_miss {s : ByteArray} (hn : ∀ j : Nat, 1 ≤ j → j < 6 → M.wordB j ≠ s) : M.kindS s = 0 := by
  unfold M.kindS
  have n1 : M.wordB 1 ≠ s := hn 1 (by omega) (by omega)
  have n2 : M.wordB 2 ≠ s := hn 2 (by omega) (by omega)
  have n3 : M.wordB 3 ≠ s := hn 3 (by omega) (by omega)
  have n4 : M.wordB 4 ≠ s := hn 4 (by omega) (by omega)
  have n5 : M.wordB 5 ≠ s := hn 5 (by omega) (by omega)
  rw [if_neg n1, if_neg n2, if_neg n3, if_neg n4, if_neg n5]
set_option maxHeartbeats 400000 in
theorem kindOf_any (s : ByteArray) (w : World) : Calls Tryd.prog 26 #[.string s] w fun e w' => e = .returned (.int .i64 (M.kindS s)) ∧ w' = w := by
  go_enter Tryd.func26, Tryd.ntmps26
  go_wp2
  go_loop [3] (fun i => ∃ k : Nat, 1 ≤ k ∧ k ≤ 6 ∧ i = .int .i64 k ∧ ∀ j : Nat, 1 ≤ j → j < k → M.wordB j ≠ s) (fun i => 6 - (intOf i).toNat)
  case atStart => exact ⟨1, by omega, by omega, rfl, fun j h1 h2 => by omega⟩
  case round =>
    obtain ⟨k, h1, h6, rfl, hn⟩ := hrel
    have HN : Hid (∀ j : Nat, 1 ≤ j → j < k → M.wordB j ≠ s) := hn
    clear hn
    by_cases hlt : k ≤ 5
    · by_cases hw : M.wordB k = s
      · have HR : Hid (M.kindS s = k) := kind_hit h1 hlt HN.out hw
        have hq : ((M.wordB (k : Int)).toList == s.toList) = true := by rw [hw]; exact raw_yes _
        clear hw
        go_wp2_with (go_at_call 15; refine (word_any _ _).mono ?_; rintro e w' ⟨rfl, hw⟩; rw [hw]; clear hw)
        go_ret
        exact ⟨ret_int HR.out.symm, rfl⟩
      · have HW : Hid (M.wordB k ≠ s) := hw
        have hq : ((M.wordB (k : Int)).toList == s.toList) = false := raw_no hw
        clear hw
        go_wp2_with (go_at_call 15; refine (word_any _ _).mono ?_; rintro e w' ⟨rfl, hw⟩; rw [hw]; clear hw)
        go_round
        case rel => exact ⟨k + 1, by omega, by omega, by go_num, fun j j1 j2 => by
          rcases Nat.lt_or_ge j k with h | h
          · exact HN.out j j1 h
          · have : j = k := by omega
            subst this; exact HW.out⟩
        case measure => simp [intOf]; omega
    · have HR : Hid (M.kindS s = 0) := kind_miss (fun j j1 j2 => HN.out j j1 (by omega))
      go_wp2
      go_ret
      exact ⟨ret_int HR.out.symm, rfl⟩

theorem ret_num {a c : Int} {b d : Bool} (h : a = c) (h2 : b = d) : Ending.returned (.tuple #[.int .i64 a, .bool b]) = .returned (.tuple #[.int .i64 c, .bool d]) := by rw [h, h2]
set_option maxHeartbeats 800000 in
theorem readNumber_any (s : ByteArray) (w : World) (he : Env w) (hs : s.size ≤ 281474976710656) :
    Calls Tryd.prog 30 #[.string s] w fun e w' => e = .returned (.tuple #[.int .i64 ((M.numS s).getD 0), .bool (M.numS s).isSome]) ∧ Below w.heap.size w w' := by
  cases ha : Lib.atoiAll s.data.toList with
  | ok v =>
    have hfit := Lib.atoiAll_bounds ha
    have HE : Hid (Env w) := he
    clear he
    by_cases hi : Lib.itoa v = s.data.toList
    · have HR : Hid (M.numS s = some v) := by show _ = _; unfold M.numS; rw [ha]; simp [hi]
      have hq : ((M.itB v).toList == s.toList) = true := by rw [raw_eq, decide_eq_true_eq]; exact M.ba_ext (by simpa [M.itB] using hi)
      clear hi
      go_enter Tryd.func30, Tryd.ntmps30
      go_wp2_with (fail)
      refine (Tryd.strconv_Atoi_ok s (by omega) v ha _).mono ?_
      rintro e w1 ⟨rfl, hw1⟩
      have hb1 : Below w.heap.size w w1 := by
        rcases hw1 with rfl | ⟨t, rfl⟩
        · exact Below.refl _ _
        · exact Lib.bytesWorld_below _ _ _
      clear hw1
      go_wp2_with (go_at_call 19; refine (itoa_any v hfit _ (HE.out.below HE.out.g hb1)).mono ?_; rintro e w2 ⟨rfl, hb2⟩)
      go_ret2
      exact ⟨ret_num (by rw [HR.out]; rfl) (by rw [HR.out]; rfl), hb1.trans (hb2.mono hb1.size)⟩
    · have HR : Hid (M.numS s = none) := by show _ = _; unfold M.numS; rw [ha]; simp [hi]
      have hq : ((M.itB v).toList == s.toList) = false := by rw [raw_eq, decide_eq_false_iff_not]; exact fun e => hi (by rw [← e]; simp [M.itB])
      clear hi
      go_enter Tryd.func30, Tryd.ntmps30
      go_wp2_with (fail)
      refine (Tryd.strconv_Atoi_ok s (by omega) v ha _).mono ?_
      rintro e w1 ⟨rfl, hw1⟩
      have hb1 : Below w.heap.size w w1 := by
        rcases hw1 with rfl | ⟨t, rfl⟩
        · exact Below.refl _ _
        · exact Lib.bytesWorld_below _ _ _
      clear hw1
      go_wp2_with (go_at_call 19; refine (itoa_any v hfit _ (HE.out.below HE.out.g hb1)).mono ?_; rintro e w2 ⟨rfl, hb2⟩)
      go_ret2
      exact ⟨ret_num (by rw [HR.out]; rfl) (by rw [HR.out]; rfl), hb1.trans (hb2.mono hb1.size)⟩
  | «syntax» =>
    have HR : Hid (M.numS s = none) := by show _ = _; unfold M.numS; rw [ha]
    obtain ⟨ev, hv, hev⟩ := he.syn
    go_enter Tryd.func30, Tryd.ntmps30
    go_wp2_with (fail)
    refine (Tryd.strconv_Atoi_syntax s hs ha ev _ hv hev).mono ?_
    rintro e w1 ⟨N, rfl, _, _, hb1⟩
    go_wp2_with (fail)
    go_ret2
    exact ⟨ret_num (by rw [HR.out]; rfl) (by rw [HR.out]; rfl), hb1⟩
  | range =>
    have HR : Hid (M.numS s = none) := by show _ = _; unfold M.numS; rw [ha]
    obtain ⟨ev, hv, hev⟩ := he.rng
    go_enter Tryd.func30, Tryd.ntmps30
    go_wp2_with (fail)
    refine (Tryd.strconv_Atoi_range s hs ha ev _ hv hev).mono ?_
    rintro e w1 ⟨N, rfl, _, _, hb1⟩
    go_wp2_with (fail)
    go_ret2
    exact ⟨ret_num (by rw [HR.out]; rfl) (by rw [HR.out]; rfl), hb1⟩
end Go.Proofs.YtckfodpkckmkbacDoor
