/-
  EQUAL BYTES, EQUAL ENTRIES: bytes.Equal, slices.Equal.
-/
import Derived.Test.YtkdpdgbacladhaaPlain
namespace Go.Proofs.Ytkdpdgbacladhaa
open Go.RowKit

theorem bytesEq_any (A B : Option Addr) (n m ca cb : Nat) (l k : List UInt8) (w : World) (hl : Byts w A n l) (hk : Byts w B m k) :
    Calls Try.prog 45 #[.slice A n ca, .slice B m cb] w fun e w' => e = .returned (.bool (decide (l = k))) ∧ w' = w := by
  have h1 := conv_byts (c := ca) hl
  have h2 := conv_byts (c := cb) hk
  have HT : Hid (((txt l).toList == (txt k).toList) = decide (l = k)) := by
    show _ = _
    rw [raw_eq, decide_eq_decide]; exact txt_inj
  clear hl hk
  go_enter Try.func45, Try.ntmps45
  go_wp2
  go_ret
  exact ⟨ret_bool HT.out, rfl⟩

set_option maxHeartbeats 400000 in
theorem entsEq_any (A B : Option Addr) (n m ca cb : Nat) (xs ys : List (ByteArray × Int)) (w : World) (hx : Ents w A n xs) (hy : Ents w B m ys) (hn : n ≤ 140737488355328) (hm : m ≤ 140737488355328) :
    Calls Try.prog 46 #[.slice A n ca, .slice B m cb] w fun e w' => e = .returned (.bool (decide (xs = ys))) ∧ ∃ k, w' = w.drewN k := by
  have hg := guardEnt
  by_cases hnm : n = m
  · subst hnm
    go_enter Try.func46, Try.ntmps46
    go_wp2
    go_loopw [13] (fun i wr => ∃ k q : Nat, k ≤ n ∧ i = .int .i64 k ∧ xs.take k = ys.take k ∧ wr = w.drewN q) (fun i _ => n - (intOf i).toNat)
    case atStart => exact ⟨0, 0, Nat.zero_le _, rfl, rfl, rfl⟩
    case round =>
      obtain ⟨k, q, hk, rfl, heq, rfl⟩ := hrel
      have HE : Hid (xs.take k = ys.take k) := heq
      clear heq
      by_cases hlt : k < n
      · obtain ⟨b, o, x, rfl, _, hxk, hx0, hx1⟩ := Ents.at hx hlt
        obtain ⟨b2, o2, y, rfl, _, hyk, hy0, hy1⟩ := Ents.at hy hlt
        have HX : Hid (xs[k]? = some x) := hxk
        have HY : Hid (ys[k]? = some y) := hyk
        clear hxk hyk
        have hq := neqEnt x y
        by_cases hxy : x = y
        · have hd : decide (x = y) = true := decide_eq_true hxy
          rw [hd] at hq
          have HXY : Hid (x = y) := hxy
          clear hxy hd
          go_wp2
          go_quiet (fail)
          go_wp2
          go_roundw
          case rel => exact ⟨k + 1, _, by omega, by go_num, by rw [take_step HX.out, take_step HY.out, HE.out, HXY.out], rfl⟩
          case measure => simp [intOf]; omega
        · have hd : decide (x = y) = false := decide_eq_false hxy
          rw [hd] at hq
          have HN : Hid (x ≠ y) := hxy
          clear hxy hd
          go_wp2
          go_quiet (fail)
          go_wp2
          go_ret
          exact ⟨ret_bool (by simp [ne_of_at HX.out HY.out HN.out]), _, World.drewN_drewN _ _ _⟩
      · go_wp2
        go_ret
        exact ⟨ret_bool (by
          have e := HE.out
          rw [List.take_of_length_le (by have := hx.1; omega), List.take_of_length_le (by have := hy.1; omega)] at e
          simp [e]), _, rfl⟩
  · go_enter Try.func46, Try.ntmps46
    go_wp2
    go_ret
    exact ⟨ret_bool (by
      have h1 := hx.1
      have h2 := hy.1
      have : xs ≠ ys := fun e => hnm (by rw [h1, h2, e])
      simp [this]), 0, rfl⟩
end Go.Proofs.Ytkdpdgbacladhaa
