/-
  THE REFERENCE's SameTexts tells of any two slices of texts whether they hold the same; it only reads.
-/
import Derived.Test.YtgeolmiinbcnfaaDoorLeaf
import Derived.Deep.Draws
import Derived.Deep.QuietTactic
import Derived.BigQuiet
namespace Go.Proofs.YtgeolmiinbcnfaaDoor
open Go.RowKit

/-- the slice at A, of n cells, holds the texts xs in w -/
def Strs (w : World) (A : Option Addr) (n : Nat) (xs : List ByteArray) : Prop :=
  n = xs.length ∧ (xs = [] ∨ ∃ b o, A = some ⟨b, o, none⟩ ∧ b < w.heap.size ∧ ∀ (j : Nat) x, xs[j]? = some x → w.cell? ⟨b, o + j, none⟩ = some (.string x))

theorem Strs.below {B : Nat} {w w' : World} {A : Option Addr} {n : Nat} {xs : List ByteArray} (h : Strs w A n xs) (hB : w.heap.size ≤ B) (hb : Below B w w') : Strs w' A n xs := by
  obtain ⟨hn, h⟩ := h
  refine ⟨hn, h.imp id ?_⟩
  rintro ⟨b, o, e, hlt, hc⟩
  refine ⟨b, o, e, by have := hb.size; omega, fun j x hx => ?_⟩
  rw [hb.cell (p := ⟨b, o + j, none⟩) (by show b < B; omega)]
  exact hc j x hx

/-- where a cell is asked for, the slice has an address -/
theorem Strs.at {w : World} {A : Option Addr} {n : Nat} {xs : List ByteArray} (h : Strs w A n xs) {k : Nat} (hk : k < n) :
    ∃ b o x, A = some ⟨b, o, none⟩ ∧ xs[k]? = some x ∧ w.cell? ⟨b, o + k, none⟩ = some (.string x) := by
  obtain ⟨hn, h⟩ := h
  rcases h with h | ⟨b, o, e, hlt, hc⟩
  · subst h; simp at hn; omega
  · have hx : xs[k]? = some xs[k] := List.getElem?_eq_getElem (by omega)
    exact ⟨b, o, _, e, hx, hc k _ hx⟩

theorem take_step {xs : List ByteArray} {k : Nat} {x : ByteArray} (h : xs[k]? = some x) : xs.take (k + 1) = xs.take k ++ [x] := by
  rw [List.take_add_one, h]; rfl
theorem ne_of_at {xs ys : List ByteArray} {k : Nat} {x y : ByteArray} (hx : xs[k]? = some x) (hy : ys[k]? = some y) (h : x ≠ y) : xs ≠ ys := by
  intro e; subst e; rw [hx] at hy; exact h (Option.some.inj hy)

theorem raw_yes (x : ByteArray) : (x.toList == x.toList) = true := beq_self_eq_true _
theorem raw_no {x y : ByteArray} (h : x ≠ y) : (x.toList == y.toList) = false := by
  rw [beq_eq_false_iff_ne, ByteArray.toList_eq, ByteArray.toList_eq]
  intro e
  apply h
  cases x; cases y
  exact congrArg ByteArray.mk (Array.toList_inj.1 e)

set_option maxHeartbeats 400000 in
theorem same_any (A B : Option Addr) (n m ca cb : Nat) (xs ys : List ByteArray) (w : World) (hx : Strs w A n xs) (hy : Strs w B m ys) (hn : n ≤ maxLen) (hm : m ≤ maxLen) :
    Calls Tryd.prog 7 #[.slice A n ca, .slice B m cb] w fun e w' => e = .returned (.bool (decide (xs = ys))) ∧ ∃ k, w' = w.drewN k := by
  unfold maxLen at hn hm
  by_cases hnm : n = m
  · subst hnm
    go_enter Tryd.func7, Tryd.ntmps7
    go_wp2
    go_loopw [13] (fun i wr => ∃ k q : Nat, k ≤ n ∧ i = .int .i64 k ∧ xs.take k = ys.take k ∧ wr = w.drewN q) (fun i _ => n - (intOf i).toNat)
    case atStart => exact ⟨0, 0, Nat.zero_le _, rfl, rfl, rfl⟩
    case round =>
      obtain ⟨k, q, hk, rfl, heq, rfl⟩ := hrel
      have HE : Hid (xs.take k = ys.take k) := heq
      clear heq
      by_cases hlt : k < n
      · obtain ⟨b, o, x, rfl, hxk, hxc⟩ := hx.at hlt
        obtain ⟨b2, o2, y, rfl, hyk, hyc⟩ := hy.at hlt
        have HX : Hid (xs[k]? = some x) := hxk
        have HY : Hid (ys[k]? = some y) := hyk
        clear hxk hyk
        by_cases hxy : x = y
        · subst hxy
          have hq := raw_yes x
          go_wp2
          go_quiet (fail)
          go_wp2
          go_roundw
          case rel => exact ⟨k + 1, _, by omega, by go_num, by rw [take_step HX.out, take_step HY.out, HE.out], rfl⟩
          case measure => simp [intOf]; omega
        · have hq := raw_no hxy
          have HN : Hid (x ≠ y) := hxy
          clear hxy
          go_wp2
          go_quiet (fail)
          go_wp2
          go_ret
          exact ⟨ret_bool (by simp [ne_of_at HX.out HY.out HN.out]), _, World.drewN_drewN _ _ _⟩
      · go_wp2
        go_ret
        exact ⟨ret_bool (by
          have e := HE.out
          rw [List.take_of_length_le (by have := hx.1; omega), List.take_of_length_le (by have := hy.1; omega)] at e
          simp [e]), _, rfl⟩
  · go_enter Tryd.func7, Tryd.ntmps7
    go_wp2
    go_ret
    exact ⟨ret_bool (by
      have h1 := hx.1
      have h2 := hy.1
      have : xs ≠ ys := fun e => hnm (by rw [h1, h2, e])
      simp [this]), 0, rfl⟩
end Go.Proofs.YtgeolmiinbcnfaaDoor
