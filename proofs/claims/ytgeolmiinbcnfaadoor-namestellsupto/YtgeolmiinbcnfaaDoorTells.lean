/-
  THE LAW NamesTells, walked: of any text and any list of texts of at most 2^47 bytes together it answers true, and all that was there stays.
-/
import Derived.Test.YtgeolmiinbcnfaaDoorRef
namespace Go.Proofs.YtgeolmiinbcnfaaDoor
open Go.RowKit

theorem map_inj {xs ys : List ByteArray} (h : xs.map (·.data.toList) = ys.map (·.data.toList)) : xs = ys := by
  induction xs generalizing ys with
  | nil => cases ys with
    | nil => rfl
    | cons _ _ => cases h
  | cons x xs ih => cases ys with
    | nil => cases h
    | cons y ys =>
      have h1 := List.cons.inj h
      rw [ba_ext h1.1, ih h1.2]

theorem join_at (T : ByteArray) (A : Option Addr) (n c : Nat) (xs : List ByteArray) (w : World) (hx : Strs w A n xs) (hc : n ≤ c) (hN : n ≤ 140737488355328)
    (hT : T.data.toList = M.joinS (xs.map (·.data.toList))) (hlen : (M.joinS (xs.map (·.data.toList))).length ≤ 140737488355328) :
    Calls Tryd.prog 10 #[.slice A n c] w fun e w' => e = .returned (.string T) ∧ Below w.heap.size w w' := by
  refine (join_any A n c xs w hx hc hN hlen).mono ?_
  rintro e w' ⟨rfl, hb⟩
  exact ⟨ret_str (ba_ext (by rw [hT])), hb⟩

theorem below_drewN {B : Nat} {w w' : World} (h : Below B w w') (k : Nat) : Below B w (w'.drewN k) := by
  induction k with
  | zero => exact h
  | succ k ih => exact ih.drew

theorem cell_lt {w : World} {b o : Nat} {v : Value} (h : w.cell? ⟨b, o, none⟩ = some v) : b < w.heap.size := World.block_lt_of_cell? w _ h

theorem slashes_step {xs : List ByteArray} {k : Nat} {x T : ByteArray} (h : xs[k]? = some x) (hT : T.data.toList = M.slashes ((xs.take k).map (·.data.toList))) :
    (T ++ ⟨#[47]⟩ ++ x).data.toList = M.slashes ((xs.take (k + 1)).map (·.data.toList)) := by
  rw [take_step h, List.map_append, List.map_cons, List.map_nil, M.slashes_snoc, ← hT]
  simp [ByteArray.data_append]

theorem lens_take_le (l : List (List UInt8)) (k : Nat) : Lib.lens (l.take k) ≤ Lib.lens l := by
  induction l generalizing k with
  | nil => simp
  | cons x r ih =>
    cases k with
    | zero => simp [Lib.lens]
    | succ k => have := ih k; simp only [Lib.lens, List.take_succ_cons, List.map_cons, List.sum_cons] at this ⊢; omega
theorem lens_at {l : List (List UInt8)} {k : Nat} {x : List UInt8} (h : l[k]? = some x) : x.length ≤ Lib.lens l := by
  have := Lib.lens_take_succ l k x h
  have := lens_take_le l (k + 1)
  omega

set_option maxHeartbeats 1000000 in
theorem tells_any (s : ByteArray) (A : Option Addr) (n c : Nat) (xs : List ByteArray) (m : Int) (w : World) (hs : s.size ≤ maxLen) (hm : w.cell? ⟨0, 0, none⟩ = some (.int .i64 m))
    (hx : Strs w A n xs) (hc : n ≤ c) (hsum : n + Lib.lens (xs.map (·.data.toList)) ≤ 140737488355327) :
    Calls Tryd.prog 3 #[.string s, .slice A n c] w fun e w' => e = .returned (.bool true) ∧ Below w.heap.size w w' := by
  go_enter Tryd.func3, Tryd.ntmps3
  go_wp2_with (first
    | (go_at_call 5; refine (split_any s m _ hs hm).mono ?_; rintro e w1 ⟨A1, n1, c1, x1, rfl, hc1, hn1, hst1, hx1, hb1⟩)
    | (go_at_call 6; refine (refSplit_any s _ hs).mono ?_; rintro e w2 ⟨A2, n2, c2, x2, rfl, hc2, hn2, hst2, hx2, hb2⟩))
  have h12 : x1 = x2 := map_inj (by rw [hx1, hx2])
  subst h12
  have hst1' : Strs w2 A1 n1 x1 := hst1.below (Nat.le_refl _) hb2
  have hbw : Below w.heap.size w w2 := hb1.trans (hb2.mono hb1.size)
  have hxw : Strs w2 A n xs := hx.below (Nat.le_refl _) hbw
  clear hx1 hx2 hst1 hb1 hb2 hx hm
  have HL : Hid (n + Lib.lens (xs.map (·.data.toList)) ≤ 140737488355327) := hsum
  have hn47 : n ≤ 140737488355327 := by omega
  clear hsum
  go_loop [24, 9] (fun i t => ∃ (k : Nat) (T : ByteArray), k ≤ n ∧ i = .int .i64 k ∧ t = .string T ∧ T.data.toList = M.slashes ((xs.take k).map (·.data.toList))) (fun i _ => n - (intOf i).toNat)
  case atStart => exact ⟨0, ⟨#[]⟩, Nat.zero_le _, rfl, rfl, rfl⟩
  case round =>
    obtain ⟨k, T, hk, rfl, rfl, hT⟩ := hrel
    have HT : Hid (T.data.toList = M.slashes ((xs.take k).map (·.data.toList))) := hT
    clear hT
    by_cases hlt : k < n
    · obtain ⟨b, o, x, rfl, hxk, hxc⟩ := hxw.at hlt
      have HK : Hid (xs[k]? = some x) := hxk
      clear hxk
      have hT47 : T.size ≤ 140737488355327 := by
        have h1 := congrArg List.length HT.out
        have h2 := lens_take_le (xs.map (·.data.toList)) k
        rw [len_data, M.slashes_len, List.length_map, List.length_take, List.map_take] at h1
        have := HL.out
        have := hxw.1
        omega
      have hx47 : x.size ≤ 140737488355327 := by
        have h1 := lens_at (l := xs.map (·.data.toList)) (k := k) (x := x.data.toList) (by rw [List.getElem?_map, HK.out]; rfl)
        rw [len_data] at h1
        have := HL.out
        omega
      have hadd1 : ∀ W : World, (Op.stringOp .add T ⟨#[47]⟩).run Tryd.prog W = .ok (.string (T ++ ⟨#[47]⟩)) W := fun W => run_string_add_sum W _ _ (by have : (⟨#[47]⟩ : ByteArray).size = 1 := rfl; omega)
      have hadd2 : ∀ W : World, (Op.stringOp .add (T ++ ⟨#[47]⟩) x).run Tryd.prog W = .ok (.string (T ++ ⟨#[47]⟩ ++ x)) W := fun W => run_string_add_sum W _ _ (by rw [ByteArray.size_append]; have : (⟨#[47]⟩ : ByteArray).size = 1 := rfl; omega)
      go_wp2
      go_round
      case rel => exact ⟨k + 1, _, by omega, by go_num, rfl, slashes_step HK.out HT.out⟩
      case measure => simp [intOf]; omega
    · have hall : T.data.toList = M.slashes (xs.map (·.data.toList)) := by
        have := HT.out
        rwa [List.take_of_length_le (by have := hxw.1; omega)] at this
      have hlen : (M.joinS (xs.map (·.data.toList))).length ≤ 140737488355328 := by
        have e := M.slashes_join (xs.map (·.data.toList))
        have e2 := M.slashes_len (xs.map (·.data.toList))
        have := HL.out
        have := hxw.1
        rw [List.length_map] at e2
        split at e
        · rw [← e]; decide
        · rw [← e]; omega
      have HLEN : Hid ((M.joinS (xs.map (·.data.toList))).length ≤ 140737488355328) := hlen
      clear hlen HT
      by_cases hT0 : T = ⟨#[]⟩
      · subst hT0
        have HJ : Hid ((⟨#[47]⟩ : ByteArray).data.toList = M.joinS (xs.map (·.data.toList))) := by
          have e := M.slashes_join (xs.map (·.data.toList))
          rw [← hall, if_pos rfl] at e
          exact e
        clear hall
        go_wp2_with (first
          | (go_at_call 7; refine (same_any A1 A2 n1 n2 c1 c2 x1 x1 _ hst1' hst2 (by unfold maxLen; omega) (by unfold maxLen; omega)).mono ?_; rintro e w3 ⟨rfl, q, hw⟩; rw [hw]; clear hw; rw [decide_eq_true rfl])
          | (go_at_call 8; refine (name_any s _ hs).mono ?_; rintro e w4 ⟨rfl, hw⟩; rw [hw]; clear hw)
          | (go_at_call 9; refine (refName_any s _ hs).mono ?_; rintro e w5 ⟨rfl, hw⟩; rw [hw]; clear hw)
          | (go_at_call 10; refine (join_at ⟨#[47]⟩ A n c xs _ (hxw.below (Nat.le_refl _) (below_drewN (Below.refl _ _) _)) hc (by omega) HJ.out HLEN.out).mono ?_; rintro e w6 ⟨rfl, hb6⟩))
        go_ret
        exact ⟨rfl, (below_drewN hbw _).trans (hb6.mono hbw.size)⟩
      · have hq : (T.toList == []) = false := by
          have := raw_no hT0
          rwa [ByteArray.toList_eq ⟨#[]⟩] at this
        have HJ : Hid (T.data.toList = M.joinS (xs.map (·.data.toList))) := by
          have e := M.slashes_join (xs.map (·.data.toList))
          rw [← hall, if_neg (fun e => hT0 (ba_ext e))] at e
          exact e
        clear hall hT0
        go_wp2_with (first
          | (go_at_call 7; refine (same_any A1 A2 n1 n2 c1 c2 x1 x1 _ hst1' hst2 (by unfold maxLen; omega) (by unfold maxLen; omega)).mono ?_; rintro e w3 ⟨rfl, q, hw⟩; rw [hw]; clear hw; rw [decide_eq_true rfl])
          | (go_at_call 8; refine (name_any s _ hs).mono ?_; rintro e w4 ⟨rfl, hw⟩; rw [hw]; clear hw)
          | (go_at_call 9; refine (refName_any s _ hs).mono ?_; rintro e w5 ⟨rfl, hw⟩; rw [hw]; clear hw)
          | (go_at_call 10; refine (join_at T A n c xs _ (hxw.below (Nat.le_refl _) (below_drewN (Below.refl _ _) _)) hc (by omega) HJ.out HLEN.out).mono ?_; rintro e w6 ⟨rfl, hb6⟩))
        go_ret
        exact ⟨rfl, (below_drewN hbw _).trans (hb6.mono hbw.size)⟩
end Go.Proofs.YtgeolmiinbcnfaaDoor
