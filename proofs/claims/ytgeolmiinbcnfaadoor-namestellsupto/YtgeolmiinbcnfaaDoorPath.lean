/-
  names.Join and names.Split tell what the document asks, of any texts: their answers as the plain functions have them.
-/
import Derived.Test.YtgeolmiinbcnfaaDoorSame
import Derived.Test.YtgeolmiinbcnfaaDoorShelf
namespace Go.Proofs.YtgeolmiinbcnfaaDoor
open Go.RowKit

theorem ret_str {a b : ByteArray} (h : a = b) : Ending.returned (.string a) = .returned (.string b) := by rw [h]
theorem ba_ext {a b : ByteArray} (h : a.data.toList = b.data.toList) : a = b := by
  cases a; cases b
  exact congrArg ByteArray.mk (Array.toList_inj.1 h)

set_option maxHeartbeats 400000 in
theorem join_any (A : Option Addr) (n c : Nat) (xs : List ByteArray) (w : World) (hx : Strs w A n xs) (hc : n ≤ c) (hN : n ≤ 140737488355328)
    (hlen : (M.joinS (xs.map (·.data.toList))).length ≤ 140737488355328) :
    Calls Tryd.prog 10 #[.slice A n c] w fun e w' => e = .returned (.string ⟨(M.joinS (xs.map (·.data.toList))).toArray⟩) ∧ Below w.heap.size w w' := by
  obtain ⟨rfl, h⟩ := hx
  rcases h with rfl | ⟨b, o, rfl, hb, hcell⟩
  · go_enter Tryd.func10, Tryd.ntmps10
    go_wp2_with (go_at_call 16; refine (Tryd.strings_Join_none _ _ _ _).mono ?_; rintro e w' ⟨rfl, rfl⟩)
    go_ret
    exact ⟨rfl, Below.refl _ _⟩
  · have HC : Hid (∀ (j : Nat) x, xs[j]? = some x → w.cell? ⟨b, o + j, none⟩ = some (.string x)) := hcell
    clear hcell
    have hl : (Lib.join (xs.map (·.data.toList)) [47]).length ≤ 140737488355328 := by
      simp only [M.joinS, List.length_cons] at hlen; omega
    have HL : Hid ((Lib.join (xs.map (·.data.toList)) [47]).length ≤ 140737488355328) := hl
    clear hl hlen
    have hadd : ∀ W : World, (Op.stringOp .add ⟨#[47]⟩ ⟨(Lib.join (xs.map (·.data.toList)) [47]).toArray⟩).run Tryd.prog W = .ok (.string (⟨#[47]⟩ ++ ⟨(Lib.join (xs.map (·.data.toList)) [47]).toArray⟩)) W := fun W => run_string_add_sum W _ _ (by have := HL.out; simp [ByteArray.size]; omega)
    go_enter Tryd.func10, Tryd.ntmps10
    go_wp2_with (go_at_call 16; refine (Tryd.strings_Join b o c xs ⟨#[47]⟩ _ HC.out hb hN hc HL.out).mono ?_; rintro e w' ⟨rfl, hbel⟩)
    go_ret

    exact ⟨ret_str (ba_ext (by simp [M.joinS])), hbel⟩

theorem cells_at (w : World) (xs : List ByteArray) (t : TypeId) (j : Nat) (x : ByteArray) (h : xs[j]? = some x) :
    (w.alloc (.cells (xs.map Value.string).toArray t)).cell? ⟨w.heap.size, 0 + j, none⟩ = some (.string x) := by
  rw [World.cell?_alloc_at _ _ _ _ rfl, Nat.zero_add]
  simp [h]

set_option maxHeartbeats 400000 in
/-- strings.Split at a slash -/
theorem strSplit (s : ByteArray) (m : Int) (w : World) (hs : s.size < 4294967281) (hm : w.cell? ⟨0, 0, none⟩ = some (.int .i64 m)) :
    Calls Tryd.prog 13 #[.string s, .string ⟨#[47]⟩] w fun e w' => ∃ (n : Nat) (xs : List ByteArray), e = .returned (.slice (some ⟨w.heap.size, 0, none⟩) n n) ∧
      Strs w' (some ⟨w.heap.size, 0, none⟩) n xs ∧ xs.map (·.data.toList) = M.cutL 47 s.data.toList ∧ Below w.heap.size w w' ∧ n ≤ s.size + 1 := by
  refine (Tryd.strings_Split s ⟨#[47]⟩ m w hs hm (by decide)).mono ?_
  rintro e w' ⟨rfl, rfl⟩
  refine ⟨_, _, rfl, ⟨(Lib.splitB_all ⟨#[47]⟩ (by decide) 0 _ s rfl).symm, .inr ⟨_, _, rfl, by simp, fun j x hx => cells_at w _ 9 j x hx⟩⟩, M.splitB_cut 47 s, (Below.refl _ _).alloc (Nat.le_refl _) _, ?_⟩
  have := Lib.countB_le ⟨#[47]⟩ (by decide) s.size s (Nat.le_refl _)
  omega

theorem hasPre (l : List UInt8) (h : l.head? = some 47) : Lib.hasPrefix l [47] = true ∧ Lib.trimPrefix l [47] = l.tail := by
  cases l with
  | nil => simp at h
  | cons a r => simp at h; subst h; simp [Lib.hasPrefix, Lib.trimPrefix, List.isPrefixOf]
theorem noPre (l : List UInt8) (h : l.head? ≠ some 47) : Lib.hasPrefix l [47] = false := by
  cases l with
  | nil => simp [Lib.hasPrefix, List.isPrefixOf]
  | cons a r => simp at h; simp [Lib.hasPrefix, List.isPrefixOf, Ne.symm h]
theorem all_no {xs : List ByteArray} {k : Nat} {x : ByteArray} (h : xs[k]? = some x) (hb : M.nameB x.data.toList = false) : (xs.map (·.data.toList)).all M.nameB = false := by
  rw [List.all_eq_false]
  exact ⟨x.data.toList, List.mem_map.2 ⟨x, List.mem_of_getElem? h, rfl⟩, by simp [hb]⟩

/-- what Split answers: its names lie in memory, the error is the document's -/
def SplitsTo (s : ByteArray) (w : World) (e : Ending) (w' : World) : Prop :=
  ∃ (A : Option Addr) (n c : Nat) (xs : List ByteArray), e = .returned (.tuple #[.slice A n c, .int .i64 (M.splitS s.data.toList).2]) ∧ n ≤ c ∧ n ≤ 41 ∧ Strs w' A n xs ∧
    xs.map (·.data.toList) = (M.splitS s.data.toList).1 ∧ Below w.heap.size w w'

theorem splits_none {s : ByteArray} {w w' : World} {c : Int} (h : M.splitS s.data.toList = ([], c)) (hb : Below w.heap.size w w') :
    SplitsTo s w (.returned (.tuple #[.slice none 0 0, .int .i64 c])) w' :=
  ⟨none, 0, 0, [], by rw [h], Nat.le_refl _, by omega, ⟨rfl, .inl rfl⟩, by rw [h]; rfl, hb⟩

theorem splits_some {s : ByteArray} {w w' : World} {A : Option Addr} {n c : Nat} {xs : List ByteArray} {l : List (List UInt8)} (h : M.splitS s.data.toList = (l, 0)) (hc : n ≤ c) (hn : n ≤ 41) (hst : Strs w' A n xs)
    (hxs : xs.map (·.data.toList) = l) (hb : Below w.heap.size w w') : SplitsTo s w (.returned (.tuple #[.slice A n c, .int .i64 0])) w' :=
  ⟨A, n, c, xs, by rw [h], hc, hn, hst, by rw [h]; exact hxs, hb⟩

theorem splitS_much {s : ByteArray} (h : 40 < s.size) : M.splitS s.data.toList = ([], 4) := by
  unfold M.splitS; rw [len_data, if_pos h]
theorem splitS_form {s : ByteArray} (h : ¬ 40 < s.size) (h2 : s ≠ ⟨#[47]⟩) (h3 : s.data.toList.head? ≠ some 47) : M.splitS s.data.toList = ([], 2) := by
  have e2 : s.data.toList ≠ [47] := fun e => h2 (ba_ext e)
  unfold M.splitS; rw [len_data, if_neg h, if_neg e2, if_neg h3]
theorem splitS_name {s : ByteArray} (h : ¬ 40 < s.size) (h2 : s ≠ ⟨#[47]⟩) (h3 : s.data.toList.head? = some 47) (h4 : (M.cutL 47 s.data.toList.tail).all M.nameB = false) : M.splitS s.data.toList = ([], 7) := by
  have e2 : s.data.toList ≠ [47] := fun e => h2 (ba_ext e)
  unfold M.splitS; rw [len_data, if_neg h, if_neg e2, if_pos h3, h4]; rfl
theorem splitS_ok {s : ByteArray} (h : ¬ 40 < s.size) (h2 : s ≠ ⟨#[47]⟩) (h3 : s.data.toList.head? = some 47) (h4 : (M.cutL 47 s.data.toList.tail).all M.nameB = true) : M.splitS s.data.toList = (M.cutL 47 s.data.toList.tail, 0) := by
  have e2 : s.data.toList ≠ [47] := fun e => h2 (ba_ext e)
  unfold M.splitS; rw [len_data, if_neg h, if_neg e2, if_pos h3, h4]; rfl

set_option maxHeartbeats 400000 in
theorem split_any (s : ByteArray) (m : Int) (w : World) (hs : s.size ≤ maxLen) (hm : w.cell? ⟨0, 0, none⟩ = some (.int .i64 m)) :
    Calls Tryd.prog 5 #[.string s] w (SplitsTo s w) := by
  unfold maxLen at hs
  by_cases h1 : 40 < s.size
  · go_enter Tryd.func5, Tryd.ntmps5
    go_wp2
    go_ret2
    exact splits_none (splitS_much h1) (Below.refl _ _)
  by_cases h2 : s = ⟨#[47]⟩
  · subst h2
    have hq := raw_yes ⟨#[47]⟩
    go_enter Tryd.func5, Tryd.ntmps5
    go_wp2
    go_ret2
    exact splits_none rfl (Below.refl _ _)
  have hq : (s.toList == [47]) = false := by
    have := raw_no h2
    rwa [ByteArray.toList_eq ⟨#[47]⟩] at this
  have H2 : Hid (s ≠ ⟨#[47]⟩) := h2
  clear h2
  by_cases h3 : s.data.toList.head? = some 47
  · obtain ⟨hp, ht⟩ := hasPre _ h3
    have H3 : Hid (s.data.toList.head? = some 47) := h3
    clear h3
    have hsz : (⟨s.data.toList.tail.toArray⟩ : ByteArray).size ≤ 40 := by
      have : s.data.toList.tail.length ≤ 40 := by rw [List.length_tail, len_data]; omega
      exact this
    go_enter Tryd.func5, Tryd.ntmps5
    go_wp2_with (first
      | (go_at_call 12; refine (Tryd.strings_CutPrefix _ _ _).mono ?_; rintro e w' ⟨rfl, hw⟩; rw [hw]; clear hw; simp only [hp, ht])
      | (go_at_call 13; refine (strSplit _ m _ (by omega) hm).mono ?_; rintro e w' ⟨n, xs, rfl, hst, hxs, hbel, hn⟩))
    have HX : Hid (xs.map (·.data.toList) = M.cutL 47 s.data.toList.tail) := hxs
    clear hxs
    have hnb : n ≤ 41 := by omega
    go_loop [25] (fun i => ∃ k : Nat, k ≤ n ∧ i = .int .i64 k ∧ ((xs.take k).map (·.data.toList)).all M.nameB = true) (fun i => n - (intOf i).toNat)
    case atStart => exact ⟨0, Nat.zero_le _, rfl, rfl⟩
    case round =>
      obtain ⟨k, hk, rfl, hall⟩ := hrel
      have HA : Hid (((xs.take k).map (·.data.toList)).all M.nameB = true) := hall
      clear hall
      by_cases hlt : k < n
      · obtain ⟨b, o, x, hbo, hxk, hxc⟩ := hst.at hlt
        cases hbo
        rw [Nat.zero_add] at hxc
        have HK : Hid (xs[k]? = some x) := hxk
        clear hxk
        have hxs : x.size ≤ maxLen := by
          have hx := M.cutL_len 47 s.data.toList.tail x.data.toList (by rw [← HX.out]; exact List.mem_map.2 ⟨x, List.mem_of_getElem? HK.out, rfl⟩)
          rw [List.length_tail, len_data, len_data] at hx
          unfold maxLen; omega
        cases hb : M.nameB x.data.toList
        · go_wp2_with (go_at_call 8; refine (name_any _ _ hxs).mono ?_; rintro e w1 ⟨rfl, hw⟩; rw [hw]; clear hw; simp only [hb])
          go_ret2
          exact splits_none (splitS_name h1 H2.out H3.out (by rw [← HX.out]; exact all_no HK.out hb)) hbel
        · go_wp2_with (go_at_call 8; refine (name_any _ _ hxs).mono ?_; rintro e w1 ⟨rfl, hw⟩; rw [hw]; clear hw; simp only [hb])
          go_round
          case rel => exact ⟨k + 1, by omega, by go_num, by rw [take_step HK.out, List.map_append, List.all_append, HA.out]; simp [hb]⟩
          case measure => simp [intOf]; omega
      · go_wp2
        go_ret2
        have e : (M.cutL 47 s.data.toList.tail).all M.nameB = true := by
          have := HA.out
          rw [List.take_of_length_le (by have := hst.1; omega), HX.out] at this
          exact this
        exact splits_some (splitS_ok h1 H2.out H3.out e) (Nat.le_refl _) hnb hst HX.out hbel
  · have hp := noPre _ h3
    have H3 : Hid (s.data.toList.head? ≠ some 47) := h3
    clear h3
    go_enter Tryd.func5, Tryd.ntmps5
    go_wp2_with (first
      | (go_at_call 12; refine (Tryd.strings_CutPrefix _ _ _).mono ?_; rintro e w' ⟨rfl, hw⟩; rw [hw]; clear hw; simp only [hp]))
    go_ret2
    exact splits_none (splitS_form h1 H2.out H3.out) (Below.refl _ _)
end Go.Proofs.YtgeolmiinbcnfaaDoor
