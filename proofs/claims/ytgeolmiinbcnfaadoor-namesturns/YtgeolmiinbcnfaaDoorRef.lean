/-
  THE REFERENCE's Split answers what the document asks, of any text.
-/
import Derived.Test.YtgeolmiinbcnfaaDoorCut
namespace Go.Proofs.YtgeolmiinbcnfaaDoor
open Go.RowKit

theorem strs_tail {w : World} {g n : Nat} {x : ByteArray} {xs : List ByteArray} (h : Strs w (some ⟨g, 0, none⟩) n (x :: xs)) : Strs w (some ⟨g, 1, none⟩) xs.length xs := by
  obtain ⟨_, h | ⟨b, o, e, hb, hc⟩⟩ := h
  · cases h
  · cases e
    refine ⟨rfl, .inr ⟨g, 1, rfl, hb, fun j y hy => ?_⟩⟩
    have := hc (j + 1) y (by simpa using hy)
    rw [Nat.zero_add, Nat.add_comm] at this
    exact this

theorem head_get (s : ByteArray) (h : 0 < s.size) : s.data.toList.head? = some s[0] := by
  rw [List.head?_eq_getElem?, List.getElem?_eq_getElem (by simpa using h)]; rfl

/-- Cut, of a text that begins with a slash: an empty piece first -/
theorem cut_head (s : ByteArray) (w : World) (hs : s.size ≤ 40) (h : s.data.toList.head? = some 47) :
    Calls Tryd.prog 14 #[.string s, .int .u8 47] w fun e w' => ∃ (g m c : Nat) (ys : List ByteArray), e = .returned (.slice (some ⟨g, 0, none⟩) (m + 1) (c + 1)) ∧ 1 ≤ m ∧ m ≤ c ∧ m ≤ 41 ∧ c + 1 ≤ 9223372036854775807 ∧
      Strs w' (some ⟨g, 1, none⟩) m ys ∧ ys.map (·.data.toList) = M.cutL 47 s.data.toList.tail ∧ Below w.heap.size w w' := by
  refine (cut_any s 47 w hs).mono ?_
  rintro e w' ⟨g, cap, xs, rfl, hxc, hx41, hcm, hst, hxs, hbel⟩
  have e1 : s.data.toList = 47 :: s.data.toList.tail := by
    cases hl : s.data.toList with
    | nil => rw [hl] at h; cases h
    | cons a r => rw [hl] at h; cases h; rfl
  rw [e1, M.cutL_hit] at hxs
  cases xs with
  | nil => cases hxs
  | cons x ys =>
    have hys := (List.cons.inj hxs).2
    have hm : 1 ≤ ys.length := by
      rcases Nat.eq_zero_or_pos ys.length with h | h
      · rw [List.length_eq_zero_iff.1 h] at hys
        exact absurd hys.symm (M.cutL_ne _ _)
      · exact h
    rw [List.length_cons] at hxc hx41
    unfold maxLen at hcm
    obtain ⟨c, rfl⟩ : ∃ c, cap = c + 1 := ⟨cap - 1, by omega⟩
    exact ⟨g, ys.length, c, ys, rfl, hm, by omega, by omega, by omega, strs_tail hst, hys, hbel⟩

set_option maxHeartbeats 400000 in
theorem refSplit_any (s : ByteArray) (w : World) (hs : s.size ≤ maxLen) :
    Calls Tryd.prog 6 #[.string s] w (SplitsTo s w) := by
  unfold maxLen at hs
  by_cases h1 : 40 < s.size
  · go_enter Tryd.func6, Tryd.ntmps6
    go_wp2
    go_ret2
    exact splits_none (splitS_much h1) (Below.refl _ _)
  by_cases h2 : s = ⟨#[47]⟩
  · subst h2
    have hq := raw_yes ⟨#[47]⟩
    go_enter Tryd.func6, Tryd.ntmps6
    go_wp2
    go_ret2
    exact splits_none rfl (Below.refl _ _)
  have hq : (s.toList == [47]) = false := by
    have := raw_no h2
    rwa [ByteArray.toList_eq ⟨#[47]⟩] at this
  have H2 : Hid (s ≠ ⟨#[47]⟩) := h2
  clear h2
  by_cases h0 : s = ⟨#[]⟩
  · subst h0
    go_enter Tryd.func6, Tryd.ntmps6
    go_wp2
    go_ret2
    exact splits_none rfl (Below.refl _ _)
  have hq0 : (s.toList == []) = false := by
    have := raw_no h0
    rwa [ByteArray.toList_eq ⟨#[]⟩] at this
  have hpos : 0 < s.size := by
    rcases Nat.eq_zero_or_pos s.size with h | h
    · exact absurd (ba_ext (by have := len_data s; rw [h] at this; rw [List.length_eq_zero_iff.1 this])) h0
    · exact h
  clear h0
  by_cases h3 : s[0] = 47
  · have H3 : Hid (s.data.toList.head? = some 47) := by show _ = _; rw [head_get s hpos, h3]
    have hne : ((s[0].toNat : Int) == 47) = true := by rw [h3]; rfl
    clear h3
    go_enter Tryd.func6, Tryd.ntmps6
    go_wp2_with (first
      | (go_at_call 14; refine (cut_head s _ (by omega) H3.out).mono ?_; rintro e w' ⟨g, n, c, xs, rfl, hn1, hnc, hnb, hcm, hst, hxs, hbel⟩; have hc0 : c ≠ 0 := by omega))
    have HX : Hid (xs.map (·.data.toList) = M.cutL 47 s.data.toList.tail) := hxs
    clear hxs
    go_loop [24] (fun i => ∃ k : Nat, k ≤ n ∧ i = .int .i64 k ∧ ((xs.take k).map (·.data.toList)).all M.nameB = true) (fun i => n - (intOf i).toNat)
    case atStart => exact ⟨0, Nat.zero_le _, rfl, rfl⟩
    case round =>
      obtain ⟨k, hk, rfl, hall⟩ := hrel
      have HA : Hid (((xs.take k).map (·.data.toList)).all M.nameB = true) := hall
      clear hall
      by_cases hlt : k < n
      · obtain ⟨b, o, x, hbo, hxk, hxc⟩ := hst.at hlt
        cases hbo
        have HK : Hid (xs[k]? = some x) := hxk
        clear hxk
        have hxs : x.size ≤ maxLen := by
          have hx := M.cutL_len 47 s.data.toList.tail x.data.toList (by rw [← HX.out]; exact List.mem_map.2 ⟨x, List.mem_of_getElem? HK.out, rfl⟩)
          rw [List.length_tail, len_data, len_data] at hx
          unfold maxLen; omega
        cases hb : M.nameB x.data.toList
        · go_wp2_with (go_at_call 9; refine (refName_any _ _ hxs).mono ?_; rintro e w1 ⟨rfl, hw⟩; rw [hw]; clear hw; simp only [hb])
          go_ret2
          exact splits_none (splitS_name h1 H2.out H3.out (by rw [← HX.out]; exact all_no HK.out hb)) hbel
        · go_wp2_with (go_at_call 9; refine (refName_any _ _ hxs).mono ?_; rintro e w1 ⟨rfl, hw⟩; rw [hw]; clear hw; simp only [hb])
          go_round
          case rel => exact ⟨k + 1, by omega, by go_num, by rw [take_step HK.out, List.map_append, List.all_append, HA.out]; simp [hb]⟩
          case measure => simp [intOf]; omega
      · go_wp2
        go_ret2
        have e : (M.cutL 47 s.data.toList.tail).all M.nameB = true := by
          have := HA.out
          rw [List.take_of_length_le (by have := hst.1; omega), HX.out] at this
          exact this
        exact splits_some (splitS_ok h1 H2.out H3.out e) hnc hnb hst HX.out hbel
  · have H3 : Hid (s.data.toList.head? ≠ some 47) := by
      show _ ≠ _
      rw [head_get s hpos]
      intro e; exact h3 (Option.some.inj e)
    have hne : ((s[0].toNat : Int) == 47) = false := by
      rw [beq_eq_false_iff_ne]
      intro e
      exact h3 (UInt8.toNat_inj.1 (by simpa using (by omega : s[0].toNat = 47)))
    clear h3
    go_enter Tryd.func6, Tryd.ntmps6
    go_wp2
    go_ret2
    exact splits_none (splitS_form h1 H2.out H3.out) (Below.refl _ _)
end Go.Proofs.YtgeolmiinbcnfaaDoor
