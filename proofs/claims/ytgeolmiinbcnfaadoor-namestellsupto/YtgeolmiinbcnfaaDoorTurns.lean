/-
  THE LAW NamesTurns, walked: of any text and any list of texts it answers true, and all that was there stays.
-/
import Derived.Test.YtgeolmiinbcnfaaDoorTells
namespace Go.Proofs.YtgeolmiinbcnfaaDoor
open Go.RowKit

theorem splitS_alive : M.splitS [47, 97, 47, 98, 50] = ([[97], [98, 50]], 0) := by decide
theorem name_x1 : M.nameB [120, 49] = true := by decide
theorem name_X : M.nameB [88] = false := by decide

theorem alive_split (m : Int) (w : World) (hm : w.cell? ⟨0, 0, none⟩ = some (.int .i64 m)) :
    Calls Tryd.prog 5 #[.string ⟨#[47, 97, 47, 98, 50]⟩] w fun e w' => ∃ (b o c : Nat), e = .returned (.tuple #[.slice (some ⟨b, o, none⟩) 2 c, .int .i64 0]) ∧ 2 ≤ c ∧
      Strs w' (some ⟨b, o, none⟩) 2 [⟨#[97]⟩, ⟨#[98, 50]⟩] ∧ w'.cell? ⟨b, o + 1, none⟩ = some (.string ⟨#[98, 50]⟩) ∧ Below w.heap.size w w' := by
  refine (split_any ⟨#[47, 97, 47, 98, 50]⟩ m w (by decide) hm).mono ?_
  rintro e w' ⟨A, n, c, xs, rfl, hc, hn, hst, hxs, hb⟩
  have e1 : xs = [⟨#[97]⟩, ⟨#[98, 50]⟩] := map_inj (by rw [hxs]; exact congrArg Prod.fst splitS_alive)
  subst e1
  obtain ⟨hn2, h | ⟨b, o, rfl, hlt, hcell⟩⟩ := hst
  · cases h
  · have hn2 : n = 2 := hn2
    subst hn2
    refine ⟨b, o, c, ?_, hc, ⟨rfl, .inr ⟨b, o, rfl, hlt, hcell⟩⟩, hcell 1 _ rfl, hb⟩
    rw [show (M.splitS (⟨#[47, 97, 47, 98, 50]⟩ : ByteArray).data.toList).2 = 0 from congrArg Prod.snd splitS_alive]

theorem root_split (m : Int) (w : World) (hm : w.cell? ⟨0, 0, none⟩ = some (.int .i64 m)) :
    Calls Tryd.prog 5 #[.string ⟨#[47]⟩] w fun e w' => ∃ (A : Option Addr) (c : Nat), e = .returned (.tuple #[.slice A 0 c, .int .i64 0]) ∧ Below w.heap.size w w' := by
  refine (split_any ⟨#[47]⟩ m w (by decide) hm).mono ?_
  rintro e w' ⟨A, n, c, xs, rfl, hc, hn, hst, hxs, hb⟩
  have e1 : xs = [] := map_inj (by rw [hxs]; rfl)
  subst e1
  have hn2 : n = 0 := hst.1
  subst hn2
  exact ⟨A, c, rfl, hb⟩

set_option maxHeartbeats 1000000 in
theorem alive_any (m : Int) (w : World) (hm : w.cell? ⟨0, 0, none⟩ = some (.int .i64 m)) :
    Calls Tryd.prog 11 #[] w fun e w' => e = .returned (.bool true) ∧ Below w.heap.size w w' := by
  have hw0 := cell_lt hm
  go_enter Tryd.func11, Tryd.ntmps11
  go_wp2_with fail
  refine (alive_split m _ hm).mono ?_
  rintro e w1 ⟨b, o, c, rfl, hc, hst, hcell, hb1⟩
  have hm1 : w1.cell? ⟨0, 0, none⟩ = some (.int .i64 m) := by rw [hb1.cell (p := ⟨0, 0, none⟩) hw0]; exact hm
  go_wp2_with fail
  refine (root_split m _ hm1).mono ?_
  rintro e w2 ⟨A, c2, rfl, hb2⟩
  have hst2 := hst.below (Nat.le_refl _) hb2
  have hcell2 : w2.cell? ⟨b, o + 1, none⟩ = some (.string ⟨#[98, 50]⟩) := by rw [hb2.cell (p := ⟨b, o + 1, none⟩) (cell_lt hcell)]; exact hcell
  have hb12 : Below w.heap.size w w2 := hb1.trans (hb2.mono hb1.size)
  clear hm hm1 hst hcell hb1 hb2
  go_wp2_with (first
    | (go_at_call 10; refine (join_at ⟨#[47, 97, 47, 98, 50]⟩ _ 2 c [⟨#[97]⟩, ⟨#[98, 50]⟩] _ hst2 hc (by decide) (by decide) (by decide)).mono ?_; rintro e w6 ⟨rfl, hb6⟩)
    | (go_at_call_of 8 (Value.string ⟨#[120, 49]⟩); refine (name_any ⟨#[120, 49]⟩ _ (by decide)).mono ?_; rintro e w4 ⟨rfl, hw⟩; rw [hw]; clear hw; simp only [name_x1])
    | (go_at_call_of 8 (Value.string ⟨#[88]⟩); refine (name_any ⟨#[88]⟩ _ (by decide)).mono ?_; rintro e w4 ⟨rfl, hw⟩; rw [hw]; clear hw; simp only [name_X]))
  go_ret
  exact ⟨rfl, hb12.trans (hb6.mono hb12.size)⟩

theorem join_short {xs : List ByteArray} {n : Nat} (hn : n = xs.length) (hN : n ≤ 8796093022208) (h : (xs.map (·.data.toList)).all M.nameB = true) : (M.joinS (xs.map (·.data.toList))).length ≤ 140737488355328 := by
  have hl : Lib.lens (xs.map (·.data.toList)) ≤ 8 * xs.length := by
    clear hn hN
    induction xs with
    | nil => simp [Lib.lens]
    | cons x r ih =>
      rw [List.map_cons, List.all_cons, Bool.and_eq_true] at h
      have h1 := M.name_len h.1
      have h2 := ih h.2
      have e : Lib.lens ((x :: r).map (·.data.toList)) = x.data.toList.length + Lib.lens (r.map (·.data.toList)) := by simp [Lib.lens]
      rw [e, List.length_cons]; omega
  have e := M.slashes_join (xs.map (·.data.toList))
  have e2 := M.slashes_len (xs.map (·.data.toList))
  rw [List.length_map] at e2
  split at e
  · rw [← e]; decide
  · rw [← e]; omega

set_option maxHeartbeats 1000000 in
theorem turns_any (s : ByteArray) (A : Option Addr) (n c : Nat) (xs : List ByteArray) (m : Int) (w : World) (hs : s.size ≤ maxLen) (hm : w.cell? ⟨0, 0, none⟩ = some (.int .i64 m))
    (hx : Strs w A n xs) (hc : n ≤ c) (hN : n ≤ 8796093022208) (hsz : ∀ x ∈ xs, x.size ≤ maxLen) :
    Calls Tryd.prog 4 #[.string s, .slice A n c] w fun e w' => e = .returned (.bool true) ∧ Below w.heap.size w w' := by
  have hw0 := cell_lt hm
  have HZ : Hid (∀ x ∈ xs, x.size ≤ maxLen) := hsz
  clear hsz
  have HM : Hid (w.cell? ⟨0, 0, none⟩ = some (.int .i64 m)) := hm
  have HW : Hid (0 < w.heap.size) := hw0
  by_cases hE : (M.splitS s.data.toList).2 = 0
  case' pos =>
    go_enter Tryd.func4, Tryd.ntmps4
    go_wp2_with fail
    refine (alive_any m _ hm).mono ?_
    rintro e w1 ⟨rfl, hb1⟩
    have hm1 : w1.cell? ⟨0, 0, none⟩ = some (.int .i64 m) := by rw [hb1.cell (p := ⟨0, 0, none⟩) hw0]; exact hm
    go_wp2_with fail
    refine (split_any s m _ hs hm1).mono ?_
    rintro e w2 ⟨A1, n1, c1, x1, rfl, hc1, hn1, hst1, hx1, hb2⟩
    have hb12 : Below w.heap.size w w2 := hb1.trans (hb2.mono hb1.size)
    have HJ : Hid (s.data.toList = M.joinS (x1.map (·.data.toList))) := by
      show _ = _
      rw [hx1, M.join_split _ hE]
    have HJL : Hid ((M.joinS (x1.map (·.data.toList))).length ≤ 140737488355328) := by
      show _ ≤ _
      rw [← HJ.out, len_data]
      rcases Nat.lt_or_ge 40 s.size with h | h
      · rw [splitS_much h] at hE; cases hE
      · omega
    clear hm1 hb1 hb2 hx1
    go_wp2_with fail
    refine (join_at s A1 n1 c1 x1 _ hst1 hc1 (by omega) HJ.out HJL.out).mono ?_
    rintro e w3 ⟨rfl, hb23⟩
    have hb3 : Below w.heap.size w w3 := hb12.trans (hb23.mono hb12.size)
    have hxw : Strs w3 A n xs := hx.below (Nat.le_refl _) hb3
    clear hb12 hb23 hst1 hx hE HJ HJL
    have hq := raw_yes s
    go_wp2_with fail
  case' neg =>
    go_enter Tryd.func4, Tryd.ntmps4
    go_wp2_with fail
    refine (alive_any m _ hm).mono ?_
    rintro e w1 ⟨rfl, hb1⟩
    have hm1 : w1.cell? ⟨0, 0, none⟩ = some (.int .i64 m) := by rw [hb1.cell (p := ⟨0, 0, none⟩) hw0]; exact hm
    go_wp2_with fail
    refine (split_any s m _ hs hm1).mono ?_
    rintro e w3 ⟨A1, n1, c1, x1, rfl, hc1, hn1, hst1, hx1, hb2⟩
    have hb3 : Below w.heap.size w w3 := hb1.trans (hb2.mono hb1.size)
    have hxw : Strs w3 A n xs := hx.below (Nat.le_refl _) hb3
    clear hm1 hb1 hb2 hx1 hst1 hx
    go_wp2_with fail
  all_goals
    have hm3 : w3.cell? ⟨0, 0, none⟩ = some (.int .i64 m) := by rw [hb3.cell (p := ⟨0, 0, none⟩) HW.out]; exact HM.out
    have HM3 : Hid (w3.cell? ⟨0, 0, none⟩ = some (.int .i64 m)) := hm3
    clear hm3 hm
    go_loop [29] (fun i => ∃ k : Nat, k ≤ n ∧ i = .int .i64 k ∧ ((xs.take k).map (·.data.toList)).all M.nameB = true) (fun i => n - (intOf i).toNat)
    case atStart => exact ⟨0, Nat.zero_le _, rfl, rfl⟩
    case round =>
      obtain ⟨k, hk, rfl, hall⟩ := hrel
      have HA : Hid (((xs.take k).map (·.data.toList)).all M.nameB = true) := hall
      clear hall
      by_cases hlt : k < n
      · obtain ⟨b, o, x, rfl, hxk, hxc⟩ := hxw.at hlt
        have HK : Hid (xs[k]? = some x) := hxk
        have hxs : x.size ≤ maxLen := HZ.out x (List.mem_of_getElem? hxk)
        clear hxk
        cases hb : M.nameB x.data.toList
        · go_wp2_with (go_at_call 8; refine (name_any _ _ hxs).mono ?_; rintro e w4 ⟨rfl, hw⟩; rw [hw]; clear hw; simp only [hb])
          go_ret
          exact ⟨rfl, hb3⟩
        · go_wp2_with (go_at_call 8; refine (name_any _ _ hxs).mono ?_; rintro e w4 ⟨rfl, hw⟩; rw [hw]; clear hw; simp only [hb])
          go_round
          case rel => exact ⟨k + 1, by omega, by go_num, by rw [take_step HK.out, List.map_append, List.all_append, HA.out]; simp [hb]⟩
          case measure => simp [intOf]; omega
      · have hall : (xs.map (·.data.toList)).all M.nameB = true := by
          have := HA.out
          rwa [List.take_of_length_le (by have := hxw.1; omega)] at this
        have HL : Hid ((M.joinS (xs.map (·.data.toList))).length ≤ 140737488355328) := join_short hxw.1 hN hall
        have hsj := M.split_join _ hall
        obtain ⟨T, hT⟩ : ∃ T : ByteArray, T.data.toList = M.joinS (xs.map (·.data.toList)) := ⟨⟨(M.joinS (xs.map (·.data.toList))).toArray⟩, by simp⟩
        rw [← hT, len_data] at hsj
        have HT : Hid (T.data.toList = M.joinS (xs.map (·.data.toList))) := hT
        have hTm : T.size ≤ maxLen := by
          have := congrArg List.length hT
          have := HL.out
          rw [len_data] at *
          unfold maxLen
          omega
        clear hT HA hall
        rcases hsj with ⟨hbig, hsp⟩ | ⟨hsmall, hsp⟩
        all_goals
          have HS : Hid (M.splitS T.data.toList = _) := hsp
          have hE : (M.splitS T.data.toList).2 = _ := congrArg Prod.snd hsp
          clear hsp
          go_wp2_with fail
          refine (join_at T A n c xs _ hxw hc (by omega) HT.out HL.out).mono ?_
          rintro e w5 ⟨rfl, hb5⟩
          have hm5 : w5.cell? ⟨0, 0, none⟩ = some (.int .i64 m) := by rw [hb5.cell (p := ⟨0, 0, none⟩) (by have := hb3.size; have := HW.out; show 0 < w3.heap.size; omega)]; exact HM3.out
          have hxw5 : Strs w5 A n xs := hxw.below (Nat.le_refl _) hb5
          have hb35 : Below w.heap.size w w5 := hb3.trans (hb5.mono hb3.size)
          go_wp2_with fail
          refine (split_any T m _ hTm hm5).mono ?_
          rintro e w6 ⟨A6, n6, c6, x6, rfl, hc6, hn6, hst6, hx6, hb6⟩
          have hxw6 : Strs w6 A n xs := hxw5.below (Nat.le_refl _) hb6
          have hb36 : Below w.heap.size w w6 := hb35.trans (hb6.mono hb35.size)
          have HX6 : Hid (x6.map (·.data.toList) = (M.splitS T.data.toList).1) := hx6
          clear hm5 hx6
        · go_wp2_with fail
          go_ret
          exact ⟨rfl, hb36⟩
        · have hx6 : x6 = xs := map_inj (by rw [HX6.out, HS.out])
          go_wp2_with (go_at_call 7; refine (same_any A6 A n6 n c6 c x6 xs _ hst6 hxw6 (by unfold maxLen; omega) (by unfold maxLen; omega)).mono ?_; rintro e w7 ⟨rfl, q, hw⟩; rw [hw]; clear hw; rw [decide_eq_true hx6])
          go_ret
          exact ⟨rfl, below_drewN hb36 _⟩
end Go.Proofs.YtgeolmiinbcnfaaDoor
