/-
  THE SEARCH BY HALVES: place and spot tell where a fid, a name stands, or would stand.
-/
import Derived.Test.YtlegjdlmcphhlabBase
namespace Go.Proofs.Ytlegjdlmcphhlab
open Go.RowKit

theorem cell_lt {w : World} {a : Addr} {v : Value} (h : w.cell? a = some v) : a.block < w.heap.size := World.block_lt_of_cell? w _ h

set_option maxHeartbeats 400000 in
theorem searchI_any (A : Option Addr) (n c : Nat) (vs : List NV) (t : Int) (w : World) (hv : Nodes w A n vs) (hn : n ≤ 4611686018427387904) :
    Calls Try.prog 95 #[.slice A n c, .int .i64 t, .func (.func 96) #[] #[]] w fun e w' => ∃ (i : Nat) (b : Bool), e = .returned (.tuple #[.int .i64 i, .bool b]) ∧ i ≤ n ∧ b = decide ((vs.map (·.fid))[i]? = some t) ∧ M.Mid M.ltI (vs.map (·.fid)) t i i ∧ Below w.heap.size w w' := by
  go_enter Try.func95, Try.ntmps95
  go_wp2
  go_loopw [9, 10] (fun i j wr => ∃ a b : Nat, i = .int .i64 a ∧ j = .int .i64 b ∧ M.Mid M.ltI (vs.map (·.fid)) t a b ∧ Below w.heap.size w wr) (fun i j _ => (intOf j).toNat - (intOf i).toNat)
  case atStart => exact ⟨0, n, rfl, rfl, by rw [hv.1, ← List.length_map (f := fun v : NV => v.fid)]; exact M.mid_start _ _ _, Below.refl _ _⟩
  case round =>
    obtain ⟨a, b, rfl, rfl, hm, hb⟩ := hrel
    have hvr : Nodes wr A n vs := hv.below (Nat.le_refl _) hb
    have hab := hm.1
    have hbn : b ≤ n := by have := hm.2.1; rw [List.length_map] at this; rw [hv.1]; exact this
    have HM : Hid (M.Mid M.ltI (vs.map (·.fid)) t a b) := hm
    clear hm
    have hbz := hb.size
    by_cases hlt : a < b
    · obtain ⟨g, o, v, rfl, hgl, hvk, c0, c1, c2, c3, c4⟩ := hvr.at (j := (a + b) / 2) (by omega)
      have HK : Hid ((vs.map (·.fid))[(a + b) / 2]? = some v.fid) := by show _ = _; rw [List.getElem?_map, hvk]; rfl
      have HH : Hid (a ≤ (a + b) / 2 ∧ (a + b) / 2 < b) := by show _ ∧ _; omega
      clear hvk
      cases hl : M.ltI v.fid t
      · have hc := M.cmpI_ge hl
        have HL : Hid (M.ltI v.fid t = false) := hl
        clear hl
        go_wp2_with (go_at_call 96; refine (place1_any v t _).mono ?_; rintro e w1 ⟨rfl, hb1⟩)
        go_roundw
        case rel => exact ⟨a, (a + b) / 2, rfl, by go_num, M.mid_down M.ordI HM.out HH.out.1 HH.out.2 HK.out HL.out, hb.trans (hb1.mono hbz)⟩
        case measure => simp [intOf]; omega
      · have hc := M.cmpI_lt hl
        have HL : Hid (M.ltI v.fid t = true) := hl
        clear hl
        go_wp2_with (go_at_call 96; refine (place1_any v t _).mono ?_; rintro e w1 ⟨rfl, hb1⟩; rw [hc])
        go_roundw
        case rel => exact ⟨(a + b) / 2 + 1, b, by go_num, rfl, M.mid_up M.ordI HM.out HH.out.2 HK.out HL.out, hb.trans (hb1.mono hbz)⟩
        case measure => simp [intOf]; omega
    · obtain rfl : a = b := by omega
      by_cases han : a < n
      · obtain ⟨g, o, v, rfl, hgl, hvk, c0, c1, c2, c3, c4⟩ := hvr.at (j := a) han
        have HK : Hid ((vs.map (·.fid))[a]? = some v.fid) := by show _ = _; rw [List.getElem?_map, hvk]; rfl
        clear hvk
        go_wp2_with (go_at_call 96; refine (place1_any v t _).mono ?_; rintro e w1 ⟨rfl, hb1⟩)
        go_ret2
        exact ⟨a, _, rfl, by omega, by rw [HK.out, M.cmpI_eq]; simp, HM.out, hb.trans (hb1.mono hbz)⟩
      · have HN : Hid (vs.length ≤ a) := by show _ ≤ _; have := hv.1; omega
        go_wp2
        go_ret2
        exact ⟨a, _, rfl, by omega, by rw [List.getElem?_eq_none (by rw [List.length_map]; exact HN.out)]; simp, HM.out, hb⟩

theorem place_any (A : Option Addr) (n c : Nat) (vs : List NV) (t : Int) (w : World) (hv : Nodes w A n vs) (hn : n ≤ 4611686018427387904) :
    Calls Try.prog 79 #[.slice A n c, .int .i64 t] w fun e w' => ∃ (i : Nat) (b : Bool), e = .returned (.tuple #[.int .i64 i, .bool b]) ∧ i ≤ n ∧ b = decide ((vs.map (·.fid))[i]? = some t) ∧ M.Mid M.ltI (vs.map (·.fid)) t i i ∧ Below w.heap.size w w' := by
  go_enter Try.func79, Try.ntmps79
  go_wp2_with (go_at_call 95; refine (searchI_any A n c vs t _ hv hn).mono ?_; rintro e w1 ⟨i, b, rfl, h1, h2, h3, h4⟩; have H2 : Hid (b = _) := h2; clear h2)
  go_ret2
  exact ⟨i, b, rfl, h1, H2.out, h3, h4⟩

set_option maxHeartbeats 400000 in
theorem searchB_any (A : Option Addr) (n c : Nat) (vs : List (ByteArray × Int)) (t : ByteArray) (w : World) (hv : Ents w A n vs) (hn : n ≤ 4611686018427387904) :
    Calls Try.prog 91 #[.slice A n c, .string t, .func (.func 92) #[] #[]] w fun e w' => ∃ (i : Nat) (b : Bool), e = .returned (.tuple #[.int .i64 i, .bool b]) ∧ i ≤ n ∧ b = decide ((vs.map (·.1))[i]? = some t) ∧ M.Mid M.ltB (vs.map (·.1)) t i i ∧ Below w.heap.size w w' := by
  go_enter Try.func91, Try.ntmps91
  go_wp2
  go_loopw [9, 10] (fun i j wr => ∃ a b : Nat, i = .int .i64 a ∧ j = .int .i64 b ∧ M.Mid M.ltB (vs.map (·.1)) t a b ∧ Below w.heap.size w wr) (fun i j _ => (intOf j).toNat - (intOf i).toNat)
  case atStart => exact ⟨0, n, rfl, rfl, by rw [hv.1, ← List.length_map (f := fun v : (ByteArray × Int) => v.1)]; exact M.mid_start _ _ _, Below.refl _ _⟩
  case round =>
    obtain ⟨a, b, rfl, rfl, hm, hb⟩ := hrel
    have hvr : Ents wr A n vs := hv.below (Nat.le_refl _) hb
    have hab := hm.1
    have hbn : b ≤ n := by have := hm.2.1; rw [List.length_map] at this; rw [hv.1]; exact this
    have HM : Hid (M.Mid M.ltB (vs.map (·.1)) t a b) := hm
    clear hm
    have hbz := hb.size
    by_cases hlt : a < b
    · obtain ⟨g, o, v, rfl, hgl, hvk, c0, c1⟩ := hvr.at (j := (a + b) / 2) (by omega)
      have HK : Hid ((vs.map (·.1))[(a + b) / 2]? = some v.1) := by show _ = _; rw [List.getElem?_map, hvk]; rfl
      have HH : Hid (a ≤ (a + b) / 2 ∧ (a + b) / 2 < b) := by show _ ∧ _; omega
      clear hvk
      cases hl : M.ltB v.1 t
      · have hc := M.cmpB_ge hl
        have HL : Hid (M.ltB v.1 t = false) := hl
        clear hl
        go_wp2_with (go_at_call 92; refine (spot1_any v t _).mono ?_; rintro e w1 ⟨rfl, hb1⟩)
        go_roundw
        case rel => exact ⟨a, (a + b) / 2, rfl, by go_num, M.mid_down M.ordB HM.out HH.out.1 HH.out.2 HK.out HL.out, hb.trans (hb1.mono hbz)⟩
        case measure => simp [intOf]; omega
      · have hc := M.cmpB_lt hl
        have HL : Hid (M.ltB v.1 t = true) := hl
        clear hl
        go_wp2_with (go_at_call 92; refine (spot1_any v t _).mono ?_; rintro e w1 ⟨rfl, hb1⟩; rw [hc])
        go_roundw
        case rel => exact ⟨(a + b) / 2 + 1, b, by go_num, rfl, M.mid_up M.ordB HM.out HH.out.2 HK.out HL.out, hb.trans (hb1.mono hbz)⟩
        case measure => simp [intOf]; omega
    · obtain rfl : a = b := by omega
      by_cases han : a < n
      · obtain ⟨g, o, v, rfl, hgl, hvk, c0, c1⟩ := hvr.at (j := a) han
        have HK : Hid ((vs.map (·.1))[a]? = some v.1) := by show _ = _; rw [List.getElem?_map, hvk]; rfl
        clear hvk
        go_wp2_with (go_at_call 92; refine (spot1_any v t _).mono ?_; rintro e w1 ⟨rfl, hb1⟩)
        go_ret2
        exact ⟨a, _, rfl, by omega, by rw [HK.out, M.cmpB_eq]; simp, HM.out, hb.trans (hb1.mono hbz)⟩
      · have HN : Hid (vs.length ≤ a) := by show _ ≤ _; have := hv.1; omega
        go_wp2
        go_ret2
        exact ⟨a, _, rfl, by omega, by rw [List.getElem?_eq_none (by rw [List.length_map]; exact HN.out)]; simp, HM.out, hb⟩

theorem spot_any (A : Option Addr) (n c : Nat) (vs : List (ByteArray × Int)) (t : ByteArray) (w : World) (hv : Ents w A n vs) (hn : n ≤ 4611686018427387904) :
    Calls Try.prog 77 #[.slice A n c, .string t] w fun e w' => ∃ (i : Nat) (b : Bool), e = .returned (.tuple #[.int .i64 i, .bool b]) ∧ i ≤ n ∧ b = decide ((vs.map (·.1))[i]? = some t) ∧ M.Mid M.ltB (vs.map (·.1)) t i i ∧ Below w.heap.size w w' := by
  go_enter Try.func77, Try.ntmps77
  go_wp2_with (go_at_call 91; refine (searchB_any A n c vs t _ hv hn).mono ?_; rintro e w1 ⟨i, b, rfl, h1, h2, h3, h4⟩; have H2 : Hid (b = _) := h2; clear h2)
  go_ret2
  exact ⟨i, b, rfl, h1, H2.out, h3, h4⟩
end Go.Proofs.Ytlegjdlmcphhlab
