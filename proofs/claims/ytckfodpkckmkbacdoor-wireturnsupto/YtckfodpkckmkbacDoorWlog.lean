/-
  PACKAGE wire: Log.
-/
import Derived.Test.YtckfodpkckmkbacDoorWtext
namespace Go.Proofs.YtckfodpkckmkbacDoor
open Go.RowKit

namespace M
/-- xs were read; t is still to be read -/
def LogAt (s : List UInt8) (t : List UInt8) (xs : List Rec) : Prop :=
  t.length + xs.length ≤ s.length ∧ logS s = if (logS t).1 ≠ 0 then ((logS t).1, []) else (0, xs ++ (logS t).2)
theorem logAt_start (s : List UInt8) : LogAt s s [] := by
  refine ⟨Nat.le_refl _, ?_⟩
  split
  · rename_i h; exact Prod.ext rfl (log_err h)
  · rename_i h; exact Prod.ext (by simpa using h) rfl
theorem logAt_bad {s t : List UInt8} {xs : List Rec} (h : LogAt s t xs) (ht : t ≠ []) (hp : (parseS (txt (Lib.cut t [10]).1)).1 ≠ 0) : logS s = ((parseS (txt (Lib.cut t [10]).1)).1, []) := by
  have e := log_step ht
  rw [if_pos hp] at e
  rw [h.2, e]
  simp [hp]
theorem logAt_form {s t : List UInt8} {xs : List Rec} (h : LogAt s t xs) (ht : t ≠ []) (hp : (parseS (txt (Lib.cut t [10]).1)).1 = 0) (hc : (Lib.cut t [10]).2.2 = false) : logS s = (2, []) := by
  have e := log_step ht
  rw [if_neg (by simpa using hp), if_pos hc] at e
  rw [h.2, e]
  simp
theorem logAt_step {s t : List UInt8} {xs : List Rec} (h : LogAt s t xs) (ht : t ≠ []) (hp : (parseS (txt (Lib.cut t [10]).1)).1 = 0) (hc : (Lib.cut t [10]).2.2 = true) : LogAt s (Lib.cut t [10]).2.1 (xs ++ [(parseS (txt (Lib.cut t [10]).1)).2]) := by
  have hs := cut_shorter hc
  refine ⟨by have := h.1; simp only [List.length_append, List.length_singleton]; omega, ?_⟩
  have e := log_step ht
  rw [if_neg (by simpa using hp), if_neg (by rw [hc]; decide)] at e
  rw [h.2, e]
  by_cases h3 : (logS (Lib.cut t [10]).2.1).1 = 0
  · simp [h3]
  · simp [h3]
theorem logAt_end {s : List UInt8} {xs : List Rec} (h : LogAt s [] xs) : logS s = (0, xs) := by
  rw [h.2, log_nil]; simp
theorem cut_len (t : List UInt8) : (Lib.cut t [10]).1.length ≤ t.length ∧ (Lib.cut t [10]).2.1.length ≤ t.length := by
  rcases cut_cases t with h | ⟨x, y, hx, rfl⟩
  · rw [cut_no h]; simp
  · rw [cut_yes hx]; simp; omega
end M
/-- what Log answers -/
def LogsTo (s : ByteArray) (w : World) (e : Ending) (w' : World) : Prop :=
  ∃ A n c vs, e = .returned (.tuple #[.slice A n c, .int .i64 (M.logS s.data.toList).1]) ∧ OwnL w' w.heap.size A n c vs (M.logS s.data.toList).2 ∧ Below w.heap.size w w' ∧ n ≤ s.size
theorem logs_none {s : ByteArray} {w w' : World} {c : Int} (h : M.logS s.data.toList = (c, [])) (hb : Below w.heap.size w w') : LogsTo s w (.returned (.tuple #[.slice none 0 0, .int .i64 c])) w' :=
  ⟨none, 0, 0, [], by rw [h], by rw [h]; exact OwnL.nil _ _, hb, Nat.zero_le _⟩
theorem cutW_any (t : ByteArray) (w : World) (hs : t.size < 4294967281) (he : Env w) :
    Calls Tryd.prog 13 #[.string t, .string ⟨#[10]⟩] w fun e w' => e = .returned (.tuple #[.string (txt (Lib.cut t.data.toList [10]).1), .string (txt (Lib.cut t.data.toList [10]).2.1), .bool (Lib.cut t.data.toList [10]).2.2]) ∧ Below w.heap.size w w' := by
  obtain ⟨m, hm⟩ := he.max
  refine (Tryd.strings_Cut t ⟨#[10]⟩ m w hs hm).mono ?_
  rintro e w' ⟨rfl, n, rfl⟩
  exact ⟨rfl, below_drewN (Below.refl _ _) n⟩
set_option maxRecDepth 8000 in
set_option maxHeartbeats 4000000 in
theorem log_any (s : ByteArray) (w : World) (hs : s.size < 4294967281) (he : Env w) :
    Calls Tryd.prog 7 #[.string s] w (LogsTo s w) := by
  obtain ⟨i48, hi48, hz48, hs48, hb48⟩ := info_parts info48
  have HE : Hid (Env w) := he
  clear he
  go_enter Tryd.func7, Tryd.ntmps7
  go_wp2
  go_loopw [0, 4] (fun u v wr => ∃ (t : ByteArray) (A : Option Addr) (k c : Nat) (vs : List RV) (xs : List M.Rec), u = .string t ∧ v = .slice A k c ∧ Hid (OwnL wr w.heap.size A k c vs xs ∧ Below w.heap.size w wr ∧ M.LogAt s.data.toList t.data.toList xs) ∧ t.size < 4294967281 ∧ k ≤ 4294967281) (fun u _ _ => match u with | .string t => t.size | _ => 0)
  case atStart => exact ⟨s, none, 0, 0, [], [], rfl, rfl, ⟨OwnL.nil _ _, Below.refl _ _, M.logAt_start _⟩, hs, by omega⟩
  case round =>
    obtain ⟨t, A, k, c, vs, xs, rfl, rfl, HO, ht, hk⟩ := hrel
    by_cases h0 : t = ⟨#[]⟩
    · have HR : Hid (M.logS s.data.toList = (0, xs)) := by
        subst h0; exact M.logAt_end HO.out.2.2
      have hq : (t.toList == []) = true := by rw [h0, ByteArray.toList_eq ⟨#[]⟩]; rfl
      clear h0
      go_wp2_with (fail)
      go_ret2
      refine ⟨A, k, c, vs, by rw [HR.out]; rfl, by rw [HR.out]; exact HO.out.1, HO.out.2.1, ?_⟩
      have h1 := HO.out.2.2.1
      have h2 := HO.out.1.tree.len
      rw [len_data, len_data] at h1
      omega
    · have hq : (t.toList == []) = false := by
        have := raw_no h0
        rwa [ByteArray.toList_eq ⟨#[]⟩] at this
      have HT : Hid (t.data.toList ≠ []) := fun e => h0 (M.ba_ext e)
      clear h0
      have HEr : Hid (Env wr) := HE.out.below HE.out.g HO.out.2.1
      go_wp2_with (fail)
      refine (cutW_any t _ ht HEr.out).mono ?_
      rintro e w1 ⟨rfl, hb1⟩
      have HO1 : Hid (OwnL w1 w.heap.size A k c vs xs ∧ Below w.heap.size w w1 ∧ Env w1) := ⟨HO.out.1.below (Nat.le_refl _) hb1, HO.out.2.1.trans (hb1.mono HO.out.2.1.size), HEr.out.below HEr.out.g hb1⟩
      have HA : Hid (M.LogAt s.data.toList t.data.toList xs) := HO.out.2.2
      clear hb1 HO HEr
      have hl := M.cut_len t.data.toList
      rw [len_data] at hl
      have HL : Hid ((txt (Lib.cut t.data.toList [10]).1).size < 4294967281) := by
        have : (txt (Lib.cut t.data.toList [10]).1).size = (Lib.cut t.data.toList [10]).1.length := rfl
        show _ < _
        omega
      clear hl
      go_wp2_with (fail)
      refine (parse_any (txt (Lib.cut t.data.toList [10]).1) _ HL.out HO1.out.2.2).mono ?_
      rintro e w2 ⟨r, rfl, hor, hb2⟩
      have HO2 : Hid (OwnL w2 w.heap.size A k c vs xs ∧ Below w.heap.size w w2 ∧ OwnR w2 w.heap.size r (M.parseS (txt (Lib.cut t.data.toList [10]).1)).2) := ⟨HO1.out.1.below (Nat.le_refl _) hb2, HO1.out.2.1.trans (hb2.mono HO1.out.2.1.size), hor.mono HO1.out.2.1.size⟩
      clear HO1 hor hb2
      have HBX : Hid (BoxR (w2.alloc r.obj) w2.heap.size r ∧ Below w2.heap.size w2 (w2.alloc r.obj)) := ⟨BoxR.new w2 r, (Below.refl _ _).alloc (Nat.le_refl _) _⟩
      by_cases hp : (M.parseS (txt (Lib.cut t.data.toList [10]).1)).1 = 0
      case neg =>
        have HR : Hid (M.logS s.data.toList = ((M.parseS (txt (Lib.cut t.data.toList [10]).1)).1, [])) := M.logAt_bad HA.out HT.out hp
        have hq2 : ((M.parseS (txt (Lib.cut t.data.toList [10]).1)).1 == 0) = false := by rw [beq_eq_false_iff_ne]; exact hp
        clear hp
        go_wp2_with (fail)
        go_ret2
        exact logs_none HR.out (HO2.out.2.1.trans (HBX.out.2.mono HO2.out.2.1.size))
      have hq2 : ((M.parseS (txt (Lib.cut t.data.toList [10]).1)).1 == 0) = true := by rw [hp]; rfl
      cases hc : (Lib.cut t.data.toList [10]).2.2
      · have HR : Hid (M.logS s.data.toList = (2, [])) := M.logAt_form HA.out HT.out hp hc
        clear hp
        go_wp2_with (fail)
        go_ret2
        exact logs_none HR.out (HO2.out.2.1.trans (HBX.out.2.mono HO2.out.2.1.size))
      · have HR : Hid (M.LogAt s.data.toList (Lib.cut t.data.toList [10]).2.1 (xs ++ [(M.parseS (txt (Lib.cut t.data.toList [10]).1)).2])) := M.logAt_step HA.out HT.out hp hc
        have HS : Hid ((txt (Lib.cut t.data.toList [10]).2.1).size < t.size) := by
          have := M.cut_shorter hc
          rw [len_data] at this
          exact this
        have HW : Hid (BoxR ((w2.alloc r.obj).alloc r.obj) (w2.heap.size + 1) r ∧ Below w2.heap.size w2 ((w2.alloc r.obj).alloc r.obj)) := by
          refine ⟨?_, ((Below.refl _ _).alloc (Nat.le_refl _) _).alloc (by simp) _⟩
          have := BoxR.new (w2.alloc r.obj) r
          simpa using this
        clear hp
        go_wp2_with (at_builtin; refine wpList_append_row _ (by rfl) (.tmp 28) (.tmp 30) 22 (by rfl) w.heap.size 37 i48 _ 104 Tryd.underlying22 hi48 hz48 hs48 hb48 rfl (by decide) _ k _ (by rfl) (own_below HO2.out.1.1 HW.out.2 (Nat.le_refl _)) (some ⟨w2.heap.size + 1, 0, none⟩) 1 1 [r] (by rfl) (rowR_box HW.out.1) rec_len rec_one (by unfold maxLen; omega) (by omega) (by have := HO2.out.2.1.size; simp; omega) ?_; intro v4 w4 hown4 hg4; obtain ⟨A4, c4', rfl, _, _⟩ := own_form hown4; have HR4 : Hid (OwnL w4 w.heap.size A4 (k + 1) c4' (vs ++ [r]) (xs ++ [(M.parseS (txt (Lib.cut t.data.toList [10]).1)).2]) ∧ Below w.heap.size w w4) := ⟨OwnL.snoc (HO2.out.1.below (Nat.le_refl _) HW.out.2) (HO2.out.2.2.below (Nat.le_refl _) HW.out.2) (by simpa using hown4) hg4, snoc_b (HO2.out.2.1.trans (HW.out.2.mono HO2.out.2.1.size)) (HO2.out.2.1.trans (HW.out.2.mono HO2.out.2.1.size)).size (own_below HO2.out.1.1 HW.out.2 (Nat.le_refl _)) hg4⟩; clear hown4 hg4)
        go_roundw
        case rel =>
          refine ⟨_, A4, k + 1, c4', _, _, rfl, rfl, ⟨HR4.out.1, HR4.out.2, HR.out⟩, by have := HS.out; omega, ?_⟩
          have h1 := HR.out.1
          have h2 := HR4.out.1.tree.len
          rw [len_data] at h1
          omega
        case measure => exact HS.out
end Go.Proofs.YtckfodpkckmkbacDoor
