/-
  PACKAGE wire: fields, as Parse calls it.
-/
import Derived.Test.YtckfodpkckmkbacDoorWparse
namespace Go.Proofs.YtckfodpkckmkbacDoor
open Go.RowKit

abbrev fGetNum (w0 : World) : Value := .func (.func 29) #[] #[.pointer (some ⟨w0.heap.size + 7, 0, none⟩), .pointer (some ⟨w0.heap.size + 6, 0, none⟩)]
abbrev fGetName (w0 : World) : Value := .func (.func 31) #[] #[.pointer (some ⟨w0.heap.size + 7, 0, none⟩), .pointer (some ⟨w0.heap.size + 5, 0, none⟩)]
abbrev fGetData (w0 : World) : Value := .func (.func 32) #[] #[.pointer (some ⟨w0.heap.size + 7, 0, none⟩), .pointer (some ⟨w0.heap.size + 6, 0, none⟩)]
/-- the value r has what x has, its data aside -/
def SameV (r : RV) (x : M.Rec) : Prop := r.a.kind = x.act.kind ∧ r.a.fid = x.act.fid ∧ r.a.dir = x.act.dir ∧ r.a.name = x.act.name ∧ r.a.to = x.act.to ∧ r.a.toName = x.act.toName ∧ r.ver = x.ver ∧ r.id = x.id
abbrev RV.arr (r : RV) : Array Value := #[.int .i64 r.a.kind, .int .i64 r.a.fid, .int .i64 r.a.dir, .string r.a.name, .int .i64 r.a.to, .string r.a.toName, .slice r.a.dA r.a.dn r.a.dc, .int .i64 r.ver, .int .i64 r.id]
/-- what is there behind all fields -/
def FieldsTo (w0 : World) (xs : List ByteArray) (y : M.Rec × M.PS) (e : Ending) (w' : World) : Prop :=
  ∃ r : RV, e = .returned (.tuple #[]) ∧ PaW w0 w' xs r.arr (.slice r.a.dA r.a.dn r.a.dc) y.1.act.data y.2 ∧ SameV r y.1
abbrev cells0 (k : Int) : Array Value := #[.int .i64 k, .int .i64 0, .int .i64 0, .string M.empt, .int .i64 0, .string M.empt, .slice none 0 0, .int .i64 0, .int .i64 0]
set_option maxRecDepth 8000 in
set_option maxHeartbeats 4000000 in
theorem fieldsQ_any (w0 w : World) (xs : List ByteArray) (k : Int) (p : M.PS) (h : PaW w0 w xs (cells0 k) (.slice none 0 0) [] p) (hi : PaIn w0 xs) :
    Calls Tryd.prog 17 #[.pointer (some ⟨w0.heap.size + 2, 0, none⟩), fGetNum w0, fGetName w0, fGetData w0] w (FieldsTo w0 xs (M.fieldsS p k)) := by
  have HI : Hid (PaIn w0 xs) := hi
  have HP : Hid (PaW w0 w xs (cells0 k) (.slice none 0 0) [] p) := h
  clear hi h
  go_enter Tryd.func17, Tryd.ntmps17
  go_wp2_with (fail)
  refine (getNum_any w0 _ xs #[.int .i64 k, .int .i64 0, .int .i64 0, .string M.empt, .int .i64 0, .string M.empt, .slice none 0 0, .int .i64 0, .int .i64 0] _ _ (p) 8 _ HP.out HI.out rfl).mono ?_
  rintro e w1 ⟨rfl, hp1⟩
  have HP1 : Hid (PaW w0 w1 xs #[.int .i64 k, .int .i64 0, .int .i64 0, .string M.empt, .int .i64 0, .string M.empt, .slice none 0 0, .int .i64 0, .int .i64 (p).int] (.slice none 0 0) [] (p).num) := hp1
  clear hp1 HP
  go_wp2_with (fail)
  refine (getNum_any w0 _ xs #[.int .i64 k, .int .i64 0, .int .i64 0, .string M.empt, .int .i64 0, .string M.empt, .slice none 0 0, .int .i64 0, .int .i64 (p).int] _ _ (p.num) 7 _ HP1.out HI.out rfl).mono ?_
  rintro e w2 ⟨rfl, hp2⟩
  have HP2 : Hid (PaW w0 w2 xs #[.int .i64 k, .int .i64 0, .int .i64 0, .string M.empt, .int .i64 0, .string M.empt, .slice none 0 0, .int .i64 (p.num).int, .int .i64 (p).int] (.slice none 0 0) [] (p.num).num) := hp2
  clear hp2 HP1
  go_wp2_with (fail)
  refine (getNum_any w0 _ xs #[.int .i64 k, .int .i64 0, .int .i64 0, .string M.empt, .int .i64 0, .string M.empt, .slice none 0 0, .int .i64 (p.num).int, .int .i64 (p).int] _ _ (p.num.num) 1 _ HP2.out HI.out rfl).mono ?_
  rintro e w3 ⟨rfl, hp3⟩
  have HP3 : Hid (PaW w0 w3 xs #[.int .i64 k, .int .i64 (p.num.num).int, .int .i64 0, .string M.empt, .int .i64 0, .string M.empt, .slice none 0 0, .int .i64 (p.num).int, .int .i64 (p).int] (.slice none 0 0) [] (p.num.num).num) := hp3
  clear hp3 HP2
  obtain ⟨k0, _⟩ := HP3.out.cell (o := 0) rfl
  by_cases h3 : k = 3
  · have H3 : Hid (k = 3) := h3
    have hq : (k == 3) = true := by rw [h3]; rfl
    clear h3
    go_wp2_with (fail)
    refine (getData_any w0 _ xs #[.int .i64 k, .int .i64 (p.num.num).int, .int .i64 0, .string M.empt, .int .i64 0, .string M.empt, .slice none 0 0, .int .i64 (p.num).int, .int .i64 (p).int] _ _ (p.num.num.num) 6 _ HP3.out HI.out rfl).mono ?_
    rintro e w4 ⟨A, n, c, rfl, hp4⟩
    have HP4 : Hid (PaW w0 w4 xs #[.int .i64 k, .int .i64 (p.num.num).int, .int .i64 0, .string M.empt, .int .i64 0, .string M.empt, .slice A n c, .int .i64 (p.num).int, .int .i64 (p).int] (.slice A n c) (p.num.num.num).bytes (p.num.num.num).dat) := hp4
    clear hp4 HP3 k0
    go_wp2_with (fail)
    refine bodyPost_ret (results_none rfl _ _ _) rfl ?_
    refine ⟨⟨⟨k, p.num.num.int, 0, M.empt, 0, M.empt, A, n, c⟩, p.num.int, p.int⟩, rfl, ?_, ?_⟩
    · have e := H3.out
      unfold M.fieldsS
      rw [if_pos e]
      exact HP4.out
    · have e := H3.out
      unfold M.fieldsS
      rw [if_pos e]
      exact ⟨rfl, rfl, rfl, rfl, rfl, rfl, rfl, rfl⟩
  · have H3 : Hid (k ≠ 3) := h3
    have hq : (k == 3) = false := by rw [beq_eq_false_iff_ne]; exact h3
    clear h3
    go_wp2_with (fail)
    refine (getNum_any w0 _ xs #[.int .i64 k, .int .i64 (p.num.num).int, .int .i64 0, .string M.empt, .int .i64 0, .string M.empt, .slice none 0 0, .int .i64 (p.num).int, .int .i64 (p).int] _ _ (p.num.num.num) 2 _ HP3.out HI.out rfl).mono ?_
    rintro e w4 ⟨rfl, hp4⟩
    have HP4 : Hid (PaW w0 w4 xs #[.int .i64 k, .int .i64 (p.num.num).int, .int .i64 (p.num.num.num).int, .string M.empt, .int .i64 0, .string M.empt, .slice none 0 0, .int .i64 (p.num).int, .int .i64 (p).int] (.slice none 0 0) [] (p.num.num.num).num) := hp4
    clear hp4 HP3
    go_wp2_with (fail)
    refine (getName_any w0 _ xs #[.int .i64 k, .int .i64 (p.num.num).int, .int .i64 (p.num.num.num).int, .string M.empt, .int .i64 0, .string M.empt, .slice none 0 0, .int .i64 (p.num).int, .int .i64 (p).int] _ _ (p.num.num.num.num) 3 _ HP4.out HI.out rfl).mono ?_
    rintro e w5 ⟨rfl, hp5⟩
    have HP5 : Hid (PaW w0 w5 xs #[.int .i64 k, .int .i64 (p.num.num).int, .int .i64 (p.num.num.num).int, .string (p.num.num.num.num).word, .int .i64 0, .string M.empt, .slice none 0 0, .int .i64 (p.num).int, .int .i64 (p).int] (.slice none 0 0) [] (p.num.num.num.num).nam) := hp5
    clear hp5 HP4
    obtain ⟨k5, _⟩ := HP5.out.cell (o := 0) rfl
    by_cases h5 : k = 5
    · have H5 : Hid (k = 5) := h5
      have hq5 : (k == 5) = true := by rw [h5]; rfl
      clear h5
      go_wp2_with (fail)
      refine (getNum_any w0 _ xs #[.int .i64 k, .int .i64 (p.num.num).int, .int .i64 (p.num.num.num).int, .string (p.num.num.num.num).word, .int .i64 0, .string M.empt, .slice none 0 0, .int .i64 (p.num).int, .int .i64 (p).int] _ _ (p.num.num.num.num.nam) 4 _ HP5.out HI.out rfl).mono ?_
      rintro e w6 ⟨rfl, hp6⟩
      have HP6 : Hid (PaW w0 w6 xs #[.int .i64 k, .int .i64 (p.num.num).int, .int .i64 (p.num.num.num).int, .string (p.num.num.num.num).word, .int .i64 (p.num.num.num.num.nam).int, .string M.empt, .slice none 0 0, .int .i64 (p.num).int, .int .i64 (p).int] (.slice none 0 0) [] (p.num.num.num.num.nam).num) := hp6
      clear hp6 HP5
      go_wp2_with (fail)
      refine (getName_any w0 _ xs #[.int .i64 k, .int .i64 (p.num.num).int, .int .i64 (p.num.num.num).int, .string (p.num.num.num.num).word, .int .i64 (p.num.num.num.num.nam).int, .string M.empt, .slice none 0 0, .int .i64 (p.num).int, .int .i64 (p).int] _ _ (p.num.num.num.num.nam.num) 5 _ HP6.out HI.out rfl).mono ?_
      rintro e w7 ⟨rfl, hp7⟩
      have HP7 : Hid (PaW w0 w7 xs #[.int .i64 k, .int .i64 (p.num.num).int, .int .i64 (p.num.num.num).int, .string (p.num.num.num.num).word, .int .i64 (p.num.num.num.num.nam).int, .string (p.num.num.num.num.nam.num).word, .slice none 0 0, .int .i64 (p.num).int, .int .i64 (p).int] (.slice none 0 0) [] (p.num.num.num.num.nam.num).nam) := hp7
      clear hp7 HP6
      go_wp2_with (fail)
      go_end0
      refine ⟨⟨⟨k, p.num.num.int, p.num.num.num.int, p.num.num.num.num.word, (p.num.num.num.num.nam).int, (p.num.num.num.num.nam.num).word, none, 0, 0⟩, p.num.int, p.int⟩, rfl, ?_, ?_⟩
      · have e3 := H3.out
        have e5 := H5.out
        unfold M.fieldsS
        rw [if_neg e3, if_pos e5]
        exact HP7.out
      · have e3 := H3.out
        have e5 := H5.out
        unfold M.fieldsS
        rw [if_neg e3, if_pos e5]
        exact ⟨rfl, rfl, rfl, rfl, rfl, rfl, rfl, rfl⟩
    · have H5 : Hid (k ≠ 5) := h5
      have hq5 : (k == 5) = false := by rw [beq_eq_false_iff_ne]; exact h5
      clear h5
      go_wp2_with (fail)
      go_end0
      refine ⟨⟨⟨k, p.num.num.int, p.num.num.num.int, p.num.num.num.num.word, 0, M.empt, none, 0, 0⟩, p.num.int, p.int⟩, rfl, ?_, ?_⟩
      · have e3 := H3.out
        have e5 := H5.out
        unfold M.fieldsS
        rw [if_neg e3, if_neg e5]
        exact HP5.out
      · have e3 := H3.out
        have e5 := H5.out
        unfold M.fieldsS
        rw [if_neg e3, if_neg e5]
        exact ⟨rfl, rfl, rfl, rfl, rfl, rfl, rfl, rfl⟩
end Go.Proofs.YtckfodpkckmkbacDoor
