/-
  THE LAWS of chapter 5: the closed fact.
-/
import Derived.Test.YtckfodpkckmkbacDoorWmathc
namespace Go.Proofs.YtckfodpkckmkbacDoor
open Go.RowKit

theorem add_any (a b : ByteArray) (h : a.size + b.size ≤ 140737488355328) (W : World) : (Op.stringOp .add a b).run Tryd.prog W = .ok (.string (a ++ b)) W := run_string_add_sum W _ _ (by omega)
theorem data_append (a b : ByteArray) : (a ++ b).data.toList = a.data.toList ++ b.data.toList := by simp
theorem bytsA (w : World) : Byts (w.alloc (.cells #[.int .u8 1, .int .u8 255] 5)) (some ⟨w.heap.size, 0, none⟩) 2 [1, 255] := by
  refine ⟨rfl, .inr ⟨w.heap.size, 0, rfl, by simp, fun j v hv i c hi => ?_⟩⟩
  rw [World.cell?_alloc_at _ _ _ _ rfl]
  match j, hv with
  | 0, hv =>
    cases hv
    match i, hi with
    | 0, hi => cases hi; rfl
  | 1, hv =>
    cases hv
    match i, hi with
    | 0, hi => cases hi; rfl
def rvA (w : World) : RV := ⟨⟨3, 3, 0, M.empt, 0, M.empt, some ⟨w.heap.size, 0, none⟩, 2, 2⟩, 7, 2⟩
set_option maxRecDepth 8000 in
set_option maxHeartbeats 1000000 in
theorem alive_any (w : World) (he : Env w) : Calls Tryd.prog 5 #[] w fun e w' => e = .returned (.bool true) ∧ Below w.heap.size w w' := by
  have hb1 : Below w.heap.size w (w.alloc (.cells #[.int .u8 1, .int .u8 255] 5)) := (Below.refl _ _).alloc (Nat.le_refl _) _
  have HP : Hid (PrIn (w.alloc (.cells #[.int .u8 1, .int .u8 255] 5)) (rvA w) M.recA ∧ Below w.heap.size w (w.alloc (.cells #[.int .u8 1, .int .u8 255] 5)) ∧ Env w) :=
    ⟨⟨he.below he.g hb1, ⟨⟨rfl, rfl, rfl, rfl, rfl, rfl, bytsA w⟩, rfl, rfl⟩, M.fitA, by decide, by decide, by decide⟩, hb1, he⟩
  clear he hb1
  go_enter Tryd.func5, Tryd.ntmps5
  go_wp2_with (fail)
  refine (print_any (rvA w) M.recA _ HP.out.1).mono ?_
  rintro e w1 ⟨rfl, hb1⟩
  rw [M.printA]
  have HB1 : Hid (Below w.heap.size w w1 ∧ Env w1) := by
    have := HP.out.2.1.trans (hb1.mono HP.out.2.1.size)
    exact ⟨this, HP.out.2.2.below HP.out.2.2.g this⟩
  clear hb1 HP
  go_wp2_with (fail)
  refine (parse_any M.lineA _ (by decide) HB1.out.2).mono ?_
  rintro e w2 ⟨r, rfl, hor, hb2⟩
  rw [M.parseA] at hor
  rw [M.parseA]
  have HB2 : Hid (Below w.heap.size w (w2.alloc r.obj) ∧ Env (w2.alloc r.obj)) := by
    have h := HB1.out.1.trans (hb2.mono HB1.out.1.size)
    have := h.alloc (h.size) r.obj
    exact ⟨this, HB1.out.2.below HB1.out.2.g ((hb2).alloc hb2.size _)⟩
  have HF : Hid ((w2.alloc r.obj).cell? ⟨w2.heap.size, 1, none⟩ = some (.int .i64 3)) := by
    have e : r.a.fid = 3 := hor.1.2.1
    have := (BoxR.new w2 r).facts.2.1
    rw [e] at this
    exact this
  clear hb2 HB1 hor
  have hadd : ∀ W : World, (Op.stringOp .add M.lineA ⟨#[10]⟩).run Tryd.prog W = .ok (.string (M.lineA ++ ⟨#[10]⟩)) W := add_any _ _ (by decide)
  have hl : (M.lineA ++ ⟨#[10]⟩ : ByteArray).data.toList = M.lineA.data.toList ++ [10] := data_append _ _
  have HL : Hid ((M.lineA ++ ⟨#[10]⟩ : ByteArray).data.toList = M.lineA.data.toList ++ [10] ∧ (M.lineA ++ ⟨#[10]⟩ : ByteArray).size < 4294967281) := by
    refine ⟨hl, ?_⟩
    have := congrArg List.length hl
    rw [len_data] at this
    rw [this]
    decide
  clear hl
  go_wp2_with (fail)
  generalize M.lineA ++ ⟨#[10]⟩ = q at HL hadd ⊢
  refine (log_any q _ HL.out.2 HB2.out.2).mono ?_
  rintro e w3 ⟨A, n, c, vs, rfl, hol, hb3, _⟩
  rw [HL.out.1, M.logA] at hol
  rw [HL.out.1, M.logA]
  have hn : n = 1 := hol.tree.len
  subst hn
  have HB3 : Hid (Below w.heap.size w w3 ∧ Env w3 ∧ TreeR w3 A 1 vs [M.recA]) := ⟨HB2.out.1.trans (hb3.mono HB2.out.1.size), HB2.out.2.below HB2.out.2.g hb3, hol.tree⟩
  have HF3 : Hid (w3.cell? ⟨w2.heap.size, 1, none⟩ = some (.int .i64 3)) := by
    show _ = _
    rw [hb3.cell (p := ⟨w2.heap.size, 1, none⟩) (by simp)]
    exact HF.out
  have HZ : Hid (w2.heap.size < w3.heap.size) := by
    have := hb3.size
    simp at this
    exact this
  clear hol hb3 HF HB2
  go_wp2_with (fail)
  refine (text_any A 1 c vs [M.recA] _ HB3.out.2.2 ⟨HB3.out.2.1, fun x hx => ?_, fun x hx => ?_, by decide⟩).mono ?_
  · rw [List.mem_singleton.1 hx]; exact M.fitA
  · rw [List.mem_singleton.1 hx]; decide
  rintro e w4 ⟨rfl, hb4⟩
  rw [M.textA]
  have hft : w4.cell? ⟨w2.heap.size, 1, none⟩ = some (.int .i64 3) := by
    rw [hb4.cell (p := ⟨w2.heap.size, 1, none⟩) HZ.out]
    exact HF3.out
  have HB4 : Hid (Below w.heap.size w w4) := HB3.out.1.trans (hb4.mono HB3.out.1.size)
  clear hb4 HB3 HF3 HZ
  have ht : txt (M.lineA.data.toList ++ [10]) = q := M.ba_ext (by rw [HL.out.1]; rfl)
  rw [ht]
  clear ht
  have hq1 : (M.lineA.toList == [115, 116, 111, 114, 101, 32, 50, 32, 55, 32, 51, 32, 48, 49, 102, 102]) = true := by
    rw [ByteArray.toList_eq]; rfl
  have hq2 := raw_yes q
  go_wp2_with (fail)
  go_ret
  exact ⟨rfl, HB4.out⟩
end Go.Proofs.YtckfodpkckmkbacDoor
