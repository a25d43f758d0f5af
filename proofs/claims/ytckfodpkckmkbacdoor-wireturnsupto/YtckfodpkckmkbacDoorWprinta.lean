/-
  PACKAGE wire: Print.
-/
import Derived.Test.YtckfodpkckmkbacDoorWfield
namespace Go.Proofs.YtckfodpkckmkbacDoor
open Go.RowKit

namespace M
theorem it_size {n : Int} (h : Fit n) : (itB n).data.toList.length ≤ 21 := by
  have := Lib.itoa_length_le n h.1 h.2
  simpa [itB] using this
theorem dat_size (l : List UInt8) : (datB l).data.toList.length ≤ 1 + 2 * l.length := by
  unfold datB
  split
  · simp
  · have := hex_len l
    show (l.flatMap hexS).length ≤ _
    omega
theorem word_size (k : Int) : (wordB k).data.toList.length ≤ 6 := by
  unfold wordB
  repeat' split
  all_goals decide
theorem name_size {x : ByteArray} (h : nameB x.data.toList = true) : x.data.toList.length ≤ 8 := by
  unfold nameB at h
  simp only [Bool.and_eq_true, decide_eq_true_eq] at h
  exact h.1.2
/-- how long a line is -/
theorem line_len {r : Rec} (hf : FitR r) (hn : namedB r = true) : (Lib.join ((wordB r.act.kind :: lineS r).map (·.data.toList)) [32]).length ≤ 200 + 2 * r.act.data.length := by
  obtain ⟨f1, f2, f3, f4, f5⟩ := hf
  have w := word_size r.act.kind
  have i1 := it_size f1
  have i2 := it_size f2
  have i3 := it_size f3
  have i4 := it_size f4
  have i5 := it_size f5
  have d := dat_size r.act.data
  unfold namedB at hn
  rw [List.map_cons, Lib.join_length]
  by_cases h3 : r.act.kind = 3
  · simp only [lineS, h3, if_true, List.map_cons, List.map_nil, List.length_cons, List.length_nil, Lib.lens, List.sum_cons, List.sum_nil]
    rw [h3] at w
    omega
  · by_cases h5 : r.act.kind = 5
    · simp only [h5, decide_true, Bool.not_true, Bool.false_or, Bool.or_eq_true, decide_eq_true_eq, Bool.and_eq_true] at hn
      have hn := hn.resolve_left (by decide)
      have n1 := name_size hn.1
      have n2 := name_size hn.2
      have e53 : ¬ ((5 : Int) = 3) := by decide
      simp only [lineS, h5, e53, if_true, if_false, List.map_cons, List.map_nil, List.length_cons, List.length_nil, Lib.lens, List.sum_cons, List.sum_nil]
      rw [h5] at w
      omega
    · simp only [h5, h3, decide_false, Bool.not_false, Bool.false_or, Bool.true_or, Bool.and_true] at hn
      have n1 := name_size hn
      simp only [lineS, h5, h3, if_false, List.map_cons, List.map_nil, List.length_cons, List.length_nil, Lib.lens, List.sum_cons, List.sum_nil]
      omega
theorem print_size {r : Rec} (hf : FitR r) : (printS r).2.size ≤ 200 + 2 * r.act.data.length := by
  unfold printS
  split
  · simp [ByteArray.size]
  · split
    · rename_i hn
      have := line_len hf hn
      simpa [joinB, ByteArray.size] using this
    · simp [ByteArray.size]
end M
def allocs (w : World) (os : List Obj) : World := os.foldl World.alloc w
theorem allocs_size (w : World) : ∀ os : List Obj, (allocs w os).heap.size = w.heap.size + os.length := by
  intro os
  induction os generalizing w with
  | nil => rfl
  | cons o os ih => show (allocs (w.alloc o) os).heap.size = _; rw [ih]; simp; omega
theorem allocs_old (os : List Obj) : ∀ (w : World) (i : Nat), i < w.heap.size → (allocs w os).heap[i]? = w.heap[i]? := by
  induction os with
  | nil => intro w i h; rfl
  | cons o os ih => intro w i h; show (allocs (w.alloc o) os).heap[i]? = _; rw [ih _ _ (by simp; omega), Below.heap_alloc w o i h]
theorem allocs_at (os : List Obj) : ∀ (w : World) (i : Nat) (o : Obj), os[i]? = some o → (allocs w os).heap[w.heap.size + i]? = some o := by
  induction os with
  | nil => intro w i o h; cases h
  | cons p os ih =>
    intro w i o h
    show (allocs (w.alloc p) os).heap[w.heap.size + i]? = _
    cases i with
    | zero =>
      cases h
      rw [allocs_old _ _ _ (by simp)]
      exact heap_alloc_new w _
    | succ i =>
      have := ih (w.alloc p) i o h
      have e : (w.alloc p).heap.size + i = w.heap.size + (i + 1) := by simp; omega
      rw [e] at this
      exact this
theorem allocs_below (os : List Obj) : ∀ (B : Nat) (a w : World), Below B a w → B ≤ w.heap.size → Below B a (allocs w os) := by
  induction os with
  | nil => intro B a w h _; exact h
  | cons o os ih => intro B a w h hB; exact ih B a (w.alloc o) (h.alloc hB _) (by simp; omega)
theorem PrW.start (w : World) (r : RV) (k : ByteArray) : PrW w (((((w.alloc (.cells #[.int .i64 r.a.kind, .int .i64 r.a.fid, .int .i64 r.a.dir, .string r.a.name, .int .i64 r.a.to, .string r.a.toName, .slice r.a.dA r.a.dn r.a.dc, .int .i64 r.ver, .int .i64 r.id] 37)).alloc (.cells #[.string k] 9)).alloc (.cells #[.slice (some ⟨w.heap.size + 1, 0, none⟩) 1 1] 52)).alloc (.cells #[.bool true] 4)).alloc (.cells #[fPut w] 53)) r [k] true := by
  obtain ⟨os, hos⟩ : ∃ os : List Obj, os = [.cells #[.int .i64 r.a.kind, .int .i64 r.a.fid, .int .i64 r.a.dir, .string r.a.name, .int .i64 r.a.to, .string r.a.toName, .slice r.a.dA r.a.dn r.a.dc, .int .i64 r.ver, .int .i64 r.id] 37, .cells #[.string k] 9, .cells #[.slice (some ⟨w.heap.size + 1, 0, none⟩) 1 1] 52, .cells #[.bool true] 4, .cells #[fPut w] 53] := ⟨_, rfl⟩
  have key : PrW w (allocs w os) r [k] true := by
    refine ⟨allocs_below os _ _ _ (Below.refl _ _) (Nat.le_refl _), ?_, ⟨some ⟨w.heap.size + 1, 0, none⟩, 1, 1, ?_, ?_⟩, ?_, ?_⟩
    · exact allocs_at os w 0 _ (by rw [hos]; rfl)
    · exact allocs_at os w 2 _ (by rw [hos]; rfl)
    · exact ⟨rfl, .inr ⟨w.heap.size + 1, 1, #[.string k], rfl, by omega, allocs_at os w 1 _ (by rw [hos]; rfl), Nat.le_refl _, by unfold maxLen; omega, rfl, rfl⟩⟩
    · exact allocs_at os w 3 _ (by rw [hos]; rfl)
    · exact allocs_at os w 4 _ (by rw [hos]; rfl)
  rw [hos] at key
  exact key
theorem ret_print {a c : ByteArray} {b d : Int} (h : a = c) (h2 : b = d) : Ending.returned (.tuple #[.string a, .int .i64 b]) = .returned (.tuple #[.string c, .int .i64 d]) := by rw [h, h2]
set_option maxRecDepth 8000 in
set_option maxHeartbeats 2000000 in
theorem print_any (r : RV) (x : M.Rec) (w : World) (hi : PrIn w r x) :
    Calls Tryd.prog 9 #[r.val] w fun e w' => e = .returned (.tuple #[.string (M.printS x).2, .int .i64 (M.printS x).1]) ∧ Below w.heap.size w w' := by
  have HI : Hid (PrIn w r x) := hi
  have hk : r.a.kind = x.act.kind := hi.c.1.1
  clear hi
  by_cases h0 : M.wordB r.a.kind = ⟨#[]⟩
  · have HR : Hid (M.printS x = (1, ⟨#[]⟩)) := by show _ = _; unfold M.printS; rw [if_pos (by rw [← hk]; exact h0)]
    have hq : ((M.wordB r.a.kind).toList == []) = true := by rw [h0]; rw [ByteArray.toList_eq ⟨#[]⟩]; rfl
    clear h0 hk
    go_enter Tryd.func9, Tryd.ntmps9
    go_wp2_with (go_at_call 15; refine (word_any _ _).mono ?_; rintro e w' ⟨rfl, hw⟩; rw [hw]; clear hw)
    go_ret2
    exact ⟨ret_print (by rw [HR.out]) (by rw [HR.out]), (Below.refl _ w).alloc (Nat.le_refl _) _⟩
  · have H0 : Hid (M.wordB r.a.kind ≠ ⟨#[]⟩ ∧ r.a.kind = x.act.kind) := ⟨h0, hk⟩
    have hq : ((M.wordB r.a.kind).toList == []) = false := by
      have := raw_no h0
      rwa [ByteArray.toList_eq ⟨#[]⟩] at this
    clear h0 hk
    go_enter Tryd.func9, Tryd.ntmps9
    go_wp2_with (go_at_call 15; refine (word_any _ _).mono ?_; rintro e w' ⟨rfl, hw⟩; rw [hw]; clear hw)
    refine (fieldsP_any w _ r x [M.wordB r.a.kind] true (PrW.start w r _) (by simp) HI.out).mono ?_
    rintro e w1 ⟨rfl, hp⟩
    obtain ⟨c3, f3, z3⟩ := cell_of hp.nb
    obtain ⟨A, n, c, l2, o2⟩ := hp.ln
    obtain ⟨c2, f2, z2⟩ := cell_of l2
    have HP : Hid (Below w.heap.size w w1 ∧ w1.ownsRow w.heap.size 9 1 (.slice A n c) n (([M.wordB r.a.kind] ++ M.lineS x).flatMap strCells)) := ⟨hp.below, o2⟩
    clear hp l2 o2
    by_cases hn : M.namedB x = true
    · have HR : Hid (M.printS x = (0, M.joinB (M.wordB x.act.kind :: M.lineS x))) := by
        show _ = _
        unfold M.printS
        rw [← H0.out.2, if_neg H0.out.1, if_pos hn]
      have HL := M.line_len HI.out.fit hn
      rw [hn] at c3
      obtain ⟨hl, hr⟩ : n = (M.wordB r.a.kind :: M.lineS x).length ∧ ∃ b o, A = some ⟨b, o, none⟩ ∧ b < w1.heap.size ∧ ∀ (j : Nat) v, (M.wordB r.a.kind :: M.lineS x)[j]? = some v → w1.cell? ⟨b, o + j, none⟩ = some (.string v) := by
        obtain ⟨h1, h2⟩ := Row.ofOwn str_len (by decide) HP.out.2
        refine ⟨h1, ?_⟩
        rcases h2 with h2 | ⟨b, o, e, hb, hc⟩
        · cases h2
        · refine ⟨b, o, e, hb, fun j v hv => ?_⟩
          have := hc j v hv 0 _ rfl
          simpa using this
      obtain ⟨b, o, rfl, hb, hc⟩ := hr
      have hcap : n ≤ c := by
        obtain ⟨A', c', e, h1, _⟩ := own_form HP.out.2
        cases e; exact h1
      have HC : Hid ((∀ (j : Nat) v, (M.wordB r.a.kind :: M.lineS x)[j]? = some v → w1.cell? ⟨b, o + j, none⟩ = some (.string v)) ∧ (M.wordB r.a.kind :: M.lineS x).length ≤ c ∧ (M.wordB r.a.kind :: M.lineS x).length ≤ 20 ∧ (Lib.join ((M.wordB r.a.kind :: M.lineS x).map (·.data.toList)) [32]).length ≤ 140737488355328) := by
        refine ⟨hc, by rw [← hl]; exact hcap, ?_, ?_⟩
        · unfold M.lineS; repeat' split
          all_goals simp
        · rw [H0.out.2]
          have := HI.out.dt
          omega
      clear hc hcap hn
      subst hl
      go_wp2_with (go_at_call 24; refine (Tryd.strings_Join b o c (M.wordB r.a.kind :: M.lineS x) ⟨#[32]⟩ _ HC.out.1 hb (by have := HC.out.2.2.1; omega) HC.out.2.1 HC.out.2.2.2).mono ?_; rintro e w2 ⟨rfl, hb2⟩)
      go_ret2
      exact ⟨ret_print (by rw [HR.out, H0.out.2]; rfl) (by rw [HR.out]), HP.out.1.trans (hb2.mono HP.out.1.size)⟩
    · have hn' : M.namedB x = false := by simpa using hn
      have HR : Hid (M.printS x = (7, ⟨#[]⟩)) := by
        show _ = _
        unfold M.printS
        rw [← H0.out.2, if_neg H0.out.1, if_neg hn]
      clear hn
      rw [hn'] at c3
      go_wp2_with (fail)
      go_ret2
      exact ⟨ret_print (by rw [HR.out]) (by rw [HR.out]), HP.out.1⟩
end Go.Proofs.YtckfodpkckmkbacDoor
