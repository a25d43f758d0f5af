/-
  PACKAGE wire: Text.
-/
import Derived.Test.YtckfodpkckmkbacDoorWparsea
namespace Go.Proofs.YtckfodpkckmkbacDoor
open Go.RowKit

namespace M
/-- how long a log's text may be -/
def lenR : List Rec → Nat
  | [] => 0
  | r :: l => 201 + 2 * r.act.data.length + lenR l
/-- the lines of the first records are T: then the text of all is this -/
def TextAt (xs : List Rec) (k : Nat) (T : List UInt8) : Prop :=
  T.length + lenR (xs.drop k) ≤ lenR xs ∧ textS xs = if (textS (xs.drop k)).1 ≠ 0 then ((textS (xs.drop k)).1, []) else (0, T ++ (textS (xs.drop k)).2)
theorem text_bad : ∀ l : List Rec, (textS l).1 ≠ 0 → (textS l).2 = []
  | [], _ => rfl
  | r :: l, h => by
    simp only [textS] at h ⊢
    split
    · rfl
    · split
      · rfl
      · rename_i a b; simp [a, b] at h
theorem textAt_nil (xs : List Rec) : TextAt xs 0 [] := by
  refine ⟨by simp, ?_⟩
  rw [List.drop_zero]
  split
  · rename_i h; exact Prod.ext rfl (text_bad xs h)
  · rename_i h; exact Prod.ext (by simpa using h) rfl
theorem textAt_step {xs : List Rec} {k : Nat} {T : List UInt8} {x : Rec} (h : TextAt xs k T) (hx : xs[k]? = some x) (hf : FitR x) (hp : (printS x).1 = 0) : TextAt xs (k + 1) (T ++ (printS x).2.data.toList ++ [10]) := by
  have hd : xs.drop k = x :: xs.drop (k + 1) := by
    obtain ⟨hlt, e⟩ := List.getElem?_eq_some_iff.1 hx
    rw [List.drop_eq_getElem_cons hlt, e]
  obtain ⟨h1, h2⟩ := h
  have hs := print_size hf
  rw [hd] at h1 h2
  refine ⟨?_, ?_⟩
  · simp only [lenR, List.length_append, List.length_singleton] at h1 ⊢
    rw [len_data]
    omega
  · simp only [textS] at h2
    rw [h2]
    by_cases h3 : (textS (xs.drop (k + 1))).1 = 0
    · simp [h3, hp]
    · simp [h3, hp]
theorem textAt_bad {xs : List Rec} {k : Nat} {T : List UInt8} {x : Rec} (h : TextAt xs k T) (hx : xs[k]? = some x) (hp : (printS x).1 ≠ 0) : textS xs = ((printS x).1, []) := by
  have hd : xs.drop k = x :: xs.drop (k + 1) := by
    obtain ⟨hlt, e⟩ := List.getElem?_eq_some_iff.1 hx
    rw [List.drop_eq_getElem_cons hlt, e]
  have h2 := h.2
  rw [hd] at h2
  simp only [textS, if_pos hp] at h2
  exact h2
theorem textAt_end {xs : List Rec} {k : Nat} {T : List UInt8} (h : TextAt xs k T) (hk : xs.length ≤ k) : textS xs = (0, T) := by
  have h2 := h.2
  rw [List.drop_eq_nil_of_le hk] at h2
  simpa [textS] using h2
theorem lenR_mem : ∀ {xs : List Rec} {x : Rec}, x ∈ xs → 2 * x.act.data.length ≤ lenR xs
  | y :: l, x, h => by
    simp only [lenR]
    rcases List.mem_cons.1 h with h | h
    · subst h; omega
    · have := lenR_mem h; omega
theorem lenR_len : ∀ xs : List Rec, 201 * xs.length ≤ lenR xs
  | [] => Nat.le_refl _
  | _ :: l => by have := lenR_len l; simp only [lenR, List.length_cons]; omega
end M
theorem builder_below {T e : TypeId} {B b : Nat} {bs : List Value} {W W' : World} (h : Lib.IsBuilder T e B b bs W) (hb : Below W.heap.size W W') : Lib.IsBuilder T e B b bs W' := by
  have k : ∀ p, Lib.BuilderAt T e B b p bs W → Lib.BuilderAt T e B b p bs W' := by
    rintro p ⟨h1, v, h2, h3, h4⟩
    exact ⟨h1, v, by rw [hb.block _ (lt_of_block h2)]; exact h2, own_below h3 hb (Nat.le_refl _), h4⟩
  exact h.imp (k _) (k _)
/-- what a log must be, to be written -/
structure TxIn (w : World) (xs : List M.Rec) : Prop where
  env : Env w
  fit : ∀ x ∈ xs, M.FitR x
  nm : ∀ x ∈ xs, x.act.name.size ≤ maxLen ∧ x.act.toName.size ≤ maxLen
  len : M.lenR xs ≤ 17592186044416
def TextsTo (xs : List M.Rec) (w : World) (e : Ending) (w' : World) : Prop :=
  e = .returned (.tuple #[.string (txt (M.textS xs).2), .int .i64 (M.textS xs).1]) ∧ Below w.heap.size w w'
set_option maxRecDepth 8000 in
set_option maxHeartbeats 2000000 in
theorem text_any (A : Option Addr) (n c : Nat) (vs : List RV) (xs : List M.Rec) (w : World) (hx : TreeR w A n vs xs) (hi : TxIn w xs) :
    Calls Tryd.prog 6 #[.slice A n c] w (TextsTo xs w) := by
  have HI : Hid (TxIn w xs) := hi
  have HX : Hid (TreeR w A n vs xs) := hx
  have HN : Hid (n = xs.length) := hx.len
  have hn : n ≤ 17592186044416 := by have := M.lenR_len xs; have := hi.len; have := HN.out; omega
  clear hi hx
  go_enter Tryd.func6, Tryd.ntmps6
  go_wp2
  go_loopw [11] (fun i wr => ∃ (k : Nat) (T : List UInt8), k ≤ n ∧ i = .int .i64 k ∧ Below w.heap.size w wr ∧ Lib.IsBuilder 42 5 w.heap.size w.heap.size (Lib.byteCells T) wr ∧ M.TextAt xs k T) (fun i _ => n - (intOf i).toNat)
  case atStart => exact ⟨0, [], Nat.zero_le _, rfl, (Below.refl _ _).alloc (Nat.le_refl _) _, Lib.fresh_isBuilder _ _ _, M.textAt_nil xs⟩
  case round =>
    obtain ⟨k, T, hk, rfl, hb, hB, hT⟩ := hrel
    have HB : Hid (Lib.IsBuilder 42 5 w.heap.size w.heap.size (Lib.byteCells T) wr ∧ M.TextAt xs k T ∧ Below w.heap.size w wr) := ⟨hB, hT, hb⟩
    clear hB hT hb
    by_cases hlt : k < n
    · obtain ⟨b, o, v, rfl, hbz, hv, c0, c1, c2, c3, c4, c5, c6, c7, c8⟩ := Recs.at (HX.out.1.below (Nat.le_refl _) HB.out.2.2) hlt
      obtain ⟨x, hxk, hc⟩ := HX.out.2.at hv
      have hmem : x ∈ xs := List.mem_of_getElem? hxk
      have HC : Hid (xs[k]? = some x ∧ M.FitR x ∧ PrIn wr v x) := by
        refine ⟨hxk, HI.out.fit x hmem, ⟨HI.out.env.below HI.out.env.g HB.out.2.2, hc.below (Nat.le_refl _) HB.out.2.2, HI.out.fit x hmem, (HI.out.nm x hmem).1, (HI.out.nm x hmem).2, ?_⟩⟩
        have := M.lenR_mem hmem
        have := HI.out.len
        omega
      clear hv hxk hc hmem
      have HBX : Hid (BoxR (wr.alloc v.obj) wr.heap.size v ∧ Below wr.heap.size wr (wr.alloc v.obj)) := ⟨BoxR.new wr v, (Below.refl _ _).alloc (Nat.le_refl _) _⟩
      have HP : Hid (PrIn (wr.alloc v.obj) v x) := by
        obtain ⟨p1, p2, p3, p4, p5, p6⟩ := HC.out.2.2
        exact ⟨p1.below p1.g HBX.out.2, p2.below (Nat.le_refl _) HBX.out.2, p3, p4, p5, p6⟩
      go_wp2_with (fail)
      refine (print_any v x _ HP.out).mono ?_
      rintro e w2 ⟨rfl, hb2⟩
      have HB2 : Hid (Lib.IsBuilder 42 5 w.heap.size w.heap.size (Lib.byteCells T) w2 ∧ M.TextAt xs k T ∧ Below w.heap.size w w2) :=
        ⟨builder_below (builder_below HB.out.1 HBX.out.2) hb2, HB.out.2.1, (HB.out.2.2.trans (HBX.out.2.mono HB.out.2.2.size)).trans (hb2.mono (Nat.le_trans HB.out.2.2.size HBX.out.2.size))⟩
      clear HB HBX HP hb2 c0 c1 c2 c3 c4 c5 c6 c7 c8
      by_cases hp : (M.printS x).1 = 0
      · have HT : Hid (M.TextAt xs (k + 1) (T ++ (M.printS x).2.data.toList ++ [10])) := M.textAt_step HB2.out.2.1 HC.out.1 HC.out.2.1 hp
        have HS : Hid (T.length + (M.printS x).2.size + 1 ≤ 17592186044416) := by
          have h1 := HT.out.1
          have h2 := HI.out.len
          simp only [List.length_append, List.length_singleton, len_data] at h1
          show _ ≤ _
          omega
        have hq : ((M.printS x).1 == 0) = true := by rw [hp]; rfl
        clear hp
        go_wp2_with (fail)
        refine (Tryd.Builder_WriteString _ _ _ _ _ HB2.out.1 (by have := HS.out; rw [cells_len]; omega) HB2.out.2.2.size).mono ?_
        rintro e w3 ⟨rfl, hB3, hb3⟩
        have HB3 : Hid (Lib.IsBuilder 42 5 w.heap.size w.heap.size (Lib.byteCells T ++ Lib.strCells (M.printS x).2) w3 ∧ Below w.heap.size w w3) := ⟨.inr hB3, HB2.out.2.2.trans hb3⟩
        clear HB2 hB3 hb3
        go_wp2_with (fail)
        refine (Tryd.Builder_WriteString _ _ _ _ _ HB3.out.1 (by have := HS.out; rw [List.length_append, cells_len, Lib.strCells_length, show (⟨#[10]⟩ : ByteArray).size = 1 from rfl]; omega) HB3.out.2.size).mono ?_
        rintro e w4 ⟨rfl, hB4, hb4⟩
        have HB4 : Hid (Lib.IsBuilder 42 5 w.heap.size w.heap.size (Lib.byteCells (T ++ (M.printS x).2.data.toList ++ [10])) w4 ∧ Below w.heap.size w w4) := by
          refine ⟨?_, HB3.out.2.trans hb4⟩
          rw [Lib.byteCells_append, Lib.byteCells_append]
          exact .inr hB4
        clear HB3 hB4 hb4
        go_wp2_with (fail)
        go_roundw
        case rel => exact ⟨k + 1, _, by omega, by go_num, HB4.out.2, HB4.out.1, HT.out⟩
        case measure => simp [intOf]; omega
      · have HT : Hid (M.textS xs = ((M.printS x).1, [])) := M.textAt_bad HB2.out.2.1 HC.out.1 hp
        have hq : ((M.printS x).1 == 0) = false := by rw [beq_eq_false_iff_ne]; exact hp
        clear hp
        go_wp2_with (fail)
        go_ret2
        exact ⟨ret_print (by rw [HT.out]; rfl) (by rw [HT.out]), HB2.out.2.2⟩
    · have HT : Hid (M.textS xs = (0, T)) := M.textAt_end HB.out.2.1 (by have := HN.out; omega)
      go_wp2_with (go_at_call 12; refine (Tryd.Builder_String_any _ _ _ _ HB.out.1 HB.out.2.2.size).mono ?_; rintro e w2 ⟨rfl, hb2⟩)
      go_ret2
      exact ⟨ret_print (by rw [HT.out]; rfl) (by rw [HT.out]), HB.out.2.2.trans hb2⟩
end Go.Proofs.YtckfodpkckmkbacDoor
