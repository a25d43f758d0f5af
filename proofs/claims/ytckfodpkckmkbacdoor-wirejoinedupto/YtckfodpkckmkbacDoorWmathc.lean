/-
  PLAIN MATHEMATICS of chapter 5: how great what is read is; the closed fact.
-/
import Derived.Test.YtckfodpkckmkbacDoorWlog
namespace Go.Proofs.YtckfodpkckmkbacDoor
namespace M
open Go
theorem mem_join_len {x : List UInt8} : ∀ {l : List (List UInt8)}, x ∈ l → x.length ≤ Lib.lens l
  | y :: l, h => by
    simp only [Lib.lens, List.map_cons, List.sum_cons]
    rcases List.mem_cons.1 h with h | h
    · subst h; omega
    · have := mem_join_len h
      simp only [Lib.lens] at this
      omega
theorem fields_data {p : PS} {k : Int} (h : k ≠ 3) : (fieldsS p k).1.act.data = [] := by
  unfold fieldsS; rw [if_neg h]; split <;> rfl
theorem fields_name3 {p : PS} {k : Int} (h : k = 3) : (fieldsS p k).1.act.name = empt := by
  unfold fieldsS; rw [if_pos h]
theorem fields_to {p : PS} {k : Int} (h : k ≠ 5) : (fieldsS p k).1.act.toName = empt := by
  unfold fieldsS
  by_cases h3 : k = 3
  · rw [if_pos h3]
  · rw [if_neg h3, if_neg h]
theorem parse_is {s : ByteArray} (h : (parseS s).1 = 0) : ∃ p k, (parseS s).2 = (fieldsS p k).1 := by
  unfold parseS at h ⊢
  split at h
  · cases h
  split at h
  · cases h
  split at h
  · cases h
  rename_i a b c
  rw [if_neg a, if_neg b, if_neg c]
  exact ⟨_, _, rfl⟩
theorem dat_long (l : List UInt8) : 2 * l.length ≤ (datB l).data.toList.length := by
  unfold datB
  split
  · rename_i h; subst h; simp
  · have := hex_len l
    show _ ≤ (l.flatMap hexS).length
    omega
theorem print_is {r : Rec} (h : (printS r).1 = 0) : namedB r = true ∧ (printS r).2 = joinB (wordB r.act.kind :: lineS r) := by
  unfold printS at h ⊢
  split at h
  · cases h
  split at h
  · rename_i a b; rw [if_neg a, if_pos b]; exact ⟨b, rfl⟩
  · cases h
theorem parse_data {s : ByteArray} (h : (parseS s).1 = 0) : 2 * (parseS s).2.act.data.length ≤ s.size := by
  have e := read_print h
  obtain ⟨p, k, hp⟩ := parse_is h
  by_cases hk : (parseS s).2.act.kind = 3
  · have h2 := (print_is (by rw [e] : (printS (parseS s).2).1 = 0)).2
    rw [e] at h2
    simp only at h2
    have h3 : s.size = (Lib.join ((wordB (parseS s).2.act.kind :: lineS (parseS s).2).map (·.data.toList)) [32]).length := by
      exact congrArg ByteArray.size h2
    rw [h3, List.map_cons, Lib.join_length]
    have hm : (datB (parseS s).2.act.data).data.toList ∈ (wordB (parseS s).2.act.kind).data.toList :: (lineS (parseS s).2).map (·.data.toList) := by
      simp [lineS, hk]
    have h4 := mem_join_len hm
    have h5 := dat_long (parseS s).2.act.data
    omega
  · rw [hp] at hk ⊢
    rw [fields_data (by rw [fields_kind] at hk; exact hk)]
    simp
theorem parse_names {s : ByteArray} (h : (parseS s).1 = 0) : (parseS s).2.act.name.size ≤ 8 ∧ (parseS s).2.act.toName.size ≤ 8 := by
  have e := read_print h
  obtain ⟨p, k, hp⟩ := parse_is h
  have hn := (print_is (by rw [e] : (printS (parseS s).2).1 = 0)).1
  rw [hp] at hn ⊢
  unfold namedB at hn
  rw [fields_kind] at hn
  by_cases h3 : k = 3
  · rw [fields_name3 h3, fields_to (by omega)]; decide
  · by_cases h5 : k = 5
    · simp only [h5, decide_true, Bool.not_true, Bool.false_or, Bool.or_eq_true, decide_eq_true_eq, Bool.and_eq_true] at hn
      have hn := hn.resolve_left (by decide)
      have a := name_size hn.1
      have b := name_size hn.2
      rw [len_data] at a b
      rw [h5]
      exact ⟨a, b⟩
    · simp only [h5, h3, decide_false, Bool.not_false, Bool.false_or, Bool.true_or, Bool.and_true] at hn
      have a := name_size hn
      rw [len_data] at a
      rw [fields_to h5]
      exact ⟨a, by decide⟩
theorem log_small : ∀ (n : Nat) (s : List UInt8), s.length ≤ n → (∀ r ∈ (logS s).2, r.act.name.size ≤ 8 ∧ r.act.toName.size ≤ 8) ∧ lenR (logS s).2 ≤ 202 * s.length
  | 0, s, hn => by
    have : s = [] := List.length_eq_zero_iff.1 (by omega)
    subst this
    exact ⟨fun r hr => (by cases hr), by simp [log_nil, lenR]⟩
  | n + 1, s, hn => by
    rcases cut_cases s with hs | ⟨x, y, hx, rfl⟩
    · by_cases he : s = []
      · subst he; exact log_small 0 [] (Nat.le_refl _)
      · rw [log_err (log_end hs he)]
        exact ⟨fun r hr => (by cases hr), by simp [lenR]⟩
    · obtain ⟨i1, i2⟩ := log_small n y (by simp at hn; omega)
      rw [log_line hx]
      split
      · exact ⟨fun r hr => (by cases hr), by simp [lenR]⟩
      · rename_i h1
        split
        · exact ⟨fun r hr => (by cases hr), by simp [lenR]⟩
        · have h1 : (parseS (txt x)).1 = 0 := by simpa using h1
          have hd := parse_data h1
          have hz : (txt x).size = x.length := rfl
          refine ⟨fun r hr => ?_, ?_⟩
          · rcases List.mem_cons.1 hr with h | h
            · rw [h]; exact parse_names h1
            · exact i1 r h
          · simp only [lenR, List.length_append, List.length_cons]
            omega
theorem text_len : ∀ xs : List Rec, (∀ x ∈ xs, FitR x) → (textS xs).2.length ≤ lenR xs
  | [], _ => Nat.le_refl _
  | r :: l, hf => by
    have ih := text_len l (fun x hx => hf x (by simp [hx]))
    have hp := print_size (hf r (by simp))
    simp only [textS, lenR]
    split
    · simp
    · split
      · simp
      · simp only [List.length_append, List.length_cons, len_data]
        omega
/-- the closed fact's record -/
def recA : Rec := ⟨⟨3, 3, 0, empt, 0, empt, [1, 255]⟩, 7, 2⟩
def lineA : ByteArray := ⟨#[115, 116, 111, 114, 101, 32, 50, 32, 55, 32, 51, 32, 48, 49, 102, 102]⟩
theorem it_one {u : Nat} (h : u < 10) : itB (u : Int) = ⟨#[UInt8.ofNat (48 + u)]⟩ := by
  unfold itB Lib.itoa
  rw [if_neg (by omega), Int.toNat_natCast, Lib.decDigits_one h]
theorem fitA : FitR recA := ⟨⟨by decide, by decide⟩, ⟨by decide, by decide⟩, ⟨by decide, by decide⟩, ⟨by decide, by decide⟩, ⟨by decide, by decide⟩⟩
theorem lineA_is : lineS recA = [⟨#[50]⟩, ⟨#[55]⟩, ⟨#[51]⟩, ⟨#[48, 49, 102, 102]⟩] := by
  have a := it_one (u := 2) (by decide)
  have b := it_one (u := 7) (by decide)
  have c := it_one (u := 3) (by decide)
  have d : datB [1, 255] = ⟨#[48, 49, 102, 102]⟩ := by decide +kernel
  show itB 2 :: itB 7 :: itB 3 :: (if (3 : Int) = 3 then [datB [1, 255]] else _) = _
  rw [if_pos rfl, d]
  rw [show itB 2 = ⟨#[50]⟩ from a, show itB 7 = ⟨#[55]⟩ from b, show itB 3 = ⟨#[51]⟩ from c]
theorem printA : printS recA = (0, lineA) := by
  unfold printS
  rw [if_neg (by decide), if_pos (by decide), lineA_is]
  decide +kernel
theorem parseA : parseS lineA = (0, recA) := by
  have h := print_read fitA (by rw [printA])
  rw [printA] at h
  refine Prod.ext h.1 ?_
  have hc : cutB lineA = wordB 3 :: lineS recA := by
    have e : lineA = joinB (wordB 3 :: lineS recA) := by
      have := (print_is (by rw [printA] : (printS recA).1 = 0)).2
      rw [printA] at this
      exact this
    rw [e]
    exact cutB_join (line_clean (r := recA) (by decide))
  have k3 : kindS (wordB 3) = 3 := by decide
  have f := fields_line fitA (by decide)
  have hf : (fieldsS ⟨lineS recA, true, true⟩ 3).2 = ⟨[], true, true⟩ := f
  unfold parseS
  rw [hc, List.headD_cons, List.tail_cons, k3, hf]
  rw [if_neg (by decide), if_neg (by decide), if_neg (by decide)]
  show (fieldsS ⟨itB 2 :: itB 7 :: itB 3 :: [datB [1, 255]], true, true⟩ 3).1 = recA
  unfold fieldsS
  rw [if_pos rfl]
  have n2 : Fit 2 := ⟨by decide, by decide⟩
  have n7 : Fit 7 := ⟨by decide, by decide⟩
  have n3 : Fit 3 := ⟨by decide, by decide⟩
  rw [num_step n2, num_step n7, num_step n3]
  simp only [PS.int, PS.bytes, PS.word, List.headD_cons, num_it n2, num_it n7, num_it n3, dat_read, Option.getD_some]
  rfl
theorem logA : logS (lineA.data.toList ++ [10]) = (0, [recA]) := by
  have h := print_read fitA (by rw [printA])
  rw [printA] at h
  rw [log_line h.2]
  have e : txt lineA.data.toList = lineA := rfl
  rw [e, parseA, log_nil]
  simp
theorem textA : textS [recA] = (0, lineA.data.toList ++ [10]) := by
  have := text_log _ (lineA.data.toList ++ [10]) (Nat.le_refl _) (by rw [logA])
  rw [logA] at this
  exact this
end M
theorem txIn_log {w : World} {s : ByteArray} (hs : s.size < 4294967281) (he : Env w) : TxIn w (M.logS s.data.toList).2 := by
  obtain ⟨h1, h2⟩ := M.log_small _ s.data.toList (Nat.le_refl _)
  refine ⟨he, M.log_fit _ _ (Nat.le_refl _), fun x hx => ?_, ?_⟩
  · have := h1 x hx
    unfold maxLen
    omega
  · rw [len_data] at h2
    omega
end Go.Proofs.YtckfodpkckmkbacDoor
