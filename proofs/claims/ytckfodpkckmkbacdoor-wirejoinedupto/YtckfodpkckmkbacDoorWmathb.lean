/-
  PLAIN MATHEMATICS of chapter 5, second part: what is written is read, in one way alone; one text behind the other.
-/
import Derived.Test.YtckfodpkckmkbacDoorWmath
import Derived.Lib.AtoiAllMem
import Derived.Lib.AtoiAllCases
namespace Go.Proofs.YtckfodpkckmkbacDoor
namespace M
open Go
/-- no blank in it, no line feed -/
def Clean (x : ByteArray) : Prop := ∀ c ∈ x.data.toList, c ≠ 32 ∧ c ≠ 10
theorem sign_clean {c : UInt8} (h : signB c = true) : c ≠ 32 ∧ c ≠ 10 := by
  constructor <;> (intro e; subst e; revert h; decide)
theorem name_clean {x : ByteArray} (h : nameB x.data.toList = true) : Clean x := by
  intro c hc
  simp only [nameB, Bool.and_eq_true, List.all_eq_true] at h
  exact sign_clean (h.2 c hc)
theorem it_clean (n : Int) : Clean (itB n) := by
  intro c hc
  rcases itoa_sign n c hc with h | h
  · subst h; decide
  · constructor <;> (intro e; subst e; revert h; decide)
theorem dat_clean (l : List UInt8) : Clean (datB l) := by
  intro c hc
  unfold datB at hc
  split at hc
  · have : c = 45 := by simpa using hc
    subst this; decide
  · have hc : c ∈ l.flatMap hexS := hc
    obtain ⟨b, _, hb⟩ := List.mem_flatMap.1 hc
    have hl := b.toNat_lt
    unfold hexS at hb
    rcases List.mem_cons.1 hb with h | h
    · rw [h]; exact sign_clean (hex_sign ⟨b.toNat / 16, by omega⟩)
    · rw [List.mem_singleton.1 h]; exact sign_clean (hex_sign ⟨b.toNat % 16, by omega⟩)
theorem word_clean (k : Int) : Clean (wordB k) := by
  unfold wordB Clean
  split
  · decide
  split
  · decide
  split
  · decide
  split
  · decide
  split
  · decide
  · simp
theorem line_clean {r : Rec} (h : namedB r = true) : ∀ x ∈ wordB r.act.kind :: lineS r, Clean x := by
  intro x hx
  rcases List.mem_cons.1 hx with e | hx
  · rw [e]; exact word_clean _
  unfold lineS at hx
  rcases List.mem_cons.1 hx with e | hx
  · rw [e]; exact it_clean _
  rcases List.mem_cons.1 hx with e | hx
  · rw [e]; exact it_clean _
  rcases List.mem_cons.1 hx with e | hx
  · rw [e]; exact it_clean _
  split at hx
  · rw [List.mem_singleton.1 hx]; exact dat_clean _
  · rename_i h3
    simp only [namedB, h3, decide_false, Bool.false_or, Bool.and_eq_true] at h
    rcases List.mem_cons.1 hx with e | hx
    · rw [e]; exact it_clean _
    rcases List.mem_cons.1 hx with e | hx
    · rw [e]; exact name_clean h.1
    split at hx
    · rename_i h5
      simp only [h5, decide_true, Bool.not_true, Bool.false_or] at h
      rcases List.mem_cons.1 hx with e | hx
      · rw [e]; exact it_clean _
      · rw [List.mem_singleton.1 hx]; exact name_clean h.2
    · cases hx
theorem map_inj : ∀ {xs ys : List ByteArray}, xs.map (·.data.toList) = ys.map (·.data.toList) → xs = ys
  | [], [], _ => rfl
  | [], y :: ys, h => by simp at h
  | x :: xs, [], h => by simp at h
  | x :: xs, y :: ys, h => by
    simp only [List.map_cons, List.cons.injEq] at h
    rw [ba_ext h.1, map_inj h.2]
theorem cutB_map (s : ByteArray) : (cutB s).map (·.data.toList) = cutL 32 s.data.toList := splitB_cut 32 s
theorem cutB_join {x : ByteArray} {l : List ByteArray} (h : ∀ y ∈ x :: l, Clean y) : cutB (joinB (x :: l)) = x :: l := by
  refine map_inj ?_
  rw [cutB_map]
  show cutL 32 (Lib.join ((x :: l).map (·.data.toList)) [32]) = _
  rw [List.map_cons]
  refine cut_join 32 _ _ (fun hc => (h x (by simp) 32 hc).1 rfl) (fun y hy => ?_)
  obtain ⟨z, hz, rfl⟩ := List.mem_map.1 hy
  exact fun hc => (h z (by simp [hz]) 32 hc).1 rfl
theorem joinB_cut (s : ByteArray) : joinB (cutB s) = s := by
  refine ba_ext ?_
  show Lib.join ((cutB s).map (·.data.toList)) [32] = _
  rw [cutB_map, join_cut]
theorem mem_join {c : UInt8} (sep : List UInt8) : ∀ (r : List (List UInt8)), c ∈ Lib.joinTail sep r → c ∈ sep ∨ ∃ x ∈ r, c ∈ x
  | [], h => by simp [Lib.joinTail] at h
  | y :: r, h => by
    have e : Lib.joinTail sep (y :: r) = (sep ++ y) ++ Lib.joinTail sep r := by simp [Lib.joinTail]
    rw [e] at h
    rcases List.mem_append.1 h with h | h
    · rcases List.mem_append.1 h with h | h
      · exact .inl h
      · exact .inr ⟨y, by simp, h⟩
    · rcases mem_join sep r h with h | ⟨x, hx, hc⟩
      · exact .inl h
      · exact .inr ⟨x, by simp [hx], hc⟩
theorem join_clean {x : ByteArray} {l : List ByteArray} (h : ∀ y ∈ x :: l, Clean y) : (10 : UInt8) ∉ (joinB (x :: l)).data.toList := by
  intro hc
  have hc : (10 : UInt8) ∈ Lib.join ((x :: l).map (·.data.toList)) [32] := hc
  rw [List.map_cons, Lib.join_cons] at hc
  rcases List.mem_append.1 hc with hc | hc
  · exact (h x (by simp) 10 hc).2 rfl
  · rcases mem_join _ _ hc with hc | ⟨y, hy, hc⟩
    · revert hc; decide
    · obtain ⟨z, hz, rfl⟩ := List.mem_map.1 hy
      exact (h z (by simp [hz]) 10 hc).2 rfl
theorem num_step {n : Int} (h : Fit n) (l : List ByteArray) (o m : Bool) : PS.num ⟨itB n :: l, o, m⟩ = ⟨l, o, m⟩ := by
  simp [PS.num, PS.past, PS.word, num_it h]
theorem nam_step (x : ByteArray) (l : List ByteArray) (o m : Bool) : PS.nam ⟨x :: l, o, m⟩ = ⟨l, o, m && nameB x.data.toList⟩ := by
  simp [PS.nam, PS.past, PS.word]
theorem dat_step (d : List UInt8) (l : List ByteArray) (o m : Bool) : PS.dat ⟨datB d :: l, o, m⟩ = ⟨l, o, m⟩ := by
  simp [PS.dat, PS.past, PS.word, dat_read]
def FitR (r : Rec) : Prop := Fit r.id ∧ Fit r.ver ∧ Fit r.act.fid ∧ Fit r.act.dir ∧ Fit r.act.to
theorem fields_line {r : Rec} (hf : FitR r) (hn : namedB r = true) : (fieldsS ⟨lineS r, true, true⟩ r.act.kind).2 = ⟨[], true, true⟩ := by
  obtain ⟨f1, f2, f3, f4, f5⟩ := hf
  unfold fieldsS lineS
  by_cases h3 : r.act.kind = 3
  · rw [if_pos h3, if_pos h3]
    simp only [num_step f1, num_step f2, num_step f3, dat_step]
  · simp only [namedB, h3, decide_false, Bool.false_or, Bool.and_eq_true] at hn
    rw [if_neg h3, if_neg h3]
    by_cases h5 : r.act.kind = 5
    · simp only [h5, decide_true, Bool.not_true, Bool.false_or] at hn
      rw [if_pos h5, if_pos h5]
      simp only [num_step f1, num_step f2, num_step f3, num_step f4, num_step f5, nam_step, hn.1, hn.2, Bool.and_self]
    · rw [if_neg h5, if_neg h5]
      simp only [num_step f1, num_step f2, num_step f3, num_step f4, nam_step, hn.1, Bool.and_self]
/-- what is written is read -/
theorem print_read {r : Rec} (hf : FitR r) (h : (printS r).1 = 0) : (parseS (printS r).2).1 = 0 ∧ (10 : UInt8) ∉ (printS r).2.data.toList := by
  unfold printS at h ⊢
  by_cases hw : wordB r.act.kind = ⟨#[]⟩
  · rw [if_pos hw] at h; exact absurd h (by decide)
  · rw [if_neg hw] at h ⊢
    by_cases hn : namedB r = true
    · rw [if_pos hn] at h ⊢
      have hc := line_clean hn
      refine ⟨?_, join_clean hc⟩
      unfold parseS
      rw [cutB_join hc]
      simp only [List.headD_cons, List.tail_cons, (kind_word hw).1, fields_line hf hn]
      rw [if_neg (by have := (kind_word hw).2; omega)]
      simp
    · rw [if_neg hn] at h; exact absurd h (by decide)
theorem past_back {p : PS} (h : p.past.ok = true) : p.ok = true ∧ p.rest = p.word :: p.past.rest := by
  obtain ⟨l, o, m⟩ := p
  cases l with
  | nil => simp [PS.past] at h
  | cons x l => simp [PS.past] at h; simp [PS.past, PS.word, h]
theorem num_back {p : PS} (h : p.num.ok = true) : p.ok = true ∧ p.rest = itB p.int :: p.num.rest ∧ p.num.named = p.named := by
  have h' : (p.past.ok && (numS p.word).isSome) = true := h
  rw [Bool.and_eq_true] at h'
  obtain ⟨h1, h2⟩ := past_back h'.1
  obtain ⟨n, hn⟩ := Option.isSome_iff_exists.1 h'.2
  refine ⟨h1, ?_, rfl⟩
  rw [h2]
  unfold PS.int
  rw [hn]
  show _ = itB n :: _
  rw [it_num hn]; rfl
theorem nam_back {p : PS} (h : p.nam.ok = true) : p.ok = true ∧ p.rest = p.word :: p.nam.rest ∧ p.nam.named = (p.named && nameB p.word.data.toList) := by
  obtain ⟨h1, h2⟩ := past_back (p := p) h
  exact ⟨h1, h2, rfl⟩
theorem dat_back {p : PS} (h : p.dat.ok = true) : p.ok = true ∧ p.rest = datB p.bytes :: p.dat.rest ∧ p.dat.named = p.named := by
  have h' : (p.past.ok && (datS p.word).isSome) = true := h
  rw [Bool.and_eq_true] at h'
  obtain ⟨h1, h2⟩ := past_back h'.1
  obtain ⟨n, hn⟩ := Option.isSome_iff_exists.1 h'.2
  refine ⟨h1, ?_, rfl⟩
  rw [h2]
  unfold PS.bytes
  rw [hn]
  show _ = datB n :: _
  rw [dat_write hn]; rfl
theorem fields_kind (p : PS) (k : Int) : (fieldsS p k).1.act.kind = k := by
  unfold fieldsS
  split
  · rfl
  split <;> rfl
theorem fields_back {p : PS} {k : Int} (h : (fieldsS p k).2.ok = true) (hr : (fieldsS p k).2.rest = []) :
    p.rest = lineS (fieldsS p k).1 ∧ (p.named = true → (fieldsS p k).2.named = namedB (fieldsS p k).1) := by
  unfold fieldsS at h hr ⊢
  by_cases h3 : k = 3
  · rw [if_pos h3] at h hr ⊢
    simp only at h hr ⊢
    obtain ⟨a4, b4, c4⟩ := dat_back h
    obtain ⟨a3, b3, c3⟩ := num_back a4
    obtain ⟨a2, b2, c2⟩ := num_back a3
    obtain ⟨a1, b1, c1⟩ := num_back a2
    rw [hr] at b4
    rw [b4] at b3
    rw [b3] at b2
    rw [b2] at b1
    refine ⟨?_, fun hp => ?_⟩
    · rw [b1]; unfold lineS; simp only; rw [if_pos h3]
    · rw [c4, c3, c2, c1, hp]; simp [namedB, h3]
  · rw [if_neg h3] at h hr ⊢
    by_cases h5 : k = 5
    · rw [if_pos h5] at h hr ⊢
      simp only at h hr ⊢
      obtain ⟨a7, b7, c7⟩ := nam_back h
      obtain ⟨a6, b6, c6⟩ := num_back a7
      obtain ⟨a5, b5, c5⟩ := nam_back a6
      obtain ⟨a4, b4, c4⟩ := num_back a5
      obtain ⟨a3, b3, c3⟩ := num_back a4
      obtain ⟨a2, b2, c2⟩ := num_back a3
      obtain ⟨a1, b1, c1⟩ := num_back a2
      rw [hr] at b7
      rw [b7] at b6
      rw [b6] at b5
      rw [b5] at b4
      rw [b4] at b3
      rw [b3] at b2
      rw [b2] at b1
      refine ⟨?_, fun hp => ?_⟩
      · rw [b1]; unfold lineS; simp only; rw [if_neg h3, if_pos h5]
      · rw [c7, c6, c5, c4, c3, c2, c1, hp]; simp [namedB, h5]
    · rw [if_neg h5] at h hr ⊢
      simp only at h hr ⊢
      obtain ⟨a5, b5, c5⟩ := nam_back h
      obtain ⟨a4, b4, c4⟩ := num_back a5
      obtain ⟨a3, b3, c3⟩ := num_back a4
      obtain ⟨a2, b2, c2⟩ := num_back a3
      obtain ⟨a1, b1, c1⟩ := num_back a2
      rw [hr] at b5
      rw [b5] at b4
      rw [b4] at b3
      rw [b3] at b2
      rw [b2] at b1
      refine ⟨?_, fun hp => ?_⟩
      · rw [b1]; unfold lineS; simp only; rw [if_neg h3, if_neg h5]
      · rw [c5, c4, c3, c2, c1, hp]; simp [namedB, h3, h5]
/-- what is read was written so -/
theorem read_print {s : ByteArray} (h : (parseS s).1 = 0) : printS (parseS s).2 = (0, s) := by
  unfold parseS at h ⊢
  split at h
  · exact absurd h (by decide)
  rename_i hk
  rw [if_neg hk]
  split at h
  · exact absurd h (by decide)
  rename_i hf
  rw [if_neg hf]
  split at h
  · exact absurd h (by decide)
  rename_i hn
  rw [if_neg hn]
  simp only
  obtain ⟨x, l, e⟩ := List.exists_cons_of_ne_nil (l := cutB s) (fun e => cutL_ne 32 s.data.toList (by rw [← cutB_map, e]; rfl))
  rw [e] at hk hf hn ⊢
  simp only [List.headD_cons, List.tail_cons] at hk hf hn ⊢
  simp only [Bool.not_eq_false, Bool.and_eq_true, List.isEmpty_iff] at hf hn
  obtain ⟨hl, hnm⟩ := fields_back hf.1 hf.2
  have hnm := hnm rfl
  rw [hn] at hnm
  obtain ⟨w1, w2, w3⟩ := word_kind hk
  unfold printS
  rw [fields_kind, if_neg (word_ne w2 w3), if_pos hnm.symm, w1, ← hl]
  simp only
  rw [← e, joinB_cut]
theorem num_fit {s : ByteArray} {n : Int} (h : numS s = some n) : Fit n := by
  unfold numS at h
  split at h
  · rename_i v hv
    split at h
    · cases h; exact Lib.atoiAll_bounds hv
    · cases h
  · cases h
theorem int_fit (p : PS) : Fit p.int := by
  unfold PS.int
  cases h : numS p.word with
  | none => exact ⟨by decide, by decide⟩
  | some n => exact num_fit h
theorem fit0 : Fit 0 := ⟨by decide, by decide⟩
theorem parse_fit (s : ByteArray) : FitR (parseS s).2 := by
  have h0 : FitR rec0 := ⟨fit0, fit0, fit0, fit0, fit0⟩
  unfold parseS
  split
  · exact h0
  split
  · exact h0
  split
  · exact h0
  simp only
  unfold fieldsS
  split
  · exact ⟨int_fit _, int_fit _, int_fit _, fit0, fit0⟩
  split
  · exact ⟨int_fit _, int_fit _, int_fit _, int_fit _, int_fit _⟩
  · exact ⟨int_fit _, int_fit _, int_fit _, int_fit _, fit0⟩

/-! logs and texts -/
theorem index_yes {c : UInt8} {y : List UInt8} : ∀ {x : List UInt8}, c ∉ x → Lib.indexByte (x ++ c :: y) c = (x.length : Int)
  | [], _ => by simp [Lib.indexByte]
  | a :: x, h => by
    have ha : (a == c) = false := by rw [beq_eq_false_iff_ne]; exact fun e => h (by simp [e])
    have ih := index_yes (c := c) (y := y) (x := x) (fun e => h (List.mem_cons_of_mem _ e))
    rw [List.cons_append, Lib.indexByte, ha, ih]
    have hn : (((x.length : Nat) : Int) == -1) = false := by rw [beq_eq_false_iff_ne]; omega
    rw [hn]; simp
theorem index_no {c : UInt8} : ∀ {x : List UInt8}, c ∉ x → Lib.indexByte x c = -1
  | [], _ => rfl
  | a :: x, h => by
    have ha : (a == c) = false := by rw [beq_eq_false_iff_ne]; exact fun e => h (by simp [e])
    rw [Lib.indexByte, ha, index_no (fun e => h (by simp [e]))]; rfl
theorem cut_yes {x y : List UInt8} (h : (10 : UInt8) ∉ x) : Lib.cut (x ++ 10 :: y) [10] = (x, y, true) := by
  unfold Lib.cut
  rw [Lib.index_one, index_yes h, if_pos (by omega)]
  simp
theorem cut_no {x : List UInt8} (h : (10 : UInt8) ∉ x) : Lib.cut x [10] = (x, [], false) := by
  unfold Lib.cut
  rw [Lib.index_one, index_no h, if_neg (by omega)]
theorem cut_cases (s : List UInt8) : (10 : UInt8) ∉ s ∨ ∃ x y, (10 : UInt8) ∉ x ∧ s = x ++ 10 :: y := by
  by_cases h : (10 : UInt8) ∈ s
  · right
    obtain ⟨x, y, e, hx⟩ := List.eq_append_cons_of_mem h
    exact ⟨x, y, hx, e⟩
  · exact .inl h
def logF : Nat → List UInt8 → Int × List Rec
  | 0, _ => (0, [])
  | n + 1, s => if s = [] then (0, []) else
    if (parseS (txt (Lib.cut s [10]).1)).1 ≠ 0 then ((parseS (txt (Lib.cut s [10]).1)).1, [])
    else if (Lib.cut s [10]).2.2 = false then (2, [])
    else if (logF n (Lib.cut s [10]).2.1).1 ≠ 0 then ((logF n (Lib.cut s [10]).2.1).1, [])
    else (0, (parseS (txt (Lib.cut s [10]).1)).2 :: (logF n (Lib.cut s [10]).2.1).2)
theorem cut_shorter {s : List UInt8} (h : (Lib.cut s [10]).2.2 = true) : (Lib.cut s [10]).2.1.length < s.length := by
  rcases cut_cases s with hs | ⟨x, y, hx, rfl⟩
  · rw [cut_no hs] at h; cases h
  · rw [cut_yes hx]; simp; omega
theorem logF_any : ∀ (n m : Nat) (s : List UInt8), s.length ≤ n → s.length ≤ m → logF n s = logF m s
  | 0, m, s, h, h2 => by
    have : s = [] := List.length_eq_zero_iff.1 (by omega)
    subst this
    cases m with
    | zero => rfl
    | succ m => simp [logF]
  | n + 1, 0, s, h, h2 => by
    have : s = [] := List.length_eq_zero_iff.1 (by omega)
    subst this
    simp [logF]
  | n + 1, m + 1, s, h, h2 => by
    unfold logF
    by_cases hs : s = []
    · rw [if_pos hs, if_pos hs]
    · rw [if_neg hs, if_neg hs]
      split
      · rfl
      · cases hc : (Lib.cut s [10]).2.2
        · rfl
        · have := cut_shorter hc
          rw [logF_any n m (Lib.cut s [10]).2.1 (by omega) (by omega)]
def logS (s : List UInt8) : Int × List Rec := logF s.length s
theorem log_nil : logS [] = (0, []) := rfl
theorem log_step {s : List UInt8} (hs : s ≠ []) : logS s =
    if (parseS (txt (Lib.cut s [10]).1)).1 ≠ 0 then ((parseS (txt (Lib.cut s [10]).1)).1, [])
    else if (Lib.cut s [10]).2.2 = false then (2, [])
    else if (logS (Lib.cut s [10]).2.1).1 ≠ 0 then ((logS (Lib.cut s [10]).2.1).1, [])
    else (0, (parseS (txt (Lib.cut s [10]).1)).2 :: (logS (Lib.cut s [10]).2.1).2) := by
  obtain ⟨n, hn⟩ : ∃ n, s.length = n + 1 := ⟨s.length - 1, by have := List.length_pos_iff.2 hs; omega⟩
  unfold logS
  rw [hn, logF, if_neg hs]
  cases hc : (Lib.cut s [10]).2.2
  · rfl
  · have := cut_shorter hc
    rw [logF_any n (Lib.cut s [10]).2.1.length _ (by omega) (Nat.le_refl _)]
theorem log_line {x y : List UInt8} (h : (10 : UInt8) ∉ x) : logS (x ++ 10 :: y) =
    if (parseS (txt x)).1 ≠ 0 then ((parseS (txt x)).1, []) else if (logS y).1 ≠ 0 then ((logS y).1, []) else (0, (parseS (txt x)).2 :: (logS y).2) := by
  rw [log_step (by simp), cut_yes h]
  simp only [Bool.true_eq_false, if_false]
theorem log_end {x : List UInt8} (h : (10 : UInt8) ∉ x) (hx : x ≠ []) : (logS x).1 ≠ 0 := by
  rw [log_step hx, cut_no h]
  simp only [if_true]
  split
  · assumption
  · simp
theorem log_bad : ∀ (n : Nat) (s : List UInt8), s.length ≤ n → (logS s).1 ≠ 0 → (logS s).2 = []
  | 0, s, hn, h => by
    have : s = [] := List.length_eq_zero_iff.1 (by omega)
    subst this; rfl
  | n + 1, s, hn, h => by
    by_cases hs : s = []
    · subst hs; rfl
    · rw [log_step hs] at h ⊢
      split
      · rfl
      · split
        · rfl
        · split
          · rfl
          · rename_i a b c; simp [a, b, c] at h
theorem log_err {s : List UInt8} (h : (logS s).1 ≠ 0) : (logS s).2 = [] := log_bad _ s (Nat.le_refl _) h
/-- one behind the other -/
theorem log_append (t : List UInt8) : ∀ (n : Nat) (s : List UInt8), s.length ≤ n → (logS s).1 = 0 →
    logS (s ++ t) = if (logS t).1 ≠ 0 then ((logS t).1, []) else (0, (logS s).2 ++ (logS t).2)
  | 0, s, hn, h => by
    have : s = [] := List.length_eq_zero_iff.1 (by omega)
    subst this
    rw [List.nil_append]
    split
    · rename_i e; exact Prod.ext rfl (log_err e)
    · rename_i e; exact Prod.ext (by simpa using e) rfl
  | n + 1, s, hn, h => by
    rcases cut_cases s with hs | ⟨x, y, hx, rfl⟩
    · by_cases he : s = []
      · subst he; exact log_append t 0 [] (Nat.le_refl _) h
      · exact absurd h (log_end hs he)
    · rw [log_line hx] at h
      by_cases h1 : (parseS (txt x)).1 = 0
      · rw [if_neg (by simpa using h1)] at h
        by_cases h2 : (logS y).1 = 0
        · have ih := log_append t n y (by simp at hn; omega) h2
          rw [List.append_assoc, List.cons_append, log_line hx, log_line hx, ih]
          by_cases h3 : (logS t).1 = 0
          · simp [h1, h2, h3]
          · simp [h1, h3]
        · rw [if_pos h2] at h; exact absurd h h2
      · rw [if_pos h1] at h; exact absurd h h1
def textS : List Rec → Int × List UInt8
  | [] => (0, [])
  | r :: l => if (printS r).1 ≠ 0 then ((printS r).1, []) else if (textS l).1 ≠ 0 then ((textS l).1, []) else (0, (printS r).2.data.toList ++ 10 :: (textS l).2)
theorem text_log : ∀ (n : Nat) (s : List UInt8), s.length ≤ n → (logS s).1 = 0 → textS (logS s).2 = (0, s)
  | 0, s, hn, h => by
    have : s = [] := List.length_eq_zero_iff.1 (by omega)
    subst this; rfl
  | n + 1, s, hn, h => by
    rcases cut_cases s with hs | ⟨x, y, hx, rfl⟩
    · by_cases he : s = []
      · subst he; rfl
      · exact absurd h (log_end hs he)
    · rw [log_line hx] at h ⊢
      by_cases h1 : (parseS (txt x)).1 = 0
      · rw [if_neg (by simpa using h1)] at h ⊢
        by_cases h2 : (logS y).1 = 0
        · rw [if_neg (by simpa using h2)]
          have ih := text_log n y (by simp at hn; omega) h2
          have e := read_print h1
          simp only [textS]
          rw [ih, e]
          simp [txt]
        · rw [if_pos h2] at h; exact absurd h h2
      · rw [if_pos h1] at h; exact absurd h h1
theorem log_text : ∀ (l : List Rec), (∀ r ∈ l, FitR r) → (textS l).1 = 0 → (logS (textS l).2).1 = 0 ∧ (logS (textS l).2).2.length = l.length
  | [], _, _ => ⟨rfl, rfl⟩
  | r :: l, hf, h => by
    simp only [textS] at h ⊢
    by_cases h1 : (printS r).1 = 0
    · rw [if_neg (by simpa using h1)] at h ⊢
      by_cases h2 : (textS l).1 = 0
      · rw [if_neg (by simpa using h2)]
        obtain ⟨i1, i2⟩ := log_text l (fun x hx => hf x (by simp [hx])) h2
        obtain ⟨p1, p2⟩ := print_read (hf r (by simp)) h1
        have et : txt (printS r).2.data.toList = (printS r).2 := ba_ext (by simp [txt])
        simp only
        rw [log_line p2, et, if_neg (by simpa using p1), if_neg (by simpa using i1)]
        exact ⟨rfl, by simp [i2]⟩
      · rw [if_pos h2] at h; exact absurd h h2
    · rw [if_pos h1] at h; exact absurd h h1
theorem log_fit : ∀ (n : Nat) (s : List UInt8), s.length ≤ n → ∀ r ∈ (logS s).2, FitR r
  | 0, s, hn => by
    have : s = [] := List.length_eq_zero_iff.1 (by omega)
    subst this; intro r hr; cases hr
  | n + 1, s, hn => by
    by_cases hs : s = []
    · subst hs; intro r hr; cases hr
    · rw [log_step hs]
      intro r hr
      split at hr
      · cases hr
      split at hr
      · cases hr
      split at hr
      · cases hr
      rename_i hc _
      rcases List.mem_cons.1 hr with h | h
      · rw [h]; exact parse_fit _
      · exact log_fit n _ (by have := cut_shorter (s := s) (by simpa using hc); omega) r h
end M
end Go.Proofs.YtckfodpkckmkbacDoor
