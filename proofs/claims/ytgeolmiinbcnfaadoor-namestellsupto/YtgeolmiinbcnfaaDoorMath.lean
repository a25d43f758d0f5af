/-
  THE PLAIN MATHEMATICS OF CHAPTER 1: names, paths that are cut at a byte and joined again. No program stands in this text.
-/
import Derived.Lib.SplitLaws
import Derived.Lib.Join
namespace Go.Proofs.YtgeolmiinbcnfaaDoor.M
open Go

/-- what lies between the bytes c -/
def cutL (c : UInt8) : List UInt8 → List (List UInt8)
  | [] => [[]]
  | b :: r => if b = c then [] :: cutL c r else
    match cutL c r with
    | [] => [[b]]
    | x :: t => (b :: x) :: t

theorem cutL_ne (c : UInt8) : ∀ l, cutL c l ≠ []
  | [] => by simp [cutL]
  | b :: r => by
    unfold cutL
    split
    · simp
    · split <;> simp

theorem cutL_hit (c : UInt8) (r : List UInt8) : cutL c (c :: r) = [] :: cutL c r := by simp [cutL]
theorem cutL_miss (c b : UInt8) (r x : List UInt8) (t : List (List UInt8)) (h : b ≠ c) (e : cutL c r = x :: t) : cutL c (b :: r) = (b :: x) :: t := by
  simp [cutL, h, e]

theorem cutL_snoc_hit (c : UInt8) : ∀ p, cutL c (p ++ [c]) = cutL c p ++ [[]]
  | [] => by simp [cutL]
  | a :: p => by
    have ih := cutL_snoc_hit c p
    rw [List.cons_append]
    by_cases h : a = c
    · subst h; rw [cutL_hit, cutL_hit, ih]; rfl
    · obtain ⟨x, t, e⟩ := List.exists_cons_of_ne_nil (cutL_ne c p)
      rw [cutL_miss c a _ x (t ++ [[]]) h (by rw [ih, e]; rfl), cutL_miss c a p x t h e]; rfl

theorem cutL_snoc_miss (c b : UInt8) (hb : b ≠ c) : ∀ p q y, cutL c p = q ++ [y] → cutL c (p ++ [b]) = q ++ [y ++ [b]]
  | [], q, y, e => by
    have : q = [] ∧ y = [] := by
      cases q with
      | nil => simp [cutL] at e; exact ⟨rfl, e⟩
      | cons a q => simp [cutL] at e
    obtain ⟨rfl, rfl⟩ := this
    simp [cutL, hb]
  | a :: p, q, y, e => by
    rw [List.cons_append]
    obtain ⟨x, t, e1⟩ := List.exists_cons_of_ne_nil (cutL_ne c p)
    by_cases h : a = c
    · subst h
      rw [cutL_hit] at e ⊢
      cases q with
      | nil =>
        rw [List.nil_append] at e
        exact absurd (List.cons.inj e).2 (cutL_ne a p)
      | cons a' q =>
        have e2 := List.cons.inj e
        rw [cutL_snoc_miss a b hb p q y e2.2, e2.1]; rfl
    · rw [cutL_miss c a p x t h e1] at e
      cases q with
      | nil =>
        rw [List.nil_append] at e
        obtain ⟨e2, e3⟩ := List.cons.inj e
        subst e3
        rw [cutL_miss c a _ (x ++ [b]) [] h (cutL_snoc_miss c b hb p [] x e1), ← e2]; rfl
      | cons a' q =>
        obtain ⟨e2, e3⟩ := List.cons.inj e
        rw [cutL_miss c a _ x (q ++ [y ++ [b]]) h (cutL_snoc_miss c b hb p (x :: q) y (by rw [e1, e3]; rfl)), ← e2]; rfl

theorem cutL_len (c : UInt8) : ∀ (l x : List UInt8), x ∈ cutL c l → x.length ≤ l.length
  | [], x, h => by simp [cutL] at h; simp [h]
  | b :: r, x, h => by
    obtain ⟨y, t, e⟩ := List.exists_cons_of_ne_nil (cutL_ne c r)
    by_cases hb : b = c
    · subst hb
      rw [cutL_hit] at h
      rcases List.mem_cons.1 h with h | h
      · subst h; simp
      · have := cutL_len b r x h; simp only [List.length_cons]; omega
    · rw [cutL_miss c b r y t hb e] at h
      rcases List.mem_cons.1 h with h | h
      · have := cutL_len c r y (by rw [e]; simp)
        subst h; simp only [List.length_cons]; omega
      · have := cutL_len c r x (by rw [e]; simp [h]); simp only [List.length_cons]; omega

/-- strings.Split at one byte is it -/
theorem splitK_cut (c : UInt8) : ∀ s, Lib.splitK [c] 0 (Lib.count s [c]) s = cutL c s
  | [] => by rw [Lib.count_miss (by simp [Lib.index])]; rfl
  | b :: l => by
    have ih := splitK_cut c l
    by_cases h : b = c
    · subst h
      have hix : Lib.index (b :: l) [b] = 0 := by rw [Lib.index]; simp [List.isPrefixOf]
      rw [Lib.count_cons_eq, Nat.add_comm, Lib.splitK, hix, cutL_hit, ← ih]
      simp
    · have hp : ([c] : List UInt8).isPrefixOf (b :: l) = false := by simp [List.isPrefixOf, Ne.symm h]
      have hix : Lib.index (b :: l) [c] = if Lib.index l [c] == -1 then -1 else Lib.index l [c] + 1 := by rw [Lib.index, hp]; simp
      rw [Lib.count_cons_ne b c l h]
      by_cases hm : Lib.index l [c] = -1
      · rw [Lib.count_miss hm] at ih ⊢
        rw [cutL_miss c b l l [] h (by rw [← ih]; rfl)]; rfl
      · have hge := Lib.index_ge l [c]
        obtain ⟨j, hj⟩ : ∃ j : Nat, Lib.index l [c] = j := ⟨(Lib.index l [c]).toNat, by omega⟩
        have hix' : Lib.index (b :: l) [c] = ((j + 1 : Nat) : Int) := by rw [hix, if_neg (fun e => hm (beq_iff_eq.1 e)), hj]; omega
        rw [Lib.count_hit (by simp) hj, Nat.add_comm] at ih ⊢
        have n1 : ¬ (((j + 1 : Nat) : Int) == -1) = true := fun e => by have := beq_iff_eq.1 e; omega
        have n2 : ¬ ((j : Int) == -1) = true := fun e => by have := beq_iff_eq.1 e; omega
        rw [Lib.splitK, hj, if_neg n2] at ih
        rw [Lib.splitK, hix', if_neg n1]
        rw [cutL_miss c b l _ _ h ih.symm]
        simp

theorem splitB_cut (c : UInt8) (s : ByteArray) : (Lib.splitB ⟨#[c]⟩ 0 (Lib.countB s ⟨#[c]⟩) s).map (·.data.toList) = cutL c s.data.toList := by
  rw [Lib.splitB_data, ← splitK_cut]

theorem cutL_append (c : UInt8) (y : List UInt8) : ∀ x : List UInt8, c ∉ x → cutL c (x ++ c :: y) = x :: cutL c y
  | [], _ => by rw [List.nil_append, cutL_hit]
  | a :: x, h => by
    rw [List.cons_append, cutL_miss c a _ x (cutL c y) (fun e => h (by simp [e])) (cutL_append c y x (fun e => h (by simp [e])))]
theorem cutL_whole (c : UInt8) : ∀ x : List UInt8, c ∉ x → cutL c x = [x]
  | [], _ => rfl
  | a :: x, h => by
    rw [cutL_miss c a _ x [] (fun e => h (by simp [e])) (cutL_whole c x (fun e => h (by simp [e])))]

/-- parted, and joined -/
theorem join_cut (c : UInt8) : ∀ s, Lib.join (cutL c s) [c] = s
  | [] => by simp [cutL, Lib.join_one]
  | b :: l => by
    have ih := join_cut c l
    obtain ⟨x, t, e⟩ := List.exists_cons_of_ne_nil (cutL_ne c l)
    rw [e, Lib.join_cons] at ih
    by_cases h : b = c
    · subst h; rw [cutL_hit, e, Lib.join_cons, Lib.joinTail]; simp [Lib.joinTail] at ih ⊢; exact ih
    · rw [cutL_miss c b l x t h e, Lib.join_cons, List.cons_append, ih]
/-- joined, and parted -/
theorem cut_join (c : UInt8) : ∀ (r : List (List UInt8)) (x : List UInt8), c ∉ x → (∀ y ∈ r, c ∉ y) → cutL c (Lib.join (x :: r) [c]) = x :: r
  | [], x, h, _ => by rw [Lib.join_one]; exact cutL_whole c x h
  | y :: r, x, h, hr => by
    have ih := cut_join c r y (hr y (by simp)) (fun z hz => hr z (by simp [hz]))
    rw [Lib.join_cons] at ih ⊢
    have : x ++ Lib.joinTail [c] (y :: r) = x ++ c :: (y ++ Lib.joinTail [c] r) := by simp [Lib.joinTail]
    rw [this, cutL_append c _ x h, ih]

def signB (b : UInt8) : Bool := (97 ≤ b && b ≤ 122) || (48 ≤ b && b ≤ 57)
def nameB (l : List UInt8) : Bool := decide (1 ≤ l.length) && decide (l.length ≤ 8) && l.all signB

/-- what a path is: its names, and the error -/
def splitS (l : List UInt8) : List (List UInt8) × Int :=
  if 40 < l.length then ([], 4) else if l = [47] then ([], 0) else if l.head? = some 47 then (if (cutL 47 l.tail).all nameB then (cutL 47 l.tail, 0) else ([], 7)) else ([], 2)

def joinS (l : List (List UInt8)) : List UInt8 := 47 :: Lib.join l [47]

theorem name_no47 {x : List UInt8} (h : nameB x = true) : (47 : UInt8) ∉ x := by
  intro hm
  simp only [nameB, Bool.and_eq_true, List.all_eq_true] at h
  have := h.2 47 hm
  revert this; decide
theorem name_len {x : List UInt8} (h : nameB x = true) : 1 ≤ x.length ∧ x.length ≤ 8 := by
  simp only [nameB, Bool.and_eq_true, decide_eq_true_eq] at h
  omega

/-- a path's names, joined, are that path -/
theorem join_split (l : List UInt8) (h : (splitS l).2 = 0) : joinS (splitS l).1 = l := by
  unfold splitS at h ⊢
  split
  · rename_i h1; simp [h1] at h
  · rename_i h1
    split
    · rename_i h2; rw [h2]; rfl
    · rename_i h2
      split
      · rename_i h3
        split
        · cases l with
          | nil => simp at h3
          | cons a r => simp at h3; subst h3; simp [joinS, join_cut]
        · rename_i h4; simp [h1, h2, h3, h4] at h
      · rename_i h3; simp [h1, h2, h3] at h
/-- names, joined, are parted the same, unless they are too long -/
theorem split_join (l : List (List UInt8)) (h : l.all nameB = true) : 40 < (joinS l).length ∧ (splitS (joinS l)) = ([], 4) ∨ (joinS l).length ≤ 40 ∧ splitS (joinS l) = (l, 0) := by
  by_cases hl : 40 < (joinS l).length
  · exact .inl ⟨hl, by unfold splitS; rw [if_pos hl]⟩
  · refine .inr ⟨by omega, ?_⟩
    unfold splitS
    rw [if_neg hl]
    cases l with
    | nil => rfl
    | cons x r =>
      rw [List.all_cons, Bool.and_eq_true] at h
      have hx := name_len h.1
      have hr : ∀ y ∈ r, nameB y = true := by simpa using h.2
      have hne : joinS (x :: r) ≠ [47] := by
        rw [joinS, Lib.join_cons]
        intro e
        have := congrArg List.length e
        rw [List.length_cons, List.length_append] at this
        have : ([47] : List UInt8).length = 1 := rfl
        omega
      rw [if_neg hne, if_pos (by simp [joinS])]
      have e : cutL 47 (joinS (x :: r)).tail = x :: r := by
        show cutL 47 (Lib.join (x :: r) [47]) = x :: r
        exact cut_join 47 r x (name_no47 h.1) (fun y hy => name_no47 (hr y hy))
      rw [e, if_pos (by rw [List.all_cons, Bool.and_eq_true]; exact h)]

/-- what the law lays one behind the other -/
def slashes (l : List (List UInt8)) : List UInt8 := (l.map ([47] ++ ·)).flatten
theorem slashes_snoc (l : List (List UInt8)) (x : List UInt8) : slashes (l ++ [x]) = slashes l ++ [47] ++ x := by simp [slashes]
theorem slashes_join (l : List (List UInt8)) : (if slashes l = [] then [47] else slashes l) = joinS l := by
  cases l with
  | nil => rfl
  | cons x r => rw [joinS, Lib.join_cons]; simp [slashes, Lib.joinTail]
theorem slashes_len (l : List (List UInt8)) : (slashes l).length = l.length + Lib.lens l := by
  induction l with
  | nil => rfl
  | cons x r ih =>
    have e : slashes (x :: r) = 47 :: (x ++ slashes r) := by simp [slashes]
    have e2 : Lib.lens (x :: r) = x.length + Lib.lens r := by simp [Lib.lens]
    rw [e, e2, List.length_cons, List.length_append, ih, List.length_cons]; omega
end Go.Proofs.YtgeolmiinbcnfaaDoor.M
