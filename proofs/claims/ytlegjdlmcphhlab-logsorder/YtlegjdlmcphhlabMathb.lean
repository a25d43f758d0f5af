/-
  PLAIN MATHEMATICS, further: find, put, drop, entry, enter, leave on lists that rise.
-/
import Derived.Test.YtlegjdlmcphhlabMath
namespace Go.Proofs.Ytlegjdlmcphhlab
namespace M

section
variable {K X : Type} {lt : K → K → Bool}
theorem rs_sub {ks ls : List K} (h : Rs lt ls) (hs : ks.Sublist ls) : Rs lt ks := List.Pairwise.sublist hs h

theorem filter_take (p : X → Bool) : ∀ (xs : List X) (i : Nat), (∀ k x, k < i → xs[k]? = some x → p x = true) → (∀ k x, i ≤ k → xs[k]? = some x → p x = false) → xs.filter p = xs.take i
  | [], i, _, _ => by simp
  | x :: xs, 0, _, h2 => by
    rw [List.take_zero, List.filter_eq_nil_iff]
    intro y hy
    obtain ⟨k, hk⟩ := List.getElem?_of_mem hy
    simp [h2 k y (Nat.zero_le _) hk]
  | x :: xs, i + 1, h1, h2 => by
    rw [List.filter_cons, if_pos (h1 0 x (by omega) rfl), List.take_succ_cons]
    congr 1
    exact filter_take p xs i (fun k y hk hy => h1 (k + 1) y (by omega) hy) (fun k y hk hy => h2 (k + 1) y (by omega) hy)
theorem filter_drop (p : X → Bool) : ∀ (xs : List X) (i : Nat), (∀ k x, k < i → xs[k]? = some x → p x = false) → (∀ k x, i ≤ k → xs[k]? = some x → p x = true) → xs.filter p = xs.drop i
  | [], i, _, _ => by simp
  | x :: xs, 0, _, h2 => by
    rw [List.drop_zero, List.filter_eq_self]
    intro y hy
    obtain ⟨k, hk⟩ := List.getElem?_of_mem hy
    exact h2 k y (Nat.zero_le _) hk
  | x :: xs, i + 1, h1, h2 => by
    rw [List.filter_cons, if_neg (by rw [h1 0 x (by omega) rfl]; simp), List.drop_succ_cons]
    exact filter_drop p xs i (fun k y hk hy => h1 (k + 1) y (by omega) hy) (fun k y hk hy => h2 (k + 1) y (by omega) hy)

variable [DecidableEq K] (f : X → K) (xs : List X) (t : K)
omit [DecidableEq K] in
theorem at_key {f : X → K} {xs : List X} {k : Nat} {x : X} (h : xs[k]? = some x) : (xs.map f)[k]? = some (f x) := by rw [List.getElem?_map, h]; rfl
/-- what a search has found -/
theorem mid_find (o : Ordr lt) {i : Nat} (hr : Rs lt (xs.map f)) (hm : Mid lt (xs.map f) t i i) (h : (xs.map f)[i]? = some t) : xs.find? (fun x => decide (f x = t)) = xs[i]? := by
  obtain ⟨m1, m2⟩ := hm.2.2 hr
  rw [List.getElem?_map] at h
  cases hx : xs[i]? with
  | none => rw [hx] at h; cases h
  | some x =>
    rw [hx] at h
    have e : f x = t := Option.some.inj h
    rw [List.find?_eq_some_iff_getElem]
    obtain ⟨hi, hxi⟩ := List.getElem?_eq_some_iff.1 hx
    refine ⟨by simp [e], i, hi, hxi, fun j hj => ?_⟩
    have hl := m1 j (f xs[j]) hj (at_key (List.getElem?_eq_getElem (by omega)))
    have : f xs[j] ≠ t := by intro e'; rw [e', o.irr] at hl; cases hl
    simp [this]
omit [DecidableEq K] in
theorem mid_none (o : Ordr lt) {i : Nat} (hr : Rs lt (xs.map f)) (hm : Mid lt (xs.map f) t i i) (h : (xs.map f)[i]? ≠ some t) : ∀ x ∈ xs, f x ≠ t := by
  obtain ⟨m1, m2⟩ := hm.2.2 hr
  intro x hx e
  obtain ⟨k, hk⟩ := List.getElem?_of_mem hx
  have hk' := at_key (f := f) hk
  rw [e] at hk'
  rcases Nat.lt_trichotomy k i with h1 | h1 | h1
  · have := m1 k t h1 hk'; rw [o.irr] at this; cases this
  · subst h1; exact h hk'
  · have hi : i < (xs.map f).length := by
      have : k < (xs.map f).length := by
        rcases Nat.lt_or_ge k (xs.map f).length with h2 | h2
        · exact h2
        · rw [List.getElem?_eq_none h2] at hk'; cases hk'
      omega
    have hy : (xs.map f)[i]? = some (xs.map f)[i] := List.getElem?_eq_getElem hi
    have a1 := rs_at hr h1 hy hk'
    have a2 := m2 i _ (Nat.le_refl _) hy
    rw [a1] at a2; cases a2
theorem mid_none_find (o : Ordr lt) {i : Nat} (hr : Rs lt (xs.map f)) (hm : Mid lt (xs.map f) t i i) (h : (xs.map f)[i]? ≠ some t) : xs.find? (fun x => decide (f x = t)) = none := by
  rw [List.find?_eq_none]
  intro x hx
  simp [mid_none f xs t o hr hm h x hx]
omit [DecidableEq K] in
theorem mid_low {i : Nat} (hr : Rs lt (xs.map f)) (hm : Mid lt (xs.map f) t i i) : xs.filter (fun x => lt (f x) t) = xs.take i := by
  obtain ⟨m1, m2⟩ := hm.2.2 hr
  exact filter_take _ xs i (fun k x hk hx => m1 k _ hk (at_key hx)) (fun k x hk hx => m2 k _ hk (at_key hx))
omit [DecidableEq K] in
theorem mid_high (o : Ordr lt) {i : Nat} (hr : Rs lt (xs.map f)) (hm : Mid lt (xs.map f) t i i) (h : (xs.map f)[i]? ≠ some t) : xs.filter (fun x => lt t (f x)) = xs.drop i := by
  obtain ⟨m1, m2⟩ := hm.2.2 hr
  refine filter_drop _ xs i (fun k x hk hx => ?_) (fun k x hk hx => ?_)
  · have := m1 k _ hk (at_key hx)
    cases e : lt t (f x)
    · rfl
    · have := o.tra _ _ _ this e; rw [o.irr] at this; cases this
  · have := m2 k _ hk (at_key hx)
    cases e : lt t (f x)
    · exact absurd (o.tri _ _ this e) (mid_none f xs t o hr hm h x (List.mem_of_getElem? hx))
    · rfl
omit [DecidableEq K] in
theorem mid_high_at (o : Ordr lt) {i : Nat} (hr : Rs lt (xs.map f)) (hm : Mid lt (xs.map f) t i i) (h : (xs.map f)[i]? = some t) : xs.filter (fun x => lt t (f x)) = xs.drop (i + 1) := by
  obtain ⟨m1, m2⟩ := hm.2.2 hr
  refine filter_drop _ xs (i + 1) (fun k x hk hx => ?_) (fun k x hk hx => ?_)
  · rcases Nat.lt_or_ge k i with h1 | h1
    · have := m1 k _ h1 (at_key hx)
      cases e : lt t (f x)
      · rfl
      · have := o.tra _ _ _ this e; rw [o.irr] at this; cases this
    · obtain rfl : k = i := by omega
      rw [at_key hx] at h
      rw [Option.some.inj h, o.irr]
  · exact rs_at hr (by omega) h (at_key hx)

/-- x in its place -/
def put (lt : K → K → Bool) (f : X → K) (xs : List X) (x : X) : List X := xs.filter (fun y => lt (f y) (f x)) ++ x :: xs.filter (fun y => lt (f x) (f y))
omit [DecidableEq K] in
theorem put_rs (o : Ordr lt) (x : X) (hr : Rs lt (xs.map f)) : Rs lt ((put lt f xs x).map f) := by
  unfold put Rs
  rw [List.map_append, List.map_cons, List.pairwise_append, List.pairwise_cons]
  refine ⟨rs_sub hr (List.filter_sublist.map f), ⟨?_, rs_sub hr (List.filter_sublist.map f)⟩, ?_⟩
  · intro k hk
    obtain ⟨y, hy, rfl⟩ := List.mem_map.1 hk
    exact (List.mem_filter.1 hy).2
  · intro a ha b hb
    obtain ⟨y, hy, rfl⟩ := List.mem_map.1 ha
    have h1 := (List.mem_filter.1 hy).2
    rcases List.mem_cons.1 hb with rfl | hb
    · exact h1
    · obtain ⟨z, hz, rfl⟩ := List.mem_map.1 hb
      exact o.tra _ _ _ h1 (List.mem_filter.1 hz).2
theorem put_find (o : Ordr lt) (x : X) : (put lt f xs x).find? (fun y => decide (f y = f x)) = some x := by
  unfold put
  rw [List.find?_append]
  have : (xs.filter (fun y => lt (f y) (f x))).find? (fun y => decide (f y = f x)) = none := by
    rw [List.find?_eq_none]
    intro y hy
    have h1 := (List.mem_filter.1 hy).2
    have : f y ≠ f x := by intro e; simp [e, o.irr] at h1
    simp [this]
  rw [this]; simp
theorem find_filter (p : X → Bool) (t : K) (hp : ∀ x ∈ xs, f x = t → p x = true) : (xs.filter p).find? (fun y => decide (f y = t)) = xs.find? (fun y => decide (f y = t)) := by
  induction xs with
  | nil => rfl
  | cons x xs ih =>
    have ih := ih (fun y hy => hp y (List.mem_cons_of_mem _ hy))
    rw [List.filter_cons]
    by_cases e : f x = t
    · rw [if_pos (hp x List.mem_cons_self e)]; simp [e]
    · split
      · rw [List.find?_cons, List.find?_cons]; simp [e, ih]
      · rw [ih, List.find?_cons]; simp [e]
theorem find_filter_none (p : X → Bool) (t : K) (hp : ∀ x ∈ xs, f x = t → p x = false) : (xs.filter p).find? (fun y => decide (f y = t)) = none := by
  rw [List.find?_eq_none]
  intro y hy
  have h := List.mem_filter.1 hy
  have : f y ≠ t := by intro e; rw [hp y h.1 e] at h; cases h.2
  simp [this]
theorem put_find_other (o : Ordr lt) (x : X) (t : K) (ht : t ≠ f x) : (put lt f xs x).find? (fun y => decide (f y = t)) = xs.find? (fun y => decide (f y = t)) := by
  unfold put
  rw [List.find?_append, List.find?_cons]
  have hx : decide (f x = t) = false := by simp [Ne.symm ht]
  rw [hx]
  cases hlt : lt t (f x)
  · rw [find_filter_none f xs (fun y => lt (f y) (f x)) t (fun y _ e => by rw [e]; exact hlt)]
    have hgt : lt (f x) t = true := by
      cases h : lt (f x) t
      · exact absurd (o.tri _ _ hlt h) ht
      · rfl
    exact find_filter f xs (fun y => lt (f x) (f y)) t (fun y _ e => by rw [e]; exact hgt)
  · rw [find_filter f xs (fun y => lt (f y) (f x)) t (fun y _ e => by rw [e]; exact hlt)]
    rw [find_filter_none f xs (fun y => lt (f x) (f y)) t (fun y _ e => by
      show lt (f x) (f y) = false
      rw [e]
      cases h : lt (f x) t
      · rfl
      · have := o.tra _ _ _ hlt h; rw [o.irr] at this; cases this)]
    cases xs.find? (fun y => decide (f y = t)) <;> rfl
/-- what came, and goes -/
theorem put_drop (o : Ordr lt) (x : X) (hr : Rs lt (xs.map f)) (hn : ∀ y ∈ xs, f y ≠ f x) : (put lt f xs x).filter (fun y => !decide (f y = f x)) = xs := by
  unfold put
  rw [List.filter_append, List.filter_cons]
  have hx : (!decide (f x = f x)) = false := by simp
  rw [if_neg (by rw [hx]; simp), List.filter_filter, List.filter_filter]
  have e1 : xs.filter (fun y => (!decide (f y = f x)) && lt (f y) (f x)) = xs.filter (fun y => lt (f y) (f x)) := List.filter_congr (fun y hy => by simp [hn y hy])
  have e2 : xs.filter (fun y => (!decide (f y = f x)) && lt (f x) (f y)) = xs.filter (fun y => lt (f x) (f y)) := List.filter_congr (fun y hy => by simp [hn y hy])
  rw [e1, e2]
  clear e1 e2 hx
  induction xs with
  | nil => rfl
  | cons y ys ih =>
    have hr' : Rs lt (ys.map f) := (List.pairwise_cons.1 hr).2
    have ih := ih hr' (fun z hz => hn z (List.mem_cons_of_mem _ hz))
    rw [List.filter_cons, List.filter_cons]
    cases h1 : lt (f y) (f x)
    · have h2 : lt (f x) (f y) = true := by
        cases h : lt (f x) (f y)
        · exact absurd (o.tri _ _ h1 h) (hn y List.mem_cons_self)
        · rfl
      have hnil : ys.filter (fun z => lt (f z) (f x)) = [] := by
        rw [List.filter_eq_nil_iff]
        intro z hz h
        have := (List.pairwise_cons.1 hr).1 (f z) (List.mem_map.2 ⟨z, hz, rfl⟩)
        have := o.tra _ _ _ this h
        rw [h1] at this; cases this
      rw [hnil] at ih ⊢
      simp only [List.nil_append] at ih ⊢
      simp [h2, ih]
    · have h2 : lt (f x) (f y) = false := by
        cases h : lt (f x) (f y)
        · rfl
        · have := o.tra _ _ _ h1 h; rw [o.irr] at this; cases this
      simp [h2, ih]
omit [DecidableEq K] in
theorem put_len (o : Ordr lt) (x : X) : (put lt f xs x).length ≤ xs.length + 1 := by
  unfold put
  rw [List.length_append, List.length_cons]
  have : (xs.filter (fun y => lt (f y) (f x))).length + (xs.filter (fun y => lt (f x) (f y))).length ≤ xs.length := by
    induction xs with
    | nil => simp
    | cons y ys ih =>
      rw [List.filter_cons, List.filter_cons]
      cases h1 : lt (f y) (f x)
      · cases h2 : lt (f x) (f y)
        · simp; omega
        · simp; omega
      · have h2 : lt (f x) (f y) = false := by
          cases h : lt (f x) (f y)
          · rfl
          · have := o.tra _ _ _ h1 h; rw [o.irr] at this; cases this
        simp [h2]; omega
  omega
end

abbrev RsN (xs : List Nd) : Prop := Rs ltI (xs.map (·.fid))
abbrev RsE (es : List (ByteArray × Int)) : Prop := Rs ltB (es.map (·.1))
def find (xs : List Nd) (t : Int) : Option Nd := xs.find? (fun x => decide (x.fid = t))
def look (es : List (ByteArray × Int)) (s : ByteArray) : Option (ByteArray × Int) := es.find? (fun e => decide (e.1 = s))
def putN (xs : List Nd) (x : Nd) : List Nd := put ltI (·.fid) xs x
def putE (es : List (ByteArray × Int)) (e : ByteArray × Int) : List (ByteArray × Int) := put ltB (·.1) es e
def dropN (xs : List Nd) (t : Int) : List Nd := xs.filter (fun x => !decide (x.fid = t))
def dropE (es : List (ByteArray × Int)) (s : ByteArray) : List (ByteArray × Int) := es.filter (fun e => !decide (e.1 = s))
end M
end Go.Proofs.Ytlegjdlmcphhlab
