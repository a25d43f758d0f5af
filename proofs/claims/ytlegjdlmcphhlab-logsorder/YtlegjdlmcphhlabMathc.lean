/-
  PLAIN MATHEMATICS of Within: what is reached from a fid on, and a search that meets each node once.
-/
import Derived.Test.YtlegjdlmcphhlabMathb
namespace Go.Proofs.Ytlegjdlmcphhlab
namespace M
def idxN (xs : List Nd) (t : Int) : Option Nat := xs.findIdx? (fun x => decide (x.fid = t))
def meetS (xs : List Nd) (st : List Bool × List Nat) (t : Int) : List Bool × List Nat :=
  match idxN xs t with
  | none => st
  | some i => if st.1[i]? = some false then (st.1.set i true, st.2 ++ [i]) else st
theorem idx_hit {xs : List Nd} {t : Int} {i : Nat} (hr : RsN xs) (hm : Mid ltI (xs.map (·.fid)) t i i) (h : (xs.map (·.fid))[i]? = some t) : idxN xs t = some i := by
  obtain ⟨m1, m2⟩ := hm.2.2 hr
  have hi : i < xs.length := by
    rcases Nat.lt_or_ge i (xs.map (·.fid)).length with h1 | h1
    · simpa using h1
    · rw [List.getElem?_eq_none h1] at h; cases h
  unfold idxN
  rw [List.findIdx?_eq_some_iff_getElem]
  refine ⟨hi, ?_, fun j hj => ?_⟩
  · rw [at_key (List.getElem?_eq_getElem hi)] at h
    simpa using h
  · have := m1 j (xs[j].fid) hj (at_key (f := fun x : Nd => x.fid) (List.getElem?_eq_getElem (show j < xs.length by omega)))
    simp [ltI] at this
    simp; omega
theorem idx_miss {xs : List Nd} {t : Int} {i : Nat} (hr : RsN xs) (hm : Mid ltI (xs.map (·.fid)) t i i) (h : (xs.map (·.fid))[i]? ≠ some t) : idxN xs t = none := by
  unfold idxN
  rw [List.findIdx?_eq_none_iff]
  intro x hx
  simp [mid_none (·.fid) xs t ordI hr hm h x hx]

/-- reached, by entries, from a on -/
inductive Reach (xs : List Nd) (a : Int) : Int → Prop
  | refl : Reach xs a a
  | step {y : Int} {x : Nd} {e : ByteArray × Int} : Reach xs a y → find xs y = some x → e ∈ x.ents → Reach xs a e.2

theorem find_idx {xs : List Nd} {t : Int} {x : Nd} (h : find xs t = some x) : ∃ j, idxN xs t = some j ∧ xs[j]? = some x := by
  unfold find at h
  obtain ⟨h1, j, hj, hx, h2⟩ := List.find?_eq_some_iff_getElem.1 h
  refine ⟨j, ?_, ?_⟩
  · unfold idxN
    rw [List.findIdx?_eq_some_iff_getElem]
    refine ⟨hj, by rw [hx]; exact h1, fun i hi => ?_⟩
    have := h2 i hi
    simpa using this
  · rw [List.getElem?_eq_getElem hj, hx]
theorem idx_at {xs : List Nd} {t : Int} {j : Nat} (h : idxN xs t = some j) : ∃ x, xs[j]? = some x ∧ x.fid = t := by
  unfold idxN at h
  rw [List.findIdx?_eq_some_iff_getElem] at h
  obtain ⟨hj, h1, _⟩ := h
  exact ⟨xs[j], List.getElem?_eq_getElem hj, by simpa using h1⟩
theorem find_self {xs : List Nd} {x : Nd} {i : Nat} (hr : RsN xs) (h : xs[i]? = some x) : find xs x.fid = some x := by
  unfold find
  obtain ⟨hi, hx⟩ := List.getElem?_eq_some_iff.1 h
  rw [List.find?_eq_some_iff_getElem]
  refine ⟨by simp, i, hi, hx, fun j hj => ?_⟩
  have := rs_at hr hj (at_key (f := fun x : Nd => x.fid) (List.getElem?_eq_getElem (show j < xs.length by omega))) (at_key h)
  simp [ltI] at this
  simp; omega

theorem count_set : ∀ (l : List Bool) (i : Nat), l[i]? = some false → (l.set i true).count true = l.count true + 1 ∧ l.count false = (l.set i true).count false + 1
  | [], i, h => by cases h
  | b :: l, 0, h => by cases h; simp
  | b :: l, i + 1, h => by
    have ih := count_set l i h
    rw [List.set_cons_succ]
    cases b <;> simp <;> omega

/-- what a meeting, or many, have done -/
structure Adv (xs : List Nd) (ts : List Int) (st st' : List Bool × List Nat) : Prop where
  keep : ∀ j : Nat, st.1[j]? = some true → st'.1[j]? = some true
  new : ∀ j : Nat, st'.1[j]? = some true → st.1[j]? = some true ∨ (j ∈ st'.2 ∧ ∃ t ∈ ts, idxN xs t = some j)
  old : ∀ j ∈ st.2, j ∈ st'.2
  ahead : ∀ j ∈ st'.2, j ∈ st.2 ∨ st'.1[j]? = some true
  all : ∀ t ∈ ts, ∀ j, idxN xs t = some j → st'.1[j]? = some true
  len : st'.1.length = st.1.length
  cnt : st.2.length ≤ st.1.count true → st'.2.length ≤ st'.1.count true
  meas : st'.2.length + 2 * st'.1.count false ≤ st.2.length + 2 * st.1.count false
theorem adv_nil (xs : List Nd) (st : List Bool × List Nat) : Adv xs [] st st :=
  ⟨fun _ h => h, fun _ h => .inl h, fun _ h => h, fun _ h => .inl h, fun t h => (by cases h), rfl, fun h => h, Nat.le_refl _⟩
theorem adv_one {xs : List Nd} {st : List Bool × List Nat} (hl : st.1.length = xs.length) (t : Int) : Adv xs [t] st (meetS xs st t) := by
  unfold meetS
  cases hi : idxN xs t with
  | none => exact ⟨fun _ h => h, fun _ h => .inl h, fun _ h => h, fun _ h => .inl h, fun u hu j hj => (by rw [List.mem_singleton.1 hu, hi] at hj; cases hj), rfl, fun h => h, Nat.le_refl _⟩
  | some i =>
    obtain ⟨x, hx, _⟩ := idx_at hi
    have hil : i < st.1.length := by rw [hl]; exact (List.getElem?_eq_some_iff.1 hx).1
    simp only []
    split
    · rename_i hf
      have hc := count_set st.1 i hf
      refine ⟨fun j h => ?_, fun j h => ?_, fun j h => List.mem_append.2 (.inl h), fun j h => ?_, fun u hu j hj => ?_, by simp, fun h => ?_, ?_⟩
      · by_cases e : i = j
        · subst e; rw [List.getElem?_set_self hil]
        · rw [List.getElem?_set_ne e]; exact h
      · by_cases e : i = j
        · subst e; exact .inr ⟨List.mem_append.2 (.inr (List.mem_singleton.2 rfl)), t, List.mem_singleton.2 rfl, hi⟩
        · have h : (st.1.set i true)[j]? = some true := h
          rw [List.getElem?_set_ne e] at h; exact .inl h
      · rcases List.mem_append.1 h with h | h
        · exact .inl h
        · rw [List.mem_singleton.1 h]; exact .inr (by show (st.1.set i true)[i]? = _; rw [List.getElem?_set_self hil])
      · rw [List.mem_singleton.1 hu, hi] at hj
        cases hj
        show (st.1.set i true)[i]? = _
        rw [List.getElem?_set_self hil]
      · show (st.2 ++ [i]).length ≤ (st.1.set i true).count true
        rw [List.length_append, hc.1, List.length_singleton]; omega
      · show (st.2 ++ [i]).length + 2 * (st.1.set i true).count false ≤ _
        rw [List.length_append, List.length_singleton]; omega
    · rename_i hf
      refine ⟨fun _ h => h, fun _ h => .inl h, fun _ h => h, fun _ h => .inl h, fun u hu j hj => ?_, rfl, fun h => h, Nat.le_refl _⟩
      rw [List.mem_singleton.1 hu, hi] at hj
      cases hj
      have hb : st.1[i]? = some st.1[i] := List.getElem?_eq_getElem hil
      cases e : st.1[i]
      · rw [e] at hb; exact absurd hb hf
      · rw [hb, e]
theorem adv_trans {xs : List Nd} {ts us : List Int} {a b c : List Bool × List Nat} (h : Adv xs ts a b) (k : Adv xs us b c) : Adv xs (ts ++ us) a c := by
  refine ⟨fun j hj => k.keep j (h.keep j hj), fun j hj => ?_, fun j hj => k.old j (h.old j hj), fun j hj => ?_, fun t ht j hj => ?_, k.len.trans h.len, fun hc => k.cnt (h.cnt hc), Nat.le_trans k.meas h.meas⟩
  · rcases k.new j hj with h1 | ⟨h1, t, ht, h2⟩
    · rcases h.new j h1 with h3 | ⟨h3, t, ht, h4⟩
      · exact .inl h3
      · exact .inr ⟨k.old j h3, t, List.mem_append.2 (.inl ht), h4⟩
    · exact .inr ⟨h1, t, List.mem_append.2 (.inr ht), h2⟩
  · rcases k.ahead j hj with h1 | h1
    · rcases h.ahead j h1 with h2 | h2
      · exact .inl h2
      · exact .inr (k.keep j h2)
    · exact .inr h1
  · rcases List.mem_append.1 ht with h1 | h1
    · exact k.keep j (h.all t h1 j hj)
    · exact k.all t h1 j hj
theorem adv_fold {xs : List Nd} : ∀ (ts : List Int) {st : List Bool × List Nat}, st.1.length = xs.length → Adv xs ts st (ts.foldl (meetS xs) st)
  | [], st, _ => adv_nil xs st
  | t :: ts, st, hl => by
    have h1 := adv_one hl t
    exact adv_trans (ts := [t]) h1 (adv_fold ts (st := meetS xs st t) (by rw [h1.len]; exact hl))

/-- what holds while nothing is found -/
structure WInv (xs : List Nd) (a t : Int) (st : List Bool × List Nat) : Prop where
  len : st.1.length = xs.length
  cnt : st.2.length ≤ st.1.count true
  r : ∀ (i : Nat) (x : Nd), st.1[i]? = some true → xs[i]? = some x → Reach xs a x.fid
  inn : a ≠ t ∧ ∀ i : Nat, idxN xs a = some i → st.1[i]? = some true
  ahl : ∀ i ∈ st.2, st.1[i]? = some true
  done : ∀ (i : Nat) (x : Nd), st.1[i]? = some true → xs[i]? = some x → i ∉ st.2 → ∀ e ∈ x.ents, e.2 ≠ t ∧ ∀ j, idxN xs e.2 = some j → st.1[j]? = some true
theorem winv_start (xs : List Nd) (a t : Int) (h : a ≠ t) : WInv xs a t (meetS xs (List.replicate xs.length false, []) a) := by
  have hv := adv_one (xs := xs) (st := (List.replicate xs.length false, [])) (by simp) a
  have hno : ∀ j : Nat, (List.replicate xs.length false)[j]? ≠ some true := by
    intro j hj
    rw [List.getElem?_replicate] at hj
    split at hj <;> cases hj
  have hnew : ∀ j : Nat, (meetS xs (List.replicate xs.length false, []) a).1[j]? = some true → j ∈ (meetS xs (List.replicate xs.length false, []) a).2 ∧ idxN xs a = some j := by
    intro j hj
    rcases hv.new j hj with h1 | ⟨h1, u, hu, h2⟩
    · exact absurd h1 (hno j)
    · rw [List.mem_singleton.1 hu] at h2; exact ⟨h1, h2⟩
  refine ⟨by rw [hv.len]; simp, hv.cnt (by simp), fun i x hi hx => ?_, ⟨h, fun i hi => hv.all a (List.mem_singleton.2 rfl) i hi⟩, fun i hi => ?_, fun i x hi hx hn => absurd (hnew i hi).1 hn⟩
  · obtain ⟨y, hy, hf⟩ := idx_at (hnew i hi).2
    rw [hx] at hy; cases hy
    rw [hf]; exact .refl
  · rcases hv.ahead i hi with h1 | h1
    · cases h1
    · exact h1
theorem winv_step {xs : List Nd} {a t : Int} {met : List Bool} {ah : List Nat} {i : Nat} {x : Nd} (hr : RsN xs) (h : WInv xs a t (met, ah ++ [i])) (hx : xs[i]? = some x) (hno : ∀ e ∈ x.ents, e.2 ≠ t) :
    WInv xs a t ((x.ents.map (·.2)).foldl (meetS xs) (met, ah)) := by
  have hv := adv_fold (xs := xs) (x.ents.map (·.2)) (st := (met, ah)) h.len
  have hcnt := h.cnt
  simp only [List.length_append, List.length_singleton] at hcnt
  have hmi : met[i]? = some true := h.ahl i (List.mem_append.2 (.inr (List.mem_singleton.2 rfl)))
  have hri := h.r i x hmi hx
  refine ⟨hv.len.trans h.len, hv.cnt (by show ah.length ≤ met.count true; omega), fun j y hj hy => ?_, ⟨h.inn.1, fun j hj => hv.keep j (h.inn.2 j hj)⟩, fun j hj => ?_, fun j y hj hy hnj e he => ?_⟩
  · rcases hv.new j hj with h1 | ⟨_, u, hu, h2⟩
    · exact h.r j y h1 hy
    · obtain ⟨e, he, rfl⟩ := List.mem_map.1 hu
      obtain ⟨z, hz, hf⟩ := idx_at h2
      rw [hy] at hz; cases hz
      rw [hf]
      exact .step hri (find_self hr hx) he
  · rcases hv.ahead j hj with h1 | h1
    · exact hv.keep j (h.ahl j (List.mem_append.2 (.inl h1)))
    · exact h1
  · rcases hv.new j hj with h1 | ⟨h1, _⟩
    · by_cases e1 : j = i
      · subst e1
        rw [hx] at hy; cases hy
        exact ⟨hno e he, fun q hq => hv.all e.2 (List.mem_map.2 ⟨e, he, rfl⟩) q hq⟩
      · have hn2 : j ∉ ah ++ [i] := by
          intro hm
          rcases List.mem_append.1 hm with h2 | h2
          · exact hnj (hv.old j h2)
          · exact e1 (List.mem_singleton.1 h2)
        have := h.done j y h1 hy hn2 e he
        exact ⟨this.1, fun q hq => hv.keep q (this.2 q hq)⟩
    · exact absurd h1 hnj
theorem winv_end {xs : List Nd} {a t : Int} {met : List Bool} (h : WInv xs a t (met, [])) : ¬ Reach xs a t := by
  have key : ∀ y, Reach xs a y → y ≠ t ∧ ∀ j, idxN xs y = some j → met[j]? = some true := by
    intro y hy
    induction hy with
    | refl => exact h.inn
    | step _ hf he ih =>
      obtain ⟨j, hj, hx⟩ := find_idx hf
      exact h.done j _ (ih.2 j hj) hx (by simp) _ he
  exact fun hr => (key t hr).1 rfl
theorem winv_hit {xs : List Nd} {a t : Int} {met : List Bool} {ah : List Nat} {i : Nat} {x : Nd} (hr : RsN xs) (h : WInv xs a t (met, ah ++ [i])) (hx : xs[i]? = some x) {e : ByteArray × Int} (he : e ∈ x.ents) (het : e.2 = t) : Reach xs a t := by
  have hmi : met[i]? = some true := h.ahl i (List.mem_append.2 (.inr (List.mem_singleton.2 rfl)))
  rw [← het]
  exact .step (h.r i x hmi hx) (find_self hr hx) he
theorem winv_meas {xs : List Nd} {met : List Bool} {ah : List Nat} {i : Nat} {ts : List Int} (hl : met.length = xs.length) :
    (ts.foldl (meetS xs) (met, ah)).2.length + 2 * (ts.foldl (meetS xs) (met, ah)).1.count false < (ah ++ [i]).length + 2 * met.count false := by
  have := (adv_fold (xs := xs) ts (st := (met, ah)) hl).meas
  rw [List.length_append, List.length_singleton]
  simp only at this
  omega
end M
end Go.Proofs.Ytlegjdlmcphhlab
