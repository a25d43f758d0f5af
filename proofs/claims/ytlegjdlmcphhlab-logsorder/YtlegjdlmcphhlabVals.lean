/-
  A REGION THAT DRAWS THE ORDER OF MANY OPERATIONS: of each operation it is said what its value is, in words that last while memory below is as it was;
  each operation is looked at once, whatever came up before it.
-/
import Derived.Test.YtlegjdlmcphhlabBase
import Derived.RegionTactic
namespace Go.Proofs.Ytlegjdlmcphhlab
open Go.RowKit

/-- the slot of operation j -/
def slotAt (ops : Array Oper) (j : Nat) : Nat := ((ops[j]?).bind (·.dst)).getD 0
/-- each operation has a slot of its own in the frame, and waits for earlier ones alone -/
def tidy (ops : Array Oper) (size : Nat) : Bool :=
  (List.range ops.size).all fun i => match ops[i]? with
    | some o => (o.after.all fun e => decide (e.on < i)) && (match o.dst with
        | some d => decide (d < size) && ((List.range i).all fun j => ((ops[j]?).bind (·.dst)) != some d)
        | none => false)
    | none => true
/-- operation i waits for operation j -/
def waits (o : Oper) (j : Nat) : Bool := o.after.any fun e => Region.binds .any e && e.on == j
/-- slot t is no operation's -/
def apart (ops : Array Oper) (t : Nat) : Bool := ops.all fun o => o.dst != some t

theorem tidy_at {ops : Array Oper} {size i : Nat} {o : Oper} (h : tidy ops size = true) (hi : ops[i]? = some o) :
    (∀ e ∈ o.after, e.on < i) ∧ ∃ d, o.dst = some d ∧ d < size ∧ slotAt ops i = d ∧ ∀ j, j < i → ((ops[j]?).bind (·.dst)) ≠ some d := by
  unfold tidy at h
  rw [List.all_eq_true] at h
  have hlt : i < ops.size := (Array.getElem?_eq_some_iff.1 hi).1
  have h1 := h i (List.mem_range.2 hlt)
  rw [hi] at h1
  simp only [Bool.and_eq_true] at h1
  obtain ⟨h2, h3⟩ := h1
  refine ⟨fun e he => ?_, ?_⟩
  · have := Array.all_eq_true_iff_forall_mem.1 h2 e he
    simpa using this
  · cases hd : o.dst with
    | none => rw [hd] at h3; cases h3
    | some d =>
      rw [hd] at h3
      simp only [Bool.and_eq_true, decide_eq_true_eq, List.all_eq_true, List.mem_range] at h3
      refine ⟨d, rfl, h3.1, by simp [slotAt, hi, hd], fun j hj => ?_⟩
      have := h3.2 j hj
      simpa using this

theorem tidy_ne {ops : Array Oper} {size i j : Nat} {o u : Oper} (h : tidy ops size = true) (hi : ops[i]? = some o) (hj : ops[j]? = some u) (hne : i ≠ j) : slotAt ops i ≠ slotAt ops j := by
  obtain ⟨_, d, hd, _, hs, hall⟩ := tidy_at h hi
  obtain ⟨_, e, he, _, ht, hall'⟩ := tidy_at h hj
  rw [hs, ht]
  intro hde
  subst hde
  rcases Nat.lt_or_gt_of_ne hne with hl | hl
  · exact hall' i hl (by rw [hi]; exact hd)
  · exact hall j hl (by rw [hj]; exact he)

/-- what lasts while memory below is as it was -/
def Stays (p : Value → World → Prop) : Prop := ∀ v w w', Below w.heap.size w w' → p v w → p v w'

/-- the frame behind some operations of the region -/
structure Framed (ops : Array Oper) (a0 a : Act) : Prop where
  size : a.tmps.size = a0.tmps.size
  defers : a.defers = a0.defers
  keeps : ∀ t, apart ops t = true → a.eval (.tmp t) = a0.eval (.tmp t)

/-- slot t holds, when operation i comes up, what it held when the region began: whoever writes it waits for i -/
def freeFor (ops : Array Oper) (i t : Nat) : Bool := (List.range ops.size).all fun j => match ops[j]? with
  | some o => j == i || o.dst != some t || waits o i
  | none => true
structure FramedAt (ops : Array Oper) (i : Nat) (a0 a : Act) : Prop where
  size : a.tmps.size = a0.tmps.size
  defers : a.defers = a0.defers
  keeps : ∀ t, freeFor ops i t = true → a.eval (.tmp t) = a0.eval (.tmp t)
/-- the frame behind the operations that are listed; what is listed waits for nothing more -/
structure FramedBy (ops : Array Oper) (listed : Array Bool) (a0 a : Act) : Prop where
  size : a.tmps.size = a0.tmps.size
  defers : a.defers = a0.defers
  keeps : ∀ t, (∀ j o, ops[j]? = some o → listed.getD j true = true → o.dst ≠ some t) → a.eval (.tmp t) = a0.eval (.tmp t)
  closed : ∀ j o, ops[j]? = some o → listed.getD j true = true → ∀ i, waits o i = true → listed.getD i true = true
theorem FramedBy.at_ {ops : Array Oper} {listed : Array Bool} {a0 a : Act} (h : FramedBy ops listed a0 a) {i : Nat} (hi : listed.getD i true = false) : FramedAt ops i a0 a := by
  refine ⟨h.size, h.defers, fun t ht => h.keeps t fun j o hj hl hd => ?_⟩
  unfold freeFor at ht
  rw [List.all_eq_true] at ht
  have h1 := ht j (List.mem_range.2 (Array.getElem?_eq_some_iff.1 hj).1)
  simp only [hj, hd, bne_self_eq_false, Bool.or_false, Bool.or_eq_true, beq_iff_eq] at h1
  rcases h1 with h1 | h1
  · subst h1; rw [hl] at hi; cases hi
  · have := h.closed j o hj hl i h1; rw [this] at hi; cases hi
theorem FramedBy.all {ops : Array Oper} {listed : Array Bool} {a0 a : Act} (h : FramedBy ops listed a0 a) : Framed ops a0 a := by
  refine ⟨h.size, h.defers, fun t ht => h.keeps t fun j o hj _ hd => ?_⟩
  have := Array.all_eq_true_iff_forall_mem.1 ht o (Array.mem_of_getElem? hj)
  simp [hd] at this
theorem FramedBy.put {ops : Array Oper} {listed : Array Bool} {a0 a : Act} (h : FramedBy ops listed a0 a) {i : Nat} {o : Oper} (hi : ops[i]? = some o) (hsz : listed.size = ops.size)
    (hw : ∀ j, waits o j = true → listed.getD j true = true) (v : Value) : FramedBy ops (listed.setIfInBounds i true) a0 (a.put o.dst v) := by
  have hil : i < listed.size := by rw [hsz]; exact (Array.getElem?_eq_some_iff.1 hi).1
  have hself : (listed.setIfInBounds i true).getD i true = true := by simp [hil]
  have hup : ∀ j, listed.getD j true = true → (listed.setIfInBounds i true).getD j true = true := by
    intro j hj
    by_cases hji : j = i
    · rw [hji]; exact hself
    · rw [getD_set_ne true (Ne.symm hji)]; exact hj
  refine ⟨?_, ?_, fun t ht => ?_, fun j u hj hl q hq => ?_⟩
  · cases hd : o.dst <;> simp [Act.put, h.size]
  · cases hd : o.dst <;> simp [Act.put, h.defers]
  · rw [Act.eval_put, h.keeps t fun j u hj hl => ht j u hj (hup j hl)]
    intro d hd e
    injection e with e
    exact ht i o hi hself (by rw [hd, e])
  · by_cases hji : j = i
    · subst hji
      rw [hi] at hj
      injection hj with hj
      subst hj
      exact hup q (hw q hq)
    · rw [getD_set_ne true (Ne.symm hji)] at hl
      exact hup q (h.closed j u hj hl q hq)

/-- What is asked of operation i: whatever came up before it, its value is as it is said. -/
def StepAt (P : Program) (ops : Array Oper) (Q : Exit → Act → World → Prop) (a0 : Act) (w0 : World) (V : Nat → Value → World → Prop) (i : Nat) : Prop :=
  ∀ o, ops[i]? = some o → ∀ a w, FramedAt ops i a0 a → Below w0.heap.size w0 w → (∀ j, waits o j = true → V j (a.eval (.tmp (slotAt ops j))) w) →
    ∀ K : Act → World → Prop, Hid (∀ v w', Below w.heap.size w w' → V i v w' → K (a.put o.dst v) w') →
      if Region.wanted o (yielded ops a.tmps) = true then Oper.wp P o a w K Q else K (a.put o.dst undef) w

def unlisted (listed : Array Bool) : Nat := (listed.toList.filter (fun b => !b)).length

theorem unlisted_set {listed : Array Bool} {i : Nat} (h : listed.getD i true = false) : unlisted (listed.setIfInBounds i true) + 1 = unlisted listed := by
  obtain ⟨l⟩ := listed
  simp only [unlisted, Array.getD_eq_getD_getElem?, List.getElem?_toArray, List.setIfInBounds_toArray] at h ⊢
  induction l generalizing i with
  | nil => simp at h
  | cons b l ih =>
    cases i with
    | zero => simp at h; subst h; simp
    | succ i =>
      simp only [List.getElem?_cons_succ] at h
      have := ih (i := i) (by simpa using h)
      cases b <;> simp [List.set_cons_succ] at this ⊢ <;> omega

theorem wpAny_vals {P : Program} {ops : Array Oper} {Q : Exit → Act → World → Prop} {a0 : Act} {w0 : World} {V : Nat → Value → World → Prop} (ht : tidy ops a0.tmps.size = true) (hst : ∀ i, Stays (V i))
    (steps : ∀ i, i < ops.size → StepAt P ops Q a0 w0 V i)
    (last : ∀ a w, Framed ops a0 a → Below w0.heap.size w0 w → (∀ j, j < ops.size → V j (a.eval (.tmp (slotAt ops j))) w) → Q .normal a w) :
    ∀ (fuel : Nat) (listed : Array Bool) (a : Act) (w : World), listed.size = ops.size → unlisted listed ≤ fuel → FramedBy ops listed a0 a → Below w0.heap.size w0 w →
      (∀ j, j < ops.size → listed.getD j true = true → V j (a.eval (.tmp (slotAt ops j))) w) → wpAny P .any ops Q fuel listed a w := by
  have hdone : ∀ (listed : Array Bool), listed.size = ops.size → Region.ready .any ops listed = [] → ∀ j, j < ops.size → listed.getD j true = true := by
    intro listed hsz hr j
    induction j using Nat.strongRecOn with
    | ind j ih =>
      intro hj
      cases hb : listed.getD j true with
      | true => rfl
      | false =>
        have ho : ops[j]? = some ops[j] := Array.getElem?_eq_getElem hj
        have hm : j ∈ Region.ready .any ops listed := by
          rw [mem_ready]
          refine ⟨hb, _, ho, fun e he _ => ?_⟩
          have hlt := (tidy_at ht ho).1 e he
          have h1 := ih e.on hlt (by omega)
          have h2 : e.on < listed.size := by omega
          simp only [Array.getD_eq_getD_getElem?, Array.getElem?_eq_getElem h2, Option.getD_some] at h1 ⊢
          exact h1
        rw [hr] at hm
        cases hm
  intro fuel
  induction fuel with
  | zero =>
    intro listed a w hsz hu hf hb hV
    have hall : ∀ j, listed.getD j true = true := by
      intro j
      have h0 : listed.toList.filter (fun b => !b) = [] := List.eq_nil_of_length_eq_zero (by simpa [unlisted] using hu)
      rw [List.filter_eq_nil_iff] at h0
      rcases Nat.lt_or_ge j listed.size with h | h
      · have := h0 listed[j] (by simp)
        simp [h] at this ⊢
        exact this
      · simp [h]
    refine ⟨?_, last a w hf.all hb fun j hj => hV j hj (hall j)⟩
    unfold Region.ready
    rw [List.filter_eq_nil_iff]
    intro j _
    rw [hall j]
    simp
  | succ fuel ih =>
    intro listed a w hsz hu hf hb hV
    refine ⟨fun hr => last a w hf.all hb fun j hj => hV j hj (hdone listed hsz hr j hj), fun i hi => ?_⟩
    obtain ⟨hun, o, ho, hall⟩ := mem_ready.1 hi
    have hilt : i < ops.size := (Array.getElem?_eq_some_iff.1 ho).1
    obtain ⟨hback, d, hd, hdlt, hslot, _⟩ := tidy_at ht ho
    refine wpOp_step ho fun K' hK => ?_
    have hlw : ∀ j, waits o j = true → listed.getD j true = true := by
      intro j hj
      obtain ⟨e, he, hbe⟩ := Array.any_eq_true'.1 hj
      simp only [Bool.and_eq_true, beq_iff_eq] at hbe
      have h1 := hall e he hbe.1
      have h2 := hback e he
      rw [← hbe.2]
      have h3 : e.on < listed.size := by omega
      simp only [Array.getD_eq_getD_getElem?, Array.getElem?_eq_getElem h3, Option.getD_some] at h1 ⊢
      exact h1
    refine steps i hilt o ho a w (hf.at_ hun) hb ?_ K' ?_
    · intro j hj
      obtain ⟨e, he, hbe⟩ := Array.any_eq_true'.1 hj
      simp only [Bool.and_eq_true, beq_iff_eq] at hbe
      have h1 := hall e he hbe.1
      have h2 := hback e he
      rw [← hbe.2]
      refine hV e.on (by omega) ?_
      have h3 : e.on < listed.size := by omega
      simp only [Array.getD_eq_getD_getElem?, Array.getElem?_eq_getElem h3, Option.getD_some] at h1 ⊢
      exact h1
    · intro v w' hw hv
      refine hK _ _ (ih _ _ _ (by simp [hsz]) (by have := unlisted_set hun; omega) (hf.put ho hsz hlw v) (hb.trans (hw.mono hb.size)) fun j hj hl => ?_)
      by_cases hji : j = i
      · subst hji
        have : (a.put o.dst v).eval (.tmp (slotAt ops j)) = v := by
          rw [hslot, hd]
          have hlt : d < a.tmps.size := by rw [hf.size]; exact hdlt
          simp [Act.eval, Act.put, hlt]
        rw [this]
        exact hv
      · have hoj : ops[j]? = some ops[j] := Array.getElem?_eq_getElem hj
        have hne := tidy_ne ht hoj ho hji
        rw [Act.eval_put (by intro d' hd' e; injection e with e; rw [hd] at hd'; injection hd' with hd'; rw [hslot] at hne; exact hne (e.trans hd'.symm))]
        rw [getD_set_ne true (Ne.symm hji)] at hl
        exact hst j _ _ _ hw (hV j hj hl)

/-- THE RULE. -/
theorem wp_region_vals {P : Program} {ops : Array Oper} {Q : Exit → Act → World → Prop} {a0 : Act} {w0 : World} (V : Nat → Value → World → Prop) {id : Nat} (hm : P.follows .mixedOrders = true)
    (ht : tidy ops a0.tmps.size = true) (hst : ∀ i, Stays (V i)) (steps : ∀ i, i < ops.size → StepAt P ops Q a0 w0.drew V i)
    (last : ∀ a w, Framed ops a0 a → Below w0.heap.size w0 w → (∀ j, j < ops.size → V j (a.eval (.tmp (slotAt ops j))) w) → Q .normal a w) :
    (Code.region id ops true).wp P Q a0 w0 := by
  refine wp_region_any hm ?_
  refine wpAny_vals (w0 := w0.drew) ht hst steps (fun a w hf hb hv => last a w hf ((Below.refl _ _).drew.trans hb) hv) _ _ _ _ (by simp) ?_ ?_ (Below.refl _ _) ?_
  · simp [unlisted]
  · refine ⟨rfl, rfl, fun _ _ => rfl, fun j o hj hl => ?_⟩
    have hlt := (Array.getElem?_eq_some_iff.1 hj).1
    simp [hlt] at hl
  · intro j hj hl
    simp [hj] at hl
end Go.Proofs.Ytlegjdlmcphhlab
