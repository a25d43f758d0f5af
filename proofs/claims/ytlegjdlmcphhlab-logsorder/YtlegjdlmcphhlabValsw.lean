/-
  A REGION THAT DRAWS THE ORDER OF ITS OPERATIONS, some of which write: the world is told by what has come up.
-/
import Derived.Test.YtlegjdlmcphhlabDoes
namespace Go.Proofs.Ytlegjdlmcphhlab
open Go.RowKit

/-- each operation waits for earlier ones alone; each slot is one operation's -/
def tidyw (ops : Array Oper) (size : Nat) : Bool :=
  (List.range ops.size).all fun i => match ops[i]? with
    | some o => (o.after.all fun e => decide (e.on < i)) && (match o.dst with
        | some d => decide (d < size) && ((List.range i).all fun j => ((ops[j]?).bind (·.dst)) != some d)
        | none => true)
    | none => true
theorem tidyw_at {ops : Array Oper} {size i : Nat} {o : Oper} (h : tidyw ops size = true) (hi : ops[i]? = some o) :
    (∀ e ∈ o.after, e.on < i) ∧ ∀ d, o.dst = some d → d < size ∧ ∀ j, j < i → ((ops[j]?).bind (·.dst)) ≠ some d := by
  unfold tidyw at h
  rw [List.all_eq_true] at h
  have hlt : i < ops.size := (Array.getElem?_eq_some_iff.1 hi).1
  have h1 := h i (List.mem_range.2 hlt)
  rw [hi] at h1
  simp only [Bool.and_eq_true] at h1
  obtain ⟨h2, h3⟩ := h1
  refine ⟨fun e he => ?_, fun d hd => ?_⟩
  · have := Array.all_eq_true_iff_forall_mem.1 h2 e he
    simpa using this
  · rw [hd] at h3
    simp only [Bool.and_eq_true, decide_eq_true_eq, List.all_eq_true, List.mem_range] at h3
    refine ⟨h3.1, fun j hj => ?_⟩
    have := h3.2 j hj
    simpa using this

theorem getD_set_self {l : Array Bool} {i : Nat} (h : i < l.size) : (l.setIfInBounds i true).getD i true = true := by simp [h]
/-- what is asked of operation i -/
def StepW (P : Program) (ops : Array Oper) (Q : Exit → Act → World → Prop) (a0 : Act) (V : Nat → Value → Prop) (WI : Array Bool → World → Prop) (i : Nat) : Prop :=
  ∀ o, ops[i]? = some o → ∀ (listed : Array Bool) a w, FramedAt ops i a0 a → WI listed w → listed.size = ops.size → listed.getD i true = false → (∀ j, waits o j = true → listed.getD j true = true) → (∀ j u, ops[j]? = some u → waits u i = true → listed.getD j true = false) →
    (∀ j d, waits o j = true → (ops[j]?).bind (·.dst) = some d → V j (a.eval (.tmp d))) →
    ∀ K : Act → World → Prop, (∀ v w', V i v → WI (listed.setIfInBounds i true) w' → K (a.put o.dst v) w') →
      if Region.wanted o (yielded ops a.tmps) = true then Oper.wp P o a w K Q else K (a.put o.dst undef) w

theorem wpAny_writes {P : Program} {ops : Array Oper} {Q : Exit → Act → World → Prop} {a0 : Act} {V : Nat → Value → Prop} {WI : Array Bool → World → Prop} (ht : tidyw ops a0.tmps.size = true)
    (steps : ∀ i, i < ops.size → StepW P ops Q a0 V WI i)
    (last : ∀ listed a w, Framed ops a0 a → WI listed w → (∀ j, j < ops.size → listed.getD j true = true) → Q .normal a w) :
    ∀ (fuel : Nat) (listed : Array Bool) (a : Act) (w : World), listed.size = ops.size → unlisted listed ≤ fuel → FramedBy ops listed a0 a → WI listed w →
      (∀ j d, j < ops.size → listed.getD j true = true → (ops[j]?).bind (·.dst) = some d → V j (a.eval (.tmp d))) → wpAny P .any ops Q fuel listed a w := by
  have hdone : ∀ (listed : Array Bool), listed.size = ops.size → Region.ready .any ops listed = [] → ∀ j, j < ops.size → listed.getD j true = true := by
    intro listed hsz hr j
    induction j using Nat.strongRecOn with
    | ind j ih =>
      intro hj
      cases hb : listed.getD j true with
      | true => rfl
      | false =>
        have ho : ops[j]? = some ops[j] := Array.getElem?_eq_getElem hj
        have hm : j ∈ Region.ready .any ops listed := by
          rw [mem_ready]
          refine ⟨hb, _, ho, fun e he _ => ?_⟩
          have hlt := (tidyw_at ht ho).1 e he
          have h1 := ih e.on hlt (by omega)
          have h2 : e.on < listed.size := by omega
          simp only [Array.getD_eq_getD_getElem?, Array.getElem?_eq_getElem h2, Option.getD_some] at h1 ⊢
          exact h1
        rw [hr] at hm
        cases hm
  intro fuel
  induction fuel with
  | zero =>
    intro listed a w hsz hu hf hb hV
    have hall : ∀ j, listed.getD j true = true := by
      intro j
      have h0 : listed.toList.filter (fun b => !b) = [] := List.eq_nil_of_length_eq_zero (by simpa [unlisted] using hu)
      rw [List.filter_eq_nil_iff] at h0
      rcases Nat.lt_or_ge j listed.size with h | h
      · have := h0 listed[j] (by simp)
        simp [h] at this ⊢
        exact this
      · simp [h]
    refine ⟨?_, last listed a w hf.all hb fun j _ => hall j⟩
    unfold Region.ready
    rw [List.filter_eq_nil_iff]
    intro j _
    rw [hall j]
    simp
  | succ fuel ih =>
    intro listed a w hsz hu hf hb hV
    refine ⟨fun hr => last listed a w hf.all hb (hdone listed hsz hr), fun i hi => ?_⟩
    obtain ⟨hun, o, ho, hall⟩ := mem_ready.1 hi
    have hilt : i < ops.size := (Array.getElem?_eq_some_iff.1 ho).1
    obtain ⟨hback, hdst⟩ := tidyw_at ht ho
    refine wpOp_step ho fun K' hK => ?_
    have hlw : ∀ j, waits o j = true → listed.getD j true = true := by
      intro j hj
      obtain ⟨e, he, hbe⟩ := Array.any_eq_true'.1 hj
      simp only [Bool.and_eq_true, beq_iff_eq] at hbe
      have h1 := hall e he hbe.1
      have h2 := hback e he
      rw [← hbe.2]
      have h3 : e.on < listed.size := by omega
      simp only [Array.getD_eq_getD_getElem?, Array.getElem?_eq_getElem h3, Option.getD_some] at h1 ⊢
      exact h1
    refine steps i hilt o ho listed a w (hf.at_ hun) hb hsz hun hlw (fun j u hj hw => ?_) (fun j d hj hd => ?_) K' ?_
    · cases hl : listed.getD j true with
      | false => rfl
      | true => have := hf.closed j u hj hl i hw; rw [this] at hun; cases hun
    · refine hV j d ?_ (hlw j hj) hd
      cases hj2 : ops[j]? with
      | none => rw [hj2] at hd; cases hd
      | some u => exact (Array.getElem?_eq_some_iff.1 hj2).1
    · intro v w' hv hw
      refine hK _ _ (ih _ _ _ (by simp [hsz]) (by have := unlisted_set hun; omega) (hf.put ho hsz hlw v) hw fun j d hj hl hd => ?_)
      by_cases hji : j = i
      · subst hji
        rw [ho] at hd
        have hd : o.dst = some d := hd
        have : (a.put o.dst v).eval (.tmp d) = v := by
          rw [hd]
          have hlt : d < a.tmps.size := by rw [hf.size]; exact (hdst d hd).1
          simp [Act.eval, Act.put, hlt]
        rw [this]
        exact hv
      · have hne : ∀ d', o.dst = some d' → d ≠ d' := by
          rintro d' hd' rfl
          rcases Nat.lt_or_gt_of_ne hji with h | h
          · exact (hdst d hd').2 j h hd
          · have hoj : ops[j]? = some ops[j] := Array.getElem?_eq_getElem hj
            rw [hoj] at hd
            exact ((tidyw_at ht hoj).2 d hd).2 i h (by rw [ho]; exact hd')
        rw [Act.eval_put (by intro d' hd' e; injection e with e; exact hne d' hd' e)]
        rw [getD_set_ne true (Ne.symm hji)] at hl
        exact hV j d hj hl hd

/-- THE RULE, where some operations write. -/
theorem wp_region_writes {P : Program} {ops : Array Oper} {Q : Exit → Act → World → Prop} {a0 : Act} {w0 : World} (V : Nat → Value → Prop) (WI : Array Bool → World → Prop) {id : Nat} (hm : P.follows .mixedOrders = true)
    (ht : tidyw ops a0.tmps.size = true) (hw0 : WI (Array.replicate ops.size false) w0.drew) (steps : ∀ i, i < ops.size → StepW P ops Q a0 V WI i)
    (last : ∀ listed a w, Framed ops a0 a → WI listed w → (∀ j, j < ops.size → listed.getD j true = true) → Q .normal a w) :
    (Code.region id ops true).wp P Q a0 w0 := by
  refine wp_region_any hm ?_
  refine wpAny_writes ht steps last _ _ _ _ (by simp) ?_ ?_ hw0 ?_
  · simp [unlisted]
  · refine ⟨rfl, rfl, fun _ _ => rfl, fun j o hj hl => ?_⟩
    have hlt := (Array.getElem?_eq_some_iff.1 hj).1
    simp [hlt] at hl
  · intro j d hj hl
    simp [hj] at hl

theorem StepW.by {P : Program} {ops : Array Oper} {Q : Exit → Act → World → Prop} {a0 : Act} {V : Nat → Value → Prop} {WI : Array Bool → World → Prop} {i : Nat} {o : Oper} (ho : ops[i]? = some o) (hg : o.guard = none)
    (h : ∀ (listed : Array Bool) a w, FramedAt ops i a0 a → WI listed w → listed.size = ops.size → (∀ j, waits o j = true → listed.getD j true = true) → (∀ j u, ops[j]? = some u → waits u i = true → listed.getD j true = false) → (∀ j d, waits o j = true → (ops[j]?).bind (·.dst) = some d → V j (a.eval (.tmp d))) →
      Does P o a w (fun v w' => V i v ∧ WI (listed.setIfInBounds i true) w')) : StepW P ops Q a0 V WI i := by
  intro o' ho' listed a w hf hw hsz hun hlw hno hd K hK
  have e : o = o' := Option.some.inj (ho.symm.trans ho')
  subst e
  have hwant : Region.wanted o (yielded ops a.tmps) = true := by unfold Region.wanted; rw [hg]
  rw [if_pos hwant]
  unfold Oper.wp
  rcases h listed a w hf hw hsz hlw hno hd with ⟨v, w', hr, hv, hw'⟩ | ⟨f, args, w', hr, hc⟩
  · rw [hr]
    exact hK v w' hv hw'
  · rw [hr]
    refine Calls.mono hc ?_
    rintro e w'' ⟨r, rfl, hv, hw''⟩
    exact hK r w'' hv hw''
theorem StepW.skip {P : Program} {ops : Array Oper} {Q : Exit → Act → World → Prop} {a0 : Act} {V : Nat → Value → Prop} {WI : Array Bool → World → Prop} {i : Nat} {o : Oper} (ho : ops[i]? = some o) (hg : o.guard = none)
    (h : ∀ (listed : Array Bool) a w, FramedAt ops i a0 a → WI listed w → listed.size = ops.size → (∀ j, waits o j = true → listed.getD j true = true) → (∀ j u, ops[j]? = some u → waits u i = true → listed.getD j true = false) → (∀ j d, waits o j = true → (ops[j]?).bind (·.dst) = some d → V j (a.eval (.tmp d))) → listed.getD i true = false →
      ∃ w', (execOp a.eval o).run P w = .ok .skip w' ∧ V i undef ∧ WI (listed.setIfInBounds i true) w') : StepW P ops Q a0 V WI i := by
  intro o' ho' listed a w hf hw hsz hun hlw hno hd K hK
  have e : o = o' := Option.some.inj (ho.symm.trans ho')
  subst e
  have hwant : Region.wanted o (yielded ops a.tmps) = true := by unfold Region.wanted; rw [hg]
  rw [if_pos hwant]
  unfold Oper.wp
  obtain ⟨w', hr, hv, hw'⟩ := h listed a w hf hw hsz hlw hno hd hun
  rw [hr]
  exact hK undef w' hv hw'
end Go.Proofs.Ytlegjdlmcphhlab
