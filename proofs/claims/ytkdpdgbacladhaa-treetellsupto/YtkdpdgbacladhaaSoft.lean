/-
  A REGION THAT DRAWS ITS ORDER, WITH OPERATIONS THAT MAY WRITE INTO WHAT THE REGION ITSELF MADE ('append' onto an 'append'):
  what is said of a value must last only till it is used up.
-/
import Derived.Test.YtkdpdgbacladhaaDoes
namespace Go.Proofs.Ytkdpdgbacladhaa
open Go.RowKit

/-- operation i uses what operation j made: it waits for it as for data -/
def usesD (o : Oper) (j : Nat) : Bool := o.after.any fun e => Region.binds .any e && e.on == j && (match e.ground with | .data => true | _ => false)
theorem waits_of_uses {o : Oper} {j : Nat} (h : usesD o j = true) : waits o j = true := by
  unfold usesD at h
  unfold waits
  rw [Array.any_eq_true'] at h ⊢
  obtain ⟨e, he, hb⟩ := h
  simp only [Bool.and_eq_true] at hb
  exact ⟨e, he, by simp only [Bool.and_eq_true]; exact hb.1⟩
/-- whoever comes up as i has u behind it -/
def before (ops : Array Oper) : Nat → Nat → Nat → Bool
  | 0, _, _ => false
  | n + 1, i, u => match ops[i]? with
    | some o => o.after.any fun e => Region.binds .any e && (e.on == u || before ops n e.on u)
    | none => false
theorem before_listed {ops : Array Oper} {listed : Array Bool} (hc : ∀ j o, ops[j]? = some o → listed.getD j true = true → ∀ i, waits o i = true → listed.getD i true = true) :
    ∀ (n i u : Nat), (∀ o, ops[i]? = some o → ∀ j, waits o j = true → listed.getD j true = true) → before ops n i u = true → listed.getD u true = true
  | 0, _, _, _, h => by cases h
  | n + 1, i, u, hw, h => by
    unfold before at h
    cases ho : ops[i]? with
    | none => rw [ho] at h; cases h
    | some o =>
      rw [ho] at h
      obtain ⟨e, he, hb⟩ := Array.any_eq_true'.1 h
      simp only [Bool.and_eq_true, Bool.or_eq_true, beq_iff_eq] at hb
      have hwe : waits o e.on = true := by
        unfold waits
        rw [Array.any_eq_true']
        exact ⟨e, he, by simp [hb.1]⟩
      have hl := hw o ho e.on hwe
      rcases hb.2 with h1 | h1
      · rw [← h1]; exact hl
      · exact before_listed hc n e.on u (fun o' ho' j hj => hc e.on o' ho' hl j hj) h1

/-- some operation that is not yet listed uses j, or none ever does -/
def Live (ops : Array Oper) (listed : Array Bool) (j : Nat) : Prop :=
  (∃ (u : Nat) (o : Oper), ops[u]? = some o ∧ usesD o j = true ∧ listed.getD u true = false) ∨ ∀ (u : Nat) (o : Oper), ops[u]? = some o → usesD o j = false
/-- when i has come up, what j made may still be used -/
def mustKeep (ops : Array Oper) (i j : Nat) : Bool :=
  !(((List.range ops.size).any fun u => match ops[u]? with | some o => usesD o j | none => false) && (List.range ops.size).all fun u => match ops[u]? with | some o => !usesD o j || u == i || before ops ops.size i u | none => true) && !before ops ops.size j i

def SoftAt (P : Program) (ops : Array Oper) (Q : Exit → Act → World → Prop) (a0 : Act) (w0 : World) (V : Nat → Value → World → Prop) (i : Nat) : Prop :=
  ∀ o, ops[i]? = some o → ∀ a w, FramedAt ops i a0 a → Below w0.heap.size w0 w → (∀ j, usesD o j = true → V j (a.eval (.tmp (slotAt ops j))) w) →
    ∀ K : Act → World → Prop, Hid (∀ v w', Below w0.heap.size w w' → (∀ j, j ≠ i → mustKeep ops i j = true → ∀ u, V j u w → V j u w') → V i v w' → K (a.put o.dst v) w') →
      if Region.wanted o (yielded ops a.tmps) = true then Oper.wp P o a w K Q else K (a.put o.dst undef) w

theorem wpAny_soft {P : Program} {ops : Array Oper} {Q : Exit → Act → World → Prop} {a0 : Act} {w0 : World} {V : Nat → Value → World → Prop} (ht : tidy ops a0.tmps.size = true) (steps : ∀ i, i < ops.size → SoftAt P ops Q a0 w0 V i)
    (last : ∀ a w, Framed ops a0 a → Below w0.heap.size w0 w → (∀ j, j < ops.size → (∀ (u : Nat) (o : Oper), ops[u]? = some o → usesD o j = false) → V j (a.eval (.tmp (slotAt ops j))) w) → Q .normal a w) :
    ∀ (fuel : Nat) (listed : Array Bool) (a : Act) (w : World), listed.size = ops.size → unlisted listed ≤ fuel → FramedBy ops listed a0 a → Below w0.heap.size w0 w →
      (∀ j, j < ops.size → listed.getD j true = true → Live ops listed j → V j (a.eval (.tmp (slotAt ops j))) w) → wpAny P .any ops Q fuel listed a w := by
  have hdone : ∀ (listed : Array Bool), listed.size = ops.size → Region.ready .any ops listed = [] → ∀ j, j < ops.size → listed.getD j true = true := by
    intro listed hsz hr j
    induction j using Nat.strongRecOn with
    | ind j ih =>
      intro hj
      cases hb : listed.getD j true with
      | true => rfl
      | false =>
        have ho : ops[j]? = some ops[j] := Array.getElem?_eq_getElem hj
        have hm : j ∈ Region.ready .any ops listed := by
          rw [mem_ready]
          refine ⟨hb, _, ho, fun e he _ => ?_⟩
          have hlt := (tidy_at ht ho).1 e he
          have h1 := ih e.on hlt (by omega)
          have h2 : e.on < listed.size := by omega
          simp only [Array.getD_eq_getD_getElem?, Array.getElem?_eq_getElem h2, Option.getD_some] at h1 ⊢
          exact h1
        rw [hr] at hm
        cases hm
  intro fuel
  induction fuel with
  | zero =>
    intro listed a w hsz hu hf hb hV
    have hall : ∀ j, listed.getD j true = true := by
      intro j
      have h0 : listed.toList.filter (fun b => !b) = [] := List.eq_nil_of_length_eq_zero (by simpa [unlisted] using hu)
      rw [List.filter_eq_nil_iff] at h0
      rcases Nat.lt_or_ge j listed.size with h | h
      · have := h0 listed[j] (by simp)
        simp [h] at this ⊢
        exact this
      · simp [h]
    refine ⟨?_, last a w hf.all hb fun j hj hno => hV j hj (hall j) (.inr hno)⟩
    unfold Region.ready
    rw [List.filter_eq_nil_iff]
    intro j _
    rw [hall j]
    simp
  | succ fuel ih =>
    intro listed a w hsz hu hf hb hV
    refine ⟨fun hr => last a w hf.all hb fun j hj hno => hV j hj (hdone listed hsz hr j hj) (.inr hno), fun i hi => ?_⟩
    obtain ⟨hun, o, ho, hall⟩ := mem_ready.1 hi
    have hilt : i < ops.size := (Array.getElem?_eq_some_iff.1 ho).1
    obtain ⟨hback, d, hd, hdlt, hslot, _⟩ := tidy_at ht ho
    refine wpOp_step ho fun K' hK => ?_
    have hlw : ∀ j, waits o j = true → listed.getD j true = true := by
      intro j hj
      obtain ⟨e, he, hbe⟩ := Array.any_eq_true'.1 hj
      simp only [Bool.and_eq_true, beq_iff_eq] at hbe
      have h1 := hall e he hbe.1
      have h2 := hback e he
      rw [← hbe.2]
      have h3 : e.on < listed.size := by omega
      simp only [Array.getD_eq_getD_getElem?, Array.getElem?_eq_getElem h3, Option.getD_some] at h1 ⊢
      exact h1
    have hjlt : ∀ j, waits o j = true → j < ops.size := by
      intro j hj
      obtain ⟨e, he, hbe⟩ := Array.any_eq_true'.1 hj
      simp only [Bool.and_eq_true, beq_iff_eq] at hbe
      have h2 := hback e he
      omega
    refine steps i hilt o ho a w (hf.at_ hun) hb (fun j hj => hV j (hjlt j (waits_of_uses hj)) (hlw j (waits_of_uses hj)) (.inl ⟨i, o, ho, hj, hun⟩)) K' ?_
    intro v w' hw0 hkeep hv
    refine hK _ _ (ih _ _ _ (by simp [hsz]) (by have := unlisted_set hun; omega) (hf.put ho hsz hlw v) (hb.trans hw0) fun j hj hl hlive => ?_)
    by_cases hji : j = i
    · subst hji
      have : (a.put o.dst v).eval (.tmp (slotAt ops j)) = v := by
        rw [hslot, hd]
        have hlt : d < a.tmps.size := by rw [hf.size]; exact hdlt
        simp [Act.eval, Act.put, hlt]
      rw [this]
      exact hv
    · have hoj : ops[j]? = some ops[j] := Array.getElem?_eq_getElem hj
      have hne := tidy_ne ht hoj ho hji
      rw [Act.eval_put (by intro d' hd' e; injection e with e; rw [hd] at hd'; injection hd' with hd'; rw [hslot] at hne; exact hne (e.trans hd'.symm))]
      rw [getD_set_ne true (Ne.symm hji)] at hl
      have hlive0 : Live ops listed j := by
        rcases hlive with ⟨u, ou, hou, hus, hnl⟩ | h
        · refine .inl ⟨u, ou, hou, hus, ?_⟩
          by_cases hui : u = i
          · subst hui; exact hun
          · rw [getD_set_ne true (Ne.symm hui)] at hnl; exact hnl
        · exact .inr h
      have hVj := hV j hj hl hlive0
      refine hkeep j hji ?_ _ hVj
      cases hmk : mustKeep ops i j with
      | true => rfl
      | false =>
        unfold mustKeep at hmk
        exfalso
        rw [Bool.and_eq_false_iff] at hmk
        rcases hmk with hmk | hmk
        case inr =>
          simp only [Bool.not_eq_false'] at hmk
          have := before_listed hf.closed ops.size j i (fun o' ho' q hq => hf.closed j o' ho' hl q hq) hmk
          rw [this] at hun
          cases hun
        simp only [Bool.not_eq_false', Bool.and_eq_true] at hmk
        obtain ⟨h2, h3⟩ := hmk
        rcases hlive with ⟨u, ou, hou, hus, hnl⟩ | hno
        · rw [List.all_eq_true] at h3
          have h4 := h3 u (List.mem_range.2 (Array.getElem?_eq_some_iff.1 hou).1)
          simp only [hou, hus, Bool.not_true, Bool.false_or, Bool.or_eq_true, beq_iff_eq] at h4
          rcases h4 with h4 | h4
          · subst h4
            have hlt : u < listed.size := by omega
            simp [hlt] at hnl
          · have hl2 := before_listed hf.closed ops.size i u (fun o' ho' q hq => by rw [ho] at ho'; injection ho' with ho'; subst ho'; exact hlw q hq) h4
            by_cases hui : u = i
            · subst hui; rw [hl2] at hun; cases hun
            · rw [getD_set_ne true (Ne.symm hui), hl2] at hnl; cases hnl
        · rw [List.any_eq_true] at h2
          obtain ⟨u, hu2, h5⟩ := h2
          cases hou : ops[u]? with
          | none => rw [hou] at h5; cases h5
          | some ou => rw [hou] at h5; simp only [hno u ou hou] at h5; cases h5

/-- THE RULE. -/
theorem wp_region_soft {P : Program} {ops : Array Oper} {Q : Exit → Act → World → Prop} {a0 : Act} {w0 : World} (V : Nat → Value → World → Prop) {id : Nat} (hm : P.follows .mixedOrders = true)
    (ht : tidy ops a0.tmps.size = true) (steps : ∀ i, i < ops.size → SoftAt P ops Q a0 w0.drew V i)
    (last : ∀ a w, Framed ops a0 a → Below w0.heap.size w0 w → (∀ j, j < ops.size → (∀ (u : Nat) (o : Oper), ops[u]? = some o → usesD o j = false) → V j (a.eval (.tmp (slotAt ops j))) w) → Q .normal a w) :
    (Code.region id ops true).wp P Q a0 w0 := by
  refine wp_region_any hm ?_
  refine wpAny_soft (w0 := w0.drew) ht steps (fun a w hf hb hv => last a w hf ((Below.refl _ _).drew.trans hb) hv) _ _ _ _ (by simp) ?_ ?_ (Below.refl _ _) ?_
  · simp [unlisted]
  · refine ⟨rfl, rfl, fun _ _ => rfl, fun j o hj hl => ?_⟩
    have hlt := (Array.getElem?_eq_some_iff.1 hj).1
    simp [hlt] at hl
  · intro j hj hl
    simp [hj] at hl

theorem SoftAt.by {P : Program} {ops : Array Oper} {Q : Exit → Act → World → Prop} {a0 : Act} {w0 : World} {V : Nat → Value → World → Prop} {i : Nat} {o : Oper} (ho : ops[i]? = some o)
    (h : ∀ a w, FramedAt ops i a0 a → Below w0.heap.size w0 w → (∀ j, usesD o j = true → V j (a.eval (.tmp (slotAt ops j))) w) →
      (Region.wanted o (yielded ops a.tmps) = true ∧ Does P o a w (fun v w' => Below w0.heap.size w w' ∧ (∀ j, j ≠ i → mustKeep ops i j = true → ∀ u, V j u w → V j u w') ∧ V i v w')) ∨ (Region.wanted o (yielded ops a.tmps) = false ∧ V i undef w)) : SoftAt P ops Q a0 w0 V i := by
  intro o' ho' a w hf hb hd K hK
  have e : o = o' := Option.some.inj (ho.symm.trans ho')
  subst e
  rcases h a w hf hb hd with ⟨hw, hr⟩ | ⟨hw, hv⟩
  · rw [if_pos hw]
    unfold Oper.wp
    rcases hr with ⟨v, w', hr, hb', hk', hv⟩ | ⟨f, args, w', hr, hc⟩
    · rw [hr]
      exact hK.out v w' hb' hk' hv
    · rw [hr]
      refine Calls.mono hc ?_
      rintro e w'' ⟨r, rfl, hb', hk', hv⟩
      exact hK.out r w'' hb' hk' hv
  · rw [hw]
    exact hK.out undef w (Below.refl _ _) (fun _ _ _ _ h => h) hv
end Go.Proofs.Ytkdpdgbacladhaa
