/- TEXTS LAID TOGETHER: Valsf, Doesb, Doese, Refe, Refx, With, Refc -/
import Derived.Test.YtkhifljgocopoacPart9
import Derived.Test.YtkhifljgocopoacPart5
import Derived.Test.YtkhifljgocopoacPart7
import Derived.Test.YtkhifljgocopoacPart8
/-
  A REGION THAT DRAWS ITS ORDER, and ends in operations (stores) that come in their order, behind all others: the first ones as in text Vals, the rest is walked.
-/
namespace Go.Proofs.Ytkhifljgocopoac
open Go.RowKit

/-- the first m operations have a slot of their own each, and wait for earlier ones alone -/
def tidyF (ops : Array Oper) (m size : Nat) : Bool := decide (m ≤ ops.size) &&
  (List.range m).all fun i => match ops[i]? with
    | some o => (o.after.all fun e => !Region.binds .any e || decide (e.on < i)) && (match o.dst with
        | some d => decide (d < size) && ((List.range i).all fun j => ((ops[j]?).bind (·.dst)) != some d)
        | none => false)
    | none => false
/-- operations from m on wait for all ahead of them, at once or by way of another one, and for no later one -/
def tailF (ops : Array Oper) (m : Nat) : Bool :=
  (List.range ops.size).all fun i => decide (i < m) || (match ops[i]? with
    | some o => (o.after.all fun e => !Region.binds .any e || decide (e.on < i)) && ((List.range i).all fun j => waits o j || (List.range i).any fun k => waits o k && (match ops[k]? with | some u => waits u j | none => false))
    | none => true)
theorem tidyF_at {ops : Array Oper} {m size i : Nat} {o : Oper} (h : tidyF ops m size = true) (him : i < m) (hi : ops[i]? = some o) :
    (∀ e ∈ o.after, Region.binds .any e = true → e.on < i) ∧ ∃ d, o.dst = some d ∧ d < size ∧ slotAt ops i = d ∧ ∀ j, j < i → ((ops[j]?).bind (·.dst)) ≠ some d := by
  unfold tidyF at h
  rw [Bool.and_eq_true, List.all_eq_true] at h
  have h1 := h.2 i (List.mem_range.2 him)
  rw [hi] at h1
  simp only [Bool.and_eq_true] at h1
  obtain ⟨h2, h3⟩ := h1
  refine ⟨fun e he hb => ?_, ?_⟩
  · have := Array.all_eq_true_iff_forall_mem.1 h2 e he
    rw [hb] at this
    simpa using this
  · cases hd : o.dst with
    | none => rw [hd] at h3; cases h3
    | some d =>
      rw [hd] at h3
      simp only [Bool.and_eq_true, decide_eq_true_eq, List.all_eq_true, List.mem_range] at h3
      refine ⟨d, rfl, h3.1, by simp [slotAt, hi, hd], fun j hj => ?_⟩
      have := h3.2 j hj
      simpa using this
theorem tidyF_ne {ops : Array Oper} {m size i j : Nat} {o u : Oper} (h : tidyF ops m size = true) (him : i < m) (hjm : j < m) (hi : ops[i]? = some o) (hj : ops[j]? = some u) (hne : i ≠ j) : slotAt ops i ≠ slotAt ops j := by
  obtain ⟨_, d, hd, _, hs, hall⟩ := tidyF_at h him hi
  obtain ⟨_, e, he, _, ht, hall'⟩ := tidyF_at h hjm hj
  rw [hs, ht]
  intro hde
  subst hde
  rcases Nat.lt_or_gt_of_ne hne with hl | hl
  · exact hall' i hl (by rw [hi]; exact hd)
  · exact hall j hl (by rw [hj]; exact he)
theorem tailF_at {ops : Array Oper} {m i : Nat} {o : Oper} (h : tailF ops m = true) (him : m ≤ i) (hi : ops[i]? = some o) :
    (∀ e ∈ o.after, Region.binds .any e = true → e.on < i) ∧ ∀ j, j < i → waits o j = true ∨ ∃ k u, k < i ∧ waits o k = true ∧ ops[k]? = some u ∧ waits u j = true := by
  unfold tailF at h
  rw [List.all_eq_true] at h
  have h1 := h i (List.mem_range.2 (Array.getElem?_eq_some_iff.1 hi).1)
  rw [hi] at h1
  have h0 : decide (i < m) = false := by simp; omega
  rw [h0, Bool.false_or] at h1
  simp only [Bool.and_eq_true] at h1
  refine ⟨fun e he hb => ?_, fun j hj => ?_⟩
  · have := Array.all_eq_true_iff_forall_mem.1 h1.1 e he
    rw [hb] at this
    simpa using this
  · have := h1.2
    rw [List.all_eq_true] at this
    have := this j (List.mem_range.2 hj)
    rw [Bool.or_eq_true] at this
    refine this.imp id fun h2 => ?_
    rw [List.any_eq_true] at h2
    obtain ⟨k, hk, h3⟩ := h2
    rw [Bool.and_eq_true] at h3
    cases hu : ops[k]? with
    | none => rw [hu] at h3; simp at h3
    | some u => rw [hu] at h3; exact ⟨k, u, List.mem_range.1 hk, h3.1, hu, h3.2⟩

/-- the tail, in its order -/
theorem wpAny_tail {P : Program} {ops : Array Oper} {Q : Exit → Act → World → Prop} {m size : Nat} (hti : tidyF ops m size = true) (ht : tailF ops m = true) :
    ∀ (fuel : Nat) (k : Nat) (listed : Array Bool) (a : Act) (w : World), m ≤ k → listed.size = ops.size → k ≤ ops.size → ops.size - k ≤ fuel → (∀ j, j < ops.size → (listed.getD j true = true ↔ j < k)) →
      wpList P ops Q (ops.toList.drop k) a w → wpAny P .any ops Q fuel listed a w := by
  have hready : ∀ (k : Nat) (listed : Array Bool), m ≤ k → listed.size = ops.size → (∀ j, j < ops.size → (listed.getD j true = true ↔ j < k)) → ∀ i, i ∈ Region.ready .any ops listed → i = k := by
    intro k listed hk hsz hl i hi
    obtain ⟨hun, o, ho, hall⟩ := mem_ready.1 hi
    have hilt : i < ops.size := (Array.getElem?_eq_some_iff.1 ho).1
    have hik : k ≤ i := by
      rcases Nat.lt_or_ge i k with h | h
      · have := (hl i hilt).2 h; rw [hun] at this; cases this
      · exact h
    rcases Nat.eq_or_lt_of_le hik with h | h
    · exact h.symm
    · exfalso
      have hkl : k < ops.size := by omega
      have hnl : ¬ listed.getD k true = true := fun h1 => by have := (hl k hkl).1 h1; omega
      have hw : ∀ j, waits o j = true → listed.getD j true = true := by
        intro j hj
        obtain ⟨e, he, hbe⟩ := Array.any_eq_true'.1 hj
        simp only [Bool.and_eq_true, beq_iff_eq] at hbe
        have h1 := hall e he hbe.1
        rw [hbe.2] at h1
        have h3 : j < listed.size := by
          rcases Nat.lt_or_ge j listed.size with h4 | h4
          · exact h4
          · simp [Nat.not_lt.2 h4] at h1
        simp only [Array.getD_eq_getD_getElem?, Array.getElem?_eq_getElem h3, Option.getD_some] at h1 ⊢
        exact h1
      rcases (tailF_at ht (by omega) ho).2 k h with h1 | ⟨q, u, hq, h1, hu, h2⟩
      · exact hnl (hw k h1)
      · have hql : q < ops.size := by omega
        have h3 := (hl q hql).1 (hw q h1)
        -- q is ahead of k, but waits for k
        have h4 : k < q := by
          rcases Nat.lt_or_ge q m with h5 | h5
          · exfalso
            obtain ⟨e, he, hbe⟩ := Array.any_eq_true'.1 h2
            simp only [Bool.and_eq_true, beq_iff_eq] at hbe
            have := (tidyF_at hti h5 hu).1 e he hbe.1
            omega
          · obtain ⟨e, he, hbe⟩ := Array.any_eq_true'.1 h2
            simp only [Bool.and_eq_true, beq_iff_eq] at hbe
            have := (tailF_at ht h5 hu).1 e he hbe.1
            omega
        omega
  intro fuel
  induction fuel with
  | zero =>
    intro k listed a w hk hsz hko hf hl h
    have e : k = ops.size := by omega
    rw [List.drop_eq_nil_iff.2 (by rw [Array.length_toList]; omega)] at h
    refine ⟨?_, h⟩
    apply List.eq_nil_iff_forall_not_mem.2
    intro i hi
    have := hready k listed hk hsz hl i hi
    obtain ⟨_, o, ho, _⟩ := mem_ready.1 hi
    have := (Array.getElem?_eq_some_iff.1 ho).1
    omega
  | succ fuel ih =>
    intro k listed a w hk hsz hko hf hl h
    rcases Nat.eq_or_lt_of_le hko with e | hlt
    · rw [List.drop_eq_nil_iff.2 (by rw [Array.length_toList]; omega)] at h
      refine ⟨fun _ => h, fun i hi => ?_⟩
      have := hready k listed hk hsz hl i hi
      obtain ⟨_, o, ho, _⟩ := mem_ready.1 hi
      have := (Array.getElem?_eq_some_iff.1 ho).1
      omega
    · have ho : ops[k]? = some ops[k] := Array.getElem?_eq_getElem hlt
      have hd : ops.toList.drop k = ops[k] :: ops.toList.drop (k + 1) := by
        rw [List.drop_eq_getElem_cons (by rw [Array.length_toList]; exact hlt)]
        rfl
      have hin : k ∈ Region.ready .any ops listed := by
        rw [mem_ready]
        refine ⟨?_, _, ho, fun e he hb => ?_⟩
        · cases hb : listed.getD k true with
          | false => rfl
          | true => have := (hl k hlt).1 hb; omega
        · have h1 := (tailF_at ht hk ho).1 e he hb
          have h2 := (hl e.on (by omega)).2 h1
          have h3 : e.on < listed.size := by omega
          simp only [Array.getD_eq_getD_getElem?, Array.getElem?_eq_getElem h3, Option.getD_some] at h2 ⊢
          exact h2
      refine ⟨fun hr => (by rw [hr] at hin; cases hin), fun i hi => ?_⟩
      have := hready k listed hk hsz hl i hi
      subst this
      rw [hd] at h
      have hK : ∀ a w, wpList P ops Q (ops.toList.drop (i + 1)) a w → wpAny P .any ops Q fuel (listed.setIfInBounds i true) a w := by
        intro a w h
        refine ih (i + 1) _ a w (by omega) (by simp [hsz]) (by omega) (by omega) (fun j hj => ?_) h
        by_cases hji : j = i
        · subst hji
          have : j < listed.size := by omega
          simp [this]
        · rw [getD_set_ne true (Ne.symm hji), hl j hj]
          omega
      unfold wpOp
      rw [ho]
      unfold wpList at h
      show if Region.wanted ops[i] (yielded ops a.tmps) = true then _ else _
      split
      · rename_i hw
        rw [if_pos hw] at h
        exact h.imp (Oper.wp_mono hK) id
      · rename_i hw
        rw [if_neg hw] at h
        exact hK _ _ h

theorem wpAny_front {P : Program} {ops : Array Oper} {Q : Exit → Act → World → Prop} {a0 : Act} {w0 : World} {V : Nat → Value → World → Prop} {m : Nat} (ht : tidyF ops m a0.tmps.size = true) (htl : tailF ops m = true) (hst : ∀ i, Stays (V i))
    (steps : ∀ i, i < m → StepAt P ops Q a0 w0 V i)
    (last : ∀ a w, Framed ops a0 a → Below w0.heap.size w0 w → (∀ j, j < m → V j (a.eval (.tmp (slotAt ops j))) w) → wpList P ops Q (ops.toList.drop m) a w) :
    ∀ (fuel : Nat) (listed : Array Bool) (a : Act) (w : World), listed.size = ops.size → unlisted listed ≤ fuel → FramedBy ops listed a0 a → Below w0.heap.size w0 w → (∀ j, j < ops.size → m ≤ j → listed.getD j true = false) →
      (∀ j, j < m → listed.getD j true = true → V j (a.eval (.tmp (slotAt ops j))) w) → wpAny P .any ops Q fuel listed a w := by
  have hms : m ≤ ops.size := by unfold tidyF at ht; rw [Bool.and_eq_true] at ht; exact of_decide_eq_true ht.1
  have hlen : ∀ (l : List Bool) (k : Nat), (∀ j, k ≤ j → j < l.length → l.getD j true = false) → l.length - k ≤ (l.filter (fun b => !b)).length := by
    intro l
    induction l with
    | nil => intro k _; simp
    | cons b l ih =>
      intro k h
      cases k with
      | zero =>
        have h0 : b = false := h 0 (Nat.le_refl _) (by simp)
        subst h0
        have := ih 0 (fun j _ hj => h (j + 1) (by omega) (by simpa using hj))
        simp at this ⊢
        omega
      | succ k =>
        have := ih k (fun j hk hj => h (j + 1) (by omega) (by simpa using hj))
        cases b <;> simp at this ⊢ <;> omega
  intro fuel
  induction fuel with
  | zero =>
    intro listed a w hsz hu hf hb hun hV
    have hall : ∀ j, listed.getD j true = true := by
      intro j
      have h0 : listed.toList.filter (fun b => !b) = [] := List.eq_nil_of_length_eq_zero (by simpa [unlisted] using hu)
      rw [List.filter_eq_nil_iff] at h0
      rcases Nat.lt_or_ge j listed.size with h | h
      · have := h0 listed[j] (by simp)
        simp [h] at this ⊢
        exact this
      · simp [h]
    have hme : m = ops.size := by
      rcases Nat.eq_or_lt_of_le hms with h | h
      · exact h
      · have := hun m h (Nat.le_refl _); rw [hall] at this; cases this
    exact wpAny_tail ht htl 0 m listed a w (Nat.le_refl _) hsz hms (by omega) (fun j hj => ⟨fun _ => by omega, fun _ => hall j⟩) (last a w hf.all hb fun j hj => hV j hj (hall j))
  | succ fuel ih =>
    intro listed a w hsz hu hf hb hun hV
    by_cases hfull : ∀ j, j < m → listed.getD j true = true
    · refine wpAny_tail ht htl (fuel + 1) m listed a w (Nat.le_refl _) hsz hms ?_ (fun j hj => ⟨fun h => ?_, fun h => hfull j h⟩) (last a w hf.all hb fun j hj => hV j hj (hfull j hj))
      · have := hlen listed.toList m (fun j hj hjl => by have := hun j (by rw [← hsz]; simpa using hjl) hj; simpa [List.getD_eq_getElem?_getD, Array.getD_eq_getD_getElem?] using this)
        unfold unlisted at hu
        rw [Array.length_toList] at this
        omega
      · rcases Nat.lt_or_ge j m with h1 | h1
        · exact h1
        · have := hun j hj h1; rw [h] at this; cases this
    · have hin : ∀ i, i ∈ Region.ready .any ops listed → i < m := by
        intro i hi
        obtain ⟨hu1, o, ho, hall⟩ := mem_ready.1 hi
        have hilt : i < ops.size := (Array.getElem?_eq_some_iff.1 ho).1
        rcases Nat.lt_or_ge i m with h | h
        · exact h
        · exfalso
          apply hfull
          have hw : ∀ j, waits o j = true → listed.getD j true = true := by
            intro j hj
            obtain ⟨e, he, hbe⟩ := Array.any_eq_true'.1 hj
            simp only [Bool.and_eq_true, beq_iff_eq] at hbe
            have h1 := hall e he hbe.1
            rw [hbe.2] at h1
            have h3 : j < listed.size := by
              rcases Nat.lt_or_ge j listed.size with h4 | h4
              · exact h4
              · simp [Nat.not_lt.2 h4] at h1
            simp only [Array.getD_eq_getD_getElem?, Array.getElem?_eq_getElem h3, Option.getD_some] at h1 ⊢
            exact h1
          intro j hj
          rcases (tailF_at htl h ho).2 j (by omega) with h1 | ⟨q, u, hq, h1, hu2, h2⟩
          · exact hw j h1
          · exact hf.closed q u hu2 (hw q h1) j h2
      have hne : Region.ready .any ops listed ≠ [] := by
        intro hr
        apply hfull
        intro j
        induction j using Nat.strongRecOn with
        | ind j ihj =>
          intro hj
          cases hbj : listed.getD j true with
          | true => rfl
          | false =>
            have hjl : j < ops.size := by omega
            have ho : ops[j]? = some ops[j] := Array.getElem?_eq_getElem hjl
            have hm : j ∈ Region.ready .any ops listed := by
              rw [mem_ready]
              refine ⟨hbj, _, ho, fun e he hbe => ?_⟩
              have hlt := (tidyF_at ht hj ho).1 e he hbe
              have h1 := ihj e.on hlt (by omega)
              have h2 : e.on < listed.size := by omega
              simp only [Array.getD_eq_getD_getElem?, Array.getElem?_eq_getElem h2, Option.getD_some] at h1 ⊢
              exact h1
            rw [hr] at hm
            cases hm
      refine ⟨fun hr => absurd hr hne, fun i hi => ?_⟩
      have him := hin i hi
      obtain ⟨hu1, o, ho, hall⟩ := mem_ready.1 hi
      have hilt : i < ops.size := (Array.getElem?_eq_some_iff.1 ho).1
      obtain ⟨hback, d, hd, hdlt, hslot, _⟩ := tidyF_at ht him ho
      refine wpOp_step ho fun K' hK => ?_
      have hlw : ∀ j, waits o j = true → listed.getD j true = true := by
        intro j hj
        obtain ⟨e, he, hbe⟩ := Array.any_eq_true'.1 hj
        simp only [Bool.and_eq_true, beq_iff_eq] at hbe
        have h1 := hall e he hbe.1
        have h2 := hback e he hbe.1
        rw [← hbe.2]
        have h3 : e.on < listed.size := by omega
        simp only [Array.getD_eq_getD_getElem?, Array.getElem?_eq_getElem h3, Option.getD_some] at h1 ⊢
        exact h1
      refine steps i him o ho a w (hf.at_ hu1) hb ?_ K' ?_
      · intro j hj
        obtain ⟨e, he, hbe⟩ := Array.any_eq_true'.1 hj
        simp only [Bool.and_eq_true, beq_iff_eq] at hbe
        have h2 := hback e he hbe.1
        exact hV j (by rw [← hbe.2]; omega) (hlw j hj)
      · intro v w' hw hv
        refine hK _ _ (ih _ _ _ (by simp [hsz]) (by have := unlisted_set hu1; omega) (hf.put ho hsz hlw v) (hb.trans (hw.mono hb.size)) (fun j hj hmj => by rw [getD_set_ne true (by omega)]; exact hun j hj hmj) fun j hj hl => ?_)
        by_cases hji : j = i
        · subst hji
          have : (a.put o.dst v).eval (.tmp (slotAt ops j)) = v := by
            rw [hslot, hd]
            have hlt : d < a.tmps.size := by rw [hf.size]; exact hdlt
            simp [Act.eval, Act.put, hlt]
          rw [this]
          exact hv
        · have hoj : ops[j]? = some ops[j] := Array.getElem?_eq_getElem (by omega)
          have hnes := tidyF_ne ht hj him hoj ho hji
          rw [Act.eval_put (by intro d' hd' e; injection e with e; rw [hd] at hd'; injection hd' with hd'; rw [hslot] at hnes; exact hnes (e.trans hd'.symm))]
          rw [getD_set_ne true (Ne.symm hji)] at hl
          exact hst j _ _ _ hw (hV j hj hl)

/-- THE RULE. -/
theorem wp_region_front {P : Program} {ops : Array Oper} {Q : Exit → Act → World → Prop} {a0 : Act} {w0 : World} (V : Nat → Value → World → Prop) (m : Nat) {id : Nat} (hm : P.follows .mixedOrders = true)
    (ht : tidyF ops m a0.tmps.size = true) (htl : tailF ops m = true) (hst : ∀ i, Stays (V i)) (steps : ∀ i, i < m → StepAt P ops Q a0 w0.drew V i)
    (last : ∀ a w, Framed ops a0 a → Below w0.heap.size w0 w → (∀ j, j < m → V j (a.eval (.tmp (slotAt ops j))) w) → wpList P ops Q (ops.toList.drop m) a w) :
    (Code.region id ops true).wp P Q a0 w0 := by
  refine wp_region_any hm ?_
  refine wpAny_front (w0 := w0.drew) ht htl hst steps (fun a w hf hb hv => last a w hf ((Below.refl _ _).drew.trans hb) hv) _ _ _ _ (by simp) ?_ ?_ (Below.refl _ _) ?_ ?_
  · simp [unlisted]
  · refine ⟨rfl, rfl, fun _ _ => rfl, fun j o hj hl => ?_⟩
    have hlt := (Array.getElem?_eq_some_iff.1 hj).1
    simp [hlt] at hl
  · intro j hj _
    simp [hj]
  · intro j hj hl
    have hms : m ≤ ops.size := by unfold tidyF at ht; rw [Bool.and_eq_true] at ht; exact of_decide_eq_true ht.1
    have : j < ops.size := by omega
    simp [this] at hl
end Go.Proofs.Ytkhifljgocopoac
/-
  WHAT SINGLE OPERATIONS DO, further: fields of an act.
-/
namespace Go.Proofs.Ytkhifljgocopoac
open Go.RowKit

section
variable {a : Act} {w : World} {R : Value → World → Prop} {d : Option Tmp} {ty : TypeId} {pos : String} {af : Array Edge} {g : Option (Nat × Bool)}
theorem run_neqE {ρ : Operand → Value} {x y : Operand} {b c : Int} (hx : ρ x = .int .i64 b) (hy : ρ y = .int .i64 c) : (execOp ρ ⟨d, .binOp .neq 44 x y 44, ty, pos, af, g⟩).run Try.prog w = .ok (.value (.bool (b != c))) w := by
  simp [execOp, hx, hy, go_sem, bne]
theorem run_eqE {ρ : Operand → Value} {x y : Operand} {b c : Int} (hx : ρ x = .int .i64 b) (hy : ρ y = .int .i64 c) : (execOp ρ ⟨d, .binOp .eql 44 x y 44, ty, pos, af, g⟩).run Try.prog w = .ok (.value (.bool (b == c))) w := by
  simp [execOp, hx, hy, go_sem]
theorem run_fieldA {ρ : Operand → Value} {x : Operand} {s k : Nat} (hx : ρ x = .pointer (some ⟨s, 0, none⟩)) (hk : k < 7) : (execOp ρ ⟨d, .fieldAddr 43 x k, ty, pos, af, g⟩).run Try.prog w = .ok (.value (.pointer (some ⟨s, k, none⟩))) w := by
  match k, hk with
  | 0, _ => simp [execOp, hx, go_sem]
  | 1, _ => simp [execOp, hx, go_sem]
  | 2, _ => simp [execOp, hx, go_sem]
  | 3, _ => simp [execOp, hx, go_sem]
  | 4, _ => simp [execOp, hx, go_sem]
  | 5, _ => simp [execOp, hx, go_sem]
  | 6, _ => simp [execOp, hx, go_sem]
theorem run_load3 {ρ : Operand → Value} {x : Operand} {p : Addr} {i : Int} (hx : ρ x = .pointer (some p)) (hc : w.cell? p = some (.int .i64 i)) : (execOp ρ ⟨d, .load 3 x, ty, pos, af, g⟩).run Try.prog w = .ok (.value (.int .i64 i)) w := by
  simp [execOp, hx, go_sem, hc]
theorem run_load9 {ρ : Operand → Value} {x : Operand} {p : Addr} {s : ByteArray} (hx : ρ x = .pointer (some p)) (hc : w.cell? p = some (.string s)) : (execOp ρ ⟨d, .load 9 x, ty, pos, af, g⟩).run Try.prog w = .ok (.value (.string s)) w := by
  simp [execOp, hx, go_sem, hc]
theorem does_neqE {x y : Operand} {b c : Int} (hx : a.eval x = .int .i64 b) (hy : a.eval y = .int .i64 c) (h : R (.bool (b != c)) w) : Does Try.prog ⟨d, .binOp .neq 44 x y 44, ty, pos, af, g⟩ a w R := .inl ⟨_, _, run_neqE hx hy, h⟩
theorem does_fieldA {x : Operand} {s k : Nat} (hx : a.eval x = .pointer (some ⟨s, 0, none⟩)) (hk : k < 7) (h : R (.pointer (some ⟨s, k, none⟩)) w) : Does Try.prog ⟨d, .fieldAddr 43 x k, ty, pos, af, g⟩ a w R := .inl ⟨_, _, run_fieldA hx hk, h⟩
theorem does_load3 {x : Operand} {p : Addr} {i : Int} (hx : a.eval x = .pointer (some p)) (hc : w.cell? p = some (.int .i64 i)) (h : R (.int .i64 i) w) : Does Try.prog ⟨d, .load 3 x, ty, pos, af, g⟩ a w R := .inl ⟨_, _, run_load3 hx hc, h⟩
theorem does_load9 {x : Operand} {p : Addr} {s : ByteArray} (hx : a.eval x = .pointer (some p)) (hc : w.cell? p = some (.string s)) (h : R (.string s) w) : Does Try.prog ⟨d, .load 9 x, ty, pos, af, g⟩ a w R := .inl ⟨_, _, run_load9 hx hc, h⟩
end
end Go.Proofs.Ytkhifljgocopoac
/-
  WHAT SINGLE OPERATIONS DO, further: calls through a slot, nodes that are built (for regions that draw their order).
-/
namespace Go.Proofs.Ytkhifljgocopoac
open Go.RowKit

theorem does_rn {a : Act} {w w' : World} {R : Value → World → Prop} {o : Oper} {v : Value} (h : (execOp a.eval o).run Try.prog w = .ok (.value v) w') (hR : R v w') : Does Try.prog o a w R := .inl ⟨v, w', h, hR⟩
/-- the value is this -/
def IsU (c : Value) : Value → World → Prop := fun v _ => v = c
section
variable {w : World} {d : Option Tmp} {ty : TypeId} {pos : String} {af : Array Edge} {g : Option (Nat × Bool)} {x y : Operand}
theorem run_callC {P : Program} {ρ : Operand → Value} {f : FuncId} {c : Operand} {caps : Array Value} {u : Value} {ts : Array TypeId} (hcf : Enters P f) (hfn : ρ c = .func (.func f) #[] caps) (hx : ρ x = u) :
    (execOp ρ ⟨d, .call { callee := .value c, args := #[x], argTypes := ts }, ty, pos, af, g⟩).run P w = .ok (.enter f (#[u] ++ caps)) w := by
  simp [execOp, resolve, invoke, hcf.out, hfn, hx, go_sem]
theorem does_callC {P : Program} {a : Act} {R : Value → World → Prop} {f : FuncId} {c : Operand} {caps : Array Value} {u : Value} {ts : Array TypeId} (hcf : Enters P f) (hfn : a.eval c = .func (.func f) #[] caps) (hx : a.eval x = u) (h : Calls P f (#[u] ++ caps) w fun e w'' => ∃ r, e = .returned r ∧ R r w'') :
    Does P ⟨d, .call { callee := .value c, args := #[x], argTypes := ts }, ty, pos, af, g⟩ a w R := .inr ⟨f, _, w, run_callC hcf hfn hx, h⟩
theorem run_eqN {ρ : Operand → Value} {b c : Int} (hx : ρ x = .int .i64 b) (hy : ρ y = .int .i64 c) : (execOp ρ ⟨d, .binOp .eql 3 x y 3, ty, pos, af, g⟩).run Try.prog w = .ok (.value (.bool (b == c))) w := by
  simp [execOp, hx, hy, go_sem]
theorem run_buildN {ρ : Operand → Value} {b : Int} {c : Bool} (hx : ρ x = .int .i64 b) (hy : ρ y = .bool c) : (execOp ρ ⟨d, .build 56 #[(0, x), (1, y)], ty, pos, af, g⟩).run Try.prog w = .ok (.value (NV.val ⟨b, c, none, 0, 0, none, 0, 0, 0⟩)) w := by
  simp [execOp, hx, hy, go_sem]
end
end Go.Proofs.Ytkhifljgocopoac
/-
  THE REFERENCE's Entry.
-/
namespace Go.Proofs.Ytkhifljgocopoac
open Go.RowKit

theorem look_none {es : List (ByteArray × Int)} {s : ByteArray} {k : Nat} (h : ∀ e ∈ es.take k, e.1 ≠ s) (hk : es.length ≤ k) : M.look es s = none := by
  rw [List.take_of_length_le hk] at h
  unfold M.look
  rw [List.find?_eq_none]
  intro e he
  simpa using h e he
theorem look_some {es : List (ByteArray × Int)} {s : ByteArray} {k : Nat} {a : ByteArray × Int} (h : ∀ e ∈ es.take k, e.1 ≠ s) (ha : es[k]? = some a) (hs : a.1 = s) : M.look es s = some a := by
  unfold M.look
  obtain ⟨hi, hx⟩ := List.getElem?_eq_some_iff.1 ha
  rw [List.find?_eq_some_iff_getElem]
  refine ⟨by simpa using hs, k, hi, hx, fun j hj => ?_⟩
  have := h es[j] (List.mem_take_iff_getElem.2 ⟨j, by omega, rfl⟩)
  simpa using this

set_option maxHeartbeats 2000000 in
theorem refEntry_any (v : NV) (x : M.Nd) (s : ByteArray) (w : World) (hc : Cont w v x) (hs : Small x) :
    Calls Try.prog 28 #[v.val, .string s] w fun e w' => e = .returned (.tuple #[.int .i64 (((M.look x.ents s).map (·.2)).getD 0), .bool (M.look x.ents s).isSome]) ∧ Below w.heap.size w w' := by
  have hwa : Below w.heap.size w (w.alloc (.cells #[.int .i64 v.fid, .bool v.dir, .slice v.dA v.dn v.dc, .slice v.eA v.en v.ec, .int .i64 v.ver] 56)) := (Below.refl _ _).alloc (Nat.le_refl _) _
  have HB : Hid (Box (w.alloc (.cells #[.int .i64 v.fid, .bool v.dir, .slice v.dA v.dn v.dc, .slice v.eA v.en v.ec, .int .i64 v.ver] 56)) w.heap.size v) := Box.new w v
  have HC : Hid (Cont w v x ∧ Small x) := ⟨hc, hs⟩
  have hen : v.en ≤ 140737488355328 := by have := hc.2.2.2.2.1; have := hs.2; omega
  have HL : Hid (v.en = x.ents.length) := hc.2.2.2.2.1
  clear hc hs
  go_enter Try.func28, Try.ntmps28
  go_wp2
  go_loopw [11] (fun i wr => ∃ k : Nat, k ≤ v.en ∧ i = .int .i64 k ∧ Hid (∀ e ∈ x.ents.take k, e.1 ≠ s) ∧ Box wr w.heap.size v ∧ Below w.heap.size w wr) (fun i _ => v.en - (intOf i).toNat)
  case atStart => exact ⟨0, Nat.zero_le _, rfl, (by intro e he; simp at he), HB.out, hwa⟩
  case round =>
    obtain ⟨k, hk, rfl, HE, hbx, hb⟩ := hrel
    have HBX : Hid (Box wr w.heap.size v) := hbx
    obtain ⟨p0, p1, p2, p3, p4, pf, pz⟩ := hbx.facts
    clear hbx p0 p1 p2 p4
    have hsz := hb.size
    by_cases hlt : k < v.en
    · obtain ⟨g, o, ⟨nm, fd⟩, ha, _, hak, a0, a1⟩ := Ents.at (HC.out.1.2.2.2.2.below (Nat.le_refl _) hb) hlt
      have HA : Hid (x.ents[k]? = some (nm, fd)) := hak
      dsimp only at a0 a1
      have hkn : (k : Int) < (v.en : Int) := by omega
      have hk0 : (0 : Int) ≤ (k : Int) := by omega
      have hba : Below wr.heap.size wr (wr.alloc (.cells #[.string nm, .int .i64 fd] 58)) := (Below.refl _ _).alloc (Nat.le_refl _) _
      have HR : Hid (Box (wr.alloc (.cells #[.string nm, .int .i64 fd] 58)) w.heap.size v ∧ Below w.heap.size w (wr.alloc (.cells #[.string nm, .int .i64 fd] 58))) := ⟨HBX.out.alloc _, hb.trans (hba.mono hsz)⟩
      clear hak hba p3
      by_cases hse : nm = s
      · have q : (nm.toList == s.toList) = true := by rw [raw_eq]; exact decide_eq_true hse
        have HSE : Hid (nm = s) := hse
        clear hse
        go_wp2
        go_ret2
        rw [look_some HE.out HA.out HSE.out]
        exact ⟨rfl, HR.out.2⟩
      · have q : (nm.toList == s.toList) = false := by rw [raw_eq]; exact decide_eq_false hse
        have HSE : Hid (nm ≠ s) := hse
        clear hse
        go_wp2
        go_roundw
        case rel => exact ⟨k + 1, by omega, by go_num, by intro e he; rw [take_step HA.out] at he; rcases List.mem_append.1 he with h1 | h1; exact HE.out e h1; rw [List.mem_singleton.1 h1]; exact HSE.out, HR.out.1, HR.out.2⟩
        case measure => simp [intOf]; omega
    · have HN : Hid (x.ents.length ≤ k) := by have := HL.out; show _ ≤ _; omega
      go_wp2
      go_ret2
      rw [look_none HE.out HN.out]
      exact ⟨rfl, hb⟩
end Go.Proofs.Ytkhifljgocopoac
/-
  THE REFERENCE's dir, room, and what sets a version.
-/
namespace Go.Proofs.Ytkhifljgocopoac
open Go.RowKit

set_option maxRecDepth 4000 in
set_option maxHeartbeats 1000000 in
theorem refDir_any (bm : Nat) (xs : List M.Nd) (t : Int) (w : World) (ht : TMap w bm xs) :
    Calls Try.prog 24 #[.map (some bm), .int .i64 t] w fun e w' => ∃ v : NV, e = .returned (.tuple #[v.val, .int .i64 (M.dirS xs t).1]) ∧ ((M.dirS xs t).1 = 0 → Cont w' v (M.dirS xs t).2) ∧ Below w.heap.size w w' := by
  obtain ⟨f, hi, ha⟩ := ht
  have hlk := run_lookup_map 30 56 Try.underlying30 (zero26 (w.alloc (.cells #[.int .i64 0, .bool false, .slice none 0 0, .slice none 0 0, .int .i64 0] 56))) (hi.below (Nat.le_refl _) ((Below.refl _ _).alloc (Nat.le_refl _) (.cells #[.int .i64 0, .bool false, .slice none 0 0, .slice none 0 0, .int .i64 0] 56))) t true
  rcases ha t with ⟨h1, hf⟩ | ⟨v, x, h1, hf, hcx⟩
  · rw [h1] at hlk
    simp only [if_true, Option.getD_none, Option.isSome_none] at hlk
    have HD : Hid (M.dirS xs t = (12, nd0)) := M.dir_none hf
    clear hf hi ha h1
    go_enter Try.func24, Try.ntmps24
    go_wp2
    exact bodyPost_ret (v := .tuple #[NV.zero.val, .int .i64 12]) (by simp [results, Try.results24, go_sem, NV.zero]) rfl ⟨NV.zero, by rw [HD.out], fun h => by rw [HD.out] at h; simp at h, ((Below.refl _ _).alloc (Nat.le_refl _) _).alloc (by simp) _⟩
  · rw [h1] at hlk
    simp only [if_true, Option.getD_some, Option.isSome_some] at hlk
    clear hi ha h1
    obtain ⟨fi, di, dA, dn, dc, eA, en, ec, ve⟩ := v
    cases di
    · have HD : Hid (M.dirS xs t = (8, nd0)) := M.dir_file hf hcx.2.1.symm
      clear hf hcx
      go_enter Try.func24, Try.ntmps24
      go_wp2
      exact bodyPost_ret (v := .tuple #[NV.val ⟨fi, false, dA, dn, dc, eA, en, ec, ve⟩, .int .i64 8]) (by simp [results, Try.results24, go_sem]) rfl ⟨⟨fi, false, dA, dn, dc, eA, en, ec, ve⟩, by rw [HD.out], fun h => by rw [HD.out] at h; simp at h, ((Below.refl _ _).alloc (Nat.le_refl _) _).alloc (by simp) _⟩
    · have HD : Hid (M.dirS xs t = (0, x)) := M.dir_yes hf hcx.2.1.symm
      have HC : Hid (Cont w ⟨fi, true, dA, dn, dc, eA, en, ec, ve⟩ x) := hcx
      clear hf hcx
      go_enter Try.func24, Try.ntmps24
      go_wp2
      exact bodyPost_ret (v := .tuple #[NV.val ⟨fi, true, dA, dn, dc, eA, en, ec, ve⟩, .int .i64 0]) (by simp [results, Try.results24, go_sem]) rfl ⟨⟨fi, true, dA, dn, dc, eA, en, ec, ve⟩, by rw [HD.out], fun _ => by rw [HD.out]; exact HC.out.below (Nat.le_refl _) (((Below.refl _ _).alloc (Nat.le_refl _) _).alloc (by simp) _), ((Below.refl _ _).alloc (Nat.le_refl _) _).alloc (by simp) _⟩

set_option maxHeartbeats 1000000 in
theorem refRoom_any (v : NV) (x : M.Nd) (s : ByteArray) (w : World) (hc : Cont w v x) (hs : Small x) (hl : s.size ≤ maxLen) :
    Calls Try.prog 25 #[v.val, .string s] w fun e w' => e = .returned (.int .i64 (M.freeS x s)) ∧ Below w.heap.size w w' := by
  have HT : Hid (Cont w v x ∧ Small x ∧ s.size ≤ maxLen) := ⟨hc, hs, hl⟩
  have HW : Hid (Below w.heap.size w (w.alloc (.cells #[.int .i64 v.fid, .bool v.dir, .slice v.dA v.dn v.dc, .slice v.eA v.en v.ec, .int .i64 v.ver] 56)) ∧ Box (w.alloc (.cells #[.int .i64 v.fid, .bool v.dir, .slice v.dA v.dn v.dc, .slice v.eA v.en v.ec, .int .i64 v.ver] 56)) w.heap.size v) := ⟨(Below.refl _ _).alloc (Nat.le_refl _) _, Box.new w v⟩
  clear hc hs hl
  go_enter Try.func25, Try.ntmps25
  go_wp2_with (fail)
  refine (refEntry_any v x s _ (HT.out.1.below (Nat.le_refl _) HW.out.1) HT.out.2.1).mono ?_
  rintro e w1 ⟨rfl, hb1⟩
  have HB : Hid (Below w.heap.size w w1 ∧ Box w1 w.heap.size v) := ⟨HW.out.1.trans (hb1.mono (by simp)), HW.out.2.below hb1 (by simp)⟩
  have HEN : Hid (v.en = x.ents.length) := HT.out.1.2.2.2.2.1
  obtain ⟨b, hbe⟩ : ∃ b : Bool, (M.look x.ents s).isSome = b := ⟨_, rfl⟩
  have HU : Hid (M.freeS x s = if b || !M.nameB s.data.toList then 7 else if 6 ≤ x.ents.length then 5 else 0) := by show _ = _; unfold M.freeS; rw [hbe]
  rw [hbe]
  generalize ((M.look x.ents s).map (·.2)).getD 0 = f
  clear hb1 HW hbe
  obtain ⟨z0, z1, z2, z3, z4, zf, zz⟩ := HB.out.2.facts
  cases b
  · cases hnb : M.nameB s.data.toList
    · have HV : Hid ((7 : Int) = M.freeS x s) := by show _ = _; rw [HU.out, hnb]; rfl
      go_wp2_with (go_at_call 37; refine (refName_any s _ HT.out.2.2).mono ?_; rintro e w2 ⟨rfl, hw⟩; rw [hw, hnb]; clear hw)
      go_ret
      exact ⟨ret_int HV.out, HB.out.1⟩
    · by_cases h6 : 6 ≤ v.en
      · have HV : Hid ((5 : Int) = M.freeS x s) := by show _ = _; rw [HU.out, hnb, ← HEN.out, if_neg (by simp), if_pos h6]
        have h6' : (6 : Int) ≤ (v.en : Int) := by omega
        go_wp2_with (go_at_call 37; refine (refName_any s _ HT.out.2.2).mono ?_; rintro e w2 ⟨rfl, hw⟩; rw [hw, hnb]; clear hw)
        go_ret
        exact ⟨ret_int HV.out, HB.out.1⟩
      · have HV : Hid ((0 : Int) = M.freeS x s) := by show _ = _; rw [HU.out, hnb, ← HEN.out, if_neg (by simp), if_neg h6]
        have h6' : ¬ (6 : Int) ≤ (v.en : Int) := by omega
        go_wp2_with (go_at_call 37; refine (refName_any s _ HT.out.2.2).mono ?_; rintro e w2 ⟨rfl, hw⟩; rw [hw, hnb]; clear hw)
        go_ret
        exact ⟨ret_int HV.out, HB.out.1⟩
  · have HV : Hid ((7 : Int) = M.freeS x s) := by show _ = _; rw [HU.out]; rfl
    go_wp2_with (fail)
    go_ret
    exact ⟨ret_int HV.out, HB.out.1⟩

theorem refVer_any (v : NV) (p : Nat) (ver : Int) (w : World) (hp : w.cell? ⟨p, 0, none⟩ = some (.int .i64 ver)) :
    Calls Try.prog 23 #[v.val, .pointer (some ⟨p, 0, none⟩)] w fun e w' => e = .returned (NV.val ⟨v.fid, v.dir, v.dA, v.dn, v.dc, v.eA, v.en, v.ec, ver⟩) ∧ Below w.heap.size w w' := by
  have hpl : p < w.heap.size := World.block_lt_of_cell? w _ hp
  go_enter Try.func23, Try.ntmps23
  go_wp2
  exact bodyPost_ret (v := NV.val ⟨v.fid, v.dir, v.dA, v.dn, v.dc, v.eA, v.en, v.ec, ver⟩) (by simp [results, Try.results23, go_sem]) rfl ⟨rfl, ((Below.refl _ _).alloc (Nat.le_refl _) _).alloc (by simp) _⟩
end Go.Proofs.Ytkhifljgocopoac
/-
  A MAP IS GONE THROUGH; the reference's With and Without.
-/
namespace Go.Proofs.Ytkhifljgocopoac
open Go.RowKit
open Go.ChangeMaps (setBlock)

/-- block r goes through the map at bm; all that was there in w0 is there -/
structure It (w0 : World) (r bm : Nat) (es : Array MapEntry) (clock : Nat) (seen : Array Nat) (wr : World) : Prop where
  it : ∃ c0, wr.heap[r]? = some (.mapIter (some bm) clock seen c0) ∧ clock ≤ c0
  at_ : w0.heap[bm]? = some (.map es clock)
  far : w0.heap.size ≤ r
  bel : Below w0.heap.size w0 wr
theorem It.below {w0 : World} {r bm : Nat} {es : Array MapEntry} {clock : Nat} {seen : Array Nat} {wr w' : World} (h : It w0 r bm es clock seen wr) (hb : Below wr.heap.size wr w') : It w0 r bm es clock seen w' := by
  obtain ⟨⟨c0, h1, h2⟩, h3, h4, h5⟩ := h
  exact ⟨⟨c0, by rw [hb.block r (lt_of_block h1)]; exact h1, h2⟩, h3, h4, h5.trans (hb.mono h5.size)⟩
theorem It.set {w0 : World} {r bm : Nat} {es : Array MapEntry} {clock : Nat} {seen : Array Nat} {wr : World} (h : It w0 r bm es clock seen wr) {b : Nat} (hb : w0.heap.size ≤ b) (hne : r ≠ b) (o : Obj) : It w0 r bm es clock seen (setBlock wr b o) := by
  obtain ⟨⟨c0, h1, h2⟩, h3, h4, h5⟩ := h
  exact ⟨⟨c0, by rw [setBlock_other hne]; exact h1, h2⟩, h3, h4, setBlock_below h5 hb o⟩
theorem It.seen {w0 : World} {r bm : Nat} {es : Array MapEntry} {clock : Nat} {seen : Array Nat} {wr : World} (h : It w0 r bm es clock seen wr) : wr.iterSeen r = seen := by
  obtain ⟨⟨c0, h1, _⟩, _⟩ := h
  simp [World.iterSeen, h1]

/-- the worlds behind 'next' -/
theorem It.next {w0 : World} {r bm : Nat} {es : Array MapEntry} {clock : Nat} {seen : Array Nat} {wr : World} (h : It w0 r bm es clock seen wr) (hn : (es.toList.map (·.born)).Nodup) (hc : ∀ e ∈ es.toList, e.born < clock) (ty : TypeId) :
    ((leftOf es seen).size = 0 ∧ (Instr.next (.pointer (some ⟨r, 0, none⟩)) false ty).run Try.prog wr = .ok (.tuple #[.bool false]) wr) ∨
    ∃ e ∈ (leftOf es seen).toList, ∃ W : World, (Instr.next (.pointer (some ⟨r, 0, none⟩)) false ty).run Try.prog wr = .ok (.tuple #[.bool true, e.key, e.val]) W ∧
      (Instr.entry (.pointer (some ⟨r, 0, none⟩))).run Try.prog W = .ok (.tuple #[e.key, e.val]) W ∧ It w0 r bm es clock (seen.push e.born) W ∧ W.heap.size = wr.heap.size ∧ ∀ c : Nat, c ≠ r → W.heap[c]? = wr.heap[c]? := by
  obtain ⟨⟨c0, h1, h2⟩, h3, h4, h5⟩ := h
  have hbm : bm < w0.heap.size := lt_of_block h3
  have hb : wr.heap[bm]? = some (.map es clock) := by rw [h5.block bm hbm]; exact h3
  rcases run_next_at (P := Try.prog) wr ty r bm clock c0 seen es clock h1 hb hc h2 with h | ⟨e, he, w1, hw1, hrun⟩
  · exact .inl h
  · right
    have hr1 : w1.heap[r]? = some (.mapIter (some bm) clock seen c0) := by rcases hw1 with rfl | rfl <;> exact h1
    have hsz : w1.heap.size = wr.heap.size := by rcases hw1 with rfl | rfl <;> rfl
    have hh : ∀ c : Nat, w1.heap[c]? = wr.heap[c]? := by rcases hw1 with rfl | rfl <;> exact fun _ => rfl
    have hb1 : Below w0.heap.size w0 w1 := by rcases hw1 with rfl | rfl; exact h5; exact h5.drew
    have hW : (setBlock w1 r (.mapIter (some bm) clock (seen.push e.born) clock)).heap[r]? = some (.mapIter (some bm) clock (seen.push e.born) clock) := setBlock_at hr1
    refine ⟨e, he, _, hrun, run_entry_at _ r bm clock seen es clock e hW (by rw [setBlock_other (by omega), hh]; exact hb) (mem_left he).1 hn, ⟨⟨clock, hW, Nat.le_refl _⟩, h3, h4, setBlock_below hb1 h4 _⟩, by rw [setBlock_size]; exact hsz, fun c hc => by rw [setBlock_other hc]; exact hh c⟩

/-- of what has been seen, and is asked for, g tells -/
def Seen (p : Int → Bool) (es : Array MapEntry) (seen : Array Nat) (g : Int → Option Value) : Prop :=
  ∀ k v, g k = some v ↔ ∃ e ∈ es.toList, seen.contains e.born = true ∧ e.key = .int .i64 k ∧ e.val = v ∧ p k = true
theorem seen_none (p : Int → Bool) (es : Array MapEntry) : Seen p es #[] (fun _ => none) := by
  intro k v
  constructor
  · intro h; cases h
  · rintro ⟨e, _, h, _⟩; simp at h
theorem key_one {L : List MapEntry} (hp : L.Pairwise fun a b => a.key ≠ b.key) {a b : MapEntry} (ha : a ∈ L) (hb : b ∈ L) (h : a.key = b.key) : a = b := by
  obtain ⟨i, hi, rfl⟩ := List.mem_iff_getElem.1 ha
  obtain ⟨j, hj, rfl⟩ := List.mem_iff_getElem.1 hb
  rw [List.pairwise_iff_getElem] at hp
  rcases Nat.lt_trichotomy i j with h1 | h1 | h1
  · exact absurd h (hp i j hi hj h1)
  · subst h1; rfl
  · exact absurd h.symm (hp j i hj hi h1)
theorem seen_step {p : Int → Bool} {es : Array MapEntry} {seen : Array Nat} {g f : Int → Option Value} {e : MapEntry} {k : Int} (h : Seen p es seen g) (hh : Holds es.toList f) (hn : (es.toList.map (·.born)).Nodup)
    (he : e ∈ es.toList) (hk : e.key = .int .i64 k) (hp : p k = true) : Seen p es (seen.push e.born) (updF g k e.val) := by
  intro q v
  unfold updF
  by_cases hq : q = k
  · rw [if_pos hq]
    subst hq
    constructor
    · intro h1
      injection h1 with h1
      exact ⟨e, he, by rw [contains_push]; simp, hk, h1, hp⟩
    · rintro ⟨x, hx, _, hxk, hxv, _⟩
      have := key_one hh.one hx he (by rw [hxk, hk])
      rw [← hxv, this]
  · rw [if_neg hq, h q v]
    constructor
    · rintro ⟨x, hx, hs, hr⟩
      exact ⟨x, hx, by rw [contains_push, hs]; rfl, hr⟩
    · rintro ⟨x, hx, hs, hxk, hr⟩
      refine ⟨x, hx, ?_, hxk, hr⟩
      rw [contains_push, Bool.or_eq_true] at hs
      rcases hs with hs | hs
      · exact hs
      · have hxe := born_inj hn hx he (by simpa using hs)
        subst hxe
        rw [hk] at hxk
        injection hxk with _ hxk
        exact absurd hxk.symm hq
theorem seen_skip {p : Int → Bool} {es : Array MapEntry} {seen : Array Nat} {g : Int → Option Value} {e : MapEntry} {k : Int} (h : Seen p es seen g) (hn : (es.toList.map (·.born)).Nodup)
    (he : e ∈ es.toList) (hk : e.key = .int .i64 k) (hp : p k = false) : Seen p es (seen.push e.born) g := by
  intro q v
  rw [h q v]
  constructor
  · rintro ⟨x, hx, hs, hr⟩
    exact ⟨x, hx, by rw [contains_push, hs]; rfl, hr⟩
  · rintro ⟨x, hx, hs, hxk, hxv, hpq⟩
    refine ⟨x, hx, ?_, hxk, hxv, hpq⟩
    rw [contains_push, Bool.or_eq_true] at hs
    rcases hs with hs | hs
    · exact hs
    · have hxe := born_inj hn hx he (by simpa using hs)
      subst hxe
      rw [hk] at hxk
      injection hxk with _ hxk
      subst hxk
      rw [hp] at hpq
      cases hpq
theorem seen_end {p : Int → Bool} {es : Array MapEntry} {seen : Array Nat} {g f : Int → Option Value} (h : Seen p es seen g) (hh : Holds es.toList f) (h0 : (leftOf es seen).size = 0) (k : Int) : g k = if p k then f k else none := by
  have hall := all_seen es seen h0
  cases hg : g k with
  | some v =>
    obtain ⟨e, he, _, hk, hv, hp⟩ := (h k v).1 hg
    rw [hp, if_pos rfl]
    obtain ⟨q, hq, hf⟩ := hh.key e he
    rw [hk] at hq
    injection hq with _ hq
    subst hq
    rw [hf, hv]
  | none =>
    cases hp : p k with
    | false => rfl
    | true =>
      rw [if_pos rfl]
      cases hf : f k with
      | none => rfl
      | some v =>
        obtain ⟨e, he, hk, hv⟩ := hh.all k v hf
        have := (h k v).2 ⟨e, he, hall e he, hk, hv, hp⟩
        rw [hg] at this
        cases this

/-- the map's copy, so far -/
def RI (w0 : World) (bm : Nat) (es : Array MapEntry) (clock : Nat) (p : Int → Bool) (seen : Array Nat) (wr : World) : Prop :=
  It w0 (w0.heap.size + 1) bm es clock seen wr ∧ ∃ g, IMap wr w0.heap.size g ∧ Seen p es seen g
theorem RI.start {w0 : World} {bm : Nat} {es : Array MapEntry} {clock : Nat} (p : Int → Bool) (hb : w0.heap[bm]? = some (.map es clock)) : RI w0 bm es clock p #[] ((w0.alloc (.map #[] 0)).alloc (.mapIter (some bm) clock #[] clock)) := by
  have h1 : ((w0.alloc (.map #[] 0)).alloc (.mapIter (some bm) clock #[] clock)).heap[w0.heap.size + 1]? = some (.mapIter (some bm) clock #[] clock) := by
    have := heap_alloc_new (w0.alloc (.map #[] 0)) (.mapIter (some bm) clock #[] clock)
    simpa using this
  refine ⟨⟨⟨clock, h1, Nat.le_refl _⟩, hb, by omega, ((Below.refl _ _).alloc (Nat.le_refl _) _).alloc (by simp) _⟩, fun _ => none, ?_, seen_none p es⟩
  exact (IMap.new w0).below (Nat.le_refl _) ((Below.refl _ _).alloc (Nat.le_refl _) _)
/-- what a round of the copy finds -/
theorem RI.round {w0 : World} {bm : Nat} {es : Array MapEntry} {clock : Nat} {p : Int → Bool} {seen : Array Nat} {wr : World} {f : Int → Option Value} {xs : List M.Nd} (h : RI w0 bm es clock p seen wr) (hh : Holds es.toList f) (hn : (es.toList.map (·.born)).Nodup) (hc : ∀ e ∈ es.toList, e.born < clock) (ha : Agree w0 f xs) (ty : TypeId) :
    ((leftOf es seen).size = 0 ∧ (Instr.next (.pointer (some ⟨w0.heap.size + 1, 0, none⟩)) false ty).run Try.prog wr = .ok (.tuple #[.bool false]) wr) ∨
    ∃ (b : Nat) (v : NV) (k : Int) (W : World), (leftOf es (seen.push b)).size < (leftOf es seen).size ∧ (Instr.next (.pointer (some ⟨w0.heap.size + 1, 0, none⟩)) false ty).run Try.prog wr = .ok (.tuple #[.bool true, .int .i64 k, v.val]) W ∧
      (Instr.entry (.pointer (some ⟨w0.heap.size + 1, 0, none⟩))).run Try.prog W = .ok (.tuple #[.int .i64 k, v.val]) W ∧
      (p k = false → RI w0 bm es clock p (seen.push b) (W.alloc (.cells #[.int .i64 v.fid, .bool v.dir, .slice v.dA v.dn v.dc, .slice v.eA v.en v.ec, .int .i64 v.ver] 56))) ∧
      (p k = true → ∃ o : Obj, (Instr.mapUpdate 30 (.map (some w0.heap.size)) (.int .i64 k) v.val).run Try.prog (W.alloc (.cells #[.int .i64 v.fid, .bool v.dir, .slice v.dA v.dn v.dc, .slice v.eA v.en v.ec, .int .i64 v.ver] 56)) = .ok () (setBlock (W.alloc (.cells #[.int .i64 v.fid, .bool v.dir, .slice v.dA v.dn v.dc, .slice v.eA v.en v.ec, .int .i64 v.ver] 56)) w0.heap.size o) ∧ RI w0 bm es clock p (seen.push b) (setBlock (W.alloc (.cells #[.int .i64 v.fid, .bool v.dir, .slice v.dA v.dn v.dc, .slice v.eA v.en v.ec, .int .i64 v.ver] 56)) w0.heap.size o)) := by
  obtain ⟨hit, g, hg, hs⟩ := h
  rcases hit.next hn hc ty with h1 | ⟨e, he, W, h1, h2, h3, h4, h5⟩
  · exact .inl h1
  · right
    obtain ⟨hem, _⟩ := mem_left he
    obtain ⟨k, hk, hf⟩ := hh.key e hem
    rcases ha k with ⟨h6, _⟩ | ⟨v, x, h6, _, _⟩
    · rw [h6] at hf; cases hf
    · rw [h6] at hf
      injection hf with hf
      have hgW : IMap W w0.heap.size g := hg.same (h5 _ (by omega))
      have hwa : Below W.heap.size W (W.alloc (.cells #[.int .i64 v.fid, .bool v.dir, .slice v.dA v.dn v.dc, .slice v.eA v.en v.ec, .int .i64 v.ver] 56)) := (Below.refl _ _).alloc (Nat.le_refl _) _
      refine ⟨e.born, v, k, W, left_shrinks es seen e he, by rw [h1, hk, hf], by rw [h2, hk, hf], fun hp => ?_, fun hp => ?_⟩
      · exact ⟨h3.below hwa, g, hgW.below (Nat.le_refl _) hwa, seen_skip hs hn hem hk hp⟩
      · obtain ⟨o, hr, hi⟩ := run_update_map 30 56 Try.underlying30 (hgW.below (Nat.le_refl _) hwa) k v.val
        refine ⟨o, hr, (h3.below hwa).set (Nat.le_refl _) (by omega) o, _, hi, ?_⟩
        have := seen_step hs hh hn hem hk hp
        rw [← hf] at this
        exact this

theorem find_putN (xs : List M.Nd) (x : M.Nd) (k : Int) : M.find (M.putN xs x) k = if k = x.fid then some x else M.find xs k := by
  by_cases hk : k = x.fid
  · rw [if_pos hk, hk]; exact findN_put xs x
  · rw [if_neg hk]; exact findN_other xs x k hk

set_option maxHeartbeats 2000000 in
theorem with_any (bm : Nat) (xs : List M.Nd) (v : NV) (x : M.Nd) (w : World) (ht : TMap w bm xs) (hc : Cont w v x) :
    Calls Try.prog 26 #[.map (some bm), v.val] w fun e w' => ∃ b, e = .returned (.map (some b)) ∧ TMap w' b (M.putN xs x) ∧ Below w.heap.size w w' := by
  obtain ⟨f, ⟨es, clock, hb, hh, hn, hcl⟩, ha⟩ := ht
  have hwa : Below w.heap.size w (w.alloc (.cells #[.int .i64 v.fid, .bool v.dir, .slice v.dA v.dn v.dc, .slice v.eA v.en v.ec, .int .i64 v.ver] 56)) := (Below.refl _ _).alloc (Nat.le_refl _) _
  have hbm : bm < w.heap.size := lt_of_block hb
  have H0 : Hid ((w.alloc (.cells #[.int .i64 v.fid, .bool v.dir, .slice v.dA v.dn v.dc, .slice v.eA v.en v.ec, .int .i64 v.ver] 56)).heap[bm]? = some (.map es clock) ∧ Box (w.alloc (.cells #[.int .i64 v.fid, .bool v.dir, .slice v.dA v.dn v.dc, .slice v.eA v.en v.ec, .int .i64 v.ver] 56)) w.heap.size v ∧ Cont (w.alloc (.cells #[.int .i64 v.fid, .bool v.dir, .slice v.dA v.dn v.dc, .slice v.eA v.en v.ec, .int .i64 v.ver] 56)) v x ∧ Agree (w.alloc (.cells #[.int .i64 v.fid, .bool v.dir, .slice v.dA v.dn v.dc, .slice v.eA v.en v.ec, .int .i64 v.ver] 56)) f xs ∧ Below w.heap.size w (w.alloc (.cells #[.int .i64 v.fid, .bool v.dir, .slice v.dA v.dn v.dc, .slice v.eA v.en v.ec, .int .i64 v.ver] 56))) :=
    ⟨by rw [hwa.block bm hbm]; exact hb, Box.new w v, hc.below (Nat.le_refl _) hwa, ha.below (Nat.le_refl _) hwa, hwa⟩
  have HH : Hid (Holds es.toList f ∧ (es.toList.map (·.born)).Nodup ∧ ∀ e ∈ es.toList, e.born < clock) := ⟨hh, hn, hcl⟩
  have hrg := run_range_map (P := Try.prog) ((w.alloc (.cells #[.int .i64 v.fid, .bool v.dir, .slice v.dA v.dn v.dc, .slice v.eA v.en v.ec, .int .i64 v.ver] 56)).alloc (.map #[] 0)) 30 3 56 bm es clock Try.underlying30 (by rw [Below.heap_alloc _ _ _ (lt_of_block H0.out.1)]; exact H0.out.1)
  have hmm := @run_makeMap Try.prog
  clear hb hh hn hcl ha hc hwa
  go_enter Try.func26, Try.ntmps26
  go_wp2
  have hsz : (w.alloc (.cells #[.int .i64 v.fid, .bool v.dir, .slice v.dA v.dn v.dc, .slice v.eA v.en v.ec, .int .i64 v.ver] 56)).heap.size = w.heap.size + 1 := by simp
  generalize w.alloc (.cells #[.int .i64 v.fid, .bool v.dir, .slice v.dA v.dn v.dc, .slice v.eA v.en v.ec, .int .i64 v.ver] 56) = W0 at H0 hrg hsz ⊢
  have HSZ : Hid (W0.heap.size = w.heap.size + 1) := hsz
  clear hrg hsz
  go_loopw [] (fun wr => ∃ seen, RI W0 bm es clock (fun _ => true) seen wr) (fun wr => (leftOf es (wr.iterSeen (w.heap.size + 1 + 1))).size)
  case atStart => exact ⟨#[], RI.start _ H0.out.1⟩
  case round =>
    obtain ⟨seen, hri⟩ := hrel
    have HRI : Hid (RI W0 bm es clock (fun _ => true) seen wr) := hri
    have hse := hri.1.seen
    have hrd := hri.round HH.out.1 HH.out.2.1 HH.out.2.2 H0.out.2.2.2.1 0
    rw [HSZ.out] at hrd hse
    rcases hrd with ⟨h0, hnx⟩ | ⟨b, ve, k, W, hlt, hnx, hen, _, hup⟩
    · obtain ⟨hit, g, hg, hs⟩ := HRI.out
      have hge : g = f := by funext q; have := seen_end hs HH.out.1 h0 q; simpa using this
      rw [hge] at hg
      rw [HSZ.out] at hg
      obtain ⟨o, hu, him⟩ := run_update_map 30 56 Try.underlying30 hg v.fid v.val
      have hbl : Below w.heap.size w (setBlock wr (w.heap.size + 1) o) := setBlock_below (H0.out.2.2.2.2.trans (hit.bel.mono (by rw [HSZ.out]; omega))) (by omega) o
      have hb0 : Below W0.heap.size W0 (setBlock wr (w.heap.size + 1) o) := setBlock_below hit.bel (by rw [HSZ.out]; omega) o
      have HF : Hid (TMap (setBlock wr (w.heap.size + 1) o) (w.heap.size + 1) (M.putN xs x) ∧ Below w.heap.size w (setBlock wr (w.heap.size + 1) o)) :=
        ⟨⟨_, him, (agree_upd H0.out.2.2.2.1 H0.out.2.2.1 (find_putN xs x)).below (Nat.le_refl _) hb0⟩, hbl⟩
      obtain ⟨p0, p1, p2, p3, p4, pf, pz⟩ := (H0.out.2.1.below hit.bel (by rw [HSZ.out]; omega)).facts
      clear hit hs hge hg him hbl hb0 hse h0 hri
      go_wp2
      go_ret
      exact ⟨_, rfl, HF.out.1, HF.out.2⟩
    · obtain ⟨o, hu, hri2⟩ := hup rfl
      have HR2 : Hid (RI W0 bm es clock (fun _ => true) (seen.push b) (setBlock (W.alloc (.cells #[.int .i64 ve.fid, .bool ve.dir, .slice ve.dA ve.dn ve.dc, .slice ve.eA ve.en ve.ec, .int .i64 ve.ver] 56)) (w.heap.size + 1) o)) := hri2
      have hse2 := hri2.1.seen
      rw [HSZ.out] at hse2
      have HM : Hid (_ ∧ _ ∧ _) := ⟨hlt, hse, hse2⟩
      clear hup hri hri2 hlt hse hse2
      go_wp2
      go_roundw
      case rel => exact ⟨_, HR2.out⟩
      case measure => rw [HM.out.2.2, HM.out.2.1]; exact HM.out.1

theorem find_dropN (xs : List M.Nd) (t k : Int) : M.find (M.dropN xs t) k = if k = t then none else M.find xs k := by
  by_cases hk : k = t
  · rw [if_pos hk, hk]; exact findN_drop xs t
  · rw [if_neg hk]
    unfold M.find M.dropN
    rw [List.find?_filter]
    congr 1
    funext y
    by_cases hy : y.fid = k
    · simp [hy, hk]
    · simp [hy]

set_option maxHeartbeats 2000000 in
theorem without_any (bm : Nat) (xs : List M.Nd) (t : Int) (w : World) (ht : TMap w bm xs) :
    Calls Try.prog 30 #[.map (some bm), .int .i64 t] w fun e w' => ∃ b, e = .returned (.map (some b)) ∧ TMap w' b (M.dropN xs t) ∧ Below w.heap.size w w' := by
  obtain ⟨f, ⟨es, clock, hb, hh, hn, hcl⟩, ha⟩ := ht
  have H0 : Hid (w.heap[bm]? = some (.map es clock) ∧ Agree w f xs) := ⟨hb, ha⟩
  have HH : Hid (Holds es.toList f ∧ (es.toList.map (·.born)).Nodup ∧ ∀ e ∈ es.toList, e.born < clock) := ⟨hh, hn, hcl⟩
  have hrg := run_range_map (P := Try.prog) (w.alloc (.map #[] 0)) 30 3 56 bm es clock Try.underlying30 (by rw [Below.heap_alloc _ _ _ (lt_of_block hb)]; exact hb)
  have hmm := @run_makeMap Try.prog
  clear hb hh hn hcl ha
  go_enter Try.func30, Try.ntmps30
  go_wp2
  clear hrg
  go_loopw [] (fun wr => ∃ seen, RI w bm es clock (fun k => !decide (k = t)) seen wr) (fun wr => (leftOf es (wr.iterSeen (w.heap.size + 1))).size)
  case atStart => exact ⟨#[], RI.start _ H0.out.1⟩
  case round =>
    obtain ⟨seen, hri⟩ := hrel
    have HRI : Hid (RI w bm es clock (fun k => !decide (k = t)) seen wr) := hri
    have hse := hri.1.seen
    have hrd := hri.round HH.out.1 HH.out.2.1 HH.out.2.2 H0.out.2 0
    rcases hrd with ⟨h0, hnx⟩ | ⟨b, ve, k, W, hlt, hnx, hen, hno, hup⟩
    · obtain ⟨hit, g, hg, hs⟩ := HRI.out
      have HF : Hid (TMap wr w.heap.size (M.dropN xs t) ∧ Below w.heap.size w wr) := by
        refine ⟨⟨g, hg, fun q => ?_⟩, hit.bel⟩
        rw [seen_end hs HH.out.1 h0 q, find_dropN]
        by_cases hq : q = t
        · simp [hq]
        · have := (H0.out.2.below (Nat.le_refl _) hit.bel) q
          simpa [hq] using this
      clear hit hs hg hse h0 hri
      go_wp2
      go_ret
      exact ⟨_, rfl, HF.out.1, HF.out.2⟩
    · by_cases hkt : k = t
      · have hri2 := hno (by simp [hkt])
        have HR2 : Hid (RI w bm es clock (fun k => !decide (k = t)) (seen.push b) (W.alloc (.cells #[.int .i64 ve.fid, .bool ve.dir, .slice ve.dA ve.dn ve.dc, .slice ve.eA ve.en ve.ec, .int .i64 ve.ver] 56))) := hri2
        have hse2 := hri2.1.seen
        have HM : Hid (_ ∧ _ ∧ _) := ⟨hlt, hse, hse2⟩
        have q1 : (k == t) = true := by simp [hkt]
        have q2 : (k != t) = false := by simp [hkt]
        clear hup hno hri hri2 hlt hse hse2 hkt
        go_wp2
        go_roundw
        case rel => exact ⟨_, HR2.out⟩
        case measure => rw [HM.out.2.2, HM.out.2.1]; exact HM.out.1
      · obtain ⟨o, hu, hri2⟩ := hup (by simp [hkt])
        have HR2 : Hid (RI w bm es clock (fun k => !decide (k = t)) (seen.push b) (setBlock (W.alloc (.cells #[.int .i64 ve.fid, .bool ve.dir, .slice ve.dA ve.dn ve.dc, .slice ve.eA ve.en ve.ec, .int .i64 ve.ver] 56)) w.heap.size o)) := hri2
        have hse2 := hri2.1.seen
        have HM : Hid (_ ∧ _ ∧ _) := ⟨hlt, hse, hse2⟩
        have q1 : (k == t) = false := by simp [hkt]
        have q2 : (k != t) = true := by simp [hkt]
        clear hup hno hri hri2 hlt hse hse2 hkt
        go_wp2
        go_roundw
        case rel => exact ⟨_, HR2.out⟩
        case measure => rw [HM.out.2.2, HM.out.2.1]; exact HM.out.1
end Go.Proofs.Ytkhifljgocopoac
/-
  THE REFERENCE's Leave AND Enter: lists of one's own, one entry behind the other.
-/
namespace Go.Proofs.Ytkhifljgocopoac
open Go.RowKit

/-- a list of one's own since w0 -/
def Keep (w0 : World) (es : List (ByteArray × Int)) (A : Option Addr) (m c : Nat) (wr : World) : Prop :=
  wr.ownsRow w0.heap.size 58 2 (.slice A m c) m (es.flatMap entCells) ∧ Below w0.heap.size w0 wr
theorem Keep.start (w0 : World) : Keep w0 [] none 0 0 w0 := ⟨World.ownsRow_nil _ _ _ _, Below.refl _ _⟩
theorem Keep.alloc {w0 : World} {es : List (ByteArray × Int)} {A : Option Addr} {m c : Nat} {wr : World} (h : Keep w0 es A m c wr) (o : Obj) : Keep w0 es A m c (wr.alloc o) :=
  ⟨own_below h.1 ((Below.refl _ _).alloc (Nat.le_refl _) o) (Nat.le_refl _), h.2.alloc h.2.size o⟩
theorem Keep.drew {w0 : World} {es : List (ByteArray × Int)} {A : Option Addr} {m c : Nat} {wr : World} (h : Keep w0 es A m c wr) : Keep w0 es A m c wr.drew :=
  ⟨own_below h.1 ((Below.refl _ _).drew) (Nat.le_refl _), h.2.drew⟩
theorem Keep.app {w0 : World} {es : List (ByteArray × Int)} {e : ByteArray × Int} {A A' : Option Addr} {m c c' : Nat} {W w1 : World} (h : Keep w0 es A m c W) (hg : W.grownBy w1 (Value.slice A m c).ownBlock)
    (ho : w1.ownsRow w0.heap.size 58 2 (.slice A' (m + 1) c') (m + 1) (es.flatMap entCells ++ [e].flatMap entCells)) : Keep w0 (es ++ [e]) A' (m + 1) c' w1 := by
  refine ⟨by rw [List.flatMap_append]; exact ho, h.2.grown hg h.2.size fun k hk => (h.1.lt k hk).1⟩
theorem Keep.len {w0 : World} {es : List (ByteArray × Int)} {A : Option Addr} {m c : Nat} {wr : World} (h : Keep w0 es A m c wr) : m = es.length := own_len ent_len (by decide) h.1

theorem row_new2 (w : World) (o : Obj) (e : ByteArray × Int) : Row 2 entCells ((w.alloc o).alloc (.cells #[.string e.1, .int .i64 e.2] 58)) (some ⟨w.heap.size + 1, 0, none⟩) 1 [e] := by
  have := row_of_box2 (Box2.new (w.alloc o) e)
  simpa using this
theorem row_new1 (w : World) (e : ByteArray × Int) : Row 2 entCells (w.alloc (.cells #[.string e.1, .int .i64 e.2] 58)) (some ⟨w.heap.size, 0, none⟩) 1 [e] := row_of_box2 (Box2.new w e)

theorem dropE_snoc (es : List (ByteArray × Int)) (e : ByteArray × Int) (s : ByteArray) : M.dropE (es ++ [e]) s = if e.1 = s then M.dropE es s else M.dropE es s ++ [e] := by
  unfold M.dropE
  rw [List.filter_append]
  by_cases h : e.1 = s <;> simp [h]

set_option maxHeartbeats 2000000 in
theorem refLeave_own (v : NV) (x : M.Nd) (s : ByteArray) (w : World) (hc : Cont w v x) (hs : Small x) :
    Calls Try.prog 29 #[v.val, .string s] w fun e w' => ∃ (A : Option Addr) (m c : Nat), e = .returned (NV.val ⟨v.fid, v.dir, v.dA, v.dn, v.dc, A, m, c, v.ver⟩) ∧ w'.ownsRow w.heap.size 58 2 (.slice A m c) m ((M.dropE x.ents s).flatMap entCells) ∧ Below w.heap.size w w' := by
  have hB0 : ∀ W : World, W = (w.alloc (.cells #[.int .i64 v.fid, .bool v.dir, .slice v.dA v.dn v.dc, .slice v.eA v.en v.ec, .int .i64 v.ver] 56)).alloc (.cells #[.int .i64 0, .bool false, .slice none 0 0, .slice none 0 0, .int .i64 0] 56) → Box W w.heap.size v ∧ Box W (w.heap.size + 1) NV.zero ∧ W.heap.size = w.heap.size + 2 ∧ Below w.heap.size w W := by
    rintro W rfl
    exact ⟨(Box.new w v).alloc _, by have := Box.new0 (w.alloc (.cells #[.int .i64 v.fid, .bool v.dir, .slice v.dA v.dn v.dc, .slice v.eA v.en v.ec, .int .i64 v.ver] 56)); simpa using this, by simp, ((Below.refl _ _).alloc (Nat.le_refl _) _).alloc (by simp) _⟩
  have HB0 : Hid _ := hB0
  have HC : Hid (Cont w v x ∧ Small x) := ⟨hc, hs⟩
  have hen : v.en * 24 ≤ 140737488355328 := by have := hc.2.2.2.2.1; have := hs.2; omega
  have HL : Hid (v.en = x.ents.length) := hc.2.2.2.2.1
  obtain ⟨i58, hi58, hz58, hs58, hb58⟩ := info_parts info58
  clear hB0 hc hs
  go_enter Try.func29, Try.ntmps29
  go_wp2
  obtain ⟨q0, q1, q2, q3⟩ := HB0.out _ rfl
  generalize (w.alloc (.cells #[.int .i64 v.fid, .bool v.dir, .slice v.dA v.dn v.dc, .slice v.eA v.en v.ec, .int .i64 v.ver] 56)).alloc (.cells #[.int .i64 0, .bool false, .slice none 0 0, .slice none 0 0, .int .i64 0] 56) = W0 at q0 q1 q2 q3 ⊢
  have H0 : Hid (Box W0 w.heap.size v ∧ Box W0 (w.heap.size + 1) NV.zero ∧ Below w.heap.size w W0 ∧ W0.heap.size = w.heap.size + 2) := ⟨q0, q1, q3, q2⟩
  clear q0 q1 q2 q3 HB0
  go_loopw [5, 11] (fun l i wr => ∃ (k m c : Nat) (A : Option Addr), k ≤ v.en ∧ i = .int .i64 k ∧ l = .slice A m c ∧ m ≤ k ∧ Keep W0 (M.dropE (x.ents.take k) s) A m c wr) (fun _ i _ => v.en - (intOf i).toNat)
  case atStart => exact ⟨0, 0, 0, none, Nat.zero_le _, rfl, rfl, Nat.le_refl _, by rw [List.take_zero]; exact Keep.start W0⟩
  case round =>
    obtain ⟨k, m, c, A, hk, rfl, rfl, hmk, hkp⟩ := hrel
    have HK : Hid (Keep W0 (M.dropE (x.ents.take k) s) A m c wr) := hkp
    have HBX : Hid (Box wr w.heap.size v ∧ Box wr (w.heap.size + 1) NV.zero ∧ Below w.heap.size w wr) := ⟨H0.out.1.below hkp.2 (by rw [H0.out.2.2.2]; omega), H0.out.2.1.below hkp.2 (by rw [H0.out.2.2.2]; omega), H0.out.2.2.1.trans (hkp.2.mono (by rw [H0.out.2.2.2]; omega))⟩
    clear hkp
    obtain ⟨p0, p1, p2, p3, p4, pf, pz⟩ := HBX.out.1.facts
    obtain ⟨z0, z1, z2, z3, z4, zf, zz⟩ := HBX.out.2.1.facts
    by_cases hlt : k < v.en
    · obtain ⟨g, o, ⟨nm, fd⟩, ha, _, hak, a0, a1⟩ := Ents.at (HC.out.1.2.2.2.2.below (Nat.le_refl _) HBX.out.2.2) hlt
      have HA : Hid (x.ents[k]? = some (nm, fd)) := hak
      dsimp only at a0 a1
      have hkn : (k : Int) < (v.en : Int) := by omega
      have hk0 : (0 : Int) ≤ (k : Int) := by omega
      clear hak p0 p1 p2 p3 p4 z0 z1 z2 z3 z4
      by_cases hse : nm = s
      · have q : (nm.toList == s.toList) = true := by rw [raw_eq]; exact decide_eq_true hse
        have r : (nm.toList != s.toList) = false := by rw [bne, q]; rfl
        have HSE : Hid (nm = s) := hse
        clear hse
        go_wp2
        go_roundw
        case rel => exact ⟨k + 1, m, c, A, by omega, by go_num, rfl, by omega, by rw [take_step HA.out, dropE_snoc, if_pos HSE.out]; exact HK.out.alloc _⟩
        case measure => simp [intOf]; omega
      · have q : (nm.toList == s.toList) = false := by rw [raw_eq]; exact decide_eq_false hse
        have r : (nm.toList != s.toList) = true := by rw [bne, q]; rfl
        have HSE : Hid (nm ≠ s) := hse
        clear hse
        go_wp2_with (at_builtin; refine wpList_append_row _ (by rfl) (.tmp 19) (.tmp 21) 54 (by rfl) W0.heap.size 58 i58 (.agg #[.string ByteArray.empty, .int .i64 0]) 24 Try.underlying54 hi58 hz58 hs58 hb58 rfl (by decide) _ m _ (by rfl) ((HK.out.alloc _).alloc _).1 _ 1 1 [(nm, fd)] (by rfl) (row_new2 wr _ (nm, fd)) ent_len ent_one (by unfold maxLen; omega) (by omega) ((HK.out.alloc _).alloc _).2.size ?_; intro v1 w1 hown1 hg1; obtain ⟨A1, c1, rfl, hA1, hA2⟩ := own_form hown1; have HK1 : Hid (Keep W0 (M.dropE (x.ents.take k) s ++ [(nm, fd)]) A1 (m + 1) c1 w1) := ((HK.out.alloc _).alloc _).app hg1 hown1; clear hown1 hg1 ha)
        go_roundw
        case rel => exact ⟨k + 1, m + 1, c1, A1, by omega, by go_num, rfl, by omega, by rw [take_step HA.out, dropE_snoc, if_neg HSE.out]; exact HK1.out⟩
        case measure => simp [intOf]; omega
    · have HN : Hid (x.ents.take k = x.ents) := by have := HL.out; show _ = _; exact List.take_of_length_le (by omega)
      go_wp2
      have hkk := HK.out
      rw [HN.out] at hkk
      have hbr := put5_below (HBX.out.2.2.setCell (p := ⟨w.heap.size, 3, none⟩) (Nat.le_refl _) (.slice A m c)) (s := w.heap.size + 1) (by omega) 0 ⟨v.fid, v.dir, v.dA, v.dn, v.dc, A, m, c, v.ver⟩
      have hoe := put5_own (ownsRow_setCell_below hkk.1 (a := ⟨w.heap.size, 3, none⟩) (by show w.heap.size < _; rw [H0.out.2.2.2]; omega) (.slice A m c)) (s := w.heap.size + 1) (by rw [H0.out.2.2.2]; omega) 0 ⟨v.fid, v.dir, v.dA, v.dn, v.dc, A, m, c, v.ver⟩
      exact bodyPost_ret (v := NV.val ⟨v.fid, v.dir, v.dA, v.dn, v.dc, A, m, c, v.ver⟩) (by simp [results, Try.results29, go_sem, z0, z1, z2, z3, z4]) rfl ⟨A, m, c, rfl, own_mono hoe (by rw [H0.out.2.2.2]; omega), hbr⟩

theorem refLeave_any (v : NV) (x : M.Nd) (s : ByteArray) (w : World) (hc : Cont w v x) (hs : Small x) :
    Calls Try.prog 29 #[v.val, .string s] w fun e w' => ∃ v' : NV, e = .returned v'.val ∧ Cont w' v' (withE x (M.dropE x.ents s)) ∧ Below w.heap.size w w' := by
  refine (refLeave_own v x s w hc hs).mono ?_
  rintro e w' ⟨A, m, c, rfl, ho, hb⟩
  exact ⟨_, rfl, ⟨hc.1, hc.2.1, hc.2.2.1, hc.2.2.2.1.below (Nat.le_refl _) hb, Row.ofOwn ent_len (by decide) ho⟩, hb⟩
end Go.Proofs.Ytkhifljgocopoac
