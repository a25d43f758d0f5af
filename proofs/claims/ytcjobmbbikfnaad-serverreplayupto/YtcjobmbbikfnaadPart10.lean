/- TEXTS LAID TOGETHER: Valsf, Doesb, Doese, Refe, Refx, With, Refc, Refd, Rwithin, Refa -/
import Derived.Test.YtcjobmbbikfnaadPart9
import Derived.Test.YtcjobmbbikfnaadPart5
import Derived.Test.YtcjobmbbikfnaadPart7
import Derived.Test.YtcjobmbbikfnaadPart8
import Derived.Deep.Cut
import Derived.Deep.LoopGhost
import Derived.Test.YtcjobmbbikfnaadPart6
/-
  A REGION THAT DRAWS ITS ORDER, and ends in operations (stores) that come in their order, behind all others: the first ones as in text Vals, the rest is walked.
-/
namespace Go.Proofs.Ytcjobmbbikfnaad
open Go.RowKit

/-- the first m operations have a slot of their own each, and wait for earlier ones alone -/
def tidyF (ops : Array Oper) (m size : Nat) : Bool := decide (m ≤ ops.size) &&
  (List.range m).all fun i => match ops[i]? with
    | some o => (o.after.all fun e => !Region.binds .any e || decide (e.on < i)) && (match o.dst with
        | some d => decide (d < size) && ((List.range i).all fun j => ((ops[j]?).bind (·.dst)) != some d)
        | none => false)
    | none => false
/-- operations from m on wait for all ahead of them, at once or by way of another one, and for no later one -/
def tailF (ops : Array Oper) (m : Nat) : Bool :=
  (List.range ops.size).all fun i => decide (i < m) || (match ops[i]? with
    | some o => (o.after.all fun e => !Region.binds .any e || decide (e.on < i)) && ((List.range i).all fun j => waits o j || (List.range i).any fun k => waits o k && (match ops[k]? with | some u => waits u j | none => false))
    | none => true)
theorem tidyF_at {ops : Array Oper} {m size i : Nat} {o : Oper} (h : tidyF ops m size = true) (him : i < m) (hi : ops[i]? = some o) :
    (∀ e ∈ o.after, Region.binds .any e = true → e.on < i) ∧ ∃ d, o.dst = some d ∧ d < size ∧ slotAt ops i = d ∧ ∀ j, j < i → ((ops[j]?).bind (·.dst)) ≠ some d := by
  unfold tidyF at h
  rw [Bool.and_eq_true, List.all_eq_true] at h
  have h1 := h.2 i (List.mem_range.2 him)
  rw [hi] at h1
  simp only [Bool.and_eq_true] at h1
  obtain ⟨h2, h3⟩ := h1
  refine ⟨fun e he hb => ?_, ?_⟩
  · have := Array.all_eq_true_iff_forall_mem.1 h2 e he
    rw [hb] at this
    simpa using this
  · cases hd : o.dst with
    | none => rw [hd] at h3; cases h3
    | some d =>
      rw [hd] at h3
      simp only [Bool.and_eq_true, decide_eq_true_eq, List.all_eq_true, List.mem_range] at h3
      refine ⟨d, rfl, h3.1, by simp [slotAt, hi, hd], fun j hj => ?_⟩
      have := h3.2 j hj
      simpa using this
theorem tidyF_ne {ops : Array Oper} {m size i j : Nat} {o u : Oper} (h : tidyF ops m size = true) (him : i < m) (hjm : j < m) (hi : ops[i]? = some o) (hj : ops[j]? = some u) (hne : i ≠ j) : slotAt ops i ≠ slotAt ops j := by
  obtain ⟨_, d, hd, _, hs, hall⟩ := tidyF_at h him hi
  obtain ⟨_, e, he, _, ht, hall'⟩ := tidyF_at h hjm hj
  rw [hs, ht]
  intro hde
  subst hde
  rcases Nat.lt_or_gt_of_ne hne with hl | hl
  · exact hall' i hl (by rw [hi]; exact hd)
  · exact hall j hl (by rw [hj]; exact he)
theorem tailF_at {ops : Array Oper} {m i : Nat} {o : Oper} (h : tailF ops m = true) (him : m ≤ i) (hi : ops[i]? = some o) :
    (∀ e ∈ o.after, Region.binds .any e = true → e.on < i) ∧ ∀ j, j < i → waits o j = true ∨ ∃ k u, k < i ∧ waits o k = true ∧ ops[k]? = some u ∧ waits u j = true := by
  unfold tailF at h
  rw [List.all_eq_true] at h
  have h1 := h i (List.mem_range.2 (Array.getElem?_eq_some_iff.1 hi).1)
  rw [hi] at h1
  have h0 : decide (i < m) = false := by simp; omega
  rw [h0, Bool.false_or] at h1
  simp only [Bool.and_eq_true] at h1
  refine ⟨fun e he hb => ?_, fun j hj => ?_⟩
  · have := Array.all_eq_true_iff_forall_mem.1 h1.1 e he
    rw [hb] at this
    simpa using this
  · have := h1.2
    rw [List.all_eq_true] at this
    have := this j (List.mem_range.2 hj)
    rw [Bool.or_eq_true] at this
    refine this.imp id fun h2 => ?_
    rw [List.any_eq_true] at h2
    obtain ⟨k, hk, h3⟩ := h2
    rw [Bool.and_eq_true] at h3
    cases hu : ops[k]? with
    | none => rw [hu] at h3; simp at h3
    | some u => rw [hu] at h3; exact ⟨k, u, List.mem_range.1 hk, h3.1, hu, h3.2⟩

/-- the tail, in its order -/
theorem wpAny_tail {P : Program} {ops : Array Oper} {Q : Exit → Act → World → Prop} {m size : Nat} (hti : tidyF ops m size = true) (ht : tailF ops m = true) :
    ∀ (fuel : Nat) (k : Nat) (listed : Array Bool) (a : Act) (w : World), m ≤ k → listed.size = ops.size → k ≤ ops.size → ops.size - k ≤ fuel → (∀ j, j < ops.size → (listed.getD j true = true ↔ j < k)) →
      wpList P ops Q (ops.toList.drop k) a w → wpAny P .any ops Q fuel listed a w := by
  have hready : ∀ (k : Nat) (listed : Array Bool), m ≤ k → listed.size = ops.size → (∀ j, j < ops.size → (listed.getD j true = true ↔ j < k)) → ∀ i, i ∈ Region.ready .any ops listed → i = k := by
    intro k listed hk hsz hl i hi
    obtain ⟨hun, o, ho, hall⟩ := mem_ready.1 hi
    have hilt : i < ops.size := (Array.getElem?_eq_some_iff.1 ho).1
    have hik : k ≤ i := by
      rcases Nat.lt_or_ge i k with h | h
      · have := (hl i hilt).2 h; rw [hun] at this; cases this
      · exact h
    rcases Nat.eq_or_lt_of_le hik with h | h
    · exact h.symm
    · exfalso
      have hkl : k < ops.size := by omega
      have hnl : ¬ listed.getD k true = true := fun h1 => by have := (hl k hkl).1 h1; omega
      have hw : ∀ j, waits o j = true → listed.getD j true = true := by
        intro j hj
        obtain ⟨e, he, hbe⟩ := Array.any_eq_true'.1 hj
        simp only [Bool.and_eq_true, beq_iff_eq] at hbe
        have h1 := hall e he hbe.1
        rw [hbe.2] at h1
        have h3 : j < listed.size := by
          rcases Nat.lt_or_ge j listed.size with h4 | h4
          · exact h4
          · simp [Nat.not_lt.2 h4] at h1
        simp only [Array.getD_eq_getD_getElem?, Array.getElem?_eq_getElem h3, Option.getD_some] at h1 ⊢
        exact h1
      rcases (tailF_at ht (by omega) ho).2 k h with h1 | ⟨q, u, hq, h1, hu, h2⟩
      · exact hnl (hw k h1)
      · have hql : q < ops.size := by omega
        have h3 := (hl q hql).1 (hw q h1)
        -- q is ahead of k, but waits for k
        have h4 : k < q := by
          rcases Nat.lt_or_ge q m with h5 | h5
          · exfalso
            obtain ⟨e, he, hbe⟩ := Array.any_eq_true'.1 h2
            simp only [Bool.and_eq_true, beq_iff_eq] at hbe
            have := (tidyF_at hti h5 hu).1 e he hbe.1
            omega
          · obtain ⟨e, he, hbe⟩ := Array.any_eq_true'.1 h2
            simp only [Bool.and_eq_true, beq_iff_eq] at hbe
            have := (tailF_at ht h5 hu).1 e he hbe.1
            omega
        omega
  intro fuel
  induction fuel with
  | zero =>
    intro k listed a w hk hsz hko hf hl h
    have e : k = ops.size := by omega
    rw [List.drop_eq_nil_iff.2 (by rw [Array.length_toList]; omega)] at h
    refine ⟨?_, h⟩
    apply List.eq_nil_iff_forall_not_mem.2
    intro i hi
    have := hready k listed hk hsz hl i hi
    obtain ⟨_, o, ho, _⟩ := mem_ready.1 hi
    have := (Array.getElem?_eq_some_iff.1 ho).1
    omega
  | succ fuel ih =>
    intro k listed a w hk hsz hko hf hl h
    rcases Nat.eq_or_lt_of_le hko with e | hlt
    · rw [List.drop_eq_nil_iff.2 (by rw [Array.length_toList]; omega)] at h
      refine ⟨fun _ => h, fun i hi => ?_⟩
      have := hready k listed hk hsz hl i hi
      obtain ⟨_, o, ho, _⟩ := mem_ready.1 hi
      have := (Array.getElem?_eq_some_iff.1 ho).1
      omega
    · have ho : ops[k]? = some ops[k] := Array.getElem?_eq_getElem hlt
      have hd : ops.toList.drop k = ops[k] :: ops.toList.drop (k + 1) := by
        rw [List.drop_eq_getElem_cons (by rw [Array.length_toList]; exact hlt)]
        rfl
      have hin : k ∈ Region.ready .any ops listed := by
        rw [mem_ready]
        refine ⟨?_, _, ho, fun e he hb => ?_⟩
        · cases hb : listed.getD k true with
          | false => rfl
          | true => have := (hl k hlt).1 hb; omega
        · have h1 := (tailF_at ht hk ho).1 e he hb
          have h2 := (hl e.on (by omega)).2 h1
          have h3 : e.on < listed.size := by omega
          simp only [Array.getD_eq_getD_getElem?, Array.getElem?_eq_getElem h3, Option.getD_some] at h2 ⊢
          exact h2
      refine ⟨fun hr => (by rw [hr] at hin; cases hin), fun i hi => ?_⟩
      have := hready k listed hk hsz hl i hi
      subst this
      rw [hd] at h
      have hK : ∀ a w, wpList P ops Q (ops.toList.drop (i + 1)) a w → wpAny P .any ops Q fuel (listed.setIfInBounds i true) a w := by
        intro a w h
        refine ih (i + 1) _ a w (by omega) (by simp [hsz]) (by omega) (by omega) (fun j hj => ?_) h
        by_cases hji : j = i
        · subst hji
          have : j < listed.size := by omega
          simp [this]
        · rw [getD_set_ne true (Ne.symm hji), hl j hj]
          omega
      unfold wpOp
      rw [ho]
      unfold wpList at h
      show if Region.wanted ops[i] (yielded ops a.tmps) = true then _ else _
      split
      · rename_i hw
        rw [if_pos hw] at h
        exact h.imp (Oper.wp_mono hK) id
      · rename_i hw
        rw [if_neg hw] at h
        exact hK _ _ h

theorem wpAny_front {P : Program} {ops : Array Oper} {Q : Exit → Act → World → Prop} {a0 : Act} {w0 : World} {V : Nat → Value → World → Prop} {m : Nat} (ht : tidyF ops m a0.tmps.size = true) (htl : tailF ops m = true) (hst : ∀ i, Stays (V i))
    (steps : ∀ i, i < m → StepAt P ops Q a0 w0 V i)
    (last : ∀ a w, Framed ops a0 a → Below w0.heap.size w0 w → (∀ j, j < m → V j (a.eval (.tmp (slotAt ops j))) w) → wpList P ops Q (ops.toList.drop m) a w) :
    ∀ (fuel : Nat) (listed : Array Bool) (a : Act) (w : World), listed.size = ops.size → unlisted listed ≤ fuel → FramedBy ops listed a0 a → Below w0.heap.size w0 w → (∀ j, j < ops.size → m ≤ j → listed.getD j true = false) →
      (∀ j, j < m → listed.getD j true = true → V j (a.eval (.tmp (slotAt ops j))) w) → wpAny P .any ops Q fuel listed a w := by
  have hms : m ≤ ops.size := by unfold tidyF at ht; rw [Bool.and_eq_true] at ht; exact of_decide_eq_true ht.1
  have hlen : ∀ (l : List Bool) (k : Nat), (∀ j, k ≤ j → j < l.length → l.getD j true = false) → l.length - k ≤ (l.filter (fun b => !b)).length := by
    intro l
    induction l with
    | nil => intro k _; simp
    | cons b l ih =>
      intro k h
      cases k with
      | zero =>
        have h0 : b = false := h 0 (Nat.le_refl _) (by simp)
        subst h0
        have := ih 0 (fun j _ hj => h (j + 1) (by omega) (by simpa using hj))
        simp at this ⊢
        omega
      | succ k =>
        have := ih k (fun j hk hj => h (j + 1) (by omega) (by simpa using hj))
        cases b <;> simp at this ⊢ <;> omega
  intro fuel
  induction fuel with
  | zero =>
    intro listed a w hsz hu hf hb hun hV
    have hall : ∀ j, listed.getD j true = true := by
      intro j
      have h0 : listed.toList.filter (fun b => !b) = [] := List.eq_nil_of_length_eq_zero (by simpa [unlisted] using hu)
      rw [List.filter_eq_nil_iff] at h0
      rcases Nat.lt_or_ge j listed.size with h | h
      · have := h0 listed[j] (by simp)
        simp [h] at this ⊢
        exact this
      · simp [h]
    have hme : m = ops.size := by
      rcases Nat.eq_or_lt_of_le hms with h | h
      · exact h
      · have := hun m h (Nat.le_refl _); rw [hall] at this; cases this
    exact wpAny_tail ht htl 0 m listed a w (Nat.le_refl _) hsz hms (by omega) (fun j hj => ⟨fun _ => by omega, fun _ => hall j⟩) (last a w hf.all hb fun j hj => hV j hj (hall j))
  | succ fuel ih =>
    intro listed a w hsz hu hf hb hun hV
    by_cases hfull : ∀ j, j < m → listed.getD j true = true
    · refine wpAny_tail ht htl (fuel + 1) m listed a w (Nat.le_refl _) hsz hms ?_ (fun j hj => ⟨fun h => ?_, fun h => hfull j h⟩) (last a w hf.all hb fun j hj => hV j hj (hfull j hj))
      · have := hlen listed.toList m (fun j hj hjl => by have := hun j (by rw [← hsz]; simpa using hjl) hj; simpa [List.getD_eq_getElem?_getD, Array.getD_eq_getD_getElem?] using this)
        unfold unlisted at hu
        rw [Array.length_toList] at this
        omega
      · rcases Nat.lt_or_ge j m with h1 | h1
        · exact h1
        · have := hun j hj h1; rw [h] at this; cases this
    · have hin : ∀ i, i ∈ Region.ready .any ops listed → i < m := by
        intro i hi
        obtain ⟨hu1, o, ho, hall⟩ := mem_ready.1 hi
        have hilt : i < ops.size := (Array.getElem?_eq_some_iff.1 ho).1
        rcases Nat.lt_or_ge i m with h | h
        · exact h
        · exfalso
          apply hfull
          have hw : ∀ j, waits o j = true → listed.getD j true = true := by
            intro j hj
            obtain ⟨e, he, hbe⟩ := Array.any_eq_true'.1 hj
            simp only [Bool.and_eq_true, beq_iff_eq] at hbe
            have h1 := hall e he hbe.1
            rw [hbe.2] at h1
            have h3 : j < listed.size := by
              rcases Nat.lt_or_ge j listed.size with h4 | h4
              · exact h4
              · simp [Nat.not_lt.2 h4] at h1
            simp only [Array.getD_eq_getD_getElem?, Array.getElem?_eq_getElem h3, Option.getD_some] at h1 ⊢
            exact h1
          intro j hj
          rcases (tailF_at htl h ho).2 j (by omega) with h1 | ⟨q, u, hq, h1, hu2, h2⟩
          · exact hw j h1
          · exact hf.closed q u hu2 (hw q h1) j h2
      have hne : Region.ready .any ops listed ≠ [] := by
        intro hr
        apply hfull
        intro j
        induction j using Nat.strongRecOn with
        | ind j ihj =>
          intro hj
          cases hbj : listed.getD j true with
          | true => rfl
          | false =>
            have hjl : j < ops.size := by omega
            have ho : ops[j]? = some ops[j] := Array.getElem?_eq_getElem hjl
            have hm : j ∈ Region.ready .any ops listed := by
              rw [mem_ready]
              refine ⟨hbj, _, ho, fun e he hbe => ?_⟩
              have hlt := (tidyF_at ht hj ho).1 e he hbe
              have h1 := ihj e.on hlt (by omega)
              have h2 : e.on < listed.size := by omega
              simp only [Array.getD_eq_getD_getElem?, Array.getElem?_eq_getElem h2, Option.getD_some] at h1 ⊢
              exact h1
            rw [hr] at hm
            cases hm
      refine ⟨fun hr => absurd hr hne, fun i hi => ?_⟩
      have him := hin i hi
      obtain ⟨hu1, o, ho, hall⟩ := mem_ready.1 hi
      have hilt : i < ops.size := (Array.getElem?_eq_some_iff.1 ho).1
      obtain ⟨hback, d, hd, hdlt, hslot, _⟩ := tidyF_at ht him ho
      refine wpOp_step ho fun K' hK => ?_
      have hlw : ∀ j, waits o j = true → listed.getD j true = true := by
        intro j hj
        obtain ⟨e, he, hbe⟩ := Array.any_eq_true'.1 hj
        simp only [Bool.and_eq_true, beq_iff_eq] at hbe
        have h1 := hall e he hbe.1
        have h2 := hback e he hbe.1
        rw [← hbe.2]
        have h3 : e.on < listed.size := by omega
        simp only [Array.getD_eq_getD_getElem?, Array.getElem?_eq_getElem h3, Option.getD_some] at h1 ⊢
        exact h1
      refine steps i him o ho a w (hf.at_ hu1) hb ?_ K' ?_
      · intro j hj
        obtain ⟨e, he, hbe⟩ := Array.any_eq_true'.1 hj
        simp only [Bool.and_eq_true, beq_iff_eq] at hbe
        have h2 := hback e he hbe.1
        exact hV j (by rw [← hbe.2]; omega) (hlw j hj)
      · intro v w' hw hv
        refine hK _ _ (ih _ _ _ (by simp [hsz]) (by have := unlisted_set hu1; omega) (hf.put ho hsz hlw v) (hb.trans (hw.mono hb.size)) (fun j hj hmj => by rw [getD_set_ne true (by omega)]; exact hun j hj hmj) fun j hj hl => ?_)
        by_cases hji : j = i
        · subst hji
          have : (a.put o.dst v).eval (.tmp (slotAt ops j)) = v := by
            rw [hslot, hd]
            have hlt : d < a.tmps.size := by rw [hf.size]; exact hdlt
            simp [Act.eval, Act.put, hlt]
          rw [this]
          exact hv
        · have hoj : ops[j]? = some ops[j] := Array.getElem?_eq_getElem (by omega)
          have hnes := tidyF_ne ht hj him hoj ho hji
          rw [Act.eval_put (by intro d' hd' e; injection e with e; rw [hd] at hd'; injection hd' with hd'; rw [hslot] at hnes; exact hnes (e.trans hd'.symm))]
          rw [getD_set_ne true (Ne.symm hji)] at hl
          exact hst j _ _ _ hw (hV j hj hl)

/-- THE RULE. -/
theorem wp_region_front {P : Program} {ops : Array Oper} {Q : Exit → Act → World → Prop} {a0 : Act} {w0 : World} (V : Nat → Value → World → Prop) (m : Nat) {id : Nat} (hm : P.follows .mixedOrders = true)
    (ht : tidyF ops m a0.tmps.size = true) (htl : tailF ops m = true) (hst : ∀ i, Stays (V i)) (steps : ∀ i, i < m → StepAt P ops Q a0 w0.drew V i)
    (last : ∀ a w, Framed ops a0 a → Below w0.heap.size w0 w → (∀ j, j < m → V j (a.eval (.tmp (slotAt ops j))) w) → wpList P ops Q (ops.toList.drop m) a w) :
    (Code.region id ops true).wp P Q a0 w0 := by
  refine wp_region_any hm ?_
  refine wpAny_front (w0 := w0.drew) ht htl hst steps (fun a w hf hb hv => last a w hf ((Below.refl _ _).drew.trans hb) hv) _ _ _ _ (by simp) ?_ ?_ (Below.refl _ _) ?_ ?_
  · simp [unlisted]
  · refine ⟨rfl, rfl, fun _ _ => rfl, fun j o hj hl => ?_⟩
    have hlt := (Array.getElem?_eq_some_iff.1 hj).1
    simp [hlt] at hl
  · intro j hj _
    simp [hj]
  · intro j hj hl
    have hms : m ≤ ops.size := by unfold tidyF at ht; rw [Bool.and_eq_true] at ht; exact of_decide_eq_true ht.1
    have : j < ops.size := by omega
    simp [this] at hl
end Go.Proofs.Ytcjobmbbikfnaad
/-
  WHAT SINGLE OPERATIONS DO, further: fields of an act.
-/
namespace Go.Proofs.Ytcjobmbbikfnaad
open Go.RowKit

section
variable {a : Act} {w : World} {R : Value → World → Prop} {d : Option Tmp} {ty : TypeId} {pos : String} {af : Array Edge} {g : Option (Nat × Bool)}
theorem run_neqE {ρ : Operand → Value} {x y : Operand} {b c : Int} (hx : ρ x = .int .i64 b) (hy : ρ y = .int .i64 c) : (execOp ρ ⟨d, .binOp .neq 43 x y 43, ty, pos, af, g⟩).run Try.prog w = .ok (.value (.bool (b != c))) w := by
  simp [execOp, hx, hy, go_sem, bne]
theorem run_eqE {ρ : Operand → Value} {x y : Operand} {b c : Int} (hx : ρ x = .int .i64 b) (hy : ρ y = .int .i64 c) : (execOp ρ ⟨d, .binOp .eql 43 x y 43, ty, pos, af, g⟩).run Try.prog w = .ok (.value (.bool (b == c))) w := by
  simp [execOp, hx, hy, go_sem]
theorem run_fieldA {ρ : Operand → Value} {x : Operand} {s k : Nat} (hx : ρ x = .pointer (some ⟨s, 0, none⟩)) (hk : k < 7) : (execOp ρ ⟨d, .fieldAddr 36 x k, ty, pos, af, g⟩).run Try.prog w = .ok (.value (.pointer (some ⟨s, k, none⟩))) w := by
  match k, hk with
  | 0, _ => simp [execOp, hx, go_sem]
  | 1, _ => simp [execOp, hx, go_sem]
  | 2, _ => simp [execOp, hx, go_sem]
  | 3, _ => simp [execOp, hx, go_sem]
  | 4, _ => simp [execOp, hx, go_sem]
  | 5, _ => simp [execOp, hx, go_sem]
  | 6, _ => simp [execOp, hx, go_sem]
theorem run_load3 {ρ : Operand → Value} {x : Operand} {p : Addr} {i : Int} (hx : ρ x = .pointer (some p)) (hc : w.cell? p = some (.int .i64 i)) : (execOp ρ ⟨d, .load 3 x, ty, pos, af, g⟩).run Try.prog w = .ok (.value (.int .i64 i)) w := by
  simp [execOp, hx, go_sem, hc]
theorem run_load9 {ρ : Operand → Value} {x : Operand} {p : Addr} {s : ByteArray} (hx : ρ x = .pointer (some p)) (hc : w.cell? p = some (.string s)) : (execOp ρ ⟨d, .load 9 x, ty, pos, af, g⟩).run Try.prog w = .ok (.value (.string s)) w := by
  simp [execOp, hx, go_sem, hc]
theorem does_neqE {x y : Operand} {b c : Int} (hx : a.eval x = .int .i64 b) (hy : a.eval y = .int .i64 c) (h : R (.bool (b != c)) w) : Does Try.prog ⟨d, .binOp .neq 43 x y 43, ty, pos, af, g⟩ a w R := .inl ⟨_, _, run_neqE hx hy, h⟩
theorem does_fieldA {x : Operand} {s k : Nat} (hx : a.eval x = .pointer (some ⟨s, 0, none⟩)) (hk : k < 7) (h : R (.pointer (some ⟨s, k, none⟩)) w) : Does Try.prog ⟨d, .fieldAddr 36 x k, ty, pos, af, g⟩ a w R := .inl ⟨_, _, run_fieldA hx hk, h⟩
theorem does_load3 {x : Operand} {p : Addr} {i : Int} (hx : a.eval x = .pointer (some p)) (hc : w.cell? p = some (.int .i64 i)) (h : R (.int .i64 i) w) : Does Try.prog ⟨d, .load 3 x, ty, pos, af, g⟩ a w R := .inl ⟨_, _, run_load3 hx hc, h⟩
theorem does_load9 {x : Operand} {p : Addr} {s : ByteArray} (hx : a.eval x = .pointer (some p)) (hc : w.cell? p = some (.string s)) (h : R (.string s) w) : Does Try.prog ⟨d, .load 9 x, ty, pos, af, g⟩ a w R := .inl ⟨_, _, run_load9 hx hc, h⟩
end
end Go.Proofs.Ytcjobmbbikfnaad
/-
  WHAT SINGLE OPERATIONS DO, further: calls through a slot, nodes that are built (for regions that draw their order).
-/
namespace Go.Proofs.Ytcjobmbbikfnaad
open Go.RowKit

theorem does_rn {a : Act} {w w' : World} {R : Value → World → Prop} {o : Oper} {v : Value} (h : (execOp a.eval o).run Try.prog w = .ok (.value v) w') (hR : R v w') : Does Try.prog o a w R := .inl ⟨v, w', h, hR⟩
/-- the value is this -/
def IsU (c : Value) : Value → World → Prop := fun v _ => v = c
section
variable {w : World} {d : Option Tmp} {ty : TypeId} {pos : String} {af : Array Edge} {g : Option (Nat × Bool)} {x y : Operand}
theorem run_callC {P : Program} {ρ : Operand → Value} {f : FuncId} {c : Operand} {caps : Array Value} {u : Value} {ts : Array TypeId} (hcf : Enters P f) (hfn : ρ c = .func (.func f) #[] caps) (hx : ρ x = u) :
    (execOp ρ ⟨d, .call { callee := .value c, args := #[x], argTypes := ts }, ty, pos, af, g⟩).run P w = .ok (.enter f (#[u] ++ caps)) w := by
  simp [execOp, resolve, invoke, hcf.out, hfn, hx, go_sem]
theorem does_callC {P : Program} {a : Act} {R : Value → World → Prop} {f : FuncId} {c : Operand} {caps : Array Value} {u : Value} {ts : Array TypeId} (hcf : Enters P f) (hfn : a.eval c = .func (.func f) #[] caps) (hx : a.eval x = u) (h : Calls P f (#[u] ++ caps) w fun e w'' => ∃ r, e = .returned r ∧ R r w'') :
    Does P ⟨d, .call { callee := .value c, args := #[x], argTypes := ts }, ty, pos, af, g⟩ a w R := .inr ⟨f, _, w, run_callC hcf hfn hx, h⟩
theorem run_eqN {ρ : Operand → Value} {b c : Int} (hx : ρ x = .int .i64 b) (hy : ρ y = .int .i64 c) : (execOp ρ ⟨d, .binOp .eql 3 x y 3, ty, pos, af, g⟩).run Try.prog w = .ok (.value (.bool (b == c))) w := by
  simp [execOp, hx, hy, go_sem]
theorem run_buildN {ρ : Operand → Value} {b : Int} {c : Bool} (hx : ρ x = .int .i64 b) (hy : ρ y = .bool c) : (execOp ρ ⟨d, .build 41 #[(0, x), (1, y)], ty, pos, af, g⟩).run Try.prog w = .ok (.value (NV.val ⟨b, c, none, 0, 0, none, 0, 0, 0⟩)) w := by
  simp [execOp, hx, hy, go_sem]
end
end Go.Proofs.Ytcjobmbbikfnaad
/-
  THE REFERENCE's Entry.
-/
namespace Go.Proofs.Ytcjobmbbikfnaad
open Go.RowKit

theorem look_none {es : List (ByteArray × Int)} {s : ByteArray} {k : Nat} (h : ∀ e ∈ es.take k, e.1 ≠ s) (hk : es.length ≤ k) : M.look es s = none := by
  rw [List.take_of_length_le hk] at h
  unfold M.look
  rw [List.find?_eq_none]
  intro e he
  simpa using h e he
theorem look_some {es : List (ByteArray × Int)} {s : ByteArray} {k : Nat} {a : ByteArray × Int} (h : ∀ e ∈ es.take k, e.1 ≠ s) (ha : es[k]? = some a) (hs : a.1 = s) : M.look es s = some a := by
  unfold M.look
  obtain ⟨hi, hx⟩ := List.getElem?_eq_some_iff.1 ha
  rw [List.find?_eq_some_iff_getElem]
  refine ⟨by simpa using hs, k, hi, hx, fun j hj => ?_⟩
  have := h es[j] (List.mem_take_iff_getElem.2 ⟨j, by omega, rfl⟩)
  simpa using this

end Go.Proofs.Ytcjobmbbikfnaad
/-
  THE REFERENCE's dir, room, and what sets a version.
-/
namespace Go.Proofs.Ytcjobmbbikfnaad
open Go.RowKit

end Go.Proofs.Ytcjobmbbikfnaad
/-
  A MAP IS GONE THROUGH; the reference's With and Without.
-/
namespace Go.Proofs.Ytcjobmbbikfnaad
open Go.RowKit
open Go.ChangeMaps (setBlock)

/-- block r goes through the map at bm; all that was there in w0 is there -/
structure It (w0 : World) (r bm : Nat) (es : Array MapEntry) (clock : Nat) (seen : Array Nat) (wr : World) : Prop where
  it : ∃ c0, wr.heap[r]? = some (.mapIter (some bm) clock seen c0) ∧ clock ≤ c0
  at_ : w0.heap[bm]? = some (.map es clock)
  far : w0.heap.size ≤ r
  bel : Below w0.heap.size w0 wr
theorem It.below {w0 : World} {r bm : Nat} {es : Array MapEntry} {clock : Nat} {seen : Array Nat} {wr w' : World} (h : It w0 r bm es clock seen wr) (hb : Below wr.heap.size wr w') : It w0 r bm es clock seen w' := by
  obtain ⟨⟨c0, h1, h2⟩, h3, h4, h5⟩ := h
  exact ⟨⟨c0, by rw [hb.block r (lt_of_block h1)]; exact h1, h2⟩, h3, h4, h5.trans (hb.mono h5.size)⟩
theorem It.set {w0 : World} {r bm : Nat} {es : Array MapEntry} {clock : Nat} {seen : Array Nat} {wr : World} (h : It w0 r bm es clock seen wr) {b : Nat} (hb : w0.heap.size ≤ b) (hne : r ≠ b) (o : Obj) : It w0 r bm es clock seen (setBlock wr b o) := by
  obtain ⟨⟨c0, h1, h2⟩, h3, h4, h5⟩ := h
  exact ⟨⟨c0, by rw [setBlock_other hne]; exact h1, h2⟩, h3, h4, setBlock_below h5 hb o⟩
theorem It.seen {w0 : World} {r bm : Nat} {es : Array MapEntry} {clock : Nat} {seen : Array Nat} {wr : World} (h : It w0 r bm es clock seen wr) : wr.iterSeen r = seen := by
  obtain ⟨⟨c0, h1, _⟩, _⟩ := h
  simp [World.iterSeen, h1]

/-- the worlds behind 'next' -/
theorem It.next {w0 : World} {r bm : Nat} {es : Array MapEntry} {clock : Nat} {seen : Array Nat} {wr : World} (h : It w0 r bm es clock seen wr) (hn : (es.toList.map (·.born)).Nodup) (hc : ∀ e ∈ es.toList, e.born < clock) (ty : TypeId) :
    ((leftOf es seen).size = 0 ∧ (Instr.next (.pointer (some ⟨r, 0, none⟩)) false ty).run Try.prog wr = .ok (.tuple #[.bool false]) wr) ∨
    ∃ e ∈ (leftOf es seen).toList, ∃ W : World, (Instr.next (.pointer (some ⟨r, 0, none⟩)) false ty).run Try.prog wr = .ok (.tuple #[.bool true, e.key, e.val]) W ∧
      (Instr.entry (.pointer (some ⟨r, 0, none⟩))).run Try.prog W = .ok (.tuple #[e.key, e.val]) W ∧ It w0 r bm es clock (seen.push e.born) W ∧ W.heap.size = wr.heap.size ∧ ∀ c : Nat, c ≠ r → W.heap[c]? = wr.heap[c]? := by
  obtain ⟨⟨c0, h1, h2⟩, h3, h4, h5⟩ := h
  have hbm : bm < w0.heap.size := lt_of_block h3
  have hb : wr.heap[bm]? = some (.map es clock) := by rw [h5.block bm hbm]; exact h3
  rcases run_next_at (P := Try.prog) wr ty r bm clock c0 seen es clock h1 hb hc h2 with h | ⟨e, he, w1, hw1, hrun⟩
  · exact .inl h
  · right
    have hr1 : w1.heap[r]? = some (.mapIter (some bm) clock seen c0) := by rcases hw1 with rfl | rfl <;> exact h1
    have hsz : w1.heap.size = wr.heap.size := by rcases hw1 with rfl | rfl <;> rfl
    have hh : ∀ c : Nat, w1.heap[c]? = wr.heap[c]? := by rcases hw1 with rfl | rfl <;> exact fun _ => rfl
    have hb1 : Below w0.heap.size w0 w1 := by rcases hw1 with rfl | rfl; exact h5; exact h5.drew
    have hW : (setBlock w1 r (.mapIter (some bm) clock (seen.push e.born) clock)).heap[r]? = some (.mapIter (some bm) clock (seen.push e.born) clock) := setBlock_at hr1
    refine ⟨e, he, _, hrun, run_entry_at _ r bm clock seen es clock e hW (by rw [setBlock_other (by omega), hh]; exact hb) (mem_left he).1 hn, ⟨⟨clock, hW, Nat.le_refl _⟩, h3, h4, setBlock_below hb1 h4 _⟩, by rw [setBlock_size]; exact hsz, fun c hc => by rw [setBlock_other hc]; exact hh c⟩

/-- of what has been seen, and is asked for, g tells -/
def Seen (p : Int → Bool) (es : Array MapEntry) (seen : Array Nat) (g : Int → Option Value) : Prop :=
  ∀ k v, g k = some v ↔ ∃ e ∈ es.toList, seen.contains e.born = true ∧ e.key = .int .i64 k ∧ e.val = v ∧ p k = true
theorem seen_none (p : Int → Bool) (es : Array MapEntry) : Seen p es #[] (fun _ => none) := by
  intro k v
  constructor
  · intro h; cases h
  · rintro ⟨e, _, h, _⟩; simp at h
theorem key_one {L : List MapEntry} (hp : L.Pairwise fun a b => a.key ≠ b.key) {a b : MapEntry} (ha : a ∈ L) (hb : b ∈ L) (h : a.key = b.key) : a = b := by
  obtain ⟨i, hi, rfl⟩ := List.mem_iff_getElem.1 ha
  obtain ⟨j, hj, rfl⟩ := List.mem_iff_getElem.1 hb
  rw [List.pairwise_iff_getElem] at hp
  rcases Nat.lt_trichotomy i j with h1 | h1 | h1
  · exact absurd h (hp i j hi hj h1)
  · subst h1; rfl
  · exact absurd h.symm (hp j i hj hi h1)
theorem seen_step {p : Int → Bool} {es : Array MapEntry} {seen : Array Nat} {g f : Int → Option Value} {e : MapEntry} {k : Int} (h : Seen p es seen g) (hh : Holds es.toList f) (hn : (es.toList.map (·.born)).Nodup)
    (he : e ∈ es.toList) (hk : e.key = .int .i64 k) (hp : p k = true) : Seen p es (seen.push e.born) (updF g k e.val) := by
  intro q v
  unfold updF
  by_cases hq : q = k
  · rw [if_pos hq]
    subst hq
    constructor
    · intro h1
      injection h1 with h1
      exact ⟨e, he, by rw [contains_push]; simp, hk, h1, hp⟩
    · rintro ⟨x, hx, _, hxk, hxv, _⟩
      have := key_one hh.one hx he (by rw [hxk, hk])
      rw [← hxv, this]
  · rw [if_neg hq, h q v]
    constructor
    · rintro ⟨x, hx, hs, hr⟩
      exact ⟨x, hx, by rw [contains_push, hs]; rfl, hr⟩
    · rintro ⟨x, hx, hs, hxk, hr⟩
      refine ⟨x, hx, ?_, hxk, hr⟩
      rw [contains_push, Bool.or_eq_true] at hs
      rcases hs with hs | hs
      · exact hs
      · have hxe := born_inj hn hx he (by simpa using hs)
        subst hxe
        rw [hk] at hxk
        injection hxk with _ hxk
        exact absurd hxk.symm hq
theorem seen_skip {p : Int → Bool} {es : Array MapEntry} {seen : Array Nat} {g : Int → Option Value} {e : MapEntry} {k : Int} (h : Seen p es seen g) (hn : (es.toList.map (·.born)).Nodup)
    (he : e ∈ es.toList) (hk : e.key = .int .i64 k) (hp : p k = false) : Seen p es (seen.push e.born) g := by
  intro q v
  rw [h q v]
  constructor
  · rintro ⟨x, hx, hs, hr⟩
    exact ⟨x, hx, by rw [contains_push, hs]; rfl, hr⟩
  · rintro ⟨x, hx, hs, hxk, hxv, hpq⟩
    refine ⟨x, hx, ?_, hxk, hxv, hpq⟩
    rw [contains_push, Bool.or_eq_true] at hs
    rcases hs with hs | hs
    · exact hs
    · have hxe := born_inj hn hx he (by simpa using hs)
      subst hxe
      rw [hk] at hxk
      injection hxk with _ hxk
      subst hxk
      rw [hp] at hpq
      cases hpq
theorem seen_end {p : Int → Bool} {es : Array MapEntry} {seen : Array Nat} {g f : Int → Option Value} (h : Seen p es seen g) (hh : Holds es.toList f) (h0 : (leftOf es seen).size = 0) (k : Int) : g k = if p k then f k else none := by
  have hall := all_seen es seen h0
  cases hg : g k with
  | some v =>
    obtain ⟨e, he, _, hk, hv, hp⟩ := (h k v).1 hg
    rw [hp, if_pos rfl]
    obtain ⟨q, hq, hf⟩ := hh.key e he
    rw [hk] at hq
    injection hq with _ hq
    subst hq
    rw [hf, hv]
  | none =>
    cases hp : p k with
    | false => rfl
    | true =>
      rw [if_pos rfl]
      cases hf : f k with
      | none => rfl
      | some v =>
        obtain ⟨e, he, hk, hv⟩ := hh.all k v hf
        have := (h k v).2 ⟨e, he, hall e he, hk, hv, hp⟩
        rw [hg] at this
        cases this

/-- the map's copy, so far -/
def RI (w0 : World) (bm : Nat) (es : Array MapEntry) (clock : Nat) (p : Int → Bool) (seen : Array Nat) (wr : World) : Prop :=
  It w0 (w0.heap.size + 1) bm es clock seen wr ∧ ∃ g, IMap wr w0.heap.size g ∧ Seen p es seen g
theorem RI.start {w0 : World} {bm : Nat} {es : Array MapEntry} {clock : Nat} (p : Int → Bool) (hb : w0.heap[bm]? = some (.map es clock)) : RI w0 bm es clock p #[] ((w0.alloc (.map #[] 0)).alloc (.mapIter (some bm) clock #[] clock)) := by
  have h1 : ((w0.alloc (.map #[] 0)).alloc (.mapIter (some bm) clock #[] clock)).heap[w0.heap.size + 1]? = some (.mapIter (some bm) clock #[] clock) := by
    have := heap_alloc_new (w0.alloc (.map #[] 0)) (.mapIter (some bm) clock #[] clock)
    simpa using this
  refine ⟨⟨⟨clock, h1, Nat.le_refl _⟩, hb, by omega, ((Below.refl _ _).alloc (Nat.le_refl _) _).alloc (by simp) _⟩, fun _ => none, ?_, seen_none p es⟩
  exact (IMap.new w0).below (Nat.le_refl _) ((Below.refl _ _).alloc (Nat.le_refl _) _)
/-- what a round of the copy finds -/
theorem RI.round {w0 : World} {bm : Nat} {es : Array MapEntry} {clock : Nat} {p : Int → Bool} {seen : Array Nat} {wr : World} {f : Int → Option Value} {xs : List M.Nd} (h : RI w0 bm es clock p seen wr) (hh : Holds es.toList f) (hn : (es.toList.map (·.born)).Nodup) (hc : ∀ e ∈ es.toList, e.born < clock) (ha : Agree w0 f xs) (ty : TypeId) :
    ((leftOf es seen).size = 0 ∧ (Instr.next (.pointer (some ⟨w0.heap.size + 1, 0, none⟩)) false ty).run Try.prog wr = .ok (.tuple #[.bool false]) wr) ∨
    ∃ (b : Nat) (v : NV) (k : Int) (W : World), (leftOf es (seen.push b)).size < (leftOf es seen).size ∧ (Instr.next (.pointer (some ⟨w0.heap.size + 1, 0, none⟩)) false ty).run Try.prog wr = .ok (.tuple #[.bool true, .int .i64 k, v.val]) W ∧
      (Instr.entry (.pointer (some ⟨w0.heap.size + 1, 0, none⟩))).run Try.prog W = .ok (.tuple #[.int .i64 k, v.val]) W ∧
      (p k = false → RI w0 bm es clock p (seen.push b) (W.alloc (.cells #[.int .i64 v.fid, .bool v.dir, .slice v.dA v.dn v.dc, .slice v.eA v.en v.ec, .int .i64 v.ver] 41))) ∧
      (p k = true → ∃ o : Obj, (Instr.mapUpdate 31 (.map (some w0.heap.size)) (.int .i64 k) v.val).run Try.prog (W.alloc (.cells #[.int .i64 v.fid, .bool v.dir, .slice v.dA v.dn v.dc, .slice v.eA v.en v.ec, .int .i64 v.ver] 41)) = .ok () (setBlock (W.alloc (.cells #[.int .i64 v.fid, .bool v.dir, .slice v.dA v.dn v.dc, .slice v.eA v.en v.ec, .int .i64 v.ver] 41)) w0.heap.size o) ∧ RI w0 bm es clock p (seen.push b) (setBlock (W.alloc (.cells #[.int .i64 v.fid, .bool v.dir, .slice v.dA v.dn v.dc, .slice v.eA v.en v.ec, .int .i64 v.ver] 41)) w0.heap.size o)) := by
  obtain ⟨hit, g, hg, hs⟩ := h
  rcases hit.next hn hc ty with h1 | ⟨e, he, W, h1, h2, h3, h4, h5⟩
  · exact .inl h1
  · right
    obtain ⟨hem, _⟩ := mem_left he
    obtain ⟨k, hk, hf⟩ := hh.key e hem
    rcases ha k with ⟨h6, _⟩ | ⟨v, x, h6, _, _⟩
    · rw [h6] at hf; cases hf
    · rw [h6] at hf
      injection hf with hf
      have hgW : IMap W w0.heap.size g := hg.same (h5 _ (by omega))
      have hwa : Below W.heap.size W (W.alloc (.cells #[.int .i64 v.fid, .bool v.dir, .slice v.dA v.dn v.dc, .slice v.eA v.en v.ec, .int .i64 v.ver] 41)) := (Below.refl _ _).alloc (Nat.le_refl _) _
      refine ⟨e.born, v, k, W, left_shrinks es seen e he, by rw [h1, hk, hf], by rw [h2, hk, hf], fun hp => ?_, fun hp => ?_⟩
      · exact ⟨h3.below hwa, g, hgW.below (Nat.le_refl _) hwa, seen_skip hs hn hem hk hp⟩
      · obtain ⟨o, hr, hi⟩ := run_update_map 31 41 Try.underlying31 (hgW.below (Nat.le_refl _) hwa) k v.val
        refine ⟨o, hr, (h3.below hwa).set (Nat.le_refl _) (by omega) o, _, hi, ?_⟩
        have := seen_step hs hh hn hem hk hp
        rw [← hf] at this
        exact this

theorem find_putN (xs : List M.Nd) (x : M.Nd) (k : Int) : M.find (M.putN xs x) k = if k = x.fid then some x else M.find xs k := by
  by_cases hk : k = x.fid
  · rw [if_pos hk, hk]; exact findN_put xs x
  · rw [if_neg hk]; exact findN_other xs x k hk

theorem find_dropN (xs : List M.Nd) (t k : Int) : M.find (M.dropN xs t) k = if k = t then none else M.find xs k := by
  by_cases hk : k = t
  · rw [if_pos hk, hk]; exact findN_drop xs t
  · rw [if_neg hk]
    unfold M.find M.dropN
    rw [List.find?_filter]
    congr 1
    funext y
    by_cases hy : y.fid = k
    · simp [hy, hk]
    · simp [hy]

end Go.Proofs.Ytcjobmbbikfnaad
/-
  THE REFERENCE's Leave AND Enter: lists of one's own, one entry behind the other.
-/
namespace Go.Proofs.Ytcjobmbbikfnaad
open Go.RowKit

/-- a list of one's own since w0 -/
def Keep (w0 : World) (es : List (ByteArray × Int)) (A : Option Addr) (m c : Nat) (wr : World) : Prop :=
  wr.ownsRow w0.heap.size 62 2 (.slice A m c) m (es.flatMap entCells) ∧ Below w0.heap.size w0 wr
theorem Keep.start (w0 : World) : Keep w0 [] none 0 0 w0 := ⟨World.ownsRow_nil _ _ _ _, Below.refl _ _⟩
theorem Keep.alloc {w0 : World} {es : List (ByteArray × Int)} {A : Option Addr} {m c : Nat} {wr : World} (h : Keep w0 es A m c wr) (o : Obj) : Keep w0 es A m c (wr.alloc o) :=
  ⟨own_below h.1 ((Below.refl _ _).alloc (Nat.le_refl _) o) (Nat.le_refl _), h.2.alloc h.2.size o⟩
theorem Keep.drew {w0 : World} {es : List (ByteArray × Int)} {A : Option Addr} {m c : Nat} {wr : World} (h : Keep w0 es A m c wr) : Keep w0 es A m c wr.drew :=
  ⟨own_below h.1 ((Below.refl _ _).drew) (Nat.le_refl _), h.2.drew⟩
theorem Keep.app {w0 : World} {es : List (ByteArray × Int)} {e : ByteArray × Int} {A A' : Option Addr} {m c c' : Nat} {W w1 : World} (h : Keep w0 es A m c W) (hg : W.grownBy w1 (Value.slice A m c).ownBlock)
    (ho : w1.ownsRow w0.heap.size 62 2 (.slice A' (m + 1) c') (m + 1) (es.flatMap entCells ++ [e].flatMap entCells)) : Keep w0 (es ++ [e]) A' (m + 1) c' w1 := by
  refine ⟨by rw [List.flatMap_append]; exact ho, h.2.grown hg h.2.size fun k hk => (h.1.lt k hk).1⟩
theorem Keep.len {w0 : World} {es : List (ByteArray × Int)} {A : Option Addr} {m c : Nat} {wr : World} (h : Keep w0 es A m c wr) : m = es.length := own_len ent_len (by decide) h.1

theorem row_new2 (w : World) (o : Obj) (e : ByteArray × Int) : Row 2 entCells ((w.alloc o).alloc (.cells #[.string e.1, .int .i64 e.2] 62)) (some ⟨w.heap.size + 1, 0, none⟩) 1 [e] := by
  have := row_of_box2 (Box2.new (w.alloc o) e)
  simpa using this
theorem row_new1 (w : World) (e : ByteArray × Int) : Row 2 entCells (w.alloc (.cells #[.string e.1, .int .i64 e.2] 62)) (some ⟨w.heap.size, 0, none⟩) 1 [e] := row_of_box2 (Box2.new w e)

theorem dropE_snoc (es : List (ByteArray × Int)) (e : ByteArray × Int) (s : ByteArray) : M.dropE (es ++ [e]) s = if e.1 = s then M.dropE es s else M.dropE es s ++ [e] := by
  unfold M.dropE
  rw [List.filter_append]
  by_cases h : e.1 = s <;> simp [h]

end Go.Proofs.Ytcjobmbbikfnaad
/-
  THE REFERENCE's Enter.
-/
namespace Go.Proofs.Ytcjobmbbikfnaad
open Go.RowKit

/-- has the new entry its place already? what is there so far -/
def isIn (s : ByteArray) (l : List (ByteArray × Int)) : Bool := l.any fun e => M.ltB s e.1
def sofar (e0 : ByteArray × Int) (l : List (ByteArray × Int)) : List (ByteArray × Int) := if isIn e0.1 l then M.putE l e0 else l
theorem isIn_no {s : ByteArray} {l : List (ByteArray × Int)} (h : isIn s l = false) : ∀ e ∈ l, M.ltB s e.1 = false := by
  unfold isIn at h
  rw [List.any_eq_false] at h
  intro e he
  simpa using h e he
theorem low_all {s : ByteArray} {l : List (ByteArray × Int)} (h : isIn s l = false) (hne : ∀ e ∈ l, e.1 ≠ s) : ∀ e ∈ l, M.ltB e.1 s = true := by
  intro e he
  cases hl : M.ltB e.1 s
  · exact absurd (M.ordB.tri _ _ hl (isIn_no h e he)) (hne e he)
  · rfl
theorem putE_low {e0 : ByteArray × Int} {l : List (ByteArray × Int)} (h : isIn e0.1 l = false) (hne : ∀ e ∈ l, e.1 ≠ e0.1) : M.putE l e0 = l ++ [e0] := by
  unfold M.putE M.put
  rw [List.filter_eq_self.2 (low_all h hne), List.filter_eq_nil_iff.2 (fun e he => by rw [isIn_no h e he]; simp)]
theorem isIn_snoc (s : ByteArray) (l : List (ByteArray × Int)) (e : ByteArray × Int) : isIn s (l ++ [e]) = (isIn s l || M.ltB s e.1) := by
  unfold isIn; rw [List.any_append]; simp
theorem rs_last {l : List (ByteArray × Int)} {e : ByteArray × Int} (hr : M.RsE (l ++ [e])) {s : ByteArray} (h : isIn s l = true) : M.ltB s e.1 = true := by
  unfold isIn at h
  rw [List.any_eq_true] at h
  obtain ⟨y, hy, hsy⟩ := h
  have hp : M.Rs M.ltB ((l ++ [e]).map (·.1)) := hr
  unfold M.Rs at hp
  rw [List.map_append, List.pairwise_append] at hp
  exact M.ordB.tra _ _ _ hsy (hp.2.2 y.1 (List.mem_map.2 ⟨y, hy, rfl⟩) e.1 (by simp))
theorem sofar_first {e0 e : ByteArray × Int} {l : List (ByteArray × Int)} (h : isIn e0.1 l = false) (hne : ∀ e ∈ l, e.1 ≠ e0.1) (hl : M.ltB e0.1 e.1 = true) : sofar e0 (l ++ [e]) = l ++ [e0] ++ [e] := by
  unfold sofar
  rw [isIn_snoc, h, hl]
  simp only [Bool.false_or, if_true]
  unfold M.putE M.put
  have hel : M.ltB e.1 e0.1 = false := by
    cases hx : M.ltB e.1 e0.1
    · rfl
    · have := M.ordB.tra _ _ _ hx hl; rw [M.ordB.irr] at this; cases this
  have hL : l.filter (fun y => M.ltB y.1 e0.1) = l := List.filter_eq_self.2 (low_all h hne)
  have hR : l.filter (fun y => M.ltB e0.1 y.1) = [] := List.filter_eq_nil_iff.2 (fun e he => by rw [isIn_no h e he]; simp)
  rw [List.filter_append, List.filter_append, hL, hR]
  simp [hel, hl]
theorem sofar_low {e0 e : ByteArray × Int} {l : List (ByteArray × Int)} (h : isIn e0.1 l = false) (hl : M.ltB e0.1 e.1 = false) : sofar e0 (l ++ [e]) = l ++ [e] := by
  unfold sofar
  rw [isIn_snoc, h, hl]
  rfl
theorem sofar_then {e0 e : ByteArray × Int} {l : List (ByteArray × Int)} (h : isIn e0.1 l = true) (hr : M.RsE (l ++ [e])) : sofar e0 (l ++ [e]) = sofar e0 l ++ [e] := by
  have hl := rs_last hr h
  have hel : M.ltB e.1 e0.1 = false := by
    cases hx : M.ltB e.1 e0.1
    · rfl
    · have := M.ordB.tra _ _ _ hx hl; rw [M.ordB.irr] at this; cases this
  unfold sofar
  rw [isIn_snoc, h]
  simp only [Bool.true_or, if_true]
  unfold M.putE M.put
  rw [List.filter_append, List.filter_append]
  simp [hel, hl]
theorem putE_drop (es : List (ByteArray × Int)) (e0 : ByteArray × Int) : M.putE (M.dropE es e0.1) e0 = M.putE es e0 := by
  unfold M.putE M.put M.dropE
  rw [List.filter_filter, List.filter_filter]
  have h1 : ∀ y : ByteArray × Int, (M.ltB y.1 e0.1 && !decide (y.1 = e0.1)) = M.ltB y.1 e0.1 := fun y => by
    by_cases h : y.1 = e0.1
    · rw [h, M.ordB.irr]; rfl
    · simp [h]
  have h2 : ∀ y : ByteArray × Int, (M.ltB e0.1 y.1 && !decide (y.1 = e0.1)) = M.ltB e0.1 y.1 := fun y => by
    by_cases h : y.1 = e0.1
    · rw [h, M.ordB.irr]; rfl
    · simp [h]
  simp only [h1, h2]
theorem drop_ne (es : List (ByteArray × Int)) (s : ByteArray) : ∀ e ∈ M.dropE es s, e.1 ≠ s := by
  intro e he
  have := (List.mem_filter.1 he).2
  simpa using this
theorem rs_dropE {es : List (ByteArray × Int)} (s : ByteArray) (h : M.RsE es) : M.RsE (M.dropE es s) := M.rs_sub h (List.filter_sublist.map _)
theorem rs_takeE {es : List (ByteArray × Int)} (k : Nat) (h : M.RsE es) : M.RsE (es.take k) := M.rs_sub h ((List.take_sublist k es).map _)

/-- the entry at hand stays where it is -/
theorem box2_kept {w0 : World} {es : List (ByteArray × Int)} {A : Option Addr} {m c : Nat} {wr w4 : World} {e : ByteArray × Int} {o : Obj} (h : Keep w0 es A m c wr)
    (hg : ((wr.alloc (.cells #[.string e.1, .int .i64 e.2] 62)).alloc o).grownBy w4 (Value.slice A m c).ownBlock) : Box2 w4 wr.heap.size e := by
  have h0 : Box2 (wr.alloc (.cells #[.string e.1, .int .i64 e.2] 62)) wr.heap.size e := Box2.new wr e
  have h1 : Box2 ((wr.alloc (.cells #[.string e.1, .int .i64 e.2] 62)).alloc o) wr.heap.size e := by
    unfold Box2 at h0 ⊢
    rw [Below.heap_alloc _ _ _ (lt_of_block h0)]
    exact h0
  refine h1.grownO hg fun hx => ?_
  have := (h.1.lt wr.heap.size hx.symm).2
  omega

end Go.Proofs.Ytcjobmbbikfnaad
/-
  THE REFERENCE's Within: all that can be seen from a fid on.
-/
namespace Go.Proofs.Ytcjobmbbikfnaad
open Go.RowKit
open Go.ChangeMaps (setBlock)

theorem len_le_of_nodup : ∀ {l m : List Int}, l.Nodup → (∀ x ∈ l, x ∈ m) → l.length ≤ m.length
  | [], _, _, _ => Nat.zero_le _
  | x :: l, m, hn, h => by
    rw [List.nodup_cons] at hn
    have hx : x ∈ m := h x List.mem_cons_self
    have ih := len_le_of_nodup (l := l) (m := m.erase x) hn.2 (fun y hy => by
      have hne : y ≠ x := fun e => hn.1 (e ▸ hy)
      exact (List.mem_erase_of_ne hne).2 (h y (List.mem_cons_of_mem _ hy)))
    have := List.length_erase_of_mem hx
    have := List.length_pos_of_mem hx
    rw [List.length_cons]
    omega
/-- the fids of all entries -/
def allF (xs : List M.Nd) : List Int := xs.flatMap fun x => x.ents.map (·.2)
/-- what the search keeps: those had, in turn; k of them are done -/
structure BI (xs : List M.Nd) (a : Int) (H : List Int) (k : Nat) : Prop where
  nd : H.Nodup
  ina : a ∈ H
  re : ∀ q ∈ H, M.Reach xs a q
  cl : ∀ (i : Nat) q x, i < k → H[i]? = some q → M.find xs q = some x → ∀ e ∈ x.ents, e.2 ∈ H
theorem BI.start (xs : List M.Nd) (a : Int) : BI xs a [a] 0 := ⟨by simp, by simp, fun q hq => by rw [List.mem_singleton.1 hq]; exact .refl, fun i q x hi => absurd hi (Nat.not_lt_zero _)⟩
theorem BI.len {xs : List M.Nd} {a : Int} {H : List Int} {k : Nat} (h : BI xs a H k) : H.length ≤ (allF xs).length + 1 := by
  have := len_le_of_nodup (m := a :: allF xs) h.nd (fun q hq => by
    have hr := h.re q hq
    cases hr with
    | refl => exact List.mem_cons_self
    | step _ hf he => exact List.mem_cons_of_mem _ (List.mem_flatMap.2 ⟨_, List.mem_of_find?_eq_some hf, List.mem_map.2 ⟨_, he, rfl⟩⟩))
  simpa using this
theorem BI.done {xs : List M.Nd} {a t : Int} {H : List Int} {k : Nat} (h : BI xs a H k) (hk : H.length ≤ k) : t ∈ H ↔ M.Reach xs a t := by
  refine ⟨h.re t, fun hr => ?_⟩
  induction hr with
  | refl => exact h.ina
  | step _ hf he ih =>
    obtain ⟨i, hi⟩ := List.getElem?_of_mem ih
    have := (List.getElem?_eq_some_iff.1 hi).1
    exact h.cl i _ _ (by omega) hi hf _ he
/-- one entry's fid is met -/
def meetH (H : List Int) (q : Int) : List Int := if q ∈ H then H else H ++ [q]
theorem meetH_pre (H : List Int) (q : Int) : ∃ S, meetH H q = H ++ S := by
  unfold meetH
  split
  · exact ⟨[], by simp⟩
  · exact ⟨[q], rfl⟩
theorem meetH_mem (H : List Int) (q : Int) : q ∈ meetH H q := by unfold meetH; split <;> simp_all
theorem foldH_pre : ∀ (ts : List Int) (H : List Int), ∃ S, ts.foldl meetH H = H ++ S
  | [], H => ⟨[], by simp⟩
  | t :: ts, H => by
    obtain ⟨S, hS⟩ := meetH_pre H t
    obtain ⟨R, hR⟩ := foldH_pre ts (meetH H t)
    exact ⟨S ++ R, by rw [List.foldl_cons, hR, hS, List.append_assoc]⟩
theorem foldH_mem : ∀ (ts : List Int) (H : List Int), ∀ t ∈ ts, t ∈ ts.foldl meetH H
  | [], _, _, h => by cases h
  | t :: ts, H, u, h => by
    rw [List.foldl_cons]
    rcases List.mem_cons.1 h with rfl | h
    · obtain ⟨R, hR⟩ := foldH_pre ts (meetH H u)
      rw [hR]; exact List.mem_append.2 (.inl (meetH_mem H u))
    · exact foldH_mem ts _ u h
theorem foldH_nd : ∀ (ts : List Int) (H : List Int), H.Nodup → (ts.foldl meetH H).Nodup
  | [], _, h => h
  | t :: ts, H, h => by
    rw [List.foldl_cons]
    refine foldH_nd ts _ ?_
    unfold meetH
    split
    · exact h
    · rename_i hn
      rw [List.nodup_append]
      exact ⟨h, by simp, fun x hx y hy e => by rw [List.mem_singleton.1 hy] at e; exact hn (e ▸ hx)⟩
theorem foldH_re {P : Int → Prop} : ∀ (ts : List Int) (H : List Int), (∀ q ∈ H, P q) → (∀ t ∈ ts, P t) → ∀ q ∈ ts.foldl meetH H, P q
  | [], _, h, _ => h
  | t :: ts, H, h, ht => by
    rw [List.foldl_cons]
    refine foldH_re ts _ (fun q hq => ?_) (fun u hu => ht u (List.mem_cons_of_mem _ hu))
    unfold meetH at hq
    split at hq
    · exact h q hq
    · rcases List.mem_append.1 hq with hq | hq
      · exact h q hq
      · rw [List.mem_singleton.1 hq]; exact ht t List.mem_cons_self
/-- one that was ahead is done -/
theorem BI.step {xs : List M.Nd} {a : Int} {H : List Int} {k : Nat} {q : Int} (h : BI xs a H k) (hq : H[k]? = some q) (es : List (ByteArray × Int)) (he : es = ((M.find xs q).map (·.ents)).getD []) (j : Nat) : BI xs a (((es.take j).map (·.2)).foldl meetH H) k ∧ BI xs a ((es.map (·.2)).foldl meetH H) (k + 1) := by
  have key : ∀ ts : List (ByteArray × Int), (∀ e ∈ ts, e ∈ es) → BI xs a ((ts.map (·.2)).foldl meetH H) k := by
    intro ts hts
    obtain ⟨S, hS⟩ := foldH_pre (ts.map (·.2)) H
    have hre : ∀ t ∈ ts.map (·.2), M.Reach xs a t := by
      intro t ht
      obtain ⟨e, he1, rfl⟩ := List.mem_map.1 ht
      have hee := hts e he1
      rw [he] at hee
      cases hf : M.find xs q with
      | none => rw [hf] at hee; cases hee
      | some x => rw [hf] at hee; exact .step (h.re q (List.mem_of_getElem? hq)) hf hee
    refine ⟨foldH_nd _ _ h.nd, by rw [hS]; exact List.mem_append.2 (.inl h.ina), foldH_re _ _ h.re hre, fun i p x hi hp hf e hex => ?_⟩
    have hil : i < H.length := by have := (List.getElem?_eq_some_iff.1 hq).1; omega
    rw [hS] at hp ⊢
    rw [List.getElem?_append_left hil] at hp
    exact List.mem_append.2 (.inl (h.cl i p x hi hp hf e hex))
  refine ⟨key _ (fun e he => List.mem_of_mem_take he), ?_⟩
  have h1 := key es (fun e he => he)
  obtain ⟨S, hS⟩ := foldH_pre (es.map (·.2)) H
  refine ⟨h1.nd, h1.ina, h1.re, fun i p x hi hp hf e hex => ?_⟩
  rcases Nat.lt_or_ge i k with hik | hik
  · exact h1.cl i p x hik hp hf e hex
  · have hik : i = k := by omega
    subst hik
    have hil : i < H.length := (List.getElem?_eq_some_iff.1 hq).1
    rw [hS, List.getElem?_append_left hil, hq] at hp
    cases hp
    rw [hf] at he
    have hex2 : e ∈ es := by rw [he]; exact hex
    exact foldH_mem _ _ _ (List.mem_map.2 ⟨e, hex2, rfl⟩)

/-- the search's memory -/
structure WM (w : World) (bm : Nat) (xs : List M.Nd) (H : List Int) (k g off c : Nat) (wr : World) : Prop where
  bel : Below w.heap.size w wr
  had : IMap wr w.heap.size (hadF H)
  que : Que wr (w.heap.size + 1) g off c (H.drop k)
theorem zero4 (w : World) : (zeroValue 4).run Try.prog w = .ok (.bool false) w := by
  obtain ⟨i, hi, hz, hs, hb⟩ := info_parts info4
  simp [zeroValue, typeInfo, hi, hz]
theorem had_ask {w : World} {b : Nat} {H : List Int} (h : IMap w b (hadF H)) (q : Int) : (Instr.lookup 33 (.map (some b)) (.int .i64 q) false).run Try.prog w = .ok (.bool (decide (q ∈ H))) w := by
  rw [run_lookup_map 33 4 Try.underlying33 (zero4 w) h q false, hadF_ask]
  rfl
theorem had_add {w : World} {b : Nat} {H : List Int} (h : IMap w b (hadF H)) (q : Int) : ∃ o : Obj, (Instr.mapUpdate 33 (.map (some b)) (.int .i64 q) (.bool true)).run Try.prog w = .ok () (setBlock w b o) ∧ IMap (setBlock w b o) b (hadF (H ++ [q])) := by
  obtain ⟨o, h1, h2⟩ := run_update_map 33 4 Try.underlying33 h q (.bool true)
  rw [hadF_add] at h2
  exact ⟨o, h1, h2⟩
theorem had_new (w : World) : IMap (w.alloc (.map #[] 0)) w.heap.size (hadF []) := by
  have h : (fun _ => none : Int → Option Value) = hadF [] := by funext q; simp [hadF]
  rw [← h]
  exact IMap.new w
theorem ents_of {w wr : World} {bm : Nat} {xs : List M.Nd} (h : TMap w bm xs) (hb : Below w.heap.size w wr) (hs : ∀ x ∈ xs, Small x) (q : Int) : ∃ (v : NV) (es : List (ByteArray × Int)), (Instr.lookup 31 (.map (some bm)) (.int .i64 q) false).run Try.prog wr = .ok v.val wr ∧ es = ((M.find xs q).map (·.ents)).getD [] ∧ Ents w v.eA v.en es ∧ v.en * 24 ≤ 140737488355328 := by
  obtain ⟨f, hi, ha⟩ := h
  have hr := run_lookup_map 31 41 Try.underlying31 (zero26 wr) (hi.below (Nat.le_refl _) hb) q false
  rcases ha q with ⟨h1, h2⟩ | ⟨v, x, h1, h2, h3⟩
  · rw [h1] at hr
    exact ⟨NV.zero, [], hr, by rw [h2]; rfl, ⟨rfl, .inl rfl⟩, by simp [NV.zero]⟩
  · rw [h1] at hr
    exact ⟨v, x.ents, hr, by rw [h2]; rfl, h3.2.2.2.2, by rw [h3.2.2.2.2.1]; exact (hs x (List.mem_of_find?_eq_some h2)).2⟩
theorem WM.box {w : World} {bm : Nat} {xs : List M.Nd} {H : List Int} {k g off c : Nat} {wr : World} (h : WM w bm xs H k g off c wr) (o : Obj) : WM w bm xs H k g off c (wr.alloc o) :=
  ⟨h.bel.alloc h.bel.size o, h.had.same (Below.heap_alloc _ _ _ h.had.lt), h.que.alloc o⟩
theorem WM.add {w : World} {bm : Nat} {xs : List M.Nd} {H : List Int} {k g off c : Nat} {wr W : World} {q : Int} {o E : Obj} {g' off' c' : Nat} (h : WM w bm xs H k g off c wr) (hm : IMap (setBlock wr w.heap.size o) w.heap.size (hadF (H ++ [q]))) (hk : k ≤ H.length)
    (hq : Que W (w.heap.size + 1) g' off' c' (H.drop k ++ [q])) (hg : ((setBlock wr w.heap.size o).alloc E).grownBy W (some g)) : WM w bm xs (H ++ [q]) k g' off' c' W := by
  have hgB := h.que.1
  have hlt : w.heap.size < wr.heap.size := h.had.lt
  refine ⟨Below.grown ((setBlock_below h.bel (Nat.le_refl _) o).alloc (by rw [setBlock_size]; omega) E) hg (by simp [setBlock_size]; omega) (fun k hk => by cases hk; omega), hm.same ?_, by rw [List.drop_append_of_le_length hk]; exact hq⟩
  rw [hg.block w.heap.size (by simp [setBlock_size]; omega) (by simp only [ne_eq, Option.some.injEq]; omega), Below.heap_alloc _ _ _ (by rw [setBlock_size]; omega)]
theorem fieldE (v : NV) (w : World) : (Instr.field 41 v.val 3).run Try.prog w = .ok (.slice v.eA v.en v.ec) w := by kernel_rfl

set_option maxRecDepth 4000 in
set_option maxHeartbeats 4000000 in
theorem refWithin_any (bm : Nat) (xs : List M.Nd) (t a : Int) (w : World) (ht : TMap w bm xs) (hs : ∀ x ∈ xs, Small x) (hN : ((allF xs).length + 2) * 8 ≤ 140737488355328) :
    Calls Try.prog 28 #[.map (some bm), .int .i64 t, .int .i64 a] w fun e w' => ∃ b : Bool, e = .returned (.bool b) ∧ (b = true ↔ M.Reach xs a t) ∧ Below w.heap.size w w' := by
  obtain ⟨i3, hi3, hz3, hs3, hb3⟩ := info_parts info3
  have HT : Hid (TMap w bm xs ∧ (∀ x ∈ xs, Small x)) := ⟨ht, hs⟩
  have hmm := @run_makeMap Try.prog
  obtain ⟨o0, hup, hm0⟩ := had_add (had_new w) a
  have H0 : Hid (WM w bm xs [a] 0 (w.heap.size + 1) 0 1 ((setBlock (w.alloc (.map #[] 0)) w.heap.size o0).alloc (.cells #[.int .i64 a] 3))) := by
    have hz : (setBlock (w.alloc (.map #[] 0)) w.heap.size o0).heap.size = w.heap.size + 1 := by rw [setBlock_size]; simp
    refine ⟨(setBlock_below ((Below.refl _ _).alloc (Nat.le_refl _) _) (Nat.le_refl _) o0).alloc (by rw [hz]; omega) _, hm0.same (Below.heap_alloc _ _ _ (by rw [hz]; omega)), ?_⟩
    have h := que_new (setBlock (w.alloc (.map #[] 0)) w.heap.size o0) (w.heap.size + 1) a (by rw [hz]; omega)
    rw [hz] at h
    exact h
  have hz0 : (setBlock (w.alloc (.map #[] 0)) w.heap.size o0).heap.size = w.heap.size + 1 := by rw [setBlock_size]; simp
  clear ht hs hm0
  go_enter Try.func28, Try.ntmps28
  go_wp2_with (fail)
  go_loopg [8] ((allF xs).length + 1) (fun gk v wr => ∃ (H : List Int) (k g off c n : Nat), v = .slice (some ⟨g, off, none⟩) n c ∧ Hid (n = H.length - k) ∧ k ≤ H.length ∧ (allF xs).length + 1 - k ≤ gk ∧ BI xs a H k ∧ WM w bm xs H k g off c wr)
  case atStart => exact ⟨[a], 0, w.heap.size + 1, 0, 1, 1, rfl, rfl, Nat.zero_le _, by omega, BI.start xs a, H0.out⟩
  case round =>
    obtain ⟨H, k, g, off, c, n, rfl, hn, hk, hgk, hbi, hwm⟩ := hrel
    rename World => wo
    have HB : Hid (BI xs a H k) := hbi
    have HM : Hid (WM w bm xs H k g off c wo) := hwm
    have hlen := hbi.len
    clear hbi hwm hup hmm hz0 H0
    by_cases hkn : k = H.length
    · have hn0 : n = 0 := by have h := hn.out; omega
      subst hn0
      have hlk := had_ask HM.out.had t
      have HR : Hid (t ∈ H ↔ M.Reach xs a t) := HB.out.done (by omega)
      clear hkn hk hn
      go_wp2
      go_ret
      exact ⟨_, rfl, by rw [decide_eq_true_eq]; exact HR.out, HM.out.bel⟩
    · have hkl : k < H.length := by omega
      have hq : H[k]? = some H[k] := List.getElem?_eq_getElem hkl
      have HQ : Hid (H[k]? = some H[k]) := hq
      have hc0 := HM.out.que.cell (j := 0) (f := H[k]) (by rw [List.getElem?_drop, Nat.add_zero]; exact hq)
      rw [Nat.add_zero] at hc0
      generalize H[k] = q at hq HQ hc0
      obtain ⟨v, es, hlk, hes, hent, hen⟩ := ents_of HT.out.1 HM.out.bel HT.out.2 q
      have HES : Hid (es = ((M.find xs q).map (·.ents)).getD []) := hes
      have HEN : Hid (Ents w v.eA v.en es) := hent
      have hfe := fieldE v
      have hn0 : (0 : Int) < (n : Int) := by have h := hn.out; omega
      have hnn : 0 < n := by have h := hn.out; omega
      clear hq hes hent
      go_wp2_with (fail)
      go_loopw [8, 26] (fun u i wq => ∃ (j g' off' c' n' : Nat), i = .int .i64 j ∧ j ≤ v.en ∧ u = .slice (some ⟨g', off', none⟩) n' c' ∧ Hid (n' = (((es.take j).map (·.2)).foldl meetH H).length - k) ∧ WM w bm xs (((es.take j).map (·.2)).foldl meetH H) k g' off' c' wq) (fun _ i _ => v.en - (intOf i).toNat)
      case atStart => exact ⟨0, g, off, c, n, rfl, Nat.zero_le _, rfl, hn, HM.out⟩
      case round =>
        obtain ⟨j, g', off', c', n', rfl, hj, rfl, hn', hwm⟩ := hrel
        have HMJ : Hid (WM w bm xs (((es.take j).map (·.2)).foldl meetH H) k g' off' c' wr) := hwm
        have hbij := (HB.out.step HQ.out es HES.out j).1
        have HPRE : Hid (k < (((es.take j).map (·.2)).foldl meetH H).length) := by
          obtain ⟨S, hS⟩ := foldH_pre ((es.take j).map (·.2)) H
          show k < _
          rw [hS, List.length_append]; omega
        have hlenj := hbij.len
        clear hwm hbij
        by_cases hjl : j < v.en
        · obtain ⟨b, o, e, hvA, _, hej, e0, e1⟩ := Ents.at (HEN.out.below (Nat.le_refl _) HMJ.out.bel) hjl
          have HF : Hid (((es.take (j + 1)).map (·.2)).foldl meetH H = meetH (((es.take j).map (·.2)).foldl meetH H) e.2) := by
            show _ = _
            rw [take_step hej, List.map_append, List.foldl_append]; rfl
          generalize ((es.take j).map (·.2)).foldl meetH H = HJ at HMJ HPRE hlenj HF hn'
          have hwb := HMJ.out.box (.cells #[.string e.1, .int .i64 e.2] 62)
          have hask := had_ask hwb.had e.2
          obtain ⟨ob, hupd, hmm⟩ := had_add hwb.had e.2
          have HWB : Hid (WM w bm xs HJ k g' off' c' (wr.alloc (.cells #[.string e.1, .int .i64 e.2] 62)) ∧ IMap (setBlock (wr.alloc (.cells #[.string e.1, .int .i64 e.2] 62)) w.heap.size ob) w.heap.size (hadF (HJ ++ [e.2]))) := ⟨hwb, hmm⟩
          have hjs : (j : Int) < (v.en : Int) := by omega
          have hj0 : (0 : Int) ≤ (j : Int) := by omega
          clear hwb hmm hej
          by_cases hin : e.2 ∈ HJ
          · have hd : decide (e.2 ∈ HJ) = true := decide_eq_true hin
            rw [hd] at hask
            have HI : Hid (meetH HJ e.2 = HJ) := by show _ = _; unfold meetH; rw [if_pos hin]
            clear hin hd hupd
            go_wp2
            go_roundw
            case rel => exact ⟨j + 1, g', off', c', n', by go_num, by omega, rfl, by rw [HF.out, HI.out]; exact hn', by rw [HF.out, HI.out]; exact HWB.out.1⟩
            case measure => simp [intOf]; omega
          · have hd : decide (e.2 ∈ HJ) = false := decide_eq_false hin
            rw [hd] at hask
            have HI : Hid (meetH HJ e.2 = HJ ++ [e.2]) := by show _ = _; unfold meetH; rw [if_neg hin]
            have hz2 : (setBlock (wr.alloc (.cells #[.string e.1, .int .i64 e.2] 62)) w.heap.size ob).heap.size = wr.heap.size + 1 := by rw [setBlock_size]; simp
            have hwr : w.heap.size < wr.heap.size := HMJ.out.had.lt
            have hcb : (setBlock (wr.alloc (.cells #[.string e.1, .int .i64 e.2] 62)) w.heap.size ob).cell? ⟨wr.heap.size, 1, none⟩ = some (.int .i64 e.2) := by
              have hb2 : (setBlock (wr.alloc (.cells #[.string e.1, .int .i64 e.2] 62)) w.heap.size ob).heap[wr.heap.size]? = some (.cells #[.string e.1, .int .i64 e.2] 62 (0, 0)) := by
                rw [setBlock_other (by omega)]; exact heap_alloc_new wr _
              simp [World.cell?, hb2]
            have HL : Hid (n' = (HJ.drop k).length ∧ (n' + 1) * 8 ≤ 140737488355328) := by
              refine ⟨by rw [List.length_drop]; exact hn'.out, ?_⟩
              have := hn'.out
              omega
            clear hin hd
            go_wp2_with (at_builtin; refine wpList_append_que _ (by rfl) (.tmp 38) (.tmp 41) 46 (by rfl) (w.heap.size + 1) i3 Try.underlying46 hi3 hz3 hs3 hb3 g' off' c' n' (HJ.drop k) HL.out.1 (by rfl) ((HWB.out.1.que.setBlock (by have := HWB.out.1.que.1; omega) ob).alloc _) ⟨wr.heap.size + 1, 0, none⟩ 1 e.2 (by rfl) (cell_new1 _ _ _ _ hz2.symm) (by rw [← HL.out.1]; exact HL.out.2) (by simp [setBlock_size]; omega) ?_; intro g2 off2 c2 W4 hq4 hg4; have HW4 : Hid (WM w bm xs (HJ ++ [e.2]) k g2 off2 c2 W4) := HWB.out.1.add HWB.out.2 (Nat.le_of_lt HPRE.out) hq4 hg4; clear hq4 hg4 hvA)
            go_roundw
            case rel => exact ⟨j + 1, g2, off2, c2, n' + 1, by go_num, by omega, by go_num, (by show n' + 1 = _; rw [HF.out, HI.out, List.length_append]; have h1 := hn'.out; have h2 := HPRE.out; simp; omega), by rw [HF.out, HI.out]; exact HW4.out⟩
            case measure => simp [intOf]; omega
        · have HEJ : Hid (es.take j = es) := by show _ = _; exact List.take_of_length_le (by rw [← HEN.out.1]; omega)
          rw [HEJ.out] at HMJ HPRE hn'
          have HB2 : Hid (BI xs a ((es.map (·.2)).foldl meetH H) (k + 1)) := (HB.out.step HQ.out es HES.out j).2
          generalize (es.map (·.2)).foldl meetH H = HJ at HMJ HPRE HB2 hn'
          have hlen2 := HB2.out.len
          have hjs : ¬ (j : Int) < (v.en : Int) := by omega
          obtain ⟨f0, l0, hl0⟩ : ∃ f0 l0, HJ.drop k = f0 :: l0 := ⟨HJ[k]'HPRE.out, HJ.drop (k + 1), List.drop_eq_getElem_cons HPRE.out⟩
          have hl1 : l0 = HJ.drop (k + 1) := by have h := congrArg List.tail hl0; rw [List.tail_drop] at h; exact h.symm
          have hqq := HMJ.out.que
          rw [hl0] at hqq
          have hn1 : 1 ≤ n' ∧ n' ≤ c' ∧ c' ≤ 9223372036854775807 := by
            have h1 := hn'.out
            have h2 := HPRE.out
            have h3 := HMJ.out.que.2.1
            have h4 := HMJ.out.que.2.2.1
            rw [List.length_drop] at h3
            unfold maxLen at h4
            exact ⟨by omega, by omega, by omega⟩
          obtain ⟨hn1, hn2, hn3⟩ := hn1
          have hn4 : (1 : Int) ≤ (n' : Int) := by omega
          by_cases hc1 : c' = 1
          · subst hc1
            have HQ2 : Hid (Que wr (w.heap.size + 1) g' off' 0 (HJ.drop (k + 1))) := by rw [← hl1]; exact hqq.tail1
            clear hqq hl0 hl1
            go_wp2
            go_roundg ((allF xs).length + 1 - (k + 1))
            case measure => have h2 := HPRE.out; omega
            case rel => exact ⟨HJ, k + 1, g', off', 0, n' - 1, by go_num, (by show n' - 1 = _; have h1 := hn'.out; omega), HPRE.out, Nat.le_refl _, HB2.out, ⟨HMJ.out.bel, HMJ.out.had, HQ2.out⟩⟩
          · have HQ2 : Hid (Que wr (w.heap.size + 1) g' (off' + 1) (c' - 1) (HJ.drop (k + 1))) := by rw [← hl1]; exact hqq.tail
            clear hqq hl0 hl1
            go_wp2
            go_roundg ((allF xs).length + 1 - (k + 1))
            case measure => have h2 := HPRE.out; omega
            case rel => exact ⟨HJ, k + 1, g', off' + 1, c' - 1, n' - 1, by go_num, (by show n' - 1 = _; have h1 := hn'.out; omega), HPRE.out, Nat.le_refl _, HB2.out, ⟨HMJ.out.bel, HMJ.out.had, HQ2.out⟩⟩
end Go.Proofs.Ytcjobmbbikfnaad
/-
  THE REFERENCE's Apply: a tree's map as it is counted; what is asked, and answered.
-/
namespace Go.Proofs.Ytcjobmbbikfnaad
open Go.RowKit

theorem nodup_le {α : Type} [DecidableEq α] : ∀ {l m : List α}, l.Nodup → (∀ a ∈ l, a ∈ m) → l.length ≤ m.length
  | [], _, _, _ => Nat.zero_le _
  | a :: l, m, hn, hs => by
    rw [List.nodup_cons] at hn
    have ha : a ∈ m := hs a List.mem_cons_self
    have h1 : l.length ≤ (m.erase a).length := nodup_le hn.2 fun b hb => by
      rw [List.mem_erase_of_ne (fun e => hn.1 (by rw [← e]; exact hb))]
      exact hs b (List.mem_cons_of_mem _ hb)
    rw [List.length_erase_of_mem ha] at h1
    have := List.length_pos_of_mem ha
    simp only [List.length_cons]
    omega
/-- the keys of entries that hold numbers alone -/
def keyI (e : MapEntry) : Int := match e.key with | .int _ k => k | _ => 0
theorem rs_nodup {xs : List M.Nd} (h : M.RsN xs) : (xs.map (·.fid)).Nodup := List.Pairwise.imp (fun {a b} hab e => by subst e; simp [M.ltI] at hab) h
/-- a map counts as many as the tree has -/
theorem TMap.count {w : World} {bm : Nat} {xs : List M.Nd} (h : TMap w bm xs) (hr : M.RsN xs) : ∃ (es : Array MapEntry) (clock : Nat), w.heap[bm]? = some (.map es clock) ∧ es.size = xs.length := by
  obtain ⟨f, ⟨es, clock, hb, hh, hn, hcl⟩, ha⟩ := h
  refine ⟨es, clock, hb, ?_⟩
  have hk : ∀ e ∈ es.toList, e.key = .int .i64 (keyI e) ∧ f (keyI e) = some e.val := fun e he => by
    obtain ⟨k, h1, h2⟩ := hh.key e he
    have : keyI e = k := by unfold keyI; rw [h1]
    rw [this]; exact ⟨h1, h2⟩
  have hnd : (es.toList.map keyI).Nodup := by
    rw [List.nodup_iff_pairwise_ne, List.pairwise_map]
    refine List.Pairwise.imp_of_mem ?_ hh.one
    intro a b ha2 hb2 hab e
    apply hab
    rw [(hk a ha2).1, (hk b hb2).1, e]
  have h1 : (es.toList.map keyI).length ≤ (xs.map (·.fid)).length := nodup_le hnd fun k hkm => by
    obtain ⟨e, he, rfl⟩ := List.mem_map.1 hkm
    rcases ha (keyI e) with ⟨q1, _⟩ | ⟨v, x, _, q2, _⟩
    · rw [(hk e he).2] at q1; cases q1
    · have := M.find_mem q2
      exact List.mem_map.2 ⟨x, this.1, this.2⟩
  have h2 : (xs.map (·.fid)).length ≤ (es.toList.map keyI).length := nodup_le (rs_nodup hr) fun k hkm => by
    obtain ⟨x, hx, rfl⟩ := List.mem_map.1 hkm
    rcases ha x.fid with ⟨_, q2⟩ | ⟨v, y, q1, _, _⟩
    · exact absurd q2 (by
        intro hf
        unfold M.find at hf
        rw [List.find?_eq_none] at hf
        exact hf x hx (by simp))
    · obtain ⟨e, he, h3, h4⟩ := hh.all _ _ q1
      refine List.mem_map.2 ⟨e, he, ?_⟩
      unfold keyI; rw [h3]
  simp only [List.length_map] at h1 h2
  simp at h1 h2
  omega
/-- a node's map; a map of a tree; a node -/
def IsMp (xs : List M.Nd) : Value → World → Prop := fun v W => ∃ b, v = .map (some b) ∧ TMap W b xs
theorem isMp_below {xs : List M.Nd} {v : Value} {W W' : World} (hb : Below W.heap.size W W') (h : IsMp xs v W) : IsMp xs v W' := by
  obtain ⟨b, e, ht⟩ := h
  exact ⟨b, e, ht.below (Nat.le_refl _) hb⟩
def IsNd (x : M.Nd) : Value → World → Prop := fun v W => ∃ v' : NV, v = v'.val ∧ Cont W v' x
theorem isNd_below {x : M.Nd} {v : Value} {W W' : World} (hb : Below W.heap.size W W') (h : IsNd x v W) : IsNd x v W' := by
  obtain ⟨v', e, hc⟩ := h
  exact ⟨v', e, hc.below (Nat.le_refl _) hb⟩
/-- what the reference's Apply answers -/
def AppliedM (w : World) (spec : Int × List M.Nd) (e : Ending) (w' : World) : Prop :=
  Below w.heap.size w w' ∧ ∃ m, e = .returned (.tuple #[.map m, .int .i64 spec.1]) ∧ ((spec.1 = 0 ∧ ∃ bm, m = some bm ∧ TMap w' bm spec.2) ∨ (spec.1 ≠ 0 ∧ m = none))
theorem AppliedM.no {w w' : World} {s : Int × List M.Nd} {k : Int} (h : s.1 = k) (hk : k ≠ 0) (hb : Below w.heap.size w w') : AppliedM w s (.returned (.tuple #[.map none, .int .i64 k])) w' := by
  subst h; exact ⟨hb, none, rfl, .inr ⟨hk, rfl⟩⟩
theorem AppliedM.yes {w w' : World} {s : Int × List M.Nd} {ys : List M.Nd} {bm : Nat} (h : s = (0, ys)) (ht : TMap w' bm ys) (hb : Below w.heap.size w w') : AppliedM w s (.returned (.tuple #[.map (some bm), .int .i64 0])) w' := by
  subst h; exact ⟨hb, some bm, rfl, .inl ⟨rfl, bm, rfl, ht⟩⟩
/-- an act in a box, and a version -/
def ApW (w : World) (a : AV) (ver : Int) (W : World) : Prop := Below w.heap.size w W ∧ BoxA W w.heap.size a ∧ W.heap[w.heap.size + 1]? = some (.cells #[.int .i64 ver] 3 (0, 0))
theorem apw_start (w : World) (a : AV) (ver : Int) : ∀ W, W = (w.alloc (.cells #[.int .i64 a.kind, .int .i64 a.fid, .int .i64 a.dir, .string a.name, .int .i64 a.to, .string a.toName, .slice a.dA a.dn a.dc] 36)).alloc (.cells #[.int .i64 ver] 3) → ApW w a ver W := by
  rintro W rfl
  refine ⟨((Below.refl _ _).alloc (Nat.le_refl _) _).alloc (by simp) _, (BoxA.new w a).alloc _, ?_⟩
  have := heap_alloc_new (w.alloc (.cells #[.int .i64 a.kind, .int .i64 a.fid, .int .i64 a.dir, .string a.name, .int .i64 a.to, .string a.toName, .slice a.dA a.dn a.dc] 36)) (.cells #[.int .i64 ver] 3)
  simpa using this
theorem ApW.next {w W W' : World} {a : AV} {ver : Int} (h : ApW w a ver W) (hb : Below W.heap.size W W') : ApW w a ver W' := by
  have hz : w.heap.size + 1 < W.heap.size := lt_of_block h.2.2
  exact ⟨h.1.trans (hb.mono h.1.size), h.2.1.below hb (lt_of_block h.2.1), by rw [hb.block _ hz]; exact h.2.2⟩
theorem ApW.ver {w W : World} {a : AV} {ver : Int} (h : ApW w a ver W) : W.cell? ⟨w.heap.size + 1, 0, none⟩ = some (.int .i64 ver) := by simp [World.cell?, h.2.2]
end Go.Proofs.Ytcjobmbbikfnaad
