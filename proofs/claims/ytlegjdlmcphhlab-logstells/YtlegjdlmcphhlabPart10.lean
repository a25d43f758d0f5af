/- TEXTS LAID TOGETHER: Valsw, Doesb, Frame, Logh, Refl, Matho, Doesc, Doesd -/
import Derived.Test.YtlegjdlmcphhlabPart9
import Derived.Test.YtlegjdlmcphhlabPart5
import Derived.Deep.Cut
import Derived.Test.YtlegjdlmcphhlabPart7
/-
  A REGION THAT DRAWS THE ORDER OF ITS OPERATIONS, some of which write: the world is told by what has come up.
-/
namespace Go.Proofs.Ytlegjdlmcphhlab
open Go.RowKit

/-- each operation waits for earlier ones alone; each slot is one operation's -/
def tidyw (ops : Array Oper) (size : Nat) : Bool :=
  (List.range ops.size).all fun i => match ops[i]? with
    | some o => (o.after.all fun e => decide (e.on < i)) && (match o.dst with
        | some d => decide (d < size) && ((List.range i).all fun j => ((ops[j]?).bind (·.dst)) != some d)
        | none => true)
    | none => true
theorem tidyw_at {ops : Array Oper} {size i : Nat} {o : Oper} (h : tidyw ops size = true) (hi : ops[i]? = some o) :
    (∀ e ∈ o.after, e.on < i) ∧ ∀ d, o.dst = some d → d < size ∧ ∀ j, j < i → ((ops[j]?).bind (·.dst)) ≠ some d := by
  unfold tidyw at h
  rw [List.all_eq_true] at h
  have hlt : i < ops.size := (Array.getElem?_eq_some_iff.1 hi).1
  have h1 := h i (List.mem_range.2 hlt)
  rw [hi] at h1
  simp only [Bool.and_eq_true] at h1
  obtain ⟨h2, h3⟩ := h1
  refine ⟨fun e he => ?_, fun d hd => ?_⟩
  · have := Array.all_eq_true_iff_forall_mem.1 h2 e he
    simpa using this
  · rw [hd] at h3
    simp only [Bool.and_eq_true, decide_eq_true_eq, List.all_eq_true, List.mem_range] at h3
    refine ⟨h3.1, fun j hj => ?_⟩
    have := h3.2 j hj
    simpa using this

theorem getD_set_self {l : Array Bool} {i : Nat} (h : i < l.size) : (l.setIfInBounds i true).getD i true = true := by simp [h]
/-- what is asked of operation i -/
def StepW (P : Program) (ops : Array Oper) (Q : Exit → Act → World → Prop) (a0 : Act) (V : Nat → Value → Prop) (WI : Array Bool → World → Prop) (i : Nat) : Prop :=
  ∀ o, ops[i]? = some o → ∀ (listed : Array Bool) a w, FramedAt ops i a0 a → WI listed w → listed.size = ops.size → listed.getD i true = false → (∀ j, waits o j = true → listed.getD j true = true) → (∀ j u, ops[j]? = some u → waits u i = true → listed.getD j true = false) →
    (∀ j d, waits o j = true → (ops[j]?).bind (·.dst) = some d → V j (a.eval (.tmp d))) →
    ∀ K : Act → World → Prop, (∀ v w', V i v → WI (listed.setIfInBounds i true) w' → K (a.put o.dst v) w') →
      if Region.wanted o (yielded ops a.tmps) = true then Oper.wp P o a w K Q else K (a.put o.dst undef) w

theorem wpAny_writes {P : Program} {ops : Array Oper} {Q : Exit → Act → World → Prop} {a0 : Act} {V : Nat → Value → Prop} {WI : Array Bool → World → Prop} (ht : tidyw ops a0.tmps.size = true)
    (steps : ∀ i, i < ops.size → StepW P ops Q a0 V WI i)
    (last : ∀ listed a w, Framed ops a0 a → WI listed w → (∀ j, j < ops.size → listed.getD j true = true) → Q .normal a w) :
    ∀ (fuel : Nat) (listed : Array Bool) (a : Act) (w : World), listed.size = ops.size → unlisted listed ≤ fuel → FramedBy ops listed a0 a → WI listed w →
      (∀ j d, j < ops.size → listed.getD j true = true → (ops[j]?).bind (·.dst) = some d → V j (a.eval (.tmp d))) → wpAny P .any ops Q fuel listed a w := by
  have hdone : ∀ (listed : Array Bool), listed.size = ops.size → Region.ready .any ops listed = [] → ∀ j, j < ops.size → listed.getD j true = true := by
    intro listed hsz hr j
    induction j using Nat.strongRecOn with
    | ind j ih =>
      intro hj
      cases hb : listed.getD j true with
      | true => rfl
      | false =>
        have ho : ops[j]? = some ops[j] := Array.getElem?_eq_getElem hj
        have hm : j ∈ Region.ready .any ops listed := by
          rw [mem_ready]
          refine ⟨hb, _, ho, fun e he _ => ?_⟩
          have hlt := (tidyw_at ht ho).1 e he
          have h1 := ih e.on hlt (by omega)
          have h2 : e.on < listed.size := by omega
          simp only [Array.getD_eq_getD_getElem?, Array.getElem?_eq_getElem h2, Option.getD_some] at h1 ⊢
          exact h1
        rw [hr] at hm
        cases hm
  intro fuel
  induction fuel with
  | zero =>
    intro listed a w hsz hu hf hb hV
    have hall : ∀ j, listed.getD j true = true := by
      intro j
      have h0 : listed.toList.filter (fun b => !b) = [] := List.eq_nil_of_length_eq_zero (by simpa [unlisted] using hu)
      rw [List.filter_eq_nil_iff] at h0
      rcases Nat.lt_or_ge j listed.size with h | h
      · have := h0 listed[j] (by simp)
        simp [h] at this ⊢
        exact this
      · simp [h]
    refine ⟨?_, last listed a w hf.all hb fun j _ => hall j⟩
    unfold Region.ready
    rw [List.filter_eq_nil_iff]
    intro j _
    rw [hall j]
    simp
  | succ fuel ih =>
    intro listed a w hsz hu hf hb hV
    refine ⟨fun hr => last listed a w hf.all hb (hdone listed hsz hr), fun i hi => ?_⟩
    obtain ⟨hun, o, ho, hall⟩ := mem_ready.1 hi
    have hilt : i < ops.size := (Array.getElem?_eq_some_iff.1 ho).1
    obtain ⟨hback, hdst⟩ := tidyw_at ht ho
    refine wpOp_step ho fun K' hK => ?_
    have hlw : ∀ j, waits o j = true → listed.getD j true = true := by
      intro j hj
      obtain ⟨e, he, hbe⟩ := Array.any_eq_true'.1 hj
      simp only [Bool.and_eq_true, beq_iff_eq] at hbe
      have h1 := hall e he hbe.1
      have h2 := hback e he
      rw [← hbe.2]
      have h3 : e.on < listed.size := by omega
      simp only [Array.getD_eq_getD_getElem?, Array.getElem?_eq_getElem h3, Option.getD_some] at h1 ⊢
      exact h1
    refine steps i hilt o ho listed a w (hf.at_ hun) hb hsz hun hlw (fun j u hj hw => ?_) (fun j d hj hd => ?_) K' ?_
    · cases hl : listed.getD j true with
      | false => rfl
      | true => have := hf.closed j u hj hl i hw; rw [this] at hun; cases hun
    · refine hV j d ?_ (hlw j hj) hd
      cases hj2 : ops[j]? with
      | none => rw [hj2] at hd; cases hd
      | some u => exact (Array.getElem?_eq_some_iff.1 hj2).1
    · intro v w' hv hw
      refine hK _ _ (ih _ _ _ (by simp [hsz]) (by have := unlisted_set hun; omega) (hf.put ho hsz hlw v) hw fun j d hj hl hd => ?_)
      by_cases hji : j = i
      · subst hji
        rw [ho] at hd
        have hd : o.dst = some d := hd
        have : (a.put o.dst v).eval (.tmp d) = v := by
          rw [hd]
          have hlt : d < a.tmps.size := by rw [hf.size]; exact (hdst d hd).1
          simp [Act.eval, Act.put, hlt]
        rw [this]
        exact hv
      · have hne : ∀ d', o.dst = some d' → d ≠ d' := by
          rintro d' hd' rfl
          rcases Nat.lt_or_gt_of_ne hji with h | h
          · exact (hdst d hd').2 j h hd
          · have hoj : ops[j]? = some ops[j] := Array.getElem?_eq_getElem hj
            rw [hoj] at hd
            exact ((tidyw_at ht hoj).2 d hd).2 i h (by rw [ho]; exact hd')
        rw [Act.eval_put (by intro d' hd' e; injection e with e; exact hne d' hd' e)]
        rw [getD_set_ne true (Ne.symm hji)] at hl
        exact hV j d hj hl hd

/-- THE RULE, where some operations write. -/
theorem wp_region_writes {P : Program} {ops : Array Oper} {Q : Exit → Act → World → Prop} {a0 : Act} {w0 : World} (V : Nat → Value → Prop) (WI : Array Bool → World → Prop) {id : Nat} (hm : P.follows .mixedOrders = true)
    (ht : tidyw ops a0.tmps.size = true) (hw0 : WI (Array.replicate ops.size false) w0.drew) (steps : ∀ i, i < ops.size → StepW P ops Q a0 V WI i)
    (last : ∀ listed a w, Framed ops a0 a → WI listed w → (∀ j, j < ops.size → listed.getD j true = true) → Q .normal a w) :
    (Code.region id ops true).wp P Q a0 w0 := by
  refine wp_region_any hm ?_
  refine wpAny_writes ht steps last _ _ _ _ (by simp) ?_ ?_ hw0 ?_
  · simp [unlisted]
  · refine ⟨rfl, rfl, fun _ _ => rfl, fun j o hj hl => ?_⟩
    have hlt := (Array.getElem?_eq_some_iff.1 hj).1
    simp [hlt] at hl
  · intro j d hj hl
    simp [hj] at hl

theorem StepW.by {P : Program} {ops : Array Oper} {Q : Exit → Act → World → Prop} {a0 : Act} {V : Nat → Value → Prop} {WI : Array Bool → World → Prop} {i : Nat} {o : Oper} (ho : ops[i]? = some o) (hg : o.guard = none)
    (h : ∀ (listed : Array Bool) a w, FramedAt ops i a0 a → WI listed w → listed.size = ops.size → (∀ j, waits o j = true → listed.getD j true = true) → (∀ j u, ops[j]? = some u → waits u i = true → listed.getD j true = false) → (∀ j d, waits o j = true → (ops[j]?).bind (·.dst) = some d → V j (a.eval (.tmp d))) →
      Does P o a w (fun v w' => V i v ∧ WI (listed.setIfInBounds i true) w')) : StepW P ops Q a0 V WI i := by
  intro o' ho' listed a w hf hw hsz hun hlw hno hd K hK
  have e : o = o' := Option.some.inj (ho.symm.trans ho')
  subst e
  have hwant : Region.wanted o (yielded ops a.tmps) = true := by unfold Region.wanted; rw [hg]
  rw [if_pos hwant]
  unfold Oper.wp
  rcases h listed a w hf hw hsz hlw hno hd with ⟨v, w', hr, hv, hw'⟩ | ⟨f, args, w', hr, hc⟩
  · rw [hr]
    exact hK v w' hv hw'
  · rw [hr]
    refine Calls.mono hc ?_
    rintro e w'' ⟨r, rfl, hv, hw''⟩
    exact hK r w'' hv hw''
theorem StepW.skip {P : Program} {ops : Array Oper} {Q : Exit → Act → World → Prop} {a0 : Act} {V : Nat → Value → Prop} {WI : Array Bool → World → Prop} {i : Nat} {o : Oper} (ho : ops[i]? = some o) (hg : o.guard = none)
    (h : ∀ (listed : Array Bool) a w, FramedAt ops i a0 a → WI listed w → listed.size = ops.size → (∀ j, waits o j = true → listed.getD j true = true) → (∀ j u, ops[j]? = some u → waits u i = true → listed.getD j true = false) → (∀ j d, waits o j = true → (ops[j]?).bind (·.dst) = some d → V j (a.eval (.tmp d))) → listed.getD i true = false →
      ∃ w', (execOp a.eval o).run P w = .ok .skip w' ∧ V i undef ∧ WI (listed.setIfInBounds i true) w') : StepW P ops Q a0 V WI i := by
  intro o' ho' listed a w hf hw hsz hun hlw hno hd K hK
  have e : o = o' := Option.some.inj (ho.symm.trans ho')
  subst e
  have hwant : Region.wanted o (yielded ops a.tmps) = true := by unfold Region.wanted; rw [hg]
  rw [if_pos hwant]
  unfold Oper.wp
  obtain ⟨w', hr, hv, hw'⟩ := h listed a w hf hw hsz hlw hno hd hun
  rw [hr]
  exact hK undef w' hv hw'
end Go.Proofs.Ytlegjdlmcphhlab
/-
  WHAT SINGLE OPERATIONS DO, further: fields of an act.
-/
namespace Go.Proofs.Ytlegjdlmcphhlab
open Go.RowKit

section
variable {a : Act} {w : World} {R : Value → World → Prop} {d : Option Tmp} {ty : TypeId} {pos : String} {af : Array Edge} {g : Option (Nat × Bool)}
theorem run_neqE {ρ : Operand → Value} {x y : Operand} {b c : Int} (hx : ρ x = .int .i64 b) (hy : ρ y = .int .i64 c) : (execOp ρ ⟨d, .binOp .neq 27 x y 27, ty, pos, af, g⟩).run Try.prog w = .ok (.value (.bool (b != c))) w := by
  simp [execOp, hx, hy, go_sem, bne]
theorem run_eqE {ρ : Operand → Value} {x y : Operand} {b c : Int} (hx : ρ x = .int .i64 b) (hy : ρ y = .int .i64 c) : (execOp ρ ⟨d, .binOp .eql 27 x y 27, ty, pos, af, g⟩).run Try.prog w = .ok (.value (.bool (b == c))) w := by
  simp [execOp, hx, hy, go_sem]
theorem run_fieldA {ρ : Operand → Value} {x : Operand} {s k : Nat} (hx : ρ x = .pointer (some ⟨s, 0, none⟩)) (hk : k < 7) : (execOp ρ ⟨d, .fieldAddr 26 x k, ty, pos, af, g⟩).run Try.prog w = .ok (.value (.pointer (some ⟨s, k, none⟩))) w := by
  match k, hk with
  | 0, _ => simp [execOp, hx, go_sem]
  | 1, _ => simp [execOp, hx, go_sem]
  | 2, _ => simp [execOp, hx, go_sem]
  | 3, _ => simp [execOp, hx, go_sem]
  | 4, _ => simp [execOp, hx, go_sem]
  | 5, _ => simp [execOp, hx, go_sem]
  | 6, _ => simp [execOp, hx, go_sem]
theorem run_load3 {ρ : Operand → Value} {x : Operand} {p : Addr} {i : Int} (hx : ρ x = .pointer (some p)) (hc : w.cell? p = some (.int .i64 i)) : (execOp ρ ⟨d, .load 3 x, ty, pos, af, g⟩).run Try.prog w = .ok (.value (.int .i64 i)) w := by
  simp [execOp, hx, go_sem, hc]
theorem run_load9 {ρ : Operand → Value} {x : Operand} {p : Addr} {s : ByteArray} (hx : ρ x = .pointer (some p)) (hc : w.cell? p = some (.string s)) : (execOp ρ ⟨d, .load 9 x, ty, pos, af, g⟩).run Try.prog w = .ok (.value (.string s)) w := by
  simp [execOp, hx, go_sem, hc]
theorem does_neqE {x y : Operand} {b c : Int} (hx : a.eval x = .int .i64 b) (hy : a.eval y = .int .i64 c) (h : R (.bool (b != c)) w) : Does Try.prog ⟨d, .binOp .neq 27 x y 27, ty, pos, af, g⟩ a w R := .inl ⟨_, _, run_neqE hx hy, h⟩
theorem does_fieldA {x : Operand} {s k : Nat} (hx : a.eval x = .pointer (some ⟨s, 0, none⟩)) (hk : k < 7) (h : R (.pointer (some ⟨s, k, none⟩)) w) : Does Try.prog ⟨d, .fieldAddr 26 x k, ty, pos, af, g⟩ a w R := .inl ⟨_, _, run_fieldA hx hk, h⟩
theorem does_load3 {x : Operand} {p : Addr} {i : Int} (hx : a.eval x = .pointer (some p)) (hc : w.cell? p = some (.int .i64 i)) (h : R (.int .i64 i) w) : Does Try.prog ⟨d, .load 3 x, ty, pos, af, g⟩ a w R := .inl ⟨_, _, run_load3 hx hc, h⟩
theorem does_load9 {x : Operand} {p : Addr} {s : ByteArray} (hx : a.eval x = .pointer (some p)) (hc : w.cell? p = some (.string s)) (h : R (.string s) w) : Does Try.prog ⟨d, .load 9 x, ty, pos, af, g⟩ a w R := .inl ⟨_, _, run_load9 hx hc, h⟩
end
end Go.Proofs.Ytlegjdlmcphhlab
/-
  THE FRAME behind a region that draws its order, written out.
-/
namespace Go.Proofs.Ytlegjdlmcphhlab
open Go.RowKit

/-- the frame behind a region: slots for which wr is true hold something -/
def overL (wr : Nat → Bool) (a : Act) : Nat → List Value → List Value
  | _, [] => []
  | t, v :: vs => (match wr t with | true => a.eval (.tmp t) | false => v) :: overL wr a (t + 1) vs
theorem overL_len (wr : Nat → Bool) (a : Act) : ∀ (l : List Value) (t : Nat), (overL wr a t l).length = l.length
  | [], _ => rfl
  | _ :: l, t => by simp [overL, overL_len wr a l (t + 1)]
theorem overL_get (wr : Nat → Bool) (a : Act) : ∀ (l : List Value) (t i : Nat) (v : Value), l[i]? = some v → (overL wr a t l)[i]? = some (match wr (t + i) with | true => a.eval (.tmp (t + i)) | false => v)
  | [], _, _, _, h => by cases h
  | x :: l, t, 0, v, h => by
    simp at h
    subst h
    simp [overL]
  | x :: l, t, i + 1, v, h => by
    simp only [List.getElem?_cons_succ] at h
    have := overL_get wr a l (t + 1) i v h
    simp only [overL, List.getElem?_cons_succ]
    rw [this, show t + 1 + i = t + (i + 1) by omega]
theorem Framed.lit {ops : Array Oper} {a0 a : Act} (hf : Framed ops a0 a) (wr : Nat → Bool) (hw : (ops.all fun o => match o.dst with | some d => wr d | none => true) = true) : a = ⟨(overL wr a 0 a0.tmps.toList).toArray, a0.defers⟩ := by
  have hs : a.tmps = (overL wr a 0 a0.tmps.toList).toArray := by
    apply Array.ext_getElem?
    intro i
    have hr : (overL wr a 0 a0.tmps.toList).toArray[i]? = (overL wr a 0 a0.tmps.toList)[i]? := by simp
    rw [hr]
    rcases Nat.lt_or_ge i a0.tmps.size with hi | hi
    · have h0 : a0.tmps.toList[i]? = some a0.tmps[i] := by rw [Array.getElem?_toList]; exact Array.getElem?_eq_getElem hi
      rw [overL_get wr a _ 0 i _ h0, Nat.zero_add]
      have hi' : i < a.tmps.size := by rw [hf.size]; exact hi
      have hev : a.eval (.tmp i) = a.tmps[i] := by simp [Act.eval, hi']
      rw [Array.getElem?_eq_getElem hi']
      cases hwi : wr i with
      | true => rw [← hev]
      | false =>
        have hap : apart ops i = true := by
          unfold apart
          rw [Array.all_eq_true_iff_forall_mem] at hw ⊢
          intro o ho
          have := hw o ho
          cases hd : o.dst with
          | none => rfl
          | some d =>
            rw [hd] at this
            simp only at this
            simp only [bne_iff_ne, ne_eq, Option.some.injEq]
            intro e
            subst e
            rw [hwi] at this
            cases this
        have := hf.keeps i hap
        rw [hev] at this
        rw [this]
        simp [Act.eval, hi]
    · rw [Array.getElem?_eq_none (by rw [hf.size]; exact hi), List.getElem?_eq_none (by rw [overL_len]; simpa using hi)]
  have hd := hf.defers
  cases a
  simp only at hs hd
  subst hd
  rw [Act.mk.injEq]
  exact ⟨hs, rfl⟩

end Go.Proofs.Ytlegjdlmcphhlab
/-
  PACKAGE logs: Turn.
-/
namespace Go.Proofs.Ytlegjdlmcphhlab
open Go.RowKit

theorem run_callV {P : Program} {ρ : Operand → Value} {w : World} {d : Option Tmp} {ty : TypeId} {pos : String} {af : Array Edge} {g : Option (Nat × Bool)} {f : FuncId} {c : Operand} {caps : Array Value} {x : Operand} {u : Value} {ts : Array TypeId} (hcf : Enters P f) (hfn : ρ c = .func (.func f) #[] caps) (hx : ρ x = u) :
    (execOp ρ ⟨d, .call { callee := .value c, args := #[x], argTypes := ts }, ty, pos, af, g⟩).run P w = .ok (.enter f (#[u] ++ caps)) w := by
  simp [execOp, resolve, invoke, hcf.out, hfn, hx, go_sem]
theorem does_callV {P : Program} {a : Act} {w : World} {R : Value → World → Prop} {d : Option Tmp} {ty : TypeId} {pos : String} {af : Array Edge} {g : Option (Nat × Bool)} {f : FuncId} {c : Operand} {caps : Array Value} {x : Operand} {u : Value} {ts : Array TypeId} (hcf : Enters P f) (hfn : a.eval c = .func (.func f) #[] caps) (hx : a.eval x = u) (h : Calls P f (#[u] ++ caps) w fun e w'' => ∃ r, e = .returned r ∧ R r w'') :
    Does P ⟨d, .call { callee := .value c, args := #[x], argTypes := ts }, ty, pos, af, g⟩ a w R := .inr ⟨f, _, w, run_callV hcf hfn hx, h⟩
theorem run_store3 {ρ : Operand → Value} {w : World} {d : Option Tmp} {ty : TypeId} {pos : String} {af : Array Edge} {g : Option (Nat × Bool)} {x y : Operand} {p : Addr} {i : Int} (hx : ρ x = .pointer (some p)) (hy : ρ y = .int .i64 i) {u : Value} (hc : w.cell? p = some u) (hf : w.frozen? p = false) :
    (execOp ρ ⟨d, .store 3 x y, ty, pos, af, g⟩).run Try.prog w = .ok .skip (w.setCell p (.int .i64 i)) := by
  simp [execOp, hx, hy, go_sem, hc, hf]

/-- the world, behind some of the stores -/
def stw (W : World) (s : Nat) (F D T : Int) (b1 b2 b3 : Bool) : World :=
  let w1 := if b1 then W.setCell ⟨s, 1, none⟩ (.int .i64 F) else W
  let w2 := if b2 then w1.setCell ⟨s, 2, none⟩ (.int .i64 D) else w1
  if b3 then w2.setCell ⟨s, 4, none⟩ (.int .i64 T) else w2
def WT (W : World) (s : Nat) (F D T : Int) (listed : Array Bool) (w : World) : Prop := w = stw W s F D T (listed.getD 13 true) (listed.getD 15 true) (listed.getD 17 true)
def VT (s : Nat) (a : AV) (f t : Int) : Nat → Value → Prop
  | 0, v => v = .func (.func 46) #[] #[.pointer (some ⟨s + 1, 0, none⟩), .pointer (some ⟨s + 2, 0, none⟩)]
  | 1, v => v = .pointer (some ⟨s, 1, none⟩)
  | 2, v => v = .int .i64 a.fid
  | 3, v => v = .int .i64 (turnI a.fid f t)
  | 4, v => v = .func (.func 46) #[] #[.pointer (some ⟨s + 1, 0, none⟩), .pointer (some ⟨s + 2, 0, none⟩)]
  | 5, v => v = .pointer (some ⟨s, 2, none⟩)
  | 6, v => v = .int .i64 a.dir
  | 7, v => v = .int .i64 (turnI a.dir f t)
  | 8, v => v = .func (.func 46) #[] #[.pointer (some ⟨s + 1, 0, none⟩), .pointer (some ⟨s + 2, 0, none⟩)]
  | 9, v => v = .pointer (some ⟨s, 4, none⟩)
  | 10, v => v = .int .i64 a.to
  | 11, v => v = .int .i64 (turnI a.to f t)
  | 12, v => v = .pointer (some ⟨s, 1, none⟩)
  | 14, v => v = .pointer (some ⟨s, 2, none⟩)
  | 16, v => v = .pointer (some ⟨s, 4, none⟩)
  | _, _ => True
theorem wt_same {W : World} {s : Nat} {F D T : Int} {listed : Array Bool} {w : World} (h : WT W s F D T listed w) {i : Nat} (h1 : i ≠ 13) (h2 : i ≠ 15) (h3 : i ≠ 17) : WT W s F D T (listed.setIfInBounds i true) w := by
  unfold WT at h ⊢
  rw [getD_set_ne true h1, getD_set_ne true h2, getD_set_ne true h3]
  exact h
theorem stw_cell {W : World} {s : Nat} {F D T : Int} {b1 b2 b3 : Bool} {q : Nat} (hq : q ≠ s) (o : Nat) : (stw W s F D T b1 b2 b3).cell? ⟨q, o, none⟩ = W.cell? ⟨q, o, none⟩ := by
  have hh : (stw W s F D T b1 b2 b3).heap[q]? = W.heap[q]? := by
    have h : ∀ (W : World) (k : Nat) (u : Value), (W.setCell ⟨s, k, none⟩ u).heap[q]? = W.heap[q]? := fun W k u => Below.heap_setCell _ _ _ _ (by exact hq)
    unfold stw
    cases b1 <;> cases b2 <;> cases b3 <;> simp only [if_true, if_false, Bool.false_eq_true, h]
  simp [World.cell?, hh]
theorem stw_heap {W : World} {s : Nat} {F D T : Int} {b1 b2 b3 : Bool} {q : Nat} (hq : q ≠ s) : (stw W s F D T b1 b2 b3).heap[q]? = W.heap[q]? := by
  have h : ∀ (W : World) (k : Nat) (u : Value), (W.setCell ⟨s, k, none⟩ u).heap[q]? = W.heap[q]? := fun W k u => Below.heap_setCell _ _ _ _ (by exact hq)
  unfold stw
  cases b1 <;> cases b2 <;> cases b3 <;> simp only [if_true, if_false, Bool.false_eq_true, h]
theorem stw_below {B : Nat} {a W : World} (h : Below B a W) {s : Nat} (hs : B ≤ s) (F D T : Int) : Below B a (stw W s F D T true true true) :=
  ((h.setCell (p := ⟨s, 1, none⟩) hs _).setCell (p := ⟨s, 2, none⟩) hs _).setCell (p := ⟨s, 4, none⟩) hs _
theorem stw_own {w : World} {B : Nat} {e : TypeId} {k : Nat} {v : Value} {n : Nat} {xs : List Value} (h : w.ownsRow B e k v n xs) {s : Nat} (hs : s < B) (F D T : Int) : (stw w s F D T true true true).ownsRow B e k v n xs :=
  ownsRow_setCell_below (ownsRow_setCell_below (ownsRow_setCell_below h (a := ⟨s, 1, none⟩) hs _) (a := ⟨s, 2, none⟩) hs _) (a := ⟨s, 4, none⟩) hs _
theorem boxA_set1 {w : World} {s : Nat} {a : AV} (h : BoxA w s a) (k : Int) : BoxA (w.setCell ⟨s, 1, none⟩ (.int .i64 k)) s ⟨a.kind, k, a.dir, a.name, a.to, a.toName, a.dA, a.dn, a.dc⟩ := by
  unfold BoxA at h ⊢; rw [heap_setCell_same _ _ _ _ _ _ h]; rfl
theorem boxA_set2 {w : World} {s : Nat} {a : AV} (h : BoxA w s a) (k : Int) : BoxA (w.setCell ⟨s, 2, none⟩ (.int .i64 k)) s ⟨a.kind, a.fid, k, a.name, a.to, a.toName, a.dA, a.dn, a.dc⟩ := by
  unfold BoxA at h ⊢; rw [heap_setCell_same _ _ _ _ _ _ h]; rfl
theorem boxA_set4 {w : World} {s : Nat} {a : AV} (h : BoxA w s a) (k : Int) : BoxA (w.setCell ⟨s, 4, none⟩ (.int .i64 k)) s ⟨a.kind, a.fid, a.dir, a.name, k, a.toName, a.dA, a.dn, a.dc⟩ := by
  unfold BoxA at h ⊢; rw [heap_setCell_same _ _ _ _ _ _ h]; rfl
set_option maxHeartbeats 2000000 in
theorem put7_box {w : World} {s : Nat} {v : AV} (h : BoxA w s v) (x : AV) : BoxA (put7 w s 0 x) s x := by
  unfold BoxA at h ⊢
  have e0 := heap_setCell_same w s 0 _ 26 (.int .i64 x.kind) h
  have e1 := heap_setCell_same _ s 1 _ 26 (.int .i64 x.fid) e0
  have e2 := heap_setCell_same _ s 2 _ 26 (.int .i64 x.dir) e1
  have e3 := heap_setCell_same _ s 3 _ 26 (.string x.name) e2
  have e4 := heap_setCell_same _ s 4 _ 26 (.int .i64 x.to) e3
  have e5 := heap_setCell_same _ s 5 _ 26 (.string x.toName) e4
  exact heap_setCell_same _ s 6 _ 26 (.slice x.dA x.dn x.dc) e5
theorem put7_other {w : World} {s t : Nat} (ht : t ≠ s) (o : Nat) (x : AV) : (put7 w s o x).heap[t]? = w.heap[t]? := by
  have h : ∀ (W : World) (k : Nat) (u : Value), (W.setCell ⟨s, k, none⟩ u).heap[t]? = W.heap[t]? := fun W k u => Below.heap_setCell _ _ _ _ (by exact ht)
  simp only [put7, h]
theorem turn_start (w : World) (a : AV) (f t : Int) : ∀ W, W = (((w.alloc (.cells #[.int .i64 a.kind, .int .i64 a.fid, .int .i64 a.dir, .string a.name, .int .i64 a.to, .string a.toName, .slice a.dA a.dn a.dc] 26)).alloc (.cells #[.int .i64 f] 3)).alloc (.cells #[.int .i64 t] 3)).alloc (.cells #[.int .i64 0, .int .i64 0, .int .i64 0, .string ⟨#[]⟩, .int .i64 0, .string ⟨#[]⟩, .slice none 0 0] 26) →
    Below w.heap.size w W ∧ BoxA W w.heap.size a ∧ W.heap[w.heap.size + 1]? = some (.cells #[.int .i64 f] 3 (0, 0)) ∧ W.heap[w.heap.size + 2]? = some (.cells #[.int .i64 t] 3 (0, 0)) ∧ BoxA W (w.heap.size + 3) AV.zero ∧ W.heap.size = w.heap.size + 4 := by
  rintro W rfl
  refine ⟨((((Below.refl _ _).alloc (Nat.le_refl _) _).alloc (by simp) _).alloc (by simp; omega) _).alloc (by simp; omega) _, (((BoxA.new w a).alloc _).alloc _).alloc _, ?_, ?_, ?_, by simp⟩
  · rw [Below.heap_alloc _ _ _ (by simp), Below.heap_alloc _ _ _ (by simp)]
    have := heap_alloc_new (w.alloc (.cells #[.int .i64 a.kind, .int .i64 a.fid, .int .i64 a.dir, .string a.name, .int .i64 a.to, .string a.toName, .slice a.dA a.dn a.dc] 26)) (.cells #[.int .i64 f] 3)
    simpa using this
  · rw [Below.heap_alloc _ _ _ (by simp)]
    have := heap_alloc_new ((w.alloc (.cells #[.int .i64 a.kind, .int .i64 a.fid, .int .i64 a.dir, .string a.name, .int .i64 a.to, .string a.toName, .slice a.dA a.dn a.dc] 26)).alloc (.cells #[.int .i64 f] 3)) (.cells #[.int .i64 t] 3)
    simpa using this
  · unfold BoxA
    have := heap_alloc_new (((w.alloc (.cells #[.int .i64 a.kind, .int .i64 a.fid, .int .i64 a.dir, .string a.name, .int .i64 a.to, .string a.toName, .slice a.dA a.dn a.dc] 26)).alloc (.cells #[.int .i64 f] 3)).alloc (.cells #[.int .i64 t] 3)) (.cells #[.int .i64 0, .int .i64 0, .int .i64 0, .string ⟨#[]⟩, .int .i64 0, .string ⟨#[]⟩, .slice none 0 0] 26)
    simpa [AV.zero] using this
theorem stw_box {w : World} {s : Nat} {a : AV} (h : BoxA w s a) (F D T : Int) : BoxA (stw w s F D T true true true) s ⟨a.kind, F, D, a.name, T, a.toName, a.dA, a.dn, a.dc⟩ := boxA_set4 (boxA_set2 (boxA_set1 h F) D) T
/-- an act, turned -/
def turnA (x : M.Act) (f t : Int) : M.Act := ⟨x.kind, turnI x.fid f t, turnI x.dir f t, x.name, turnI x.to f t, x.toName, x.data⟩
def opsT : Array Oper := #[⟨some 11, .move (.tmp 7), 76, "logs.go:55", #[], none⟩, ⟨some 12, .fieldAddr 26 (.tmp 3) 1, 0, "logs.go:55", #[], none⟩, ⟨some 13, .load 3 (.tmp 12), 3, "logs.go:55", #[⟨1, .data⟩], none⟩, ⟨some 14, .call { callee := .value (.tmp 11), args := #[.tmp 13], argTypes := #[3] }, 3, "logs.go:55", #[⟨0, .data⟩, ⟨2, .data⟩], none⟩, ⟨some 15, .move (.tmp 7), 76, "logs.go:55", #[], none⟩, ⟨some 16, .fieldAddr 26 (.tmp 3) 2, 0, "logs.go:55", #[], none⟩, ⟨some 17, .load 3 (.tmp 16), 3, "logs.go:55", #[⟨5, .data⟩], none⟩, ⟨some 18, .call { callee := .value (.tmp 15), args := #[.tmp 17], argTypes := #[3] }, 3, "logs.go:55", #[⟨4, .data⟩, ⟨6, .data⟩, ⟨3, .chain⟩], none⟩, ⟨some 19, .move (.tmp 7), 76, "logs.go:55", #[], none⟩, ⟨some 20, .fieldAddr 26 (.tmp 3) 4, 0, "logs.go:55", #[], none⟩, ⟨some 21, .load 3 (.tmp 20), 3, "logs.go:55", #[⟨9, .data⟩], none⟩, ⟨some 22, .call { callee := .value (.tmp 19), args := #[.tmp 21], argTypes := #[3] }, 3, "logs.go:55", #[⟨8, .data⟩, ⟨10, .data⟩, ⟨7, .chain⟩], none⟩, ⟨some 23, .fieldAddr 26 (.tmp 3) 1, 0, "logs.go:55", #[⟨0, .phase⟩, ⟨1, .phase⟩, ⟨2, .phase⟩, ⟨3, .phase⟩, ⟨4, .textOnly .lateStores⟩, ⟨5, .phase⟩, ⟨6, .phase⟩, ⟨7, .textOnly .lateStoresUnsure⟩, ⟨8, .textOnly .lateStores⟩, ⟨9, .phase⟩, ⟨10, .phase⟩, ⟨11, .textOnly .lateStoresUnsure⟩], none⟩, ⟨none, .store 3 (.tmp 23) (.tmp 14), 0, "logs.go:55", #[⟨12, .data⟩, ⟨3, .data⟩, ⟨11, .chain⟩, ⟨0, .phase⟩, ⟨1, .phase⟩, ⟨2, .phase⟩, ⟨3, .phase⟩, ⟨4, .textOnly .lateStores⟩, ⟨5, .phase⟩, ⟨6, .phase⟩, ⟨7, .textOnly .lateStoresUnsure⟩, ⟨8, .textOnly .lateStores⟩, ⟨9, .phase⟩, ⟨10, .phase⟩, ⟨11, .textOnly .lateStoresUnsure⟩], none⟩, ⟨some 24, .fieldAddr 26 (.tmp 3) 2, 0, "logs.go:55", #[⟨0, .phase⟩, ⟨1, .phase⟩, ⟨2, .phase⟩, ⟨3, .phase⟩, ⟨4, .phase⟩, ⟨5, .phase⟩, ⟨6, .phase⟩, ⟨7, .phase⟩, ⟨8, .textOnly .lateStores⟩, ⟨9, .phase⟩, ⟨10, .phase⟩, ⟨11, .textOnly .lateStoresUnsure⟩, ⟨12, .phase⟩, ⟨13, .phase⟩], none⟩, ⟨none, .store 3 (.tmp 24) (.tmp 18), 0, "logs.go:55", #[⟨14, .data⟩, ⟨7, .data⟩, ⟨13, .chain⟩, ⟨0, .phase⟩, ⟨1, .phase⟩, ⟨2, .phase⟩, ⟨3, .phase⟩, ⟨4, .phase⟩, ⟨5, .phase⟩, ⟨6, .phase⟩, ⟨7, .phase⟩, ⟨8, .textOnly .lateStores⟩, ⟨9, .phase⟩, ⟨10, .phase⟩, ⟨11, .textOnly .lateStoresUnsure⟩, ⟨12, .phase⟩, ⟨13, .phase⟩], none⟩, ⟨some 25, .fieldAddr 26 (.tmp 3) 4, 0, "logs.go:55", #[⟨0, .phase⟩, ⟨1, .phase⟩, ⟨2, .phase⟩, ⟨3, .phase⟩, ⟨4, .phase⟩, ⟨5, .phase⟩, ⟨6, .phase⟩, ⟨7, .phase⟩, ⟨8, .phase⟩, ⟨9, .phase⟩, ⟨10, .phase⟩, ⟨11, .phase⟩, ⟨12, .phase⟩, ⟨13, .phase⟩, ⟨14, .phase⟩, ⟨15, .phase⟩], none⟩, ⟨none, .store 3 (.tmp 25) (.tmp 22), 0, "logs.go:55", #[⟨16, .data⟩, ⟨11, .data⟩, ⟨15, .chain⟩, ⟨0, .phase⟩, ⟨1, .phase⟩, ⟨2, .phase⟩, ⟨3, .phase⟩, ⟨4, .phase⟩, ⟨5, .phase⟩, ⟨6, .phase⟩, ⟨7, .phase⟩, ⟨8, .phase⟩, ⟨9, .phase⟩, ⟨10, .phase⟩, ⟨11, .phase⟩, ⟨12, .phase⟩, ⟨13, .phase⟩, ⟨14, .phase⟩, ⟨15, .phase⟩], none⟩]
set_option maxRecDepth 8000 in
set_option maxHeartbeats 1000000 in
theorem turn_region {Q : Exit → Act → World → Prop} {a0 : Act} {W2 : World} {s : Nat} {a1 : AV} {f t : Int} (hz : a0.tmps.size = 27) (h7 : a0.eval (.tmp 7) = .func (.func 46) #[] #[.pointer (some ⟨s + 1, 0, none⟩), .pointer (some ⟨s + 2, 0, none⟩)]) (h3 : a0.eval (.tmp 3) = .pointer (some ⟨s, 0, none⟩))
    (hb : BoxA W2 s a1) (cf : W2.cell? ⟨s + 1, 0, none⟩ = some (.int .i64 f)) (ct : W2.cell? ⟨s + 2, 0, none⟩ = some (.int .i64 t))
    (last : ∀ a', Framed opsT a0 a' → Q .normal a' (stw W2.drew s (turnI a1.fid f t) (turnI a1.dir f t) (turnI a1.to f t) true true true)) : (Code.region 3 opsT true).wp Try.prog Q a0 W2 := by
  obtain ⟨a0', a1', a2, a3, a4, a5, a6, af, az2⟩ := hb.facts
  have hcell : ∀ (b1 b2 b3 : Bool) (q : Nat), q ≠ s → ∀ o, (stw W2.drew s (turnI a1.fid f t) (turnI a1.dir f t) (turnI a1.to f t) b1 b2 b3).cell? ⟨q, o, none⟩ = W2.cell? ⟨q, o, none⟩ := fun b1 b2 b3 q hq o => stw_cell hq o
  have b0 : BoxA W2.drew s a1 := hb
  have hT1 : ∀ (W : World) (F : Int) (_ _ : Nat), W.cell? ⟨s + 1, 0, none⟩ = some (.int .i64 f) → W.cell? ⟨s + 2, 0, none⟩ = some (.int .i64 t) → Calls Try.prog 46 (#[.int .i64 F] ++ #[.pointer (some ⟨s + 1, 0, none⟩), .pointer (some ⟨s + 2, 0, none⟩)]) W fun e w'' => ∃ r, e = .returned r ∧ (r = .int .i64 (turnI F f t) ∧ w'' = W) := by
    intro W F _ _ h1 h2
    refine (turn1_any F f t (s + 1) (s + 2) W h1 h2).mono ?_
    rintro e w'' ⟨rfl, rfl⟩
    exact ⟨_, rfl, rfl, rfl⟩
  refine wp_region_writes (VT s a1 f t) (WT W2.drew s (turnI a1.fid f t) (turnI a1.dir f t) (turnI a1.to f t)) (by kernel_rfl) (by rw [hz]; kernel_rfl) (by unfold WT; rfl) ?_ ?_
  · intro i hi
    match i, hi with
    | 0, _ =>
      refine StepW.by rfl rfl fun listed a' W hf hw hsz hlw hno hd => ?_
      exact does_move ((hf.keeps 7 (by kernel_rfl)).trans h7) ⟨rfl, wt_same hw (by decide) (by decide) (by decide)⟩
    | 1, _ =>
      refine StepW.by rfl rfl fun listed a' W hf hw hsz hlw hno hd => ?_
      exact does_fieldA (s := s) ((hf.keeps 3 (by kernel_rfl)).trans h3) (by decide) ⟨rfl, wt_same hw (by decide) (by decide) (by decide)⟩
    | 2, _ =>
      refine StepW.by rfl rfl fun listed a' W hf hw hsz hlw hno hd => ?_
      have e0 : W = W2.drew := by rw [hw, hno 13 _ rfl (by kernel_rfl), hno 15 _ rfl (by kernel_rfl), hno 17 _ rfl (by kernel_rfl)]; rfl
      exact does_load3 (hd 1 12 (by kernel_rfl) rfl) (by rw [e0]; exact a1') ⟨rfl, wt_same hw (by decide) (by decide) (by decide)⟩
    | 3, _ =>
      refine StepW.by rfl rfl fun listed a' W hf hw hsz hlw hno hd => ?_
      have h1 : W.cell? ⟨s + 1, 0, none⟩ = some (.int .i64 f) := by rw [hw, hcell _ _ _ _ (by omega)]; exact cf
      have h2 : W.cell? ⟨s + 2, 0, none⟩ = some (.int .i64 t) := by rw [hw, hcell _ _ _ _ (by omega)]; exact ct
      refine does_callV (enters_of Try.func46 (by kernel_rfl) (by kernel_rfl)) (hd 0 11 (by kernel_rfl) rfl) (hd 2 13 (by kernel_rfl) rfl) ((hT1 W a1.fid 0 0 h1 h2).mono ?_)
      rintro e w'' ⟨r, rfl, rfl, rfl⟩
      exact ⟨_, rfl, rfl, wt_same hw (by decide) (by decide) (by decide)⟩
    | 4, _ =>
      refine StepW.by rfl rfl fun listed a' W hf hw hsz hlw hno hd => ?_
      exact does_move ((hf.keeps 7 (by kernel_rfl)).trans h7) ⟨rfl, wt_same hw (by decide) (by decide) (by decide)⟩
    | 5, _ =>
      refine StepW.by rfl rfl fun listed a' W hf hw hsz hlw hno hd => ?_
      exact does_fieldA (s := s) ((hf.keeps 3 (by kernel_rfl)).trans h3) (by decide) ⟨rfl, wt_same hw (by decide) (by decide) (by decide)⟩
    | 6, _ =>
      refine StepW.by rfl rfl fun listed a' W hf hw hsz hlw hno hd => ?_
      have e0 : W = W2.drew := by rw [hw, hno 13 _ rfl (by kernel_rfl), hno 15 _ rfl (by kernel_rfl), hno 17 _ rfl (by kernel_rfl)]; rfl
      exact does_load3 (hd 5 16 (by kernel_rfl) rfl) (by rw [e0]; exact a2) ⟨rfl, wt_same hw (by decide) (by decide) (by decide)⟩
    | 7, _ =>
      refine StepW.by rfl rfl fun listed a' W hf hw hsz hlw hno hd => ?_
      have h1 : W.cell? ⟨s + 1, 0, none⟩ = some (.int .i64 f) := by rw [hw, hcell _ _ _ _ (by omega)]; exact cf
      have h2 : W.cell? ⟨s + 2, 0, none⟩ = some (.int .i64 t) := by rw [hw, hcell _ _ _ _ (by omega)]; exact ct
      refine does_callV (enters_of Try.func46 (by kernel_rfl) (by kernel_rfl)) (hd 4 15 (by kernel_rfl) rfl) (hd 6 17 (by kernel_rfl) rfl) ((hT1 W a1.dir 0 0 h1 h2).mono ?_)
      rintro e w'' ⟨r, rfl, rfl, rfl⟩
      exact ⟨_, rfl, rfl, wt_same hw (by decide) (by decide) (by decide)⟩
    | 8, _ =>
      refine StepW.by rfl rfl fun listed a' W hf hw hsz hlw hno hd => ?_
      exact does_move ((hf.keeps 7 (by kernel_rfl)).trans h7) ⟨rfl, wt_same hw (by decide) (by decide) (by decide)⟩
    | 9, _ =>
      refine StepW.by rfl rfl fun listed a' W hf hw hsz hlw hno hd => ?_
      exact does_fieldA (s := s) ((hf.keeps 3 (by kernel_rfl)).trans h3) (by decide) ⟨rfl, wt_same hw (by decide) (by decide) (by decide)⟩
    | 10, _ =>
      refine StepW.by rfl rfl fun listed a' W hf hw hsz hlw hno hd => ?_
      have e0 : W = W2.drew := by rw [hw, hno 13 _ rfl (by kernel_rfl), hno 15 _ rfl (by kernel_rfl), hno 17 _ rfl (by kernel_rfl)]; rfl
      exact does_load3 (hd 9 20 (by kernel_rfl) rfl) (by rw [e0]; exact a4) ⟨rfl, wt_same hw (by decide) (by decide) (by decide)⟩
    | 11, _ =>
      refine StepW.by rfl rfl fun listed a' W hf hw hsz hlw hno hd => ?_
      have h1 : W.cell? ⟨s + 1, 0, none⟩ = some (.int .i64 f) := by rw [hw, hcell _ _ _ _ (by omega)]; exact cf
      have h2 : W.cell? ⟨s + 2, 0, none⟩ = some (.int .i64 t) := by rw [hw, hcell _ _ _ _ (by omega)]; exact ct
      refine does_callV (enters_of Try.func46 (by kernel_rfl) (by kernel_rfl)) (hd 8 19 (by kernel_rfl) rfl) (hd 10 21 (by kernel_rfl) rfl) ((hT1 W a1.to 0 0 h1 h2).mono ?_)
      rintro e w'' ⟨r, rfl, rfl, rfl⟩
      exact ⟨_, rfl, rfl, wt_same hw (by decide) (by decide) (by decide)⟩
    | 12, _ =>
      refine StepW.by rfl rfl fun listed a' W hf hw hsz hlw hno hd => ?_
      exact does_fieldA (s := s) ((hf.keeps 3 (by kernel_rfl)).trans h3) (by decide) ⟨rfl, wt_same hw (by decide) (by decide) (by decide)⟩
    | 13, _ =>
      refine StepW.skip rfl rfl fun listed a' W hf hw hsz hlw hno hd hself => ?_
      have hin : 13 < listed.size := by rw [hsz]; decide
      have e0 : W = stw W2.drew s (turnI a1.fid f t) (turnI a1.dir f t) (turnI a1.to f t) false false false := by rw [hw, hself, hno 15 _ rfl (by kernel_rfl), hno 17 _ rfl (by kernel_rfl)]
      have bx := b0
      refine ⟨_, run_store3 (hd 12 23 (by kernel_rfl) rfl) (hd 3 14 (by kernel_rfl) rfl) (by rw [e0]; exact bx.facts.2.1) (by rw [e0]; exact bx.facts.2.2.2.2.2.2.2.1 _), trivial, ?_⟩
      unfold WT
      rw [getD_set_self hin, getD_set_ne true (by decide), getD_set_ne true (by decide), hno 15 _ rfl (by kernel_rfl), hno 17 _ rfl (by kernel_rfl)]
      rw [e0]
      rfl
    | 14, _ =>
      refine StepW.by rfl rfl fun listed a' W hf hw hsz hlw hno hd => ?_
      exact does_fieldA (s := s) ((hf.keeps 3 (by kernel_rfl)).trans h3) (by decide) ⟨rfl, wt_same hw (by decide) (by decide) (by decide)⟩
    | 15, _ =>
      refine StepW.skip rfl rfl fun listed a' W hf hw hsz hlw hno hd hself => ?_
      have hin : 15 < listed.size := by rw [hsz]; decide
      have e0 : W = stw W2.drew s (turnI a1.fid f t) (turnI a1.dir f t) (turnI a1.to f t) true false false := by rw [hw, hlw 13 (by kernel_rfl), hself, hno 17 _ rfl (by kernel_rfl)]
      have bx := boxA_set1 b0 (turnI a1.fid f t)
      refine ⟨_, run_store3 (hd 14 24 (by kernel_rfl) rfl) (hd 7 18 (by kernel_rfl) rfl) (by rw [e0]; exact bx.facts.2.2.1) (by rw [e0]; exact bx.facts.2.2.2.2.2.2.2.1 _), trivial, ?_⟩
      unfold WT
      rw [getD_set_ne true (by decide), getD_set_self hin, getD_set_ne true (by decide), hlw 13 (by kernel_rfl), hno 17 _ rfl (by kernel_rfl)]
      rw [e0]
      rfl
    | 16, _ =>
      refine StepW.by rfl rfl fun listed a' W hf hw hsz hlw hno hd => ?_
      exact does_fieldA (s := s) ((hf.keeps 3 (by kernel_rfl)).trans h3) (by decide) ⟨rfl, wt_same hw (by decide) (by decide) (by decide)⟩
    | 17, _ =>
      refine StepW.skip rfl rfl fun listed a' W hf hw hsz hlw hno hd hself => ?_
      have hin : 17 < listed.size := by rw [hsz]; decide
      have e0 : W = stw W2.drew s (turnI a1.fid f t) (turnI a1.dir f t) (turnI a1.to f t) true true false := by rw [hw, hlw 13 (by kernel_rfl), hlw 15 (by kernel_rfl), hself]
      have bx := boxA_set2 (boxA_set1 b0 (turnI a1.fid f t)) (turnI a1.dir f t)
      refine ⟨_, run_store3 (hd 16 25 (by kernel_rfl) rfl) (hd 11 22 (by kernel_rfl) rfl) (by rw [e0]; exact bx.facts.2.2.2.2.1) (by rw [e0]; exact bx.facts.2.2.2.2.2.2.2.1 _), trivial, ?_⟩
      unfold WT
      rw [getD_set_ne true (by decide), getD_set_ne true (by decide), getD_set_self hin, hlw 13 (by kernel_rfl), hlw 15 (by kernel_rfl)]
      rw [e0]
      rfl
    | k + 18, hi => exact absurd hi (Nat.not_lt.2 (Nat.le_add_left _ _))
  · intro listed a' W hf hw hl
    have hw2 : W = stw W2.drew s (turnI a1.fid f t) (turnI a1.dir f t) (turnI a1.to f t) true true true := by
      rw [hw, hl 13 (by decide), hl 15 (by decide), hl 17 (by decide)]
    rw [hw2]
    exact last a' hf

theorem stw_boxo {W : World} {s q : Nat} {a : AV} (h : BoxA W q a) (hq : q ≠ s) (F D T : Int) : BoxA (stw W s F D T true true true) q a := by
  unfold BoxA at h ⊢; rw [stw_heap hq]; exact h
theorem turn_end {w W2 : World} {a1 : AV} {x : M.Act} {f t : Int} (hb : Below w.heap.size w W2) (hx : BoxA W2 w.heap.size a1) (hz : BoxA W2 (w.heap.size + 3) AV.zero) (ho2 : OwnA W2 (w.heap.size + 4) a1 x) :
    ∀ W3, W3 = stw W2.drew w.heap.size (turnI a1.fid f t) (turnI a1.dir f t) (turnI a1.to f t) true true true →
      Below w.heap.size w W3 ∧ BoxA W3 w.heap.size ⟨a1.kind, turnI a1.fid f t, turnI a1.dir f t, a1.name, turnI a1.to f t, a1.toName, a1.dA, a1.dn, a1.dc⟩ ∧ BoxA W3 (w.heap.size + 3) AV.zero ∧ OwnA W3 (w.heap.size + 4) ⟨a1.kind, turnI a1.fid f t, turnI a1.dir f t, a1.name, turnI a1.to f t, a1.toName, a1.dA, a1.dn, a1.dc⟩ (turnA x f t) := by
  rintro W3 rfl
  have hdr : Below W2.heap.size W2 W2.drew := (Below.refl _ _).drew
  have ho := ho2.below (Nat.le_refl _) hdr
  refine ⟨stw_below (hb.trans (hdr.mono hb.size)) (Nat.le_refl _) _ _ _, stw_box (hx.below hdr (lt_of_block hx)) _ _ _, stw_boxo (hz.below hdr (lt_of_block hz)) (by omega) _ _ _, ?_⟩
  exact ⟨ho.1, by rw [ho.2.1]; rfl, by rw [ho.2.2.1]; rfl, ho.2.2.2.1, by rw [ho.2.2.2.2.1]; rfl, ho.2.2.2.2.2.1, stw_own ho.2.2.2.2.2.2 (by omega) _ _ _⟩
set_option maxRecDepth 8000 in
set_option maxHeartbeats 4000000 in
theorem turn_any (a : AV) (x : M.Act) (f t : Int) (w : World) (ha : ContA w a x) (hs : x.data.length ≤ 140737488355328) :
    Calls Try.prog 26 #[a.val, .int .i64 f, .int .i64 t] w fun e w' => ∃ a' : AV, e = .returned a'.val ∧ OwnA w' w.heap.size a' (turnA x f t) ∧ Below w.heap.size w w' := by
  have HA : Hid (ContA w a x) := ha
  have HW : Hid _ := turn_start w a f t
  clear ha
  go_enter Try.func26, Try.ntmps26
  go_wp2_with (fail)
  obtain ⟨q1, q2, q3, q4, q5, q6⟩ := HW.out _ rfl
  refine (ownAct_any a x _ (HA.out.below (Nat.le_refl _) q1) hs).mono ?_
  rintro e w1 ⟨a1, rfl, ho, hb1⟩
  have hz1 := hb1.size
  rw [q6] at hz1 ho
  have HB1 : Hid (Below w.heap.size w w1 ∧ BoxA w1 w.heap.size a ∧ w1.heap[w.heap.size + 1]? = some (.cells #[.int .i64 f] 3 (0, 0)) ∧ w1.heap[w.heap.size + 2]? = some (.cells #[.int .i64 t] 3 (0, 0)) ∧ BoxA w1 (w.heap.size + 3) AV.zero) := ⟨q1.trans (hb1.mono (by omega)), q2.below hb1 (by omega), by rw [hb1.block _ (by omega)]; exact q3, by rw [hb1.block _ (by omega)]; exact q4, q5.below hb1 (by omega)⟩
  have HO : Hid (OwnA w1 (w.heap.size + 4) a1 x) := ho
  obtain ⟨a0, a1', a2, a3, a4, a5, a6, af, az⟩ := HB1.out.2.1.facts
  clear q1 q2 q3 q4 q5 q6 hb1 HW ho
  go_upto_region 3 with (fail)
  have HW2 : Hid (Below w.heap.size w (put7 w1 w.heap.size 0 a1) ∧ BoxA (put7 w1 w.heap.size 0 a1) w.heap.size a1 ∧ (put7 w1 w.heap.size 0 a1).heap[w.heap.size + 1]? = some (.cells #[.int .i64 f] 3 (0, 0)) ∧ (put7 w1 w.heap.size 0 a1).heap[w.heap.size + 2]? = some (.cells #[.int .i64 t] 3 (0, 0)) ∧ BoxA (put7 w1 w.heap.size 0 a1) (w.heap.size + 3) AV.zero ∧ OwnA (put7 w1 w.heap.size 0 a1) (w.heap.size + 4) a1 x) := by
    refine ⟨put7_below HB1.out.1 (Nat.le_refl _) 0 a1, put7_box HB1.out.2.1 a1, by rw [put7_other (by omega)]; exact HB1.out.2.2.1, by rw [put7_other (by omega)]; exact HB1.out.2.2.2.1, ?_, ?_⟩
    · unfold BoxA; rw [put7_other (by omega)]; exact HB1.out.2.2.2.2
    · exact ⟨HO.out.1, HO.out.2.1, HO.out.2.2.1, HO.out.2.2.2.1, HO.out.2.2.2.2.1, HO.out.2.2.2.2.2.1, put7_own HO.out.2.2.2.2.2.2 (by omega) 0 a1⟩
  refine turn_region (s := w.heap.size) (a1 := a1) (f := f) (t := t) rfl rfl rfl HW2.out.2.1 (by simp [World.cell?, HW2.out.2.2.1]) (by simp [World.cell?, HW2.out.2.2.2.1]) ?_
  intro a' hf
  have HW3 : Hid _ := turn_end (f := f) (t := t) HW2.out.1 HW2.out.2.1 HW2.out.2.2.2.2.1 HW2.out.2.2.2.2.2
  have hl := hf.lit (fun t => decide (11 ≤ t) && decide (t ≤ 25)) (by kernel_rfl)
  simp only [overL, Nat.reduceAdd, Nat.reduceLeDiff, decide_true, decide_false, Bool.and_true, Bool.and_false] at hl
  have hE : ∃ W3, W3 = stw (put7 w1 w.heap.size 0 a1).drew w.heap.size (turnI a1.fid f t) (turnI a1.dir f t) (turnI a1.to f t) true true true := ⟨_, rfl⟩
  obtain ⟨W3, hW3⟩ := hE
  have HF3 : Hid _ := HW3.out W3 hW3
  rw [hl]
  show Exit.then _ _ Exit.normal _ (stw (put7 w1 w.heap.size 0 a1).drew w.heap.size (turnI a1.fid f t) (turnI a1.dir f t) (turnI a1.to f t) true true true)
  rw [← hW3]
  clear hl hf hW3 HW3 HW2 a0 a1' a2 a3 a4 a5 a6 af
  obtain ⟨b0, b1, b2, b3, b4, b5, b6, bf, bz⟩ := HF3.out.2.1.facts
  obtain ⟨z0, z1, z2, z3, z4, z5, z6, zf, zz⟩ := HF3.out.2.2.1.facts
  have HP : Hid (OwnA (put7 W3 (w.heap.size + 3) 0 ⟨a1.kind, turnI a1.fid f t, turnI a1.dir f t, a1.name, turnI a1.to f t, a1.toName, a1.dA, a1.dn, a1.dc⟩) w.heap.size ⟨a1.kind, turnI a1.fid f t, turnI a1.dir f t, a1.name, turnI a1.to f t, a1.toName, a1.dA, a1.dn, a1.dc⟩ (turnA x f t) ∧ Below w.heap.size w (put7 W3 (w.heap.size + 3) 0 ⟨a1.kind, turnI a1.fid f t, turnI a1.dir f t, a1.name, turnI a1.to f t, a1.toName, a1.dA, a1.dn, a1.dc⟩)) := by
    have ho := HF3.out.2.2.2
    exact ⟨⟨ho.1, ho.2.1, ho.2.2.1, ho.2.2.2.1, ho.2.2.2.2.1, ho.2.2.2.2.2.1, own_mono (put7_own ho.2.2.2.2.2.2 (by omega) 0 _) (Nat.le_add_right _ 4)⟩, put7_below HF3.out.1 (by omega) 0 _⟩
  generalize turnI a1.fid f t = F at *
  generalize turnI a1.dir f t = D at *
  generalize turnI a1.to f t = T at *
  go_wp2
  exact bodyPost_ret (v := AV.val ⟨a1.kind, F, D, a1.name, T, a1.toName, a1.dA, a1.dn, a1.dc⟩) (by simp [results, Try.results26, go_sem, z0, z1, z2, z3, z4, z5, z6]) rfl ⟨⟨a1.kind, F, D, a1.name, T, a1.toName, a1.dA, a1.dn, a1.dc⟩, rfl, HP.out.1, HP.out.2⟩
end Go.Proofs.Ytlegjdlmcphhlab
/-
  THE REFERENCE's Has and Turn.
-/
namespace Go.Proofs.Ytlegjdlmcphhlab
open Go.RowKit

theorem mem_take_step {fs : List Int} {k : Nat} {x t : Int} (h : fs[k]? = some x) (hne : x ≠ t) (hk : t ∉ fs.take k) : t ∉ fs.take (k + 1) := by
  have hl := (List.getElem?_eq_some_iff.1 h).1
  have e : fs[k] = x := by rw [List.getElem?_eq_getElem hl] at h; exact Option.some.inj h
  rw [List.take_succ_eq_append_getElem hl, e, List.mem_append, List.mem_singleton]
  rintro (h1 | h1)
  · exact hk h1
  · exact hne h1.symm
set_option maxHeartbeats 1000000 in
theorem refHas_any (A : Option Addr) (n c : Nat) (fs : List Int) (t : Int) (w : World) (B : Nat) (hv : w.ownsRow B 3 1 (.slice A n c) n (fs.map fun f => Value.int .i64 f)) (hn : n ≤ 140737488355328) :
    Calls Try.prog 44 #[.slice A n c, .int .i64 t] w fun e w' => e = .returned (.bool (decide (t ∈ fs))) ∧ w' = w := by
  have hrow : Row 1 (fun f : Int => [Value.int .i64 f]) w A n fs := Row.ofOwn (fun _ => rfl) (by decide) (by rw [fm_ints]; exact hv)
  have HR : Hid (Row 1 (fun f : Int => [Value.int .i64 f]) w A n fs) := hrow
  clear hv hrow
  go_enter Try.func44, Try.ntmps44
  go_wp2
  go_loop [9] (fun i => ∃ k : Nat, k ≤ n ∧ i = .int .i64 k ∧ Hid (t ∉ fs.take k)) (fun i => n - (intOf i).toNat)
  case atStart => exact ⟨0, Nat.zero_le _, rfl, by show t ∉ _; simp⟩
  case round =>
    obtain ⟨k, hk, rfl, HN⟩ := hrel
    by_cases hlt : k < n
    · obtain ⟨b, o, x, rfl, _, hx, hc⟩ := Row.at HR.out hlt
      have c0 := hc 0 _ rfl
      simp only [Nat.mul_one, Nat.add_zero] at c0
      have HX : Hid (fs[k]? = some x) := hx
      clear hx hc
      by_cases hxt : x = t
      · have q : (x == t) = true := by simp [hxt]
        have HM : Hid (decide (t ∈ fs) = true) := by show _ = _; rw [decide_eq_true_eq, ← hxt]; exact List.mem_of_getElem? HX.out
        clear hxt
        go_wp2
        go_ret
        exact ⟨ret_bool HM.out.symm, rfl⟩
      · have q : (x == t) = false := by simp [hxt]
        have HM : Hid (t ∉ fs.take (k + 1)) := mem_take_step HX.out hxt HN.out
        clear hxt
        go_wp2
        go_round
        case rel => exact ⟨k + 1, by omega, by go_num, HM⟩
        case measure => simp [intOf]; omega
    · have HM : Hid (decide (t ∈ fs) = false) := by
        show _ = _
        rw [decide_eq_false_iff_not]
        have h := HN.out
        rw [List.take_of_length_le (by rw [← HR.out.1]; omega)] at h
        exact h
      go_wp2
      go_ret
      exact ⟨ret_bool HM.out.symm, rfl⟩

theorem turnI_yes {f a b : Int} (h : f = a) : turnI f a b = b := by unfold turnI; rw [if_pos h]
theorem turnI_no {f a b : Int} (h : ¬ f = a) : turnI f a b = f := by unfold turnI; rw [if_neg h]
set_option maxRecDepth 4000 in
set_option maxHeartbeats 2000000 in
theorem refTurn_any (a : AV) (f t : Int) (w : World) :
    Calls Try.prog 24 #[a.val, .int .i64 f, .int .i64 t] w fun e w' => e = .returned (AV.val ⟨a.kind, turnI a.fid f t, turnI a.dir f t, a.name, turnI a.to f t, a.toName, a.dA, a.dn, a.dc⟩) ∧ Below w.heap.size w w' := by
  by_cases h0 : a.fid = f
  · by_cases h1 : a.dir = f
    · by_cases h2 : a.to = f
      · have k0 : (a.fid == f) = true := by simp [h0]
        have E0 : Hid (turnI a.fid f t = t) := turnI_yes h0
        have k1 : (a.dir == f) = true := by simp [h1]
        have E1 : Hid (turnI a.dir f t = t) := turnI_yes h1
        have k2 : (a.to == f) = true := by simp [h2]
        have E2 : Hid (turnI a.to f t = t) := turnI_yes h2
        clear h0 h1 h2
        go_enter Try.func24, Try.ntmps24
        go_wp2
        refine bodyPost_ret (v := AV.val ⟨a.kind, t, t, a.name, t, a.toName, a.dA, a.dn, a.dc⟩) (by simp [results, Try.results24, go_sem]) rfl ⟨by rw [E0.out, E1.out, E2.out], ?_⟩
        exact ((Below.refl _ _).alloc (Nat.le_refl _) _).alloc (by simp) _
      · have k0 : (a.fid == f) = true := by simp [h0]
        have E0 : Hid (turnI a.fid f t = t) := turnI_yes h0
        have k1 : (a.dir == f) = true := by simp [h1]
        have E1 : Hid (turnI a.dir f t = t) := turnI_yes h1
        have k2 : (a.to == f) = false := by simp [h2]
        have E2 : Hid (turnI a.to f t = a.to) := turnI_no h2
        clear h0 h1 h2
        go_enter Try.func24, Try.ntmps24
        go_wp2
        refine bodyPost_ret (v := AV.val ⟨a.kind, t, t, a.name, a.to, a.toName, a.dA, a.dn, a.dc⟩) (by simp [results, Try.results24, go_sem]) rfl ⟨by rw [E0.out, E1.out, E2.out], ?_⟩
        exact ((Below.refl _ _).alloc (Nat.le_refl _) _).alloc (by simp) _
    · by_cases h2 : a.to = f
      · have k0 : (a.fid == f) = true := by simp [h0]
        have E0 : Hid (turnI a.fid f t = t) := turnI_yes h0
        have k1 : (a.dir == f) = false := by simp [h1]
        have E1 : Hid (turnI a.dir f t = a.dir) := turnI_no h1
        have k2 : (a.to == f) = true := by simp [h2]
        have E2 : Hid (turnI a.to f t = t) := turnI_yes h2
        clear h0 h1 h2
        go_enter Try.func24, Try.ntmps24
        go_wp2
        refine bodyPost_ret (v := AV.val ⟨a.kind, t, a.dir, a.name, t, a.toName, a.dA, a.dn, a.dc⟩) (by simp [results, Try.results24, go_sem]) rfl ⟨by rw [E0.out, E1.out, E2.out], ?_⟩
        exact ((Below.refl _ _).alloc (Nat.le_refl _) _).alloc (by simp) _
      · have k0 : (a.fid == f) = true := by simp [h0]
        have E0 : Hid (turnI a.fid f t = t) := turnI_yes h0
        have k1 : (a.dir == f) = false := by simp [h1]
        have E1 : Hid (turnI a.dir f t = a.dir) := turnI_no h1
        have k2 : (a.to == f) = false := by simp [h2]
        have E2 : Hid (turnI a.to f t = a.to) := turnI_no h2
        clear h0 h1 h2
        go_enter Try.func24, Try.ntmps24
        go_wp2
        refine bodyPost_ret (v := AV.val ⟨a.kind, t, a.dir, a.name, a.to, a.toName, a.dA, a.dn, a.dc⟩) (by simp [results, Try.results24, go_sem]) rfl ⟨by rw [E0.out, E1.out, E2.out], ?_⟩
        exact ((Below.refl _ _).alloc (Nat.le_refl _) _).alloc (by simp) _
  · by_cases h1 : a.dir = f
    · by_cases h2 : a.to = f
      · have k0 : (a.fid == f) = false := by simp [h0]
        have E0 : Hid (turnI a.fid f t = a.fid) := turnI_no h0
        have k1 : (a.dir == f) = true := by simp [h1]
        have E1 : Hid (turnI a.dir f t = t) := turnI_yes h1
        have k2 : (a.to == f) = true := by simp [h2]
        have E2 : Hid (turnI a.to f t = t) := turnI_yes h2
        clear h0 h1 h2
        go_enter Try.func24, Try.ntmps24
        go_wp2
        refine bodyPost_ret (v := AV.val ⟨a.kind, a.fid, t, a.name, t, a.toName, a.dA, a.dn, a.dc⟩) (by simp [results, Try.results24, go_sem]) rfl ⟨by rw [E0.out, E1.out, E2.out], ?_⟩
        exact ((Below.refl _ _).alloc (Nat.le_refl _) _).alloc (by simp) _
      · have k0 : (a.fid == f) = false := by simp [h0]
        have E0 : Hid (turnI a.fid f t = a.fid) := turnI_no h0
        have k1 : (a.dir == f) = true := by simp [h1]
        have E1 : Hid (turnI a.dir f t = t) := turnI_yes h1
        have k2 : (a.to == f) = false := by simp [h2]
        have E2 : Hid (turnI a.to f t = a.to) := turnI_no h2
        clear h0 h1 h2
        go_enter Try.func24, Try.ntmps24
        go_wp2
        refine bodyPost_ret (v := AV.val ⟨a.kind, a.fid, t, a.name, a.to, a.toName, a.dA, a.dn, a.dc⟩) (by simp [results, Try.results24, go_sem]) rfl ⟨by rw [E0.out, E1.out, E2.out], ?_⟩
        exact ((Below.refl _ _).alloc (Nat.le_refl _) _).alloc (by simp) _
    · by_cases h2 : a.to = f
      · have k0 : (a.fid == f) = false := by simp [h0]
        have E0 : Hid (turnI a.fid f t = a.fid) := turnI_no h0
        have k1 : (a.dir == f) = false := by simp [h1]
        have E1 : Hid (turnI a.dir f t = a.dir) := turnI_no h1
        have k2 : (a.to == f) = true := by simp [h2]
        have E2 : Hid (turnI a.to f t = t) := turnI_yes h2
        clear h0 h1 h2
        go_enter Try.func24, Try.ntmps24
        go_wp2
        refine bodyPost_ret (v := AV.val ⟨a.kind, a.fid, a.dir, a.name, t, a.toName, a.dA, a.dn, a.dc⟩) (by simp [results, Try.results24, go_sem]) rfl ⟨by rw [E0.out, E1.out, E2.out], ?_⟩
        exact ((Below.refl _ _).alloc (Nat.le_refl _) _).alloc (by simp) _
      · have k0 : (a.fid == f) = false := by simp [h0]
        have E0 : Hid (turnI a.fid f t = a.fid) := turnI_no h0
        have k1 : (a.dir == f) = false := by simp [h1]
        have E1 : Hid (turnI a.dir f t = a.dir) := turnI_no h1
        have k2 : (a.to == f) = false := by simp [h2]
        have E2 : Hid (turnI a.to f t = a.to) := turnI_no h2
        clear h0 h1 h2
        go_enter Try.func24, Try.ntmps24
        go_wp2
        refine bodyPost_ret (v := AV.val ⟨a.kind, a.fid, a.dir, a.name, a.to, a.toName, a.dA, a.dn, a.dc⟩) (by simp [results, Try.results24, go_sem]) rfl ⟨by rw [E0.out, E1.out, E2.out], ?_⟩
        exact ((Below.refl _ _).alloc (Nat.le_refl _) _).alloc (by simp) _
end Go.Proofs.Ytlegjdlmcphhlab
/-
  PLAIN MATHEMATICS of chapter 4: what the reference's Add asks of a log, record by record.
-/
namespace Go.Proofs.Ytlegjdlmcphhlab
namespace M
/-- nothing yet; made here, by this name; something else was done -/
def stepS (a : Act) (st : Int) (x : Rec) : Int :=
  if st = 0 ∧ madeB a.fid x = true then (if x.act.dir = a.dir ∧ x.act.name = a.name then 1 else 2)
  else if st = 1 ∧ hinderB x.act a = true then 2 else st
def stateS (a : Act) (l : List Rec) : Int := l.foldl (stepS a) 0
theorem state_snoc (a : Act) (l : List Rec) (x : Rec) : stateS a (l ++ [x]) = stepS a (stateS a l) x := by unfold stateS; rw [List.foldl_append]; rfl
theorem fold_two (a : Act) : ∀ l : List Rec, l.foldl (stepS a) 2 = 2
  | [] => rfl
  | x :: l => by
    rw [List.foldl_cons]
    have h : stepS a 2 x = 2 := by unfold stepS; simp
    rw [h]; exact fold_two a l
theorem fold_one (a : Act) : ∀ l : List Rec, l.foldl (stepS a) 1 = if (l.any fun b => hinderB b.act a) then 2 else 1
  | [] => rfl
  | x :: l => by
    rw [List.foldl_cons, List.any_cons]
    by_cases hx : hinderB x.act a = true
    · have h : stepS a 1 x = 2 := by unfold stepS; simp [hx]
      rw [h, fold_two, hx]; rfl
    · have h : stepS a 1 x = 1 := by unfold stepS; simp [hx]
      rw [h, fold_one a l]
      have hx' : hinderB x.act a = false := by simpa using hx
      rw [hx', Bool.false_or]
theorem fold_cases (a : Act) : ∀ (l : List Rec) (st : Int), (st = 0 ∨ st = 1 ∨ st = 2) → (l.foldl (stepS a) st = 0 ∨ l.foldl (stepS a) st = 1 ∨ l.foldl (stepS a) st = 2)
  | [], st, h => h
  | x :: l, st, h => by
    rw [List.foldl_cons]
    refine fold_cases a l _ ?_
    unfold stepS
    split
    · split
      · exact .inr (.inl rfl)
      · exact .inr (.inr rfl)
    · split
      · exact .inr (.inr rfl)
      · exact h
theorem state_cases (a : Act) (l : List Rec) : stateS a l = 0 ∨ stateS a l = 1 ∨ stateS a l = 2 := fold_cases a l 0 (.inl rfl)
theorem state_undo (a : Act) (h4 : a.kind = 4) : ∀ l : List Rec, undoB l a = decide (stateS a l = 1)
  | [] => by unfold undoB stateS; simp
  | x :: l => by
    have ih := state_undo a h4 l
    unfold stateS
    rw [List.foldl_cons]
    by_cases hm : madeB a.fid x = true
    · have hf : (x :: l).findIdx? (madeB a.fid) = some 0 := by rw [List.findIdx?_cons, hm]; rfl
      unfold undoB
      rw [hf, h4]
      simp only [List.getElem?_cons_zero, List.drop_succ_cons, List.drop_zero, decide_true, Bool.true_and, Nat.zero_add]
      unfold stepS
      rw [if_pos ⟨rfl, hm⟩]
      by_cases hd : x.act.dir = a.dir ∧ x.act.name = a.name
      · rw [if_pos hd]
        have := fold_one a l
        unfold stepS at this
        rw [this, hd.1, hd.2]
        cases (l.any fun b => hinderB b.act a) <;> simp
      · rw [if_neg hd]
        have := fold_two a l
        unfold stepS at this
        rw [this]
        have e : (decide (x.act.dir = a.dir) && decide (x.act.name = a.name)) = false := by
          rw [← Bool.decide_and, decide_eq_false_iff_not]; exact hd
        rw [e]; rfl
    · have h : stepS a 0 x = 0 := by unfold stepS; simp [hm]
      have hm' : madeB a.fid x = false := by simpa using hm
      rw [h]
      unfold stateS at ih
      rw [← ih]
      unfold undoB
      rw [List.findIdx?_cons, hm']
      cases hk : l.findIdx? (madeB a.fid) with
      | none => simp
      | some k => simp
end M
end Go.Proofs.Ytlegjdlmcphhlab
/-
  WHAT SINGLE OPERATIONS DO, further: records, acts, indices, numbers (for regions that draw their order).
-/
namespace Go.Proofs.Ytlegjdlmcphhlab
open Go.RowKit

theorem does_run {a : Act} {w w' : World} {R : Value → World → Prop} {o : Oper} {v : Value} (h : (execOp a.eval o).run Try.prog w = .ok (.value v) w') (hR : R v w') : Does Try.prog o a w R := .inl ⟨v, w', h, hR⟩
/-- the value is this -/
def IsW (c : Value) : Value → World → Prop := fun v _ => v = c
/-- cells of a record that begins here -/
def RecAt (w : World) (b o : Nat) (r : RV) : Prop := ∀ i c, r.cells[i]? = some c → w.cell? ⟨b, o + i, none⟩ = some c
def ActAt (w : World) (b o : Nat) (r : AV) : Prop := ∀ i c, r.cells[i]? = some c → w.cell? ⟨b, o + i, none⟩ = some c
theorem RecAt.act {w : World} {b o : Nat} {r : RV} (h : RecAt w b o r) : ActAt w b o r.a := fun i c hc => h i c (by
  match i, hc with
  | 0, hc => exact hc
  | 1, hc => exact hc
  | 2, hc => exact hc
  | 3, hc => exact hc
  | 4, hc => exact hc
  | 5, hc => exact hc
  | 6, hc => exact hc
  | i + 7, hc => cases hc)
theorem RecAt.below {w w' : World} {b o B : Nat} {r : RV} (h : RecAt w b o r) (hb : Below B w w') (hs : b < B) : RecAt w' b o r := fun i c hc => by
  rw [hb.cell (p := ⟨b, o + i, none⟩) hs]; exact h i c hc
theorem ActAt.below {w w' : World} {b o B : Nat} {r : AV} (h : ActAt w b o r) (hb : Below B w w') (hs : b < B) : ActAt w' b o r := fun i c hc => by
  rw [hb.cell (p := ⟨b, o + i, none⟩) hs]; exact h i c hc
theorem BoxR.at_ {w : World} {s : Nat} {r : RV} (h : BoxR w s r) : RecAt w s 0 r := fun i c hc => by
  obtain ⟨b0, b1, b2, b3, b4, b5, b6, b7, b8, bf, bz⟩ := h.facts
  rw [Nat.zero_add]
  match i, hc with
  | 0, hc => cases hc; exact b0
  | 1, hc => cases hc; exact b1
  | 2, hc => cases hc; exact b2
  | 3, hc => cases hc; exact b3
  | 4, hc => cases hc; exact b4
  | 5, hc => cases hc; exact b5
  | 6, hc => cases hc; exact b6
  | 7, hc => cases hc; exact b7
  | 8, hc => cases hc; exact b8
  | i + 9, hc => cases hc
theorem BoxA.at_ {w : World} {s : Nat} {r : AV} (h : BoxA w s r) : ActAt w s 0 r := fun i c hc => by
  obtain ⟨b0, b1, b2, b3, b4, b5, b6, bf, bz⟩ := h.facts
  rw [Nat.zero_add]
  match i, hc with
  | 0, hc => cases hc; exact b0
  | 1, hc => cases hc; exact b1
  | 2, hc => cases hc; exact b2
  | 3, hc => cases hc; exact b3
  | 4, hc => cases hc; exact b4
  | 5, hc => cases hc; exact b5
  | 6, hc => cases hc; exact b6
  | i + 7, hc => cases hc
theorem Recs.recAt {w : World} {b o n : Nat} {vs : List RV} (h : Recs w (some ⟨b, o, none⟩) n vs) {j : Nat} {v : RV} (hv : vs[j]? = some v) : RecAt w b (o + j * 9) v := by
  have hj : j < n := by rw [h.1]; exact (List.getElem?_eq_some_iff.1 hv).1
  obtain ⟨b', o', v', e, _, hv', c0, c1, c2, c3, c4, c5, c6, c7, c8⟩ := h.at hj
  cases e
  rw [hv] at hv'
  cases hv'
  intro i c hc
  match i, hc with
  | 0, hc => cases hc; exact c0
  | 1, hc => cases hc; exact c1
  | 2, hc => cases hc; exact c2
  | 3, hc => cases hc; exact c3
  | 4, hc => cases hc; exact c4
  | 5, hc => cases hc; exact c5
  | 6, hc => cases hc; exact c6
  | 7, hc => cases hc; exact c7
  | 8, hc => cases hc; exact c8
  | i + 9, hc => cases hc

theorem want_undef {ops : Array Oper} {a : Act} {d : Option Tmp} {ty : TypeId} {pos : String} {af : Array Edge} {op : Op} {k t : Nat} {want : Bool} (hk : (ops[k]?).bind (·.dst) = some t) (h : a.eval (.tmp t) = undef) : Region.wanted ⟨d, op, ty, pos, af, some (k, want)⟩ (yielded ops a.tmps) = false := by
  have ht : a.tmps[t]? = some undef ∨ a.tmps[t]? = none := by
    have h : a.tmps.getD t undef = undef := h
    rw [Array.getD_eq_getD_getElem?] at h
    cases hx : a.tmps[t]? with
    | none => exact .inr rfl
    | some v => rw [hx] at h; exact .inl (congrArg some h)
  unfold Region.wanted yielded
  simp only [hk, Option.bind_some]
  rcases ht with ht | ht
  · rw [ht]; rfl
  · rw [ht]; rfl

section
variable {w : World} {R : Value → World → Prop} {d : Option Tmp} {ty : TypeId} {pos : String} {af : Array Edge} {g : Option (Nat × Bool)} {x y : Operand}
theorem run_loadR {ρ : Operand → Value} {b o : Nat} {v : RV} (hx : ρ x = .pointer (some ⟨b, o, none⟩)) (h : RecAt w b o v) : (execOp ρ ⟨d, .load 48 x, ty, pos, af, g⟩).run Try.prog w = .ok (.value v.val) w := by
  have c0 := h 0 _ rfl
  have c1 := h 1 _ rfl
  have c2 := h 2 _ rfl
  have c3 := h 3 _ rfl
  have c4 := h 4 _ rfl
  have c5 := h 5 _ rfl
  have c6 := h 6 _ rfl
  have c7 := h 7 _ rfl
  have c8 := h 8 _ rfl
  simp only [Nat.add_zero] at c0
  simp [execOp, hx, go_sem, c0, c1, c2, c3, c4, c5, c6, c7, c8]
theorem run_loadA {ρ : Operand → Value} {b o : Nat} {v : AV} (hx : ρ x = .pointer (some ⟨b, o, none⟩)) (h : ActAt w b o v) : (execOp ρ ⟨d, .load 26 x, ty, pos, af, g⟩).run Try.prog w = .ok (.value v.val) w := by
  have c0 := h 0 _ rfl
  have c1 := h 1 _ rfl
  have c2 := h 2 _ rfl
  have c3 := h 3 _ rfl
  have c4 := h 4 _ rfl
  have c5 := h 5 _ rfl
  have c6 := h 6 _ rfl
  simp only [Nat.add_zero] at c0
  simp [execOp, hx, go_sem, c0, c1, c2, c3, c4, c5, c6]
theorem run_indexR {ρ : Operand → Value} {b o n c k : Nat} (hx : ρ x = .slice (some ⟨b, o, none⟩) n c) (hy : ρ y = .int .i64 (k : Int)) (hk : k < n) : (execOp ρ ⟨d, .indexAddr 46 x y, ty, pos, af, g⟩).run Try.prog w = .ok (.value (.pointer (some ⟨b, o + k * 9, none⟩))) w := by
  have h1 : (k : Int) < (n : Int) := by omega
  have h0 : (0 : Int) ≤ (k : Int) := by omega
  simp [execOp, hx, hy, go_sem, h1]
theorem run_indexA {ρ : Operand → Value} {b o n c k : Nat} (hx : ρ x = .slice (some ⟨b, o, none⟩) n c) (hy : ρ y = .int .i64 (k : Int)) (hk : k < n) : (execOp ρ ⟨d, .indexAddr 53 x y, ty, pos, af, g⟩).run Try.prog w = .ok (.value (.pointer (some ⟨b, o + k * 7, none⟩))) w := by
  have h1 : (k : Int) < (n : Int) := by omega
  have h0 : (0 : Int) ≤ (k : Int) := by omega
  simp [execOp, hx, hy, go_sem, h1]
theorem run_fieldR0 {ρ : Operand → Value} {b o : Nat} (hx : ρ x = .pointer (some ⟨b, o, none⟩)) : (execOp ρ ⟨d, .fieldAddr 48 x 0, ty, pos, af, g⟩).run Try.prog w = .ok (.value (.pointer (some ⟨b, o, none⟩))) w := by
  simp [execOp, hx, go_sem]
theorem run_fieldR1 {ρ : Operand → Value} {b o : Nat} (hx : ρ x = .pointer (some ⟨b, o, none⟩)) : (execOp ρ ⟨d, .fieldAddr 48 x 1, ty, pos, af, g⟩).run Try.prog w = .ok (.value (.pointer (some ⟨b, o + 7, none⟩))) w := by
  simp [execOp, hx, go_sem]
theorem run_fieldR2 {ρ : Operand → Value} {b o : Nat} (hx : ρ x = .pointer (some ⟨b, o, none⟩)) : (execOp ρ ⟨d, .fieldAddr 48 x 2, ty, pos, af, g⟩).run Try.prog w = .ok (.value (.pointer (some ⟨b, o + 8, none⟩))) w := by
  simp [execOp, hx, go_sem]
theorem run_fieldAo {ρ : Operand → Value} {s o k : Nat} (hx : ρ x = .pointer (some ⟨s, o, none⟩)) (hk : k < 7) : (execOp ρ ⟨d, .fieldAddr 26 x k, ty, pos, af, g⟩).run Try.prog w = .ok (.value (.pointer (some ⟨s, o + k, none⟩))) w := by
  match k, hk with
  | 0, _ => simp [execOp, hx, go_sem]
  | 1, _ => simp [execOp, hx, go_sem]
  | 2, _ => simp [execOp, hx, go_sem]
  | 3, _ => simp [execOp, hx, go_sem]
  | 4, _ => simp [execOp, hx, go_sem]
  | 5, _ => simp [execOp, hx, go_sem]
  | 6, _ => simp [execOp, hx, go_sem]
theorem run_eqI {ρ : Operand → Value} {b c : Int} (hx : ρ x = .int .i64 b) (hy : ρ y = .int .i64 c) : (execOp ρ ⟨d, .binOp .eql 3 x y 3, ty, pos, af, g⟩).run Try.prog w = .ok (.value (.bool (b == c))) w := by
  simp [execOp, hx, hy, go_sem]
theorem run_lssI {ρ : Operand → Value} {b c : Int} (hx : ρ x = .int .i64 b) (hy : ρ y = .int .i64 c) : (execOp ρ ⟨d, .binOp .lss 3 x y 3, ty, pos, af, g⟩).run Try.prog w = .ok (.value (.bool (decide (b < c)))) w := by
  simp [execOp, hx, hy, go_sem]
theorem run_gtrI {ρ : Operand → Value} {b c : Int} (hx : ρ x = .int .i64 b) (hy : ρ y = .int .i64 c) : (execOp ρ ⟨d, .binOp .gtr 3 x y 3, ty, pos, af, g⟩).run Try.prog w = .ok (.value (.bool (decide (c < b)))) w := by
  simp [execOp, hx, hy, go_sem]
theorem run_addN {ρ : Operand → Value} {m k : Nat} (hx : ρ x = .int .i64 (m : Int)) (hy : ρ y = .int .i64 (k : Int)) (h : m + k ≤ 9223372036854775807) : (execOp ρ ⟨d, .binOp .add 3 x y 3, ty, pos, af, g⟩).run Try.prog w = .ok (.value (.int .i64 ((m + k : Nat) : Int))) w := by
  have h1 : (m : Int) + (k : Int) ≤ 9223372036854775807 := by omega
  have h2 : (-9223372036854775808 : Int) ≤ (m : Int) + (k : Int) := by omega
  simp [execOp, hx, hy, go_sem, IntWalk.i64_in _ ⟨h2, h1⟩]
theorem run_subN {ρ : Operand → Value} {m k : Nat} (hx : ρ x = .int .i64 (m : Int)) (hy : ρ y = .int .i64 (k : Int)) (h : k ≤ m) (hm : m ≤ 9223372036854775807) : (execOp ρ ⟨d, .binOp .sub 3 x y 3, ty, pos, af, g⟩).run Try.prog w = .ok (.value (.int .i64 ((m - k : Nat) : Int))) w := by
  have h1 : (m : Int) - (k : Int) ≤ 9223372036854775807 := by omega
  have h2 : (-9223372036854775808 : Int) ≤ (m : Int) - (k : Int) := by omega
  have h3 : ((m - k : Nat) : Int) = (m : Int) - (k : Int) := by omega
  rw [h3]
  simp [execOp, hx, hy, go_sem, IntWalk.i64_in _ ⟨h2, h1⟩]
theorem run_lenS {ρ : Operand → Value} {A : Option Addr} {n c : Nat} {t : TypeId} (h : Try.prog.underlying t = some (.slice (Try.prog.elem t))) (hx : ρ x = .slice A n c) : (execOp ρ ⟨d, .call { callee := .builtin .len, args := #[x], argTypes := #[t] }, ty, pos, af, g⟩).run Try.prog w = .ok (.value (.int .i64 (n : Int))) w := by
  have hl := run_len_slice (P := Try.prog) (w := w) t ty A n c h
  clear h
  simp [hx, go_sem, hl]
theorem run_buildR {ρ : Operand → Value} {v : RV} (hx : ρ x = v.val) : (execOp ρ ⟨d, .buildSlice 46 1 #[(0, x)], ty, pos, af, g⟩).run Try.prog w = .ok (.value (.slice (some ⟨w.heap.size, 0, none⟩) 1 1)) (w.alloc v.obj) := by
  simp [execOp, hx, go_sem]
end
end Go.Proofs.Ytlegjdlmcphhlab
/-
  WHAT SINGLE OPERATIONS DO, further: parts of a log, a log of one record.
-/
namespace Go.Proofs.Ytlegjdlmcphhlab
open Go.RowKit
section
variable {w : World} {d : Option Tmp} {ty : TypeId} {pos : String} {af : Array Edge} {g : Option (Nat × Bool)} {x y z : Operand}
theorem run_sliceLoR {ρ : Operand → Value} {b o n c lo : Nat} (hx : ρ x = .slice (some ⟨b, o, none⟩) n c) (hy : ρ y = .int .i64 (lo : Int)) (h1 : lo < n) (h2 : n ≤ c) : (execOp ρ ⟨d, .slice 46 x (some y) none none, ty, pos, af, g⟩).run Try.prog w = .ok (.value (.slice (some ⟨b, o + lo * 9, none⟩) (n - lo) (c - lo))) w := by
  have k1 : (lo : Int) ≤ (n : Int) := by omega
  have k2 : (n : Int) ≤ (c : Int) := by omega
  have k3 : ¬ c = lo := by omega
  simp [execOp, hx, hy, go_sem, k1, k3]
theorem run_sliceLoHiR {ρ : Operand → Value} {b o n c lo hi : Nat} (hx : ρ x = .slice (some ⟨b, o, none⟩) n c) (hy : ρ y = .int .i64 (lo : Int)) (hz : ρ z = .int .i64 (hi : Int)) (h1 : lo < hi) (h4 : hi ≤ n) (h2 : n ≤ c) : (execOp ρ ⟨d, .slice 46 x (some y) (some z) none, ty, pos, af, g⟩).run Try.prog w = .ok (.value (.slice (some ⟨b, o + lo * 9, none⟩) (hi - lo) (c - lo))) w := by
  have k1 : (lo : Int) ≤ (hi : Int) := by omega
  have k2 : (hi : Int) ≤ (c : Int) := by omega
  have k3 : ¬ c = lo := by omega
  simp [execOp, hx, hy, hz, go_sem, k1, k2, k3]
end
/-- a log of these records -/
def IsR (ys : List M.Rec) : Value → World → Prop := fun v W => ∃ (B : Option Addr) (m d : Nat) (us : List RV), v = .slice B m d ∧ TreeR W B m us ys
theorem isR_below {ys : List M.Rec} {v : Value} {W W' : World} (hb : Below W.heap.size W W') (h : IsR ys v W) : IsR ys v W' := by
  obtain ⟨B, m, d, us, e, ht⟩ := h
  exact ⟨B, m, d, us, e, ht.below (Nat.le_refl _) hb⟩
/-- a log of one record, new -/
theorem does_buildR {a : Act} {w : World} {d : Option Tmp} {ty : TypeId} {pos : String} {af : Array Edge} {g : Option (Nat × Bool)} {x : Operand} {r : RV} {y : M.Rec} (hx : a.eval x = r.val) (hr : ContR w r y) :
    Does Try.prog ⟨d, .buildSlice 46 1 #[(0, x)], ty, pos, af, g⟩ a w (fun v w' => Below w.heap.size w w' ∧ IsR [y] v w') := by
  have hb : Below w.heap.size w (w.alloc r.obj) := (Below.refl _ _).alloc (Nat.le_refl _) _
  exact does_run (run_buildR hx) ⟨hb, some ⟨w.heap.size, 0, none⟩, 1, 1, [r], rfl, rowR_box (BoxR.new w r), All2.one (hr.below (Nat.le_refl _) hb)⟩
theorem recs_one {w : World} {b o n : Nat} {vs : List RV} (h : Recs w (some ⟨b, o, none⟩) n vs) {j : Nat} {v : RV} (hv : vs[j]? = some v) : Recs w (some ⟨b, o + j * 9, none⟩) 1 [v] := by
  have hj : j < n := by rw [h.1]; exact (List.getElem?_eq_some_iff.1 hv).1
  obtain ⟨b', o', v', e, hlt, _⟩ := h.at hj
  cases e
  refine ⟨rfl, .inr ⟨b, o + j * 9, rfl, hlt, fun i u hu q c hc => ?_⟩⟩
  cases i with
  | succ i => cases hu
  | zero =>
    cases hu
    have := (Recs.recAt h hv) q c hc
    simpa using this
theorem treeR_one {w : World} {b o n : Nat} {vs : List RV} {xs : List M.Rec} (h : TreeR w (some ⟨b, o, none⟩) n vs xs) {j : Nat} {v : RV} {x : M.Rec} (hv : vs[j]? = some v) (hx : xs[j]? = some x) : TreeR w (some ⟨b, o + j * 9, none⟩) 1 [v] [x] :=
  ⟨recs_one h.1 hv, All2.one (h.2.2 j v x hv hx)⟩
end Go.Proofs.Ytlegjdlmcphhlab
