/-
  WHAT SINGLE OPERATIONS DO, for regions that draw their order (text Vals).
-/
import Derived.Test.YtlegjdlmcphhlabVals
import Derived.Test.YtlegjdlmcphhlabPlainb
namespace Go.Proofs.Ytlegjdlmcphhlab
open Go.RowKit

/-- the operation makes a value and a world of which R is true, by itself or by a call -/
def Does (P : Program) (o : Oper) (a : Act) (w : World) (R : Value → World → Prop) : Prop :=
  (∃ v w', (execOp a.eval o).run P w = .ok (.value v) w' ∧ R v w') ∨
  ∃ f args w', (execOp a.eval o).run P w = .ok (.enter f args) w' ∧ Calls P f args w' fun e w'' => ∃ r, e = .returned r ∧ R r w''

theorem StepAt.by {P : Program} {ops : Array Oper} {Q : Exit → Act → World → Prop} {a0 : Act} {w0 : World} {V : Nat → Value → World → Prop} {i : Nat} {o : Oper} (ho : ops[i]? = some o)
    (h : ∀ a w, FramedAt ops i a0 a → Below w0.heap.size w0 w → (∀ j, waits o j = true → V j (a.eval (.tmp (slotAt ops j))) w) →
      (Region.wanted o (yielded ops a.tmps) = true ∧ Does P o a w (fun v w' => Below w.heap.size w w' ∧ V i v w')) ∨ (Region.wanted o (yielded ops a.tmps) = false ∧ V i undef w)) : StepAt P ops Q a0 w0 V i := by
  intro o' ho' a w hf hb hd K hK
  have e : o = o' := Option.some.inj (ho.symm.trans ho')
  subst e
  rcases h a w hf hb hd with ⟨hw, hr⟩ | ⟨hw, hv⟩
  · rw [if_pos hw]
    unfold Oper.wp
    rcases hr with ⟨v, w', hr, hb', hv⟩ | ⟨f, args, w', hr, hc⟩
    · rw [hr]
      exact hK.out v w' hb' hv
    · rw [hr]
      refine Calls.mono hc ?_
      rintro e w'' ⟨r, rfl, hb', hv⟩
      exact hK.out r w'' hb' hv
  · rw [hw]
    exact hK.out undef w (Below.refl _ _) hv

/-- function f is the program's own -/
def Enters (P : Program) (f : FuncId) : Prop := ∀ args w, (callFunc f args).run P w = .ok (.enter f args) w
theorem Enters.out {P : Program} {f : FuncId} (h : Enters P f) (args : Array Value) (w : World) : (callFunc f args).run P w = .ok (.enter f args) w := h args w
theorem eval_func (a : Act) (f : FuncId) : a.eval (.func f) = .func (.func f) #[] #[] := rfl
theorem eval_const (a : Act) (v : Value) : a.eval (.const v) = v := rfl
theorem enters_of {P : Program} {f : FuncId} {fn : Func} (hf : P.funcs[f]? = some fn) (hn : (fn.name == "runtime.NumGoroutine") = false) (hb : fn.body.isNone = false) : Enters P f := by
  intro args w
  unfold callFunc
  simp only [Sem.run_bind, run_program, Result.andThen_ok, hf, hn, hb, Bool.false_eq_true, if_false]
  rfl
theorem run_call {P : Program} {ρ : Operand → Value} {w : World} {d : Option Tmp} {ty : TypeId} {pos : String} {af : Array Edge} {g : Option (Nat × Bool)} {f : FuncId} {xs : Array Operand} {us : Array Value} {ts : Array TypeId} (hcf : Enters P f) (hfn : ρ (.func f) = .func (.func f) #[] #[]) (hx : xs.map ρ = us) :
    (execOp ρ ⟨d, .call { callee := .value (.func f), args := xs, argTypes := ts }, ty, pos, af, g⟩).run P w = .ok (.enter f us) w := by
  simp [execOp, resolve, invoke, hcf.out, hfn, hx, go_sem]
theorem run_not {P : Program} {ρ : Operand → Value} {w : World} {d : Option Tmp} {ty : TypeId} {pos : String} {af : Array Edge} {g : Option (Nat × Bool)} {x : Operand} {b : Bool} {t : TypeId} (hx : ρ x = .bool b) : (execOp ρ ⟨d, .unOp .not t x, ty, pos, af, g⟩).run P w = .ok (.value (.bool !b)) w := by
  simp [execOp, hx, go_sem]
theorem run_pick {P : Program} {ρ : Operand → Value} {w : World} {d : Option Tmp} {ty : TypeId} {pos : String} {af : Array Edge} {g : Option (Nat × Bool)} {c x y : Operand} {b : Bool} (hc : ρ c = .bool b) : (execOp ρ ⟨d, .pick c x y, ty, pos, af, g⟩).run P w = .ok (.value (if b then ρ x else ρ y)) w := by
  cases b <;> simp [execOp, hc, go_sem]
theorem run_neqB {ρ : Operand → Value} {w : World} {d : Option Tmp} {ty : TypeId} {pos : String} {af : Array Edge} {g : Option (Nat × Bool)} {x y : Operand} {b c : Bool} (hx : ρ x = .bool b) (hy : ρ y = .bool c) : (execOp ρ ⟨d, .binOp .neq 4 x y 4, ty, pos, af, g⟩).run Try.prog w = .ok (.value (.bool (b != c))) w := by
  simp [execOp, hx, hy, go_sem, bne]
theorem run_neqI {ρ : Operand → Value} {w : World} {d : Option Tmp} {ty : TypeId} {pos : String} {af : Array Edge} {g : Option (Nat × Bool)} {x y : Operand} {b c : Int} (hx : ρ x = .int .i64 b) (hy : ρ y = .int .i64 c) : (execOp ρ ⟨d, .binOp .neq 3 x y 3, ty, pos, af, g⟩).run Try.prog w = .ok (.value (.bool (b != c))) w := by
  simp [execOp, hx, hy, go_sem, bne]
theorem run_load26 {ρ : Operand → Value} {w : World} {d : Option Tmp} {ty : TypeId} {pos : String} {af : Array Edge} {g : Option (Nat × Bool)} {x : Operand} {s : Nat} {v : NV} (hx : ρ x = .pointer (some ⟨s, 0, none⟩)) (hb : Box w s v) : (execOp ρ ⟨d, .load 40 x, ty, pos, af, g⟩).run Try.prog w = .ok (.value v.val) w := by
  obtain ⟨p0, p1, p2, p3, p4, pf, pz⟩ := hb.facts
  simp [execOp, hx, go_sem, p0, p1, p2, p3, p4]
section
variable {P : Program} {ops : Array Oper} {a : Act} {w : World} {R : Value → World → Prop} {d : Option Tmp} {ty : TypeId} {pos : String} {af : Array Edge} {g : Option (Nat × Bool)} {op : Op}
theorem want_none : Region.wanted ⟨d, op, ty, pos, af, none⟩ (yielded ops a.tmps) = true := rfl
theorem want_some {k t : Nat} {b want : Bool} (hk : (ops[k]?).bind (·.dst) = some t) (h : a.eval (.tmp t) = .bool b) : Region.wanted ⟨d, op, ty, pos, af, some (k, want)⟩ (yielded ops a.tmps) = (b == want) := by
  have ht : a.tmps[t]? = some (.bool b) := by
    have h : a.tmps.getD t undef = .bool b := h
    rw [Array.getD_eq_getD_getElem?] at h
    cases hx : a.tmps[t]? with
    | none => rw [hx] at h; cases h
    | some v => rw [hx] at h; exact congrArg some h
  unfold Region.wanted yielded
  simp only [hk, Option.bind_some, ht]
  cases b <;> cases want <;> rfl

theorem does_move {x : Operand} {v : Value} (hx : a.eval x = v) (h : R v w) : Does P ⟨d, .move x, ty, pos, af, g⟩ a w R := .inl ⟨_, _, rfl, by rw [hx]; exact h⟩
theorem does_assign {x : Operand} {v : Value} (hx : a.eval x = v) (h : R v w) : Does P ⟨d, .assign x, ty, pos, af, g⟩ a w R := .inl ⟨_, _, rfl, by rw [hx]; exact h⟩
theorem does_call0 {f : FuncId} {ts : Array TypeId} (hcf : Enters P f) (h : Calls P f #[] w fun e w'' => ∃ r, e = .returned r ∧ R r w'') :
    Does P ⟨d, .call { callee := .value (.func f), args := #[], argTypes := ts }, ty, pos, af, g⟩ a w R := .inr ⟨f, #[], w, run_call hcf rfl (by simp), h⟩
theorem does_call1 {f : FuncId} {x : Operand} {u : Value} {ts : Array TypeId} (hcf : Enters P f) (hx : a.eval x = u) (h : Calls P f #[u] w fun e w'' => ∃ r, e = .returned r ∧ R r w'') :
    Does P ⟨d, .call { callee := .value (.func f), args := #[x], argTypes := ts }, ty, pos, af, g⟩ a w R := .inr ⟨f, #[u], w, run_call hcf rfl (by simp [hx]), h⟩
theorem does_call2 {f : FuncId} {x y : Operand} {u v : Value} {ts : Array TypeId} (hcf : Enters P f) (hx : a.eval x = u) (hy : a.eval y = v) (h : Calls P f #[u, v] w fun e w'' => ∃ r, e = .returned r ∧ R r w'') :
    Does P ⟨d, .call { callee := .value (.func f), args := #[x, y], argTypes := ts }, ty, pos, af, g⟩ a w R := .inr ⟨f, #[u, v], w, run_call hcf rfl (by simp [hx, hy]), h⟩
theorem does_call3 {f : FuncId} {x y z : Operand} {u v t : Value} {ts : Array TypeId} (hcf : Enters P f) (hx : a.eval x = u) (hy : a.eval y = v) (hz : a.eval z = t) (h : Calls P f #[u, v, t] w fun e w'' => ∃ r, e = .returned r ∧ R r w'') :
    Does P ⟨d, .call { callee := .value (.func f), args := #[x, y, z], argTypes := ts }, ty, pos, af, g⟩ a w R := .inr ⟨f, #[u, v, t], w, run_call hcf rfl (by simp [hx, hy, hz]), h⟩
theorem does_not {x : Operand} {b : Bool} {t : TypeId} (hx : a.eval x = .bool b) (h : R (.bool !b) w) : Does P ⟨d, .unOp .not t x, ty, pos, af, g⟩ a w R := .inl ⟨_, _, run_not hx, h⟩
theorem does_pick {c x y : Operand} {b : Bool} {v : Value} (hc : a.eval c = .bool b) (hv : (if b then a.eval x else a.eval y) = v) (h : R v w) : Does P ⟨d, .pick c x y, ty, pos, af, g⟩ a w R := .inl ⟨_, _, run_pick hc, by rw [hv]; exact h⟩
end
theorem does_neqB {a : Act} {w : World} {R : Value → World → Prop} {d : Option Tmp} {ty : TypeId} {pos : String} {af : Array Edge} {g : Option (Nat × Bool)} {x y : Operand} {b c : Bool} (hx : a.eval x = .bool b) (hy : a.eval y = .bool c) (h : R (.bool (b != c)) w) : Does Try.prog ⟨d, .binOp .neq 4 x y 4, ty, pos, af, g⟩ a w R := .inl ⟨_, _, run_neqB hx hy, h⟩
theorem does_neqI {a : Act} {w : World} {R : Value → World → Prop} {d : Option Tmp} {ty : TypeId} {pos : String} {af : Array Edge} {g : Option (Nat × Bool)} {x y : Operand} {b c : Int} (hx : a.eval x = .int .i64 b) (hy : a.eval y = .int .i64 c) (h : R (.bool (b != c)) w) : Does Try.prog ⟨d, .binOp .neq 3 x y 3, ty, pos, af, g⟩ a w R := .inl ⟨_, _, run_neqI hx hy, h⟩
theorem does_load26 {a : Act} {w : World} {R : Value → World → Prop} {d : Option Tmp} {ty : TypeId} {pos : String} {af : Array Edge} {g : Option (Nat × Bool)} {x : Operand} {s : Nat} {v : NV} (hx : a.eval x = .pointer (some ⟨s, 0, none⟩)) (hb : Box w s v) (h : R v.val w) : Does Try.prog ⟨d, .load 40 x, ty, pos, af, g⟩ a w R := .inl ⟨_, _, run_load26 hx hb, h⟩
end Go.Proofs.Ytlegjdlmcphhlab
