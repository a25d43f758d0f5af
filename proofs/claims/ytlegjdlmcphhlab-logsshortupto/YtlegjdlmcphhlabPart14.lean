/- TEXTS LAID TOGETHER: Valsw, Logh, Logg, Doesc, Logi, Logj -/
import Derived.Test.YtlegjdlmcphhlabPart11
import Derived.Test.YtlegjdlmcphhlabPart13
import Derived.Deep.Cut
import Derived.OneCell
/-
  A REGION THAT DRAWS THE ORDER OF ITS OPERATIONS, some of which write: the world is told by what has come up.
-/
namespace Go.Proofs.Ytlegjdlmcphhlab
open Go.RowKit

/-- each operation waits for earlier ones alone; each slot is one operation's -/
def tidyw (ops : Array Oper) (size : Nat) : Bool :=
  (List.range ops.size).all fun i => match ops[i]? with
    | some o => (o.after.all fun e => decide (e.on < i)) && (match o.dst with
        | some d => decide (d < size) && ((List.range i).all fun j => ((ops[j]?).bind (·.dst)) != some d)
        | none => true)
    | none => true
theorem tidyw_at {ops : Array Oper} {size i : Nat} {o : Oper} (h : tidyw ops size = true) (hi : ops[i]? = some o) :
    (∀ e ∈ o.after, e.on < i) ∧ ∀ d, o.dst = some d → d < size ∧ ∀ j, j < i → ((ops[j]?).bind (·.dst)) ≠ some d := by
  unfold tidyw at h
  rw [List.all_eq_true] at h
  have hlt : i < ops.size := (Array.getElem?_eq_some_iff.1 hi).1
  have h1 := h i (List.mem_range.2 hlt)
  rw [hi] at h1
  simp only [Bool.and_eq_true] at h1
  obtain ⟨h2, h3⟩ := h1
  refine ⟨fun e he => ?_, fun d hd => ?_⟩
  · have := Array.all_eq_true_iff_forall_mem.1 h2 e he
    simpa using this
  · rw [hd] at h3
    simp only [Bool.and_eq_true, decide_eq_true_eq, List.all_eq_true, List.mem_range] at h3
    refine ⟨h3.1, fun j hj => ?_⟩
    have := h3.2 j hj
    simpa using this

theorem getD_set_self {l : Array Bool} {i : Nat} (h : i < l.size) : (l.setIfInBounds i true).getD i true = true := by simp [h]
/-- what is asked of operation i -/
def StepW (P : Program) (ops : Array Oper) (Q : Exit → Act → World → Prop) (a0 : Act) (V : Nat → Value → Prop) (WI : Array Bool → World → Prop) (i : Nat) : Prop :=
  ∀ o, ops[i]? = some o → ∀ (listed : Array Bool) a w, FramedAt ops i a0 a → WI listed w → listed.size = ops.size → listed.getD i true = false → (∀ j, waits o j = true → listed.getD j true = true) → (∀ j u, ops[j]? = some u → waits u i = true → listed.getD j true = false) →
    (∀ j d, waits o j = true → (ops[j]?).bind (·.dst) = some d → V j (a.eval (.tmp d))) →
    ∀ K : Act → World → Prop, (∀ v w', V i v → WI (listed.setIfInBounds i true) w' → K (a.put o.dst v) w') →
      if Region.wanted o (yielded ops a.tmps) = true then Oper.wp P o a w K Q else K (a.put o.dst undef) w

theorem wpAny_writes {P : Program} {ops : Array Oper} {Q : Exit → Act → World → Prop} {a0 : Act} {V : Nat → Value → Prop} {WI : Array Bool → World → Prop} (ht : tidyw ops a0.tmps.size = true)
    (steps : ∀ i, i < ops.size → StepW P ops Q a0 V WI i)
    (last : ∀ listed a w, Framed ops a0 a → WI listed w → (∀ j, j < ops.size → listed.getD j true = true) → Q .normal a w) :
    ∀ (fuel : Nat) (listed : Array Bool) (a : Act) (w : World), listed.size = ops.size → unlisted listed ≤ fuel → FramedBy ops listed a0 a → WI listed w →
      (∀ j d, j < ops.size → listed.getD j true = true → (ops[j]?).bind (·.dst) = some d → V j (a.eval (.tmp d))) → wpAny P .any ops Q fuel listed a w := by
  have hdone : ∀ (listed : Array Bool), listed.size = ops.size → Region.ready .any ops listed = [] → ∀ j, j < ops.size → listed.getD j true = true := by
    intro listed hsz hr j
    induction j using Nat.strongRecOn with
    | ind j ih =>
      intro hj
      cases hb : listed.getD j true with
      | true => rfl
      | false =>
        have ho : ops[j]? = some ops[j] := Array.getElem?_eq_getElem hj
        have hm : j ∈ Region.ready .any ops listed := by
          rw [mem_ready]
          refine ⟨hb, _, ho, fun e he _ => ?_⟩
          have hlt := (tidyw_at ht ho).1 e he
          have h1 := ih e.on hlt (by omega)
          have h2 : e.on < listed.size := by omega
          simp only [Array.getD_eq_getD_getElem?, Array.getElem?_eq_getElem h2, Option.getD_some] at h1 ⊢
          exact h1
        rw [hr] at hm
        cases hm
  intro fuel
  induction fuel with
  | zero =>
    intro listed a w hsz hu hf hb hV
    have hall : ∀ j, listed.getD j true = true := by
      intro j
      have h0 : listed.toList.filter (fun b => !b) = [] := List.eq_nil_of_length_eq_zero (by simpa [unlisted] using hu)
      rw [List.filter_eq_nil_iff] at h0
      rcases Nat.lt_or_ge j listed.size with h | h
      · have := h0 listed[j] (by simp)
        simp [h] at this ⊢
        exact this
      · simp [h]
    refine ⟨?_, last listed a w hf.all hb fun j _ => hall j⟩
    unfold Region.ready
    rw [List.filter_eq_nil_iff]
    intro j _
    rw [hall j]
    simp
  | succ fuel ih =>
    intro listed a w hsz hu hf hb hV
    refine ⟨fun hr => last listed a w hf.all hb (hdone listed hsz hr), fun i hi => ?_⟩
    obtain ⟨hun, o, ho, hall⟩ := mem_ready.1 hi
    have hilt : i < ops.size := (Array.getElem?_eq_some_iff.1 ho).1
    obtain ⟨hback, hdst⟩ := tidyw_at ht ho
    refine wpOp_step ho fun K' hK => ?_
    have hlw : ∀ j, waits o j = true → listed.getD j true = true := by
      intro j hj
      obtain ⟨e, he, hbe⟩ := Array.any_eq_true'.1 hj
      simp only [Bool.and_eq_true, beq_iff_eq] at hbe
      have h1 := hall e he hbe.1
      have h2 := hback e he
      rw [← hbe.2]
      have h3 : e.on < listed.size := by omega
      simp only [Array.getD_eq_getD_getElem?, Array.getElem?_eq_getElem h3, Option.getD_some] at h1 ⊢
      exact h1
    refine steps i hilt o ho listed a w (hf.at_ hun) hb hsz hun hlw (fun j u hj hw => ?_) (fun j d hj hd => ?_) K' ?_
    · cases hl : listed.getD j true with
      | false => rfl
      | true => have := hf.closed j u hj hl i hw; rw [this] at hun; cases hun
    · refine hV j d ?_ (hlw j hj) hd
      cases hj2 : ops[j]? with
      | none => rw [hj2] at hd; cases hd
      | some u => exact (Array.getElem?_eq_some_iff.1 hj2).1
    · intro v w' hv hw
      refine hK _ _ (ih _ _ _ (by simp [hsz]) (by have := unlisted_set hun; omega) (hf.put ho hsz hlw v) hw fun j d hj hl hd => ?_)
      by_cases hji : j = i
      · subst hji
        rw [ho] at hd
        have hd : o.dst = some d := hd
        have : (a.put o.dst v).eval (.tmp d) = v := by
          rw [hd]
          have hlt : d < a.tmps.size := by rw [hf.size]; exact (hdst d hd).1
          simp [Act.eval, Act.put, hlt]
        rw [this]
        exact hv
      · have hne : ∀ d', o.dst = some d' → d ≠ d' := by
          rintro d' hd' rfl
          rcases Nat.lt_or_gt_of_ne hji with h | h
          · exact (hdst d hd').2 j h hd
          · have hoj : ops[j]? = some ops[j] := Array.getElem?_eq_getElem hj
            rw [hoj] at hd
            exact ((tidyw_at ht hoj).2 d hd).2 i h (by rw [ho]; exact hd')
        rw [Act.eval_put (by intro d' hd' e; injection e with e; exact hne d' hd' e)]
        rw [getD_set_ne true (Ne.symm hji)] at hl
        exact hV j d hj hl hd

/-- THE RULE, where some operations write. -/
theorem wp_region_writes {P : Program} {ops : Array Oper} {Q : Exit → Act → World → Prop} {a0 : Act} {w0 : World} (V : Nat → Value → Prop) (WI : Array Bool → World → Prop) {id : Nat} (hm : P.follows .mixedOrders = true)
    (ht : tidyw ops a0.tmps.size = true) (hw0 : WI (Array.replicate ops.size false) w0.drew) (steps : ∀ i, i < ops.size → StepW P ops Q a0 V WI i)
    (last : ∀ listed a w, Framed ops a0 a → WI listed w → (∀ j, j < ops.size → listed.getD j true = true) → Q .normal a w) :
    (Code.region id ops true).wp P Q a0 w0 := by
  refine wp_region_any hm ?_
  refine wpAny_writes ht steps last _ _ _ _ (by simp) ?_ ?_ hw0 ?_
  · simp [unlisted]
  · refine ⟨rfl, rfl, fun _ _ => rfl, fun j o hj hl => ?_⟩
    have hlt := (Array.getElem?_eq_some_iff.1 hj).1
    simp [hlt] at hl
  · intro j d hj hl
    simp [hj] at hl

theorem StepW.by {P : Program} {ops : Array Oper} {Q : Exit → Act → World → Prop} {a0 : Act} {V : Nat → Value → Prop} {WI : Array Bool → World → Prop} {i : Nat} {o : Oper} (ho : ops[i]? = some o) (hg : o.guard = none)
    (h : ∀ (listed : Array Bool) a w, FramedAt ops i a0 a → WI listed w → listed.size = ops.size → (∀ j, waits o j = true → listed.getD j true = true) → (∀ j u, ops[j]? = some u → waits u i = true → listed.getD j true = false) → (∀ j d, waits o j = true → (ops[j]?).bind (·.dst) = some d → V j (a.eval (.tmp d))) →
      Does P o a w (fun v w' => V i v ∧ WI (listed.setIfInBounds i true) w')) : StepW P ops Q a0 V WI i := by
  intro o' ho' listed a w hf hw hsz hun hlw hno hd K hK
  have e : o = o' := Option.some.inj (ho.symm.trans ho')
  subst e
  have hwant : Region.wanted o (yielded ops a.tmps) = true := by unfold Region.wanted; rw [hg]
  rw [if_pos hwant]
  unfold Oper.wp
  rcases h listed a w hf hw hsz hlw hno hd with ⟨v, w', hr, hv, hw'⟩ | ⟨f, args, w', hr, hc⟩
  · rw [hr]
    exact hK v w' hv hw'
  · rw [hr]
    refine Calls.mono hc ?_
    rintro e w'' ⟨r, rfl, hv, hw''⟩
    exact hK r w'' hv hw''
theorem StepW.skip {P : Program} {ops : Array Oper} {Q : Exit → Act → World → Prop} {a0 : Act} {V : Nat → Value → Prop} {WI : Array Bool → World → Prop} {i : Nat} {o : Oper} (ho : ops[i]? = some o) (hg : o.guard = none)
    (h : ∀ (listed : Array Bool) a w, FramedAt ops i a0 a → WI listed w → listed.size = ops.size → (∀ j, waits o j = true → listed.getD j true = true) → (∀ j u, ops[j]? = some u → waits u i = true → listed.getD j true = false) → (∀ j d, waits o j = true → (ops[j]?).bind (·.dst) = some d → V j (a.eval (.tmp d))) → listed.getD i true = false →
      ∃ w', (execOp a.eval o).run P w = .ok .skip w' ∧ V i undef ∧ WI (listed.setIfInBounds i true) w') : StepW P ops Q a0 V WI i := by
  intro o' ho' listed a w hf hw hsz hun hlw hno hd K hK
  have e : o = o' := Option.some.inj (ho.symm.trans ho')
  subst e
  have hwant : Region.wanted o (yielded ops a.tmps) = true := by unfold Region.wanted; rw [hg]
  rw [if_pos hwant]
  unfold Oper.wp
  obtain ⟨w', hr, hv, hw'⟩ := h listed a w hf hw hsz hlw hno hd hun
  rw [hr]
  exact hK undef w' hv hw'
end Go.Proofs.Ytlegjdlmcphhlab
/-
  PACKAGE logs: Turn.
-/
namespace Go.Proofs.Ytlegjdlmcphhlab
open Go.RowKit

theorem run_callV {P : Program} {ρ : Operand → Value} {w : World} {d : Option Tmp} {ty : TypeId} {pos : String} {af : Array Edge} {g : Option (Nat × Bool)} {f : FuncId} {c : Operand} {caps : Array Value} {x : Operand} {u : Value} {ts : Array TypeId} (hcf : Enters P f) (hfn : ρ c = .func (.func f) #[] caps) (hx : ρ x = u) :
    (execOp ρ ⟨d, .call { callee := .value c, args := #[x], argTypes := ts }, ty, pos, af, g⟩).run P w = .ok (.enter f (#[u] ++ caps)) w := by
  simp [execOp, resolve, invoke, hcf.out, hfn, hx, go_sem]
theorem does_callV {P : Program} {a : Act} {w : World} {R : Value → World → Prop} {d : Option Tmp} {ty : TypeId} {pos : String} {af : Array Edge} {g : Option (Nat × Bool)} {f : FuncId} {c : Operand} {caps : Array Value} {x : Operand} {u : Value} {ts : Array TypeId} (hcf : Enters P f) (hfn : a.eval c = .func (.func f) #[] caps) (hx : a.eval x = u) (h : Calls P f (#[u] ++ caps) w fun e w'' => ∃ r, e = .returned r ∧ R r w'') :
    Does P ⟨d, .call { callee := .value c, args := #[x], argTypes := ts }, ty, pos, af, g⟩ a w R := .inr ⟨f, _, w, run_callV hcf hfn hx, h⟩
theorem run_store3 {ρ : Operand → Value} {w : World} {d : Option Tmp} {ty : TypeId} {pos : String} {af : Array Edge} {g : Option (Nat × Bool)} {x y : Operand} {p : Addr} {i : Int} (hx : ρ x = .pointer (some p)) (hy : ρ y = .int .i64 i) {u : Value} (hc : w.cell? p = some u) (hf : w.frozen? p = false) :
    (execOp ρ ⟨d, .store 3 x y, ty, pos, af, g⟩).run Try.prog w = .ok .skip (w.setCell p (.int .i64 i)) := by
  simp [execOp, hx, hy, go_sem, hc, hf]

/-- the world, behind some of the stores -/
def stw (W : World) (s : Nat) (F D T : Int) (b1 b2 b3 : Bool) : World :=
  let w1 := if b1 then W.setCell ⟨s, 1, none⟩ (.int .i64 F) else W
  let w2 := if b2 then w1.setCell ⟨s, 2, none⟩ (.int .i64 D) else w1
  if b3 then w2.setCell ⟨s, 4, none⟩ (.int .i64 T) else w2
def WT (W : World) (s : Nat) (F D T : Int) (listed : Array Bool) (w : World) : Prop := w = stw W s F D T (listed.getD 13 true) (listed.getD 15 true) (listed.getD 17 true)
def VT (s : Nat) (a : AV) (f t : Int) : Nat → Value → Prop
  | 0, v => v = .func (.func 46) #[] #[.pointer (some ⟨s + 1, 0, none⟩), .pointer (some ⟨s + 2, 0, none⟩)]
  | 1, v => v = .pointer (some ⟨s, 1, none⟩)
  | 2, v => v = .int .i64 a.fid
  | 3, v => v = .int .i64 (turnI a.fid f t)
  | 4, v => v = .func (.func 46) #[] #[.pointer (some ⟨s + 1, 0, none⟩), .pointer (some ⟨s + 2, 0, none⟩)]
  | 5, v => v = .pointer (some ⟨s, 2, none⟩)
  | 6, v => v = .int .i64 a.dir
  | 7, v => v = .int .i64 (turnI a.dir f t)
  | 8, v => v = .func (.func 46) #[] #[.pointer (some ⟨s + 1, 0, none⟩), .pointer (some ⟨s + 2, 0, none⟩)]
  | 9, v => v = .pointer (some ⟨s, 4, none⟩)
  | 10, v => v = .int .i64 a.to
  | 11, v => v = .int .i64 (turnI a.to f t)
  | 12, v => v = .pointer (some ⟨s, 1, none⟩)
  | 14, v => v = .pointer (some ⟨s, 2, none⟩)
  | 16, v => v = .pointer (some ⟨s, 4, none⟩)
  | _, _ => True
theorem wt_same {W : World} {s : Nat} {F D T : Int} {listed : Array Bool} {w : World} (h : WT W s F D T listed w) {i : Nat} (h1 : i ≠ 13) (h2 : i ≠ 15) (h3 : i ≠ 17) : WT W s F D T (listed.setIfInBounds i true) w := by
  unfold WT at h ⊢
  rw [getD_set_ne true h1, getD_set_ne true h2, getD_set_ne true h3]
  exact h
theorem stw_cell {W : World} {s : Nat} {F D T : Int} {b1 b2 b3 : Bool} {q : Nat} (hq : q ≠ s) (o : Nat) : (stw W s F D T b1 b2 b3).cell? ⟨q, o, none⟩ = W.cell? ⟨q, o, none⟩ := by
  have hh : (stw W s F D T b1 b2 b3).heap[q]? = W.heap[q]? := by
    have h : ∀ (W : World) (k : Nat) (u : Value), (W.setCell ⟨s, k, none⟩ u).heap[q]? = W.heap[q]? := fun W k u => Below.heap_setCell _ _ _ _ (by exact hq)
    unfold stw
    cases b1 <;> cases b2 <;> cases b3 <;> simp only [if_true, if_false, Bool.false_eq_true, h]
  simp [World.cell?, hh]
theorem stw_heap {W : World} {s : Nat} {F D T : Int} {b1 b2 b3 : Bool} {q : Nat} (hq : q ≠ s) : (stw W s F D T b1 b2 b3).heap[q]? = W.heap[q]? := by
  have h : ∀ (W : World) (k : Nat) (u : Value), (W.setCell ⟨s, k, none⟩ u).heap[q]? = W.heap[q]? := fun W k u => Below.heap_setCell _ _ _ _ (by exact hq)
  unfold stw
  cases b1 <;> cases b2 <;> cases b3 <;> simp only [if_true, if_false, Bool.false_eq_true, h]
theorem stw_below {B : Nat} {a W : World} (h : Below B a W) {s : Nat} (hs : B ≤ s) (F D T : Int) : Below B a (stw W s F D T true true true) :=
  ((h.setCell (p := ⟨s, 1, none⟩) hs _).setCell (p := ⟨s, 2, none⟩) hs _).setCell (p := ⟨s, 4, none⟩) hs _
theorem stw_own {w : World} {B : Nat} {e : TypeId} {k : Nat} {v : Value} {n : Nat} {xs : List Value} (h : w.ownsRow B e k v n xs) {s : Nat} (hs : s < B) (F D T : Int) : (stw w s F D T true true true).ownsRow B e k v n xs :=
  ownsRow_setCell_below (ownsRow_setCell_below (ownsRow_setCell_below h (a := ⟨s, 1, none⟩) hs _) (a := ⟨s, 2, none⟩) hs _) (a := ⟨s, 4, none⟩) hs _
theorem boxA_set1 {w : World} {s : Nat} {a : AV} (h : BoxA w s a) (k : Int) : BoxA (w.setCell ⟨s, 1, none⟩ (.int .i64 k)) s ⟨a.kind, k, a.dir, a.name, a.to, a.toName, a.dA, a.dn, a.dc⟩ := by
  unfold BoxA at h ⊢; rw [heap_setCell_same _ _ _ _ _ _ h]; rfl
theorem boxA_set2 {w : World} {s : Nat} {a : AV} (h : BoxA w s a) (k : Int) : BoxA (w.setCell ⟨s, 2, none⟩ (.int .i64 k)) s ⟨a.kind, a.fid, k, a.name, a.to, a.toName, a.dA, a.dn, a.dc⟩ := by
  unfold BoxA at h ⊢; rw [heap_setCell_same _ _ _ _ _ _ h]; rfl
theorem boxA_set4 {w : World} {s : Nat} {a : AV} (h : BoxA w s a) (k : Int) : BoxA (w.setCell ⟨s, 4, none⟩ (.int .i64 k)) s ⟨a.kind, a.fid, a.dir, a.name, k, a.toName, a.dA, a.dn, a.dc⟩ := by
  unfold BoxA at h ⊢; rw [heap_setCell_same _ _ _ _ _ _ h]; rfl
set_option maxHeartbeats 2000000 in
theorem put7_box {w : World} {s : Nat} {v : AV} (h : BoxA w s v) (x : AV) : BoxA (put7 w s 0 x) s x := by
  unfold BoxA at h ⊢
  have e0 := heap_setCell_same w s 0 _ 26 (.int .i64 x.kind) h
  have e1 := heap_setCell_same _ s 1 _ 26 (.int .i64 x.fid) e0
  have e2 := heap_setCell_same _ s 2 _ 26 (.int .i64 x.dir) e1
  have e3 := heap_setCell_same _ s 3 _ 26 (.string x.name) e2
  have e4 := heap_setCell_same _ s 4 _ 26 (.int .i64 x.to) e3
  have e5 := heap_setCell_same _ s 5 _ 26 (.string x.toName) e4
  exact heap_setCell_same _ s 6 _ 26 (.slice x.dA x.dn x.dc) e5
theorem put7_other {w : World} {s t : Nat} (ht : t ≠ s) (o : Nat) (x : AV) : (put7 w s o x).heap[t]? = w.heap[t]? := by
  have h : ∀ (W : World) (k : Nat) (u : Value), (W.setCell ⟨s, k, none⟩ u).heap[t]? = W.heap[t]? := fun W k u => Below.heap_setCell _ _ _ _ (by exact ht)
  simp only [put7, h]
theorem turn_start (w : World) (a : AV) (f t : Int) : ∀ W, W = (((w.alloc (.cells #[.int .i64 a.kind, .int .i64 a.fid, .int .i64 a.dir, .string a.name, .int .i64 a.to, .string a.toName, .slice a.dA a.dn a.dc] 26)).alloc (.cells #[.int .i64 f] 3)).alloc (.cells #[.int .i64 t] 3)).alloc (.cells #[.int .i64 0, .int .i64 0, .int .i64 0, .string ⟨#[]⟩, .int .i64 0, .string ⟨#[]⟩, .slice none 0 0] 26) →
    Below w.heap.size w W ∧ BoxA W w.heap.size a ∧ W.heap[w.heap.size + 1]? = some (.cells #[.int .i64 f] 3 (0, 0)) ∧ W.heap[w.heap.size + 2]? = some (.cells #[.int .i64 t] 3 (0, 0)) ∧ BoxA W (w.heap.size + 3) AV.zero ∧ W.heap.size = w.heap.size + 4 := by
  rintro W rfl
  refine ⟨((((Below.refl _ _).alloc (Nat.le_refl _) _).alloc (by simp) _).alloc (by simp; omega) _).alloc (by simp; omega) _, (((BoxA.new w a).alloc _).alloc _).alloc _, ?_, ?_, ?_, by simp⟩
  · rw [Below.heap_alloc _ _ _ (by simp), Below.heap_alloc _ _ _ (by simp)]
    have := heap_alloc_new (w.alloc (.cells #[.int .i64 a.kind, .int .i64 a.fid, .int .i64 a.dir, .string a.name, .int .i64 a.to, .string a.toName, .slice a.dA a.dn a.dc] 26)) (.cells #[.int .i64 f] 3)
    simpa using this
  · rw [Below.heap_alloc _ _ _ (by simp)]
    have := heap_alloc_new ((w.alloc (.cells #[.int .i64 a.kind, .int .i64 a.fid, .int .i64 a.dir, .string a.name, .int .i64 a.to, .string a.toName, .slice a.dA a.dn a.dc] 26)).alloc (.cells #[.int .i64 f] 3)) (.cells #[.int .i64 t] 3)
    simpa using this
  · unfold BoxA
    have := heap_alloc_new (((w.alloc (.cells #[.int .i64 a.kind, .int .i64 a.fid, .int .i64 a.dir, .string a.name, .int .i64 a.to, .string a.toName, .slice a.dA a.dn a.dc] 26)).alloc (.cells #[.int .i64 f] 3)).alloc (.cells #[.int .i64 t] 3)) (.cells #[.int .i64 0, .int .i64 0, .int .i64 0, .string ⟨#[]⟩, .int .i64 0, .string ⟨#[]⟩, .slice none 0 0] 26)
    simpa [AV.zero] using this
theorem stw_box {w : World} {s : Nat} {a : AV} (h : BoxA w s a) (F D T : Int) : BoxA (stw w s F D T true true true) s ⟨a.kind, F, D, a.name, T, a.toName, a.dA, a.dn, a.dc⟩ := boxA_set4 (boxA_set2 (boxA_set1 h F) D) T
/-- an act, turned -/
def turnA (x : M.Act) (f t : Int) : M.Act := ⟨x.kind, turnI x.fid f t, turnI x.dir f t, x.name, turnI x.to f t, x.toName, x.data⟩
def opsT : Array Oper := #[⟨some 11, .move (.tmp 7), 76, "logs.go:55", #[], none⟩, ⟨some 12, .fieldAddr 26 (.tmp 3) 1, 0, "logs.go:55", #[], none⟩, ⟨some 13, .load 3 (.tmp 12), 3, "logs.go:55", #[⟨1, .data⟩], none⟩, ⟨some 14, .call { callee := .value (.tmp 11), args := #[.tmp 13], argTypes := #[3] }, 3, "logs.go:55", #[⟨0, .data⟩, ⟨2, .data⟩], none⟩, ⟨some 15, .move (.tmp 7), 76, "logs.go:55", #[], none⟩, ⟨some 16, .fieldAddr 26 (.tmp 3) 2, 0, "logs.go:55", #[], none⟩, ⟨some 17, .load 3 (.tmp 16), 3, "logs.go:55", #[⟨5, .data⟩], none⟩, ⟨some 18, .call { callee := .value (.tmp 15), args := #[.tmp 17], argTypes := #[3] }, 3, "logs.go:55", #[⟨4, .data⟩, ⟨6, .data⟩, ⟨3, .chain⟩], none⟩, ⟨some 19, .move (.tmp 7), 76, "logs.go:55", #[], none⟩, ⟨some 20, .fieldAddr 26 (.tmp 3) 4, 0, "logs.go:55", #[], none⟩, ⟨some 21, .load 3 (.tmp 20), 3, "logs.go:55", #[⟨9, .data⟩], none⟩, ⟨some 22, .call { callee := .value (.tmp 19), args := #[.tmp 21], argTypes := #[3] }, 3, "logs.go:55", #[⟨8, .data⟩, ⟨10, .data⟩, ⟨7, .chain⟩], none⟩, ⟨some 23, .fieldAddr 26 (.tmp 3) 1, 0, "logs.go:55", #[⟨0, .phase⟩, ⟨1, .phase⟩, ⟨2, .phase⟩, ⟨3, .phase⟩, ⟨4, .textOnly .lateStores⟩, ⟨5, .phase⟩, ⟨6, .phase⟩, ⟨7, .textOnly .lateStoresUnsure⟩, ⟨8, .textOnly .lateStores⟩, ⟨9, .phase⟩, ⟨10, .phase⟩, ⟨11, .textOnly .lateStoresUnsure⟩], none⟩, ⟨none, .store 3 (.tmp 23) (.tmp 14), 0, "logs.go:55", #[⟨12, .data⟩, ⟨3, .data⟩, ⟨11, .chain⟩, ⟨0, .phase⟩, ⟨1, .phase⟩, ⟨2, .phase⟩, ⟨3, .phase⟩, ⟨4, .textOnly .lateStores⟩, ⟨5, .phase⟩, ⟨6, .phase⟩, ⟨7, .textOnly .lateStoresUnsure⟩, ⟨8, .textOnly .lateStores⟩, ⟨9, .phase⟩, ⟨10, .phase⟩, ⟨11, .textOnly .lateStoresUnsure⟩], none⟩, ⟨some 24, .fieldAddr 26 (.tmp 3) 2, 0, "logs.go:55", #[⟨0, .phase⟩, ⟨1, .phase⟩, ⟨2, .phase⟩, ⟨3, .phase⟩, ⟨4, .phase⟩, ⟨5, .phase⟩, ⟨6, .phase⟩, ⟨7, .phase⟩, ⟨8, .textOnly .lateStores⟩, ⟨9, .phase⟩, ⟨10, .phase⟩, ⟨11, .textOnly .lateStoresUnsure⟩, ⟨12, .phase⟩, ⟨13, .phase⟩], none⟩, ⟨none, .store 3 (.tmp 24) (.tmp 18), 0, "logs.go:55", #[⟨14, .data⟩, ⟨7, .data⟩, ⟨13, .chain⟩, ⟨0, .phase⟩, ⟨1, .phase⟩, ⟨2, .phase⟩, ⟨3, .phase⟩, ⟨4, .phase⟩, ⟨5, .phase⟩, ⟨6, .phase⟩, ⟨7, .phase⟩, ⟨8, .textOnly .lateStores⟩, ⟨9, .phase⟩, ⟨10, .phase⟩, ⟨11, .textOnly .lateStoresUnsure⟩, ⟨12, .phase⟩, ⟨13, .phase⟩], none⟩, ⟨some 25, .fieldAddr 26 (.tmp 3) 4, 0, "logs.go:55", #[⟨0, .phase⟩, ⟨1, .phase⟩, ⟨2, .phase⟩, ⟨3, .phase⟩, ⟨4, .phase⟩, ⟨5, .phase⟩, ⟨6, .phase⟩, ⟨7, .phase⟩, ⟨8, .phase⟩, ⟨9, .phase⟩, ⟨10, .phase⟩, ⟨11, .phase⟩, ⟨12, .phase⟩, ⟨13, .phase⟩, ⟨14, .phase⟩, ⟨15, .phase⟩], none⟩, ⟨none, .store 3 (.tmp 25) (.tmp 22), 0, "logs.go:55", #[⟨16, .data⟩, ⟨11, .data⟩, ⟨15, .chain⟩, ⟨0, .phase⟩, ⟨1, .phase⟩, ⟨2, .phase⟩, ⟨3, .phase⟩, ⟨4, .phase⟩, ⟨5, .phase⟩, ⟨6, .phase⟩, ⟨7, .phase⟩, ⟨8, .phase⟩, ⟨9, .phase⟩, ⟨10, .phase⟩, ⟨11, .phase⟩, ⟨12, .phase⟩, ⟨13, .phase⟩, ⟨14, .phase⟩, ⟨15, .phase⟩], none⟩]
set_option maxRecDepth 8000 in
set_option maxHeartbeats 1000000 in
theorem turn_region {Q : Exit → Act → World → Prop} {a0 : Act} {W2 : World} {s : Nat} {a1 : AV} {f t : Int} (hz : a0.tmps.size = 27) (h7 : a0.eval (.tmp 7) = .func (.func 46) #[] #[.pointer (some ⟨s + 1, 0, none⟩), .pointer (some ⟨s + 2, 0, none⟩)]) (h3 : a0.eval (.tmp 3) = .pointer (some ⟨s, 0, none⟩))
    (hb : BoxA W2 s a1) (cf : W2.cell? ⟨s + 1, 0, none⟩ = some (.int .i64 f)) (ct : W2.cell? ⟨s + 2, 0, none⟩ = some (.int .i64 t))
    (last : ∀ a', Framed opsT a0 a' → Q .normal a' (stw W2.drew s (turnI a1.fid f t) (turnI a1.dir f t) (turnI a1.to f t) true true true)) : (Code.region 3 opsT true).wp Try.prog Q a0 W2 := by
  obtain ⟨a0', a1', a2, a3, a4, a5, a6, af, az2⟩ := hb.facts
  have hcell : ∀ (b1 b2 b3 : Bool) (q : Nat), q ≠ s → ∀ o, (stw W2.drew s (turnI a1.fid f t) (turnI a1.dir f t) (turnI a1.to f t) b1 b2 b3).cell? ⟨q, o, none⟩ = W2.cell? ⟨q, o, none⟩ := fun b1 b2 b3 q hq o => stw_cell hq o
  have b0 : BoxA W2.drew s a1 := hb
  have hT1 : ∀ (W : World) (F : Int) (_ _ : Nat), W.cell? ⟨s + 1, 0, none⟩ = some (.int .i64 f) → W.cell? ⟨s + 2, 0, none⟩ = some (.int .i64 t) → Calls Try.prog 46 (#[.int .i64 F] ++ #[.pointer (some ⟨s + 1, 0, none⟩), .pointer (some ⟨s + 2, 0, none⟩)]) W fun e w'' => ∃ r, e = .returned r ∧ (r = .int .i64 (turnI F f t) ∧ w'' = W) := by
    intro W F _ _ h1 h2
    refine (turn1_any F f t (s + 1) (s + 2) W h1 h2).mono ?_
    rintro e w'' ⟨rfl, rfl⟩
    exact ⟨_, rfl, rfl, rfl⟩
  refine wp_region_writes (VT s a1 f t) (WT W2.drew s (turnI a1.fid f t) (turnI a1.dir f t) (turnI a1.to f t)) (by kernel_rfl) (by rw [hz]; kernel_rfl) (by unfold WT; rfl) ?_ ?_
  · intro i hi
    match i, hi with
    | 0, _ =>
      refine StepW.by rfl rfl fun listed a' W hf hw hsz hlw hno hd => ?_
      exact does_move ((hf.keeps 7 (by kernel_rfl)).trans h7) ⟨rfl, wt_same hw (by decide) (by decide) (by decide)⟩
    | 1, _ =>
      refine StepW.by rfl rfl fun listed a' W hf hw hsz hlw hno hd => ?_
      exact does_fieldA (s := s) ((hf.keeps 3 (by kernel_rfl)).trans h3) (by decide) ⟨rfl, wt_same hw (by decide) (by decide) (by decide)⟩
    | 2, _ =>
      refine StepW.by rfl rfl fun listed a' W hf hw hsz hlw hno hd => ?_
      have e0 : W = W2.drew := by rw [hw, hno 13 _ rfl (by kernel_rfl), hno 15 _ rfl (by kernel_rfl), hno 17 _ rfl (by kernel_rfl)]; rfl
      exact does_load3 (hd 1 12 (by kernel_rfl) rfl) (by rw [e0]; exact a1') ⟨rfl, wt_same hw (by decide) (by decide) (by decide)⟩
    | 3, _ =>
      refine StepW.by rfl rfl fun listed a' W hf hw hsz hlw hno hd => ?_
      have h1 : W.cell? ⟨s + 1, 0, none⟩ = some (.int .i64 f) := by rw [hw, hcell _ _ _ _ (by omega)]; exact cf
      have h2 : W.cell? ⟨s + 2, 0, none⟩ = some (.int .i64 t) := by rw [hw, hcell _ _ _ _ (by omega)]; exact ct
      refine does_callV (enters_of Try.func46 (by kernel_rfl) (by kernel_rfl)) (hd 0 11 (by kernel_rfl) rfl) (hd 2 13 (by kernel_rfl) rfl) ((hT1 W a1.fid 0 0 h1 h2).mono ?_)
      rintro e w'' ⟨r, rfl, rfl, rfl⟩
      exact ⟨_, rfl, rfl, wt_same hw (by decide) (by decide) (by decide)⟩
    | 4, _ =>
      refine StepW.by rfl rfl fun listed a' W hf hw hsz hlw hno hd => ?_
      exact does_move ((hf.keeps 7 (by kernel_rfl)).trans h7) ⟨rfl, wt_same hw (by decide) (by decide) (by decide)⟩
    | 5, _ =>
      refine StepW.by rfl rfl fun listed a' W hf hw hsz hlw hno hd => ?_
      exact does_fieldA (s := s) ((hf.keeps 3 (by kernel_rfl)).trans h3) (by decide) ⟨rfl, wt_same hw (by decide) (by decide) (by decide)⟩
    | 6, _ =>
      refine StepW.by rfl rfl fun listed a' W hf hw hsz hlw hno hd => ?_
      have e0 : W = W2.drew := by rw [hw, hno 13 _ rfl (by kernel_rfl), hno 15 _ rfl (by kernel_rfl), hno 17 _ rfl (by kernel_rfl)]; rfl
      exact does_load3 (hd 5 16 (by kernel_rfl) rfl) (by rw [e0]; exact a2) ⟨rfl, wt_same hw (by decide) (by decide) (by decide)⟩
    | 7, _ =>
      refine StepW.by rfl rfl fun listed a' W hf hw hsz hlw hno hd => ?_
      have h1 : W.cell? ⟨s + 1, 0, none⟩ = some (.int .i64 f) := by rw [hw, hcell _ _ _ _ (by omega)]; exact cf
      have h2 : W.cell? ⟨s + 2, 0, none⟩ = some (.int .i64 t) := by rw [hw, hcell _ _ _ _ (by omega)]; exact ct
      refine does_callV (enters_of Try.func46 (by kernel_rfl) (by kernel_rfl)) (hd 4 15 (by kernel_rfl) rfl) (hd 6 17 (by kernel_rfl) rfl) ((hT1 W a1.dir 0 0 h1 h2).mono ?_)
      rintro e w'' ⟨r, rfl, rfl, rfl⟩
      exact ⟨_, rfl, rfl, wt_same hw (by decide) (by decide) (by decide)⟩
    | 8, _ =>
      refine StepW.by rfl rfl fun listed a' W hf hw hsz hlw hno hd => ?_
      exact does_move ((hf.keeps 7 (by kernel_rfl)).trans h7) ⟨rfl, wt_same hw (by decide) (by decide) (by decide)⟩
    | 9, _ =>
      refine StepW.by rfl rfl fun listed a' W hf hw hsz hlw hno hd => ?_
      exact does_fieldA (s := s) ((hf.keeps 3 (by kernel_rfl)).trans h3) (by decide) ⟨rfl, wt_same hw (by decide) (by decide) (by decide)⟩
    | 10, _ =>
      refine StepW.by rfl rfl fun listed a' W hf hw hsz hlw hno hd => ?_
      have e0 : W = W2.drew := by rw [hw, hno 13 _ rfl (by kernel_rfl), hno 15 _ rfl (by kernel_rfl), hno 17 _ rfl (by kernel_rfl)]; rfl
      exact does_load3 (hd 9 20 (by kernel_rfl) rfl) (by rw [e0]; exact a4) ⟨rfl, wt_same hw (by decide) (by decide) (by decide)⟩
    | 11, _ =>
      refine StepW.by rfl rfl fun listed a' W hf hw hsz hlw hno hd => ?_
      have h1 : W.cell? ⟨s + 1, 0, none⟩ = some (.int .i64 f) := by rw [hw, hcell _ _ _ _ (by omega)]; exact cf
      have h2 : W.cell? ⟨s + 2, 0, none⟩ = some (.int .i64 t) := by rw [hw, hcell _ _ _ _ (by omega)]; exact ct
      refine does_callV (enters_of Try.func46 (by kernel_rfl) (by kernel_rfl)) (hd 8 19 (by kernel_rfl) rfl) (hd 10 21 (by kernel_rfl) rfl) ((hT1 W a1.to 0 0 h1 h2).mono ?_)
      rintro e w'' ⟨r, rfl, rfl, rfl⟩
      exact ⟨_, rfl, rfl, wt_same hw (by decide) (by decide) (by decide)⟩
    | 12, _ =>
      refine StepW.by rfl rfl fun listed a' W hf hw hsz hlw hno hd => ?_
      exact does_fieldA (s := s) ((hf.keeps 3 (by kernel_rfl)).trans h3) (by decide) ⟨rfl, wt_same hw (by decide) (by decide) (by decide)⟩
    | 13, _ =>
      refine StepW.skip rfl rfl fun listed a' W hf hw hsz hlw hno hd hself => ?_
      have hin : 13 < listed.size := by rw [hsz]; decide
      have e0 : W = stw W2.drew s (turnI a1.fid f t) (turnI a1.dir f t) (turnI a1.to f t) false false false := by rw [hw, hself, hno 15 _ rfl (by kernel_rfl), hno 17 _ rfl (by kernel_rfl)]
      have bx := b0
      refine ⟨_, run_store3 (hd 12 23 (by kernel_rfl) rfl) (hd 3 14 (by kernel_rfl) rfl) (by rw [e0]; exact bx.facts.2.1) (by rw [e0]; exact bx.facts.2.2.2.2.2.2.2.1 _), trivial, ?_⟩
      unfold WT
      rw [getD_set_self hin, getD_set_ne true (by decide), getD_set_ne true (by decide), hno 15 _ rfl (by kernel_rfl), hno 17 _ rfl (by kernel_rfl)]
      rw [e0]
      rfl
    | 14, _ =>
      refine StepW.by rfl rfl fun listed a' W hf hw hsz hlw hno hd => ?_
      exact does_fieldA (s := s) ((hf.keeps 3 (by kernel_rfl)).trans h3) (by decide) ⟨rfl, wt_same hw (by decide) (by decide) (by decide)⟩
    | 15, _ =>
      refine StepW.skip rfl rfl fun listed a' W hf hw hsz hlw hno hd hself => ?_
      have hin : 15 < listed.size := by rw [hsz]; decide
      have e0 : W = stw W2.drew s (turnI a1.fid f t) (turnI a1.dir f t) (turnI a1.to f t) true false false := by rw [hw, hlw 13 (by kernel_rfl), hself, hno 17 _ rfl (by kernel_rfl)]
      have bx := boxA_set1 b0 (turnI a1.fid f t)
      refine ⟨_, run_store3 (hd 14 24 (by kernel_rfl) rfl) (hd 7 18 (by kernel_rfl) rfl) (by rw [e0]; exact bx.facts.2.2.1) (by rw [e0]; exact bx.facts.2.2.2.2.2.2.2.1 _), trivial, ?_⟩
      unfold WT
      rw [getD_set_ne true (by decide), getD_set_self hin, getD_set_ne true (by decide), hlw 13 (by kernel_rfl), hno 17 _ rfl (by kernel_rfl)]
      rw [e0]
      rfl
    | 16, _ =>
      refine StepW.by rfl rfl fun listed a' W hf hw hsz hlw hno hd => ?_
      exact does_fieldA (s := s) ((hf.keeps 3 (by kernel_rfl)).trans h3) (by decide) ⟨rfl, wt_same hw (by decide) (by decide) (by decide)⟩
    | 17, _ =>
      refine StepW.skip rfl rfl fun listed a' W hf hw hsz hlw hno hd hself => ?_
      have hin : 17 < listed.size := by rw [hsz]; decide
      have e0 : W = stw W2.drew s (turnI a1.fid f t) (turnI a1.dir f t) (turnI a1.to f t) true true false := by rw [hw, hlw 13 (by kernel_rfl), hlw 15 (by kernel_rfl), hself]
      have bx := boxA_set2 (boxA_set1 b0 (turnI a1.fid f t)) (turnI a1.dir f t)
      refine ⟨_, run_store3 (hd 16 25 (by kernel_rfl) rfl) (hd 11 22 (by kernel_rfl) rfl) (by rw [e0]; exact bx.facts.2.2.2.2.1) (by rw [e0]; exact bx.facts.2.2.2.2.2.2.2.1 _), trivial, ?_⟩
      unfold WT
      rw [getD_set_ne true (by decide), getD_set_ne true (by decide), getD_set_self hin, hlw 13 (by kernel_rfl), hlw 15 (by kernel_rfl)]
      rw [e0]
      rfl
    | k + 18, hi => exact absurd hi (Nat.not_lt.2 (Nat.le_add_left _ _))
  · intro listed a' W hf hw hl
    have hw2 : W = stw W2.drew s (turnI a1.fid f t) (turnI a1.dir f t) (turnI a1.to f t) true true true := by
      rw [hw, hl 13 (by decide), hl 15 (by decide), hl 17 (by decide)]
    rw [hw2]
    exact last a' hf

theorem stw_boxo {W : World} {s q : Nat} {a : AV} (h : BoxA W q a) (hq : q ≠ s) (F D T : Int) : BoxA (stw W s F D T true true true) q a := by
  unfold BoxA at h ⊢; rw [stw_heap hq]; exact h
theorem turn_end {w W2 : World} {a1 : AV} {x : M.Act} {f t : Int} (hb : Below w.heap.size w W2) (hx : BoxA W2 w.heap.size a1) (hz : BoxA W2 (w.heap.size + 3) AV.zero) (ho2 : OwnA W2 (w.heap.size + 4) a1 x) :
    ∀ W3, W3 = stw W2.drew w.heap.size (turnI a1.fid f t) (turnI a1.dir f t) (turnI a1.to f t) true true true →
      Below w.heap.size w W3 ∧ BoxA W3 w.heap.size ⟨a1.kind, turnI a1.fid f t, turnI a1.dir f t, a1.name, turnI a1.to f t, a1.toName, a1.dA, a1.dn, a1.dc⟩ ∧ BoxA W3 (w.heap.size + 3) AV.zero ∧ OwnA W3 (w.heap.size + 4) ⟨a1.kind, turnI a1.fid f t, turnI a1.dir f t, a1.name, turnI a1.to f t, a1.toName, a1.dA, a1.dn, a1.dc⟩ (turnA x f t) := by
  rintro W3 rfl
  have hdr : Below W2.heap.size W2 W2.drew := (Below.refl _ _).drew
  have ho := ho2.below (Nat.le_refl _) hdr
  refine ⟨stw_below (hb.trans (hdr.mono hb.size)) (Nat.le_refl _) _ _ _, stw_box (hx.below hdr (lt_of_block hx)) _ _ _, stw_boxo (hz.below hdr (lt_of_block hz)) (by omega) _ _ _, ?_⟩
  exact ⟨ho.1, by rw [ho.2.1]; rfl, by rw [ho.2.2.1]; rfl, ho.2.2.2.1, by rw [ho.2.2.2.2.1]; rfl, ho.2.2.2.2.2.1, stw_own ho.2.2.2.2.2.2 (by omega) _ _ _⟩
set_option maxRecDepth 8000 in
set_option maxHeartbeats 4000000 in
theorem turn_any (a : AV) (x : M.Act) (f t : Int) (w : World) (ha : ContA w a x) (hs : x.data.length ≤ 140737488355328) :
    Calls Try.prog 26 #[a.val, .int .i64 f, .int .i64 t] w fun e w' => ∃ a' : AV, e = .returned a'.val ∧ OwnA w' w.heap.size a' (turnA x f t) ∧ Below w.heap.size w w' := by
  have HA : Hid (ContA w a x) := ha
  have HW : Hid _ := turn_start w a f t
  clear ha
  go_enter Try.func26, Try.ntmps26
  go_wp2_with (fail)
  obtain ⟨q1, q2, q3, q4, q5, q6⟩ := HW.out _ rfl
  refine (ownAct_any a x _ (HA.out.below (Nat.le_refl _) q1) hs).mono ?_
  rintro e w1 ⟨a1, rfl, ho, hb1⟩
  have hz1 := hb1.size
  rw [q6] at hz1 ho
  have HB1 : Hid (Below w.heap.size w w1 ∧ BoxA w1 w.heap.size a ∧ w1.heap[w.heap.size + 1]? = some (.cells #[.int .i64 f] 3 (0, 0)) ∧ w1.heap[w.heap.size + 2]? = some (.cells #[.int .i64 t] 3 (0, 0)) ∧ BoxA w1 (w.heap.size + 3) AV.zero) := ⟨q1.trans (hb1.mono (by omega)), q2.below hb1 (by omega), by rw [hb1.block _ (by omega)]; exact q3, by rw [hb1.block _ (by omega)]; exact q4, q5.below hb1 (by omega)⟩
  have HO : Hid (OwnA w1 (w.heap.size + 4) a1 x) := ho
  obtain ⟨a0, a1', a2, a3, a4, a5, a6, af, az⟩ := HB1.out.2.1.facts
  clear q1 q2 q3 q4 q5 q6 hb1 HW ho
  go_upto_region 3 with (fail)
  have HW2 : Hid (Below w.heap.size w (put7 w1 w.heap.size 0 a1) ∧ BoxA (put7 w1 w.heap.size 0 a1) w.heap.size a1 ∧ (put7 w1 w.heap.size 0 a1).heap[w.heap.size + 1]? = some (.cells #[.int .i64 f] 3 (0, 0)) ∧ (put7 w1 w.heap.size 0 a1).heap[w.heap.size + 2]? = some (.cells #[.int .i64 t] 3 (0, 0)) ∧ BoxA (put7 w1 w.heap.size 0 a1) (w.heap.size + 3) AV.zero ∧ OwnA (put7 w1 w.heap.size 0 a1) (w.heap.size + 4) a1 x) := by
    refine ⟨put7_below HB1.out.1 (Nat.le_refl _) 0 a1, put7_box HB1.out.2.1 a1, by rw [put7_other (by omega)]; exact HB1.out.2.2.1, by rw [put7_other (by omega)]; exact HB1.out.2.2.2.1, ?_, ?_⟩
    · unfold BoxA; rw [put7_other (by omega)]; exact HB1.out.2.2.2.2
    · exact ⟨HO.out.1, HO.out.2.1, HO.out.2.2.1, HO.out.2.2.2.1, HO.out.2.2.2.2.1, HO.out.2.2.2.2.2.1, put7_own HO.out.2.2.2.2.2.2 (by omega) 0 a1⟩
  refine turn_region (s := w.heap.size) (a1 := a1) (f := f) (t := t) rfl rfl rfl HW2.out.2.1 (by simp [World.cell?, HW2.out.2.2.1]) (by simp [World.cell?, HW2.out.2.2.2.1]) ?_
  intro a' hf
  have HW3 : Hid _ := turn_end (f := f) (t := t) HW2.out.1 HW2.out.2.1 HW2.out.2.2.2.2.1 HW2.out.2.2.2.2.2
  have hl := hf.lit (fun t => decide (11 ≤ t) && decide (t ≤ 25)) (by kernel_rfl)
  simp only [overL, Nat.reduceAdd, Nat.reduceLeDiff, decide_true, decide_false, Bool.and_true, Bool.and_false] at hl
  have hE : ∃ W3, W3 = stw (put7 w1 w.heap.size 0 a1).drew w.heap.size (turnI a1.fid f t) (turnI a1.dir f t) (turnI a1.to f t) true true true := ⟨_, rfl⟩
  obtain ⟨W3, hW3⟩ := hE
  have HF3 : Hid _ := HW3.out W3 hW3
  rw [hl]
  show Exit.then _ _ Exit.normal _ (stw (put7 w1 w.heap.size 0 a1).drew w.heap.size (turnI a1.fid f t) (turnI a1.dir f t) (turnI a1.to f t) true true true)
  rw [← hW3]
  clear hl hf hW3 HW3 HW2 a0 a1' a2 a3 a4 a5 a6 af
  obtain ⟨b0, b1, b2, b3, b4, b5, b6, bf, bz⟩ := HF3.out.2.1.facts
  obtain ⟨z0, z1, z2, z3, z4, z5, z6, zf, zz⟩ := HF3.out.2.2.1.facts
  have HP : Hid (OwnA (put7 W3 (w.heap.size + 3) 0 ⟨a1.kind, turnI a1.fid f t, turnI a1.dir f t, a1.name, turnI a1.to f t, a1.toName, a1.dA, a1.dn, a1.dc⟩) w.heap.size ⟨a1.kind, turnI a1.fid f t, turnI a1.dir f t, a1.name, turnI a1.to f t, a1.toName, a1.dA, a1.dn, a1.dc⟩ (turnA x f t) ∧ Below w.heap.size w (put7 W3 (w.heap.size + 3) 0 ⟨a1.kind, turnI a1.fid f t, turnI a1.dir f t, a1.name, turnI a1.to f t, a1.toName, a1.dA, a1.dn, a1.dc⟩)) := by
    have ho := HF3.out.2.2.2
    exact ⟨⟨ho.1, ho.2.1, ho.2.2.1, ho.2.2.2.1, ho.2.2.2.2.1, ho.2.2.2.2.2.1, own_mono (put7_own ho.2.2.2.2.2.2 (by omega) 0 _) (Nat.le_add_right _ 4)⟩, put7_below HF3.out.1 (by omega) 0 _⟩
  generalize turnI a1.fid f t = F at *
  generalize turnI a1.dir f t = D at *
  generalize turnI a1.to f t = T at *
  go_wp2
  exact bodyPost_ret (v := AV.val ⟨a1.kind, F, D, a1.name, T, a1.toName, a1.dA, a1.dn, a1.dc⟩) (by simp [results, Try.results26, go_sem, z0, z1, z2, z3, z4, z5, z6]) rfl ⟨⟨a1.kind, F, D, a1.name, T, a1.toName, a1.dA, a1.dn, a1.dc⟩, rfl, HP.out.1, HP.out.2⟩
end Go.Proofs.Ytlegjdlmcphhlab
/-
  PACKAGE logs: Acts.
-/
namespace Go.Proofs.Ytlegjdlmcphhlab
open Go.RowKit

theorem infoA : (Try.prog.info? 26).map (fun i => (i.zero, i.size, i.bytes)) = some (some (.agg #[.int .i64 0, .int .i64 0, .int .i64 0, .string ByteArray.empty, .int .i64 0, .string ByteArray.empty, .slice none 0 0]), 7, 88) := by kernel_rfl
theorem rowA_box {w : World} {s : Nat} {r : AV} (h : BoxA w s r) : Row 7 AV.cells w (some ⟨s, 0, none⟩) 1 [r] := by
  refine ⟨rfl, .inr ⟨s, 0, rfl, lt_of_block h, fun j v hv i c hi => ?_⟩⟩
  obtain ⟨b0, b1, b2, b3, b4, b5, b6, bf, bz⟩ := h.facts
  cases j with
  | succ j => cases hv
  | zero =>
    cases hv
    match i, hi with
    | 0, hi => cases hi; exact b0
    | 1, hi => cases hi; exact b1
    | 2, hi => cases hi; exact b2
    | 3, hi => cases hi; exact b3
    | 4, hi => cases hi; exact b4
    | 5, hi => cases hi; exact b5
    | 6, hi => cases hi; exact b6
    | i + 7, hi => cases hi
def OwnAs (w : World) (B : Nat) (A : Option Addr) (n c : Nat) (vs : List AV) (xs : List M.Act) : Prop := w.ownsRow B 26 7 (.slice A n c) n (vs.flatMap AV.cells) ∧ All2 (OwnA w B) vs xs
theorem OwnAs.tree {w : World} {B : Nat} {A : Option Addr} {n c : Nat} {vs : List AV} {xs : List M.Act} (h : OwnAs w B A n c vs xs) : TreeA w A n vs xs :=
  ⟨Row.ofOwn act_len (by decide) h.1, h.2.imp fun _ _ h => h.cont⟩
theorem OwnAs.below {B C : Nat} {w w' : World} {A : Option Addr} {n c : Nat} {vs : List AV} {xs : List M.Act} (h : OwnAs w B A n c vs xs) (hC : w.heap.size ≤ C) (hb : Below C w w') : OwnAs w' B A n c vs xs :=
  ⟨own_below h.1 hb hC, h.2.imp fun _ _ h => h.below hC hb⟩
theorem OwnAs.snoc {w w' : World} {B : Nat} {A : Option Addr} {n c : Nat} {A' : Option Addr} {n' c' : Nat} {vs : List AV} {xs : List M.Act} {r : AV} {x : M.Act} (h : OwnAs w B A n c vs xs) (hr : OwnA w B r x) (ho : w'.ownsRow B 26 7 (.slice A' n' c') n' (vs.flatMap AV.cells ++ r.cells)) (hg : w.grownBy w' (Value.slice A n c).ownBlock) : OwnAs w' B A' n' c' (vs ++ [r]) (xs ++ [x]) := by
  refine ⟨?_, All2.append (h.2.imp fun _ _ k => k.grown h.1 (by decide) hg) (All2.one (hr.grown h.1 (by decide) hg))⟩
  rw [List.flatMap_append]
  simpa using ho
theorem snoc_belowA {w W w2 : World} {A : Option Addr} {m c : Nat} {L : List Value} (hb : Below w.heap.size w W) (ho : W.ownsRow w.heap.size 26 7 (.slice A m c) m L) (hg : W.grownBy w2 (Value.slice A m c).ownBlock) : Below w.heap.size w w2 :=
  Below.grown hb hg hb.size (fun k hk => by
    rcases ho.2 with ⟨e, _⟩ | ⟨g, cap, cur, e, h1, _⟩
    · cases e; cases hk
    · cases e; cases hk; exact h1)
theorem actsLen {w : World} {B : Nat} {A : Option Addr} {n c : Nat} {vs : List AV} {xs : List M.Act} (h : OwnAs w B A n c vs xs) : n = xs.length := by rw [h.tree.1.1, h.2.1]

set_option maxRecDepth 8000 in
set_option maxHeartbeats 2000000 in
theorem acts_any (A : Option Addr) (n c : Nat) (vs : List RV) (xs : List M.Rec) (w : World) (ht : TreeR w A n vs xs) (hs : ∀ x ∈ xs, x.act.data.length ≤ 140737488355328) (hn : n * 104 ≤ 140737488355328) :
    Calls Try.prog 22 #[.slice A n c] w fun e w' => ∃ (B : Option Addr) (m d : Nat) (us : List AV), e = .returned (.slice B m d) ∧ OwnAs w' w.heap.size B m d us (xs.map (·.act)) ∧ Below w.heap.size w w' := by
  obtain ⟨iA, hiA, hzA, hsA, hbA⟩ := info_parts infoA
  have HT : Hid (TreeR w A n vs xs ∧ (∀ x ∈ xs, x.act.data.length ≤ 140737488355328)) := ⟨ht, hs⟩
  clear ht hs
  have hbn : iA.bytes * n ≤ 281474976710656 := by rw [hbA]; omega
  go_enter Try.func22, Try.ntmps22
  go_wp2_with (at_make; refine wpList_make_own _ (by rfl) (.const (.int .i64 0)) (.tmp 7) 53 (by rfl) w.heap.size 26 iA _ 7 Try.underlying53 hiA hzA hsA .i64 .i64 _ n rfl rfl rfl hbn (by unfold maxLen; omega) (Nat.le_refl _) ?_; intro w1 hown hg1; have hb1 := grown_below hg1; clear hg1)
  have H0 : Hid (OwnAs w1 w.heap.size (some ⟨w.heap.size, 0, none⟩) 0 n [] [] ∧ Below w.heap.size w w1) := ⟨⟨by simpa using hown, All2.nil⟩, hb1⟩
  clear hown hb1 hbn
  go_loopw [3, 11] (fun v i wr => ∃ (k : Nat) (B : Option Addr) (m d : Nat) (us : List AV), k ≤ n ∧ i = .int .i64 k ∧ v = .slice B m d ∧ OwnAs wr w.heap.size B m d us ((xs.take k).map (·.act)) ∧ Below w.heap.size w wr) (fun _ i _ => n - (intOf i).toNat)
  case atStart => exact ⟨0, _, 0, n, [], Nat.zero_le _, rfl, rfl, by simpa using H0.out.1, H0.out.2⟩
  case round =>
    obtain ⟨k, B, m, d, us, hk, rfl, rfl, hol, hb⟩ := hrel
    have HO : Hid (OwnAs wr w.heap.size B m d us ((xs.take k).map (·.act)) ∧ Below w.heap.size w wr) := ⟨hol, hb⟩
    have hml : m ≤ k := by
      rw [actsLen hol]
      simp; omega
    have hsz := hb.size
    clear hol
    by_cases hlt : k < n
    · have htr := HT.out.1.below (Nat.le_refl _) hb
      obtain ⟨g, o, v, rfl, hgb, hvk, c0, c1, c2, c3, c4, c5, c6, c7, c8⟩ := htr.1.at hlt
      obtain ⟨x, hx, hcx⟩ := htr.2.at hvk
      have HX : Hid (xs[k]? = some x ∧ ContR wr v x ∧ x.act.data.length ≤ 140737488355328) := ⟨hx, hcx, HT.out.2 x (List.mem_of_getElem? hx)⟩
      have HWA : Hid _ := boxR_start wr v
      have HFS : Hid ((xs.take (k + 1)).map (·.act) = (xs.take k).map (·.act) ++ [x.act]) := by show _ = _; rw [take_step hx, List.map_append]; rfl
      clear hvk htr hx hcx
      go_wp2_with (fail)
      obtain ⟨q1, q2, q3⟩ := HWA.out _ rfl
      refine (ownAct_any v.a x.act _ (HX.out.2.1.1.below (Nat.le_refl _) q1) HX.out.2.2).mono ?_
      rintro e w3 ⟨r', rfl, hor, hb3⟩
      have hz3 := hb3.size
      rw [q3] at hz3
      have h13 : Below wr.heap.size wr w3 := q1.trans (hb3.mono (by omega))
      have HB3 : Hid (Below w.heap.size w w3 ∧ OwnAs w3 w.heap.size B m d us ((xs.take k).map (·.act)) ∧ OwnA w3 w.heap.size r' x.act) := ⟨hb.trans (h13.mono hsz), HO.out.1.below (Nat.le_refl _) h13, hor.mono (by rw [q3]; omega)⟩
      have HWB : Hid _ := boxA_start w3 r'
      clear hor hb3 q1 q2 q3 HWA h13 hb
      go_wp2_with (at_builtin; refine wpList_append_row _ (by rfl) (.tmp 15) (.tmp 19) 53 (by rfl) w.heap.size 26 iA _ 88 Try.underlying53 hiA hzA hsA hbA rfl (by decide) _ m _ (by rfl) (own_below HB3.out.2.1.1 (HWB.out _ rfl).1 (Nat.le_refl _)) (some ⟨w3.heap.size, 0, none⟩) 1 1 [r'] (by rfl) (rowA_box (HWB.out _ rfl).2.1) act_len act_one (by unfold maxLen; omega) (by omega) (by simp; omega) ?_; intro v4 w4 hown4 hg4; obtain ⟨A4, c4', rfl, _, _⟩ := own_form hown4; have HR : Hid (OwnAs w4 w.heap.size A4 (m + 1) c4' (us ++ [r']) ((xs.take (k + 1)).map (·.act)) ∧ Below w.heap.size w w4) := ⟨by rw [HFS.out]; exact OwnAs.snoc (HB3.out.2.1.below (Nat.le_refl _) (HWB.out _ rfl).1) (HB3.out.2.2.below (Nat.le_refl _) (HWB.out _ rfl).1) (by simpa using hown4) hg4, snoc_belowA (HB3.out.1.trans ((HWB.out _ rfl).1.mono HB3.out.1.size)) (own_below HB3.out.2.1.1 (HWB.out _ rfl).1 (Nat.le_refl _)) hg4⟩; clear hown4 hg4)
      go_roundw
      case rel => exact ⟨k + 1, A4, m + 1, c4', us ++ [r'], by omega, by go_num, rfl, HR.out.1, HR.out.2⟩
      case measure => simp [intOf]; omega
    · have HL : Hid (xs.take k = xs) := by show _ = _; exact List.take_of_length_le (by rw [← HT.out.1.len]; omega)
      go_wp2
      go_ret
      have h1 := HO.out.1
      rw [HL.out] at h1
      exact ⟨B, m, d, us, rfl, h1, hb⟩
end Go.Proofs.Ytlegjdlmcphhlab
/-
  WHAT SINGLE OPERATIONS DO, further: records, acts, indices, numbers (for regions that draw their order).
-/
namespace Go.Proofs.Ytlegjdlmcphhlab
open Go.RowKit

theorem does_run {a : Act} {w w' : World} {R : Value → World → Prop} {o : Oper} {v : Value} (h : (execOp a.eval o).run Try.prog w = .ok (.value v) w') (hR : R v w') : Does Try.prog o a w R := .inl ⟨v, w', h, hR⟩
/-- the value is this -/
def IsW (c : Value) : Value → World → Prop := fun v _ => v = c
/-- cells of a record that begins here -/
def RecAt (w : World) (b o : Nat) (r : RV) : Prop := ∀ i c, r.cells[i]? = some c → w.cell? ⟨b, o + i, none⟩ = some c
def ActAt (w : World) (b o : Nat) (r : AV) : Prop := ∀ i c, r.cells[i]? = some c → w.cell? ⟨b, o + i, none⟩ = some c
theorem RecAt.act {w : World} {b o : Nat} {r : RV} (h : RecAt w b o r) : ActAt w b o r.a := fun i c hc => h i c (by
  match i, hc with
  | 0, hc => exact hc
  | 1, hc => exact hc
  | 2, hc => exact hc
  | 3, hc => exact hc
  | 4, hc => exact hc
  | 5, hc => exact hc
  | 6, hc => exact hc
  | i + 7, hc => cases hc)
theorem RecAt.below {w w' : World} {b o B : Nat} {r : RV} (h : RecAt w b o r) (hb : Below B w w') (hs : b < B) : RecAt w' b o r := fun i c hc => by
  rw [hb.cell (p := ⟨b, o + i, none⟩) hs]; exact h i c hc
theorem ActAt.below {w w' : World} {b o B : Nat} {r : AV} (h : ActAt w b o r) (hb : Below B w w') (hs : b < B) : ActAt w' b o r := fun i c hc => by
  rw [hb.cell (p := ⟨b, o + i, none⟩) hs]; exact h i c hc
theorem BoxR.at_ {w : World} {s : Nat} {r : RV} (h : BoxR w s r) : RecAt w s 0 r := fun i c hc => by
  obtain ⟨b0, b1, b2, b3, b4, b5, b6, b7, b8, bf, bz⟩ := h.facts
  rw [Nat.zero_add]
  match i, hc with
  | 0, hc => cases hc; exact b0
  | 1, hc => cases hc; exact b1
  | 2, hc => cases hc; exact b2
  | 3, hc => cases hc; exact b3
  | 4, hc => cases hc; exact b4
  | 5, hc => cases hc; exact b5
  | 6, hc => cases hc; exact b6
  | 7, hc => cases hc; exact b7
  | 8, hc => cases hc; exact b8
  | i + 9, hc => cases hc
theorem BoxA.at_ {w : World} {s : Nat} {r : AV} (h : BoxA w s r) : ActAt w s 0 r := fun i c hc => by
  obtain ⟨b0, b1, b2, b3, b4, b5, b6, bf, bz⟩ := h.facts
  rw [Nat.zero_add]
  match i, hc with
  | 0, hc => cases hc; exact b0
  | 1, hc => cases hc; exact b1
  | 2, hc => cases hc; exact b2
  | 3, hc => cases hc; exact b3
  | 4, hc => cases hc; exact b4
  | 5, hc => cases hc; exact b5
  | 6, hc => cases hc; exact b6
  | i + 7, hc => cases hc
theorem Recs.recAt {w : World} {b o n : Nat} {vs : List RV} (h : Recs w (some ⟨b, o, none⟩) n vs) {j : Nat} {v : RV} (hv : vs[j]? = some v) : RecAt w b (o + j * 9) v := by
  have hj : j < n := by rw [h.1]; exact (List.getElem?_eq_some_iff.1 hv).1
  obtain ⟨b', o', v', e, _, hv', c0, c1, c2, c3, c4, c5, c6, c7, c8⟩ := h.at hj
  cases e
  rw [hv] at hv'
  cases hv'
  intro i c hc
  match i, hc with
  | 0, hc => cases hc; exact c0
  | 1, hc => cases hc; exact c1
  | 2, hc => cases hc; exact c2
  | 3, hc => cases hc; exact c3
  | 4, hc => cases hc; exact c4
  | 5, hc => cases hc; exact c5
  | 6, hc => cases hc; exact c6
  | 7, hc => cases hc; exact c7
  | 8, hc => cases hc; exact c8
  | i + 9, hc => cases hc

theorem want_undef {ops : Array Oper} {a : Act} {d : Option Tmp} {ty : TypeId} {pos : String} {af : Array Edge} {op : Op} {k t : Nat} {want : Bool} (hk : (ops[k]?).bind (·.dst) = some t) (h : a.eval (.tmp t) = undef) : Region.wanted ⟨d, op, ty, pos, af, some (k, want)⟩ (yielded ops a.tmps) = false := by
  have ht : a.tmps[t]? = some undef ∨ a.tmps[t]? = none := by
    have h : a.tmps.getD t undef = undef := h
    rw [Array.getD_eq_getD_getElem?] at h
    cases hx : a.tmps[t]? with
    | none => exact .inr rfl
    | some v => rw [hx] at h; exact .inl (congrArg some h)
  unfold Region.wanted yielded
  simp only [hk, Option.bind_some]
  rcases ht with ht | ht
  · rw [ht]; rfl
  · rw [ht]; rfl

section
variable {w : World} {R : Value → World → Prop} {d : Option Tmp} {ty : TypeId} {pos : String} {af : Array Edge} {g : Option (Nat × Bool)} {x y : Operand}
theorem run_loadR {ρ : Operand → Value} {b o : Nat} {v : RV} (hx : ρ x = .pointer (some ⟨b, o, none⟩)) (h : RecAt w b o v) : (execOp ρ ⟨d, .load 48 x, ty, pos, af, g⟩).run Try.prog w = .ok (.value v.val) w := by
  have c0 := h 0 _ rfl
  have c1 := h 1 _ rfl
  have c2 := h 2 _ rfl
  have c3 := h 3 _ rfl
  have c4 := h 4 _ rfl
  have c5 := h 5 _ rfl
  have c6 := h 6 _ rfl
  have c7 := h 7 _ rfl
  have c8 := h 8 _ rfl
  simp only [Nat.add_zero] at c0
  simp [execOp, hx, go_sem, c0, c1, c2, c3, c4, c5, c6, c7, c8]
theorem run_loadA {ρ : Operand → Value} {b o : Nat} {v : AV} (hx : ρ x = .pointer (some ⟨b, o, none⟩)) (h : ActAt w b o v) : (execOp ρ ⟨d, .load 26 x, ty, pos, af, g⟩).run Try.prog w = .ok (.value v.val) w := by
  have c0 := h 0 _ rfl
  have c1 := h 1 _ rfl
  have c2 := h 2 _ rfl
  have c3 := h 3 _ rfl
  have c4 := h 4 _ rfl
  have c5 := h 5 _ rfl
  have c6 := h 6 _ rfl
  simp only [Nat.add_zero] at c0
  simp [execOp, hx, go_sem, c0, c1, c2, c3, c4, c5, c6]
theorem run_indexR {ρ : Operand → Value} {b o n c k : Nat} (hx : ρ x = .slice (some ⟨b, o, none⟩) n c) (hy : ρ y = .int .i64 (k : Int)) (hk : k < n) : (execOp ρ ⟨d, .indexAddr 46 x y, ty, pos, af, g⟩).run Try.prog w = .ok (.value (.pointer (some ⟨b, o + k * 9, none⟩))) w := by
  have h1 : (k : Int) < (n : Int) := by omega
  have h0 : (0 : Int) ≤ (k : Int) := by omega
  simp [execOp, hx, hy, go_sem, h1]
theorem run_indexA {ρ : Operand → Value} {b o n c k : Nat} (hx : ρ x = .slice (some ⟨b, o, none⟩) n c) (hy : ρ y = .int .i64 (k : Int)) (hk : k < n) : (execOp ρ ⟨d, .indexAddr 53 x y, ty, pos, af, g⟩).run Try.prog w = .ok (.value (.pointer (some ⟨b, o + k * 7, none⟩))) w := by
  have h1 : (k : Int) < (n : Int) := by omega
  have h0 : (0 : Int) ≤ (k : Int) := by omega
  simp [execOp, hx, hy, go_sem, h1]
theorem run_fieldR0 {ρ : Operand → Value} {b o : Nat} (hx : ρ x = .pointer (some ⟨b, o, none⟩)) : (execOp ρ ⟨d, .fieldAddr 48 x 0, ty, pos, af, g⟩).run Try.prog w = .ok (.value (.pointer (some ⟨b, o, none⟩))) w := by
  simp [execOp, hx, go_sem]
theorem run_fieldR1 {ρ : Operand → Value} {b o : Nat} (hx : ρ x = .pointer (some ⟨b, o, none⟩)) : (execOp ρ ⟨d, .fieldAddr 48 x 1, ty, pos, af, g⟩).run Try.prog w = .ok (.value (.pointer (some ⟨b, o + 7, none⟩))) w := by
  simp [execOp, hx, go_sem]
theorem run_fieldR2 {ρ : Operand → Value} {b o : Nat} (hx : ρ x = .pointer (some ⟨b, o, none⟩)) : (execOp ρ ⟨d, .fieldAddr 48 x 2, ty, pos, af, g⟩).run Try.prog w = .ok (.value (.pointer (some ⟨b, o + 8, none⟩))) w := by
  simp [execOp, hx, go_sem]
theorem run_fieldAo {ρ : Operand → Value} {s o k : Nat} (hx : ρ x = .pointer (some ⟨s, o, none⟩)) (hk : k < 7) : (execOp ρ ⟨d, .fieldAddr 26 x k, ty, pos, af, g⟩).run Try.prog w = .ok (.value (.pointer (some ⟨s, o + k, none⟩))) w := by
  match k, hk with
  | 0, _ => simp [execOp, hx, go_sem]
  | 1, _ => simp [execOp, hx, go_sem]
  | 2, _ => simp [execOp, hx, go_sem]
  | 3, _ => simp [execOp, hx, go_sem]
  | 4, _ => simp [execOp, hx, go_sem]
  | 5, _ => simp [execOp, hx, go_sem]
  | 6, _ => simp [execOp, hx, go_sem]
theorem run_eqI {ρ : Operand → Value} {b c : Int} (hx : ρ x = .int .i64 b) (hy : ρ y = .int .i64 c) : (execOp ρ ⟨d, .binOp .eql 3 x y 3, ty, pos, af, g⟩).run Try.prog w = .ok (.value (.bool (b == c))) w := by
  simp [execOp, hx, hy, go_sem]
theorem run_lssI {ρ : Operand → Value} {b c : Int} (hx : ρ x = .int .i64 b) (hy : ρ y = .int .i64 c) : (execOp ρ ⟨d, .binOp .lss 3 x y 3, ty, pos, af, g⟩).run Try.prog w = .ok (.value (.bool (decide (b < c)))) w := by
  simp [execOp, hx, hy, go_sem]
theorem run_gtrI {ρ : Operand → Value} {b c : Int} (hx : ρ x = .int .i64 b) (hy : ρ y = .int .i64 c) : (execOp ρ ⟨d, .binOp .gtr 3 x y 3, ty, pos, af, g⟩).run Try.prog w = .ok (.value (.bool (decide (c < b)))) w := by
  simp [execOp, hx, hy, go_sem]
theorem run_addN {ρ : Operand → Value} {m k : Nat} (hx : ρ x = .int .i64 (m : Int)) (hy : ρ y = .int .i64 (k : Int)) (h : m + k ≤ 9223372036854775807) : (execOp ρ ⟨d, .binOp .add 3 x y 3, ty, pos, af, g⟩).run Try.prog w = .ok (.value (.int .i64 ((m + k : Nat) : Int))) w := by
  have h1 : (m : Int) + (k : Int) ≤ 9223372036854775807 := by omega
  have h2 : (-9223372036854775808 : Int) ≤ (m : Int) + (k : Int) := by omega
  simp [execOp, hx, hy, go_sem, IntWalk.i64_in _ ⟨h2, h1⟩]
theorem run_subN {ρ : Operand → Value} {m k : Nat} (hx : ρ x = .int .i64 (m : Int)) (hy : ρ y = .int .i64 (k : Int)) (h : k ≤ m) (hm : m ≤ 9223372036854775807) : (execOp ρ ⟨d, .binOp .sub 3 x y 3, ty, pos, af, g⟩).run Try.prog w = .ok (.value (.int .i64 ((m - k : Nat) : Int))) w := by
  have h1 : (m : Int) - (k : Int) ≤ 9223372036854775807 := by omega
  have h2 : (-9223372036854775808 : Int) ≤ (m : Int) - (k : Int) := by omega
  have h3 : ((m - k : Nat) : Int) = (m : Int) - (k : Int) := by omega
  rw [h3]
  simp [execOp, hx, hy, go_sem, IntWalk.i64_in _ ⟨h2, h1⟩]
theorem run_lenS {ρ : Operand → Value} {A : Option Addr} {n c : Nat} {t : TypeId} (h : Try.prog.underlying t = some (.slice (Try.prog.elem t))) (hx : ρ x = .slice A n c) : (execOp ρ ⟨d, .call { callee := .builtin .len, args := #[x], argTypes := #[t] }, ty, pos, af, g⟩).run Try.prog w = .ok (.value (.int .i64 (n : Int))) w := by
  have hl := run_len_slice (P := Try.prog) (w := w) t ty A n c h
  clear h
  simp [hx, go_sem, hl]
theorem run_buildR {ρ : Operand → Value} {v : RV} (hx : ρ x = v.val) : (execOp ρ ⟨d, .buildSlice 46 1 #[(0, x)], ty, pos, af, g⟩).run Try.prog w = .ok (.value (.slice (some ⟨w.heap.size, 0, none⟩) 1 1)) (w.alloc v.obj) := by
  simp [execOp, hx, go_sem]
end
end Go.Proofs.Ytlegjdlmcphhlab
/-
  PACKAGE logs: Rename; a record of one's own, written in its place.
-/
namespace Go.Proofs.Ytlegjdlmcphhlab
open Go.RowKit

theorem own_cell {w : World} {B : Nat} {e : TypeId} {k g n cap : Nat} {xs : List Value} (h : w.ownsRow B e k (.slice (some ⟨g, 0, none⟩) n cap) n xs) (i : Nat) (u : Value) :
    (w.setCell ⟨g, i, none⟩ u).ownsRow B e k (.slice (some ⟨g, 0, none⟩) n cap) n (xs.set i u) := by
  obtain ⟨h1, h2⟩ := h
  refine ⟨by simpa using h1, ?_⟩
  rcases h2 with ⟨h2, _⟩ | ⟨g', cap', cur, hv, hg, hh, hn, hc, hs, ht⟩
  · cases h2
  · cases hv
    refine .inr ⟨g, cap, cur.setIfInBounds i u, rfl, hg, heap_setCell_same _ _ _ _ _ _ hh, hn, hc, by simpa using hs, ?_⟩
    rw [Array.toList_setIfInBounds, List.take_set, ht]
theorem own_block {w : World} {B : Nat} {e : TypeId} {k g n cap : Nat} {xs : List Value} (h : w.ownsRow B e k (.slice (some ⟨g, 0, none⟩) n cap) n xs) : ∃ cur, w.heap[g]? = some (.cells cur e (0, 0)) := by
  rcases h.2 with ⟨h2, _⟩ | ⟨g', cap', cur, hv, hg, hh, _⟩
  · cases h2
  · cases hv; exact ⟨cur, hh⟩
theorem own_set_kind {w : World} {B : Nat} {e e' : TypeId} {k g n : Nat} {v : Value} {xs : List Value} {cur : Array Value} (h : w.ownsRow B e k v n xs) (hg : w.heap[g]? = some (.cells cur e' (0, 0))) (hne : e ≠ e') (i : Nat) (u : Value) : (w.setCell ⟨g, i, none⟩ u).ownsRow B e k v n xs := by
  refine ownsRow_setCell_other h (a := ⟨g, i, none⟩) (fun hb => ?_) u
  rcases h.2 with ⟨h2, _⟩ | ⟨g', cap', cur', hv, _, hh, _⟩
  · rw [h2] at hb; cases hb
  · rw [hv] at hb
    have e1 : g' = g := Option.some.inj hb
    rw [e1, hg] at hh
    cases hh
    exact hne rfl
theorem ownA_set {w : World} {B g : Nat} {v : AV} {x : M.Act} {e' : TypeId} {cur : Array Value} (h : OwnA w B v x) (hg : w.heap[g]? = some (.cells cur e' (0, 0))) (hne : 5 ≠ e') (i : Nat) (u : Value) : OwnA (w.setCell ⟨g, i, none⟩ u) B v x :=
  ⟨h.1, h.2.1, h.2.2.1, h.2.2.2.1, h.2.2.2.2.1, h.2.2.2.2.2.1, own_set_kind h.2.2.2.2.2.2 hg hne i u⟩
theorem ownA_put7 {w : World} {B g : Nat} {v : AV} {x : M.Act} {e' : TypeId} {cur : Array Value} (h : OwnA w B v x) (hg : w.heap[g]? = some (.cells cur e' (0, 0))) (hne : 5 ≠ e') (o : Nat) (a : AV) : OwnA (put7 w g o a) B v x := by
  have h0 := ownA_set h hg hne o (.int .i64 a.kind)
  have g0 := heap_setCell_same _ _ o _ _ (.int .i64 a.kind) hg
  have h1 := ownA_set h0 g0 hne (o + 1) (.int .i64 a.fid)
  have g1 := heap_setCell_same _ _ (o + 1) _ _ (.int .i64 a.fid) g0
  have h2 := ownA_set h1 g1 hne (o + 2) (.int .i64 a.dir)
  have g2 := heap_setCell_same _ _ (o + 2) _ _ (.int .i64 a.dir) g1
  have h3 := ownA_set h2 g2 hne (o + 3) (.string a.name)
  have g3 := heap_setCell_same _ _ (o + 3) _ _ (.string a.name) g2
  have h4 := ownA_set h3 g3 hne (o + 4) (.int .i64 a.to)
  have g4 := heap_setCell_same _ _ (o + 4) _ _ (.int .i64 a.to) g3
  have h5 := ownA_set h4 g4 hne (o + 5) (.string a.toName)
  have g5 := heap_setCell_same _ _ (o + 5) _ _ (.string a.toName) g4
  exact ownA_set h5 g5 hne (o + 6) (.slice a.dA a.dn a.dc)
theorem set_mid {α : Type} (A B C : List α) (i : Nat) (u : α) (h : i < B.length) : (A ++ (B ++ C)).set (A.length + i) u = A ++ (B.set i u ++ C) := by
  rw [List.set_append_right (h := Nat.le_add_right _ _), Nat.add_sub_cancel_left, List.set_append_left (h := h)]
theorem fm_split {us : List RV} {j : Nat} {r : RV} (h : us[j]? = some r) (r' : RV) : us.flatMap RV.cells = (us.take j).flatMap RV.cells ++ (r.cells ++ (us.drop (j + 1)).flatMap RV.cells) ∧ (us.set j r').flatMap RV.cells = (us.take j).flatMap RV.cells ++ (r'.cells ++ (us.drop (j + 1)).flatMap RV.cells) ∧ ((us.take j).flatMap RV.cells).length = j * 9 := by
  have hj : j < us.length := (List.getElem?_eq_some_iff.1 h).1
  have e : us[j] = r := by rw [List.getElem?_eq_getElem hj] at h; exact Option.some.inj h
  have h1 : us = us.take j ++ r :: us.drop (j + 1) := by
    rw [← e, ← List.drop_eq_getElem_cons hj, List.take_append_drop]
  refine ⟨?_, ?_, ?_⟩
  · conv => lhs; rw [h1]
    rw [List.flatMap_append, List.flatMap_cons]
  · rw [List.set_eq_take_append_cons_drop, if_pos hj, List.flatMap_append, List.flatMap_cons]
  · rw [fm_len rec_len, List.length_take]; congr 1; omega
theorem own_put7 {w : World} {B g n cap : Nat} {us : List RV} {j : Nat} {r : RV} {a : AV} (h : w.ownsRow B 48 9 (.slice (some ⟨g, 0, none⟩) n cap) n (us.flatMap RV.cells)) (hj : us[j]? = some r) :
    (put7 w g (j * 9) a).ownsRow B 48 9 (.slice (some ⟨g, 0, none⟩) n cap) n ((us.set j ⟨a, r.ver, r.id⟩).flatMap RV.cells) := by
  obtain ⟨e1, e2, e3⟩ := fm_split hj ⟨a, r.ver, r.id⟩
  have h7 := own_cell (own_cell (own_cell (own_cell (own_cell (own_cell (own_cell h (j * 9) (.int .i64 a.kind)) (j * 9 + 1) (.int .i64 a.fid)) (j * 9 + 2) (.int .i64 a.dir)) (j * 9 + 3) (.string a.name)) (j * 9 + 4) (.int .i64 a.to)) (j * 9 + 5) (.string a.toName)) (j * 9 + 6) (.slice a.dA a.dn a.dc)
  rw [e2]
  rw [e1] at h7
  have s1 := fun (i : Nat) (X : List Value) (h : i < X.length) (u : Value) => set_mid ((us.take j).flatMap RV.cells) X ((us.drop (j + 1)).flatMap RV.cells) i u h
  rw [e3] at s1
  have s0 : ∀ (X : List Value), 0 < X.length → ∀ u, ((us.take j).flatMap RV.cells ++ (X ++ (us.drop (j + 1)).flatMap RV.cells)).set (j * 9) u = (us.take j).flatMap RV.cells ++ (X.set 0 u ++ (us.drop (j + 1)).flatMap RV.cells) := fun X h u => s1 0 X h u
  rw [s0 _ (by simp [RV.cells]), s1 1 _ (by simp [RV.cells]), s1 2 _ (by simp [RV.cells]), s1 3 _ (by simp [RV.cells]), s1 4 _ (by simp [RV.cells]), s1 5 _ (by simp [RV.cells]), s1 6 _ (by simp [RV.cells])] at h7
  exact h7

/-- a record, turned -/
def turnR (f t : Int) (x : M.Rec) : M.Rec := ⟨turnA x.act f t, x.ver, x.id⟩
theorem ownL_put7 {w : World} {B g n cap : Nat} {us : List RV} {xs : List M.Rec} {j : Nat} {r : RV} {x : M.Rec} {a : AV} {y : M.Act} (h : OwnL w B (some ⟨g, 0, none⟩) n cap us xs) (hj : us[j]? = some r) (hx : xs[j]? = some x) (ha : OwnA w B a y) :
    OwnL (put7 w g (j * 9) a) B (some ⟨g, 0, none⟩) n cap (us.set j ⟨a, r.ver, r.id⟩) (xs.set j ⟨y, x.ver, x.id⟩) := by
  obtain ⟨cur, hg⟩ := own_block h.1
  refine ⟨own_put7 h.1 hj, ?_⟩
  have hlen := h.2.1
  refine ⟨by simp [hlen], fun i v z hv hz => ?_⟩
  have hr := h.2.2 j r x hj hx
  rw [List.getElem?_set] at hv hz
  by_cases e : j = i
  · subst e
    rw [if_pos rfl] at hv hz
    split at hv
    · split at hz
      · cases hv; cases hz
        exact ⟨ownA_put7 ha hg (by decide) _ _, hr.2⟩
      · cases hz
    · cases hv
  · rw [if_neg e] at hv hz
    have h2 := h.2.2 i v z hv hz
    exact ⟨ownA_put7 h2.1 hg (by decide) _ _, h2.2⟩
end Go.Proofs.Ytlegjdlmcphhlab
/-
  PACKAGE logs: Rename.
-/
namespace Go.Proofs.Ytlegjdlmcphhlab
open Go.RowKit

theorem map_step {α : Type} {φ : α → α} {xs : List α} {k : Nat} {x : α} (h : xs[k]? = some x) : ((xs.take k).map φ ++ xs.drop k)[k]? = some x ∧ ((xs.take k).map φ ++ xs.drop k).set k (φ x) = (xs.take (k + 1)).map φ ++ xs.drop (k + 1) := by
  have hk : k < xs.length := (List.getElem?_eq_some_iff.1 h).1
  have e : xs[k] = x := by rw [List.getElem?_eq_getElem hk] at h; exact Option.some.inj h
  have hl : ((xs.take k).map φ).length = k := by rw [List.length_map, List.length_take]; omega
  have hd : xs.drop k = x :: xs.drop (k + 1) := by rw [← e]; exact List.drop_eq_getElem_cons hk
  constructor
  · rw [List.getElem?_append_right (by omega), hl, Nat.sub_self, hd]; rfl
  · rw [List.set_append_right (h := by omega), hl, Nat.sub_self, hd, List.take_succ_eq_append_getElem hk, e, List.map_append, List.append_assoc]
    rfl

set_option maxRecDepth 8000 in
set_option maxHeartbeats 2000000 in
theorem renameLog_any (A : Option Addr) (n c : Nat) (vs : List RV) (xs : List M.Rec) (f t : Int) (w : World) (ht : TreeR w A n vs xs) (hs : ∀ x ∈ xs, x.act.data.length ≤ 140737488355328) (hn : (n + 1) * 104 ≤ 140737488355328) :
    Calls Try.prog 23 #[.slice A n c, .int .i64 f, .int .i64 t] w fun e w' => ∃ (B : Option Addr) (d : Nat) (us : List RV), e = .returned (.slice B n d) ∧ OwnL w' w.heap.size B n d us (xs.map (turnR f t)) ∧ Below w.heap.size w w' := by
  have HT : Hid (TreeR w A n vs xs ∧ (∀ x ∈ xs, x.act.data.length ≤ 140737488355328)) := ⟨ht, hs⟩
  clear ht hs
  go_enter Try.func23, Try.ntmps23
  go_wp2_with (fail)
  refine (ownLog_any A n c vs xs w HT.out.1 HT.out.2 hn).mono ?_
  rintro e w1 ⟨B, m, d, us, rfl, ho, hb⟩
  have hmn : m = n := by rw [ho.tree.len, HT.out.1.len]
  subst hmn
  have H0 : Hid (OwnL w1 w.heap.size B m d us xs ∧ Below w.heap.size w w1) := ⟨ho, hb⟩
  clear ho hb
  go_wp2_with (fail)
  go_loopw [12] (fun i wr => ∃ (k : Nat) (us : List RV), k ≤ m ∧ i = .int .i64 k ∧ OwnL wr w.heap.size B m d us ((xs.take k).map (turnR f t) ++ xs.drop k) ∧ Below w.heap.size w wr) (fun i _ => m - (intOf i).toNat)
  case atStart => exact ⟨0, us, Nat.zero_le _, rfl, by simpa using H0.out.1, H0.out.2⟩
  case round =>
    obtain ⟨k, us2, hk, rfl, hol, hb⟩ := hrel
    have HO : Hid (OwnL wr w.heap.size B m d us2 ((xs.take k).map (turnR f t) ++ xs.drop k) ∧ Below w.heap.size w wr) := ⟨hol, hb⟩
    have hsz := hb.size
    clear hol
    by_cases hlt : k < m
    · obtain ⟨x, hx⟩ : ∃ x, xs[k]? = some x := ⟨_, List.getElem?_eq_getElem (by rw [← HT.out.1.len]; exact hlt)⟩
      obtain ⟨hx2, hset⟩ := map_step (φ := turnR f t) hx
      have hgf : ∃ g, B = some ⟨g, 0, none⟩ ∧ w.heap.size ≤ g := by
        rcases HO.out.1.1.2 with ⟨_, h0⟩ | ⟨g, cap, cur, hv, hg, _⟩
        · omega
        · cases hv; exact ⟨g, rfl, hg⟩
      obtain ⟨g, rfl, hwg⟩ := hgf
      obtain ⟨g', o', v, hA, hgb, hvk, c0, c1, c2, c3, c4, c5, c6, c7, c8⟩ := HO.out.1.tree.1.at hlt
      cases hA
      simp only [Nat.zero_add] at c0 c1 c2 c3 c4 c5 c6 c7 c8
      have hcx := HO.out.1.2.2 k v x hvk hx2
      have HX : Hid (us2[k]? = some v ∧ ((xs.take k).map (turnR f t) ++ xs.drop k)[k]? = some x ∧ OwnR wr w.heap.size v x ∧ x.act.data.length ≤ 140737488355328 ∧ ((xs.take k).map (turnR f t) ++ xs.drop k).set k (turnR f t x) = (xs.take (k + 1)).map (turnR f t) ++ xs.drop (k + 1)) := ⟨hvk, hx2, hcx, HT.out.2 x (List.mem_of_getElem? hx), hset⟩
      clear hvk hx hx2 hcx hset hb
      go_wp2_with (fail)
      refine (turn_any v.a x.act f t _ HX.out.2.2.1.1.cont HX.out.2.2.2.1).mono ?_
      rintro e w2 ⟨a', rfl, hoa, hb2⟩
      have hz2 := hb2.size
      have hbw2 := HO.out.2.trans (hb2.mono hsz)
      have hol2 := HO.out.1.below (Nat.le_refl _) hb2
      obtain ⟨cur, hcur⟩ := own_block hol2.1
      have hfz : ∀ o, w2.frozen? ⟨g, o, none⟩ = false := fun o => by simp [World.frozen?, hcur]
      have d0 : w2.cell? ⟨g, k * 9, none⟩ = some (.int .i64 v.a.kind) := by rw [hb2.cell (p := ⟨g, k * 9, none⟩) hgb]; exact c0
      have d1 : w2.cell? ⟨g, k * 9 + 1, none⟩ = some (.int .i64 v.a.fid) := by rw [hb2.cell (p := ⟨g, k * 9 + 1, none⟩) hgb]; exact c1
      have d2 : w2.cell? ⟨g, k * 9 + 2, none⟩ = some (.int .i64 v.a.dir) := by rw [hb2.cell (p := ⟨g, k * 9 + 2, none⟩) hgb]; exact c2
      have d3 : w2.cell? ⟨g, k * 9 + 3, none⟩ = some (.string v.a.name) := by rw [hb2.cell (p := ⟨g, k * 9 + 3, none⟩) hgb]; exact c3
      have d4 : w2.cell? ⟨g, k * 9 + 4, none⟩ = some (.int .i64 v.a.to) := by rw [hb2.cell (p := ⟨g, k * 9 + 4, none⟩) hgb]; exact c4
      have d5 : w2.cell? ⟨g, k * 9 + 5, none⟩ = some (.string v.a.toName) := by rw [hb2.cell (p := ⟨g, k * 9 + 5, none⟩) hgb]; exact c5
      have d6 : w2.cell? ⟨g, k * 9 + 6, none⟩ = some (.slice v.a.dA v.a.dn v.a.dc) := by rw [hb2.cell (p := ⟨g, k * 9 + 6, none⟩) hgb]; exact c6
      have HR : Hid (OwnL (put7 w2 g (k * 9) a') w.heap.size (some ⟨g, 0, none⟩) m d (us2.set k ⟨a', v.ver, v.id⟩) ((xs.take (k + 1)).map (turnR f t) ++ xs.drop (k + 1)) ∧ Below w.heap.size w (put7 w2 g (k * 9) a')) := by
        refine ⟨?_, put7_below hbw2 hwg _ _⟩
        rw [← HX.out.2.2.2.2]
        exact ownL_put7 hol2 HX.out.1 HX.out.2.1 (hoa.mono hsz)
      clear hoa hb2 hbw2 hol2 hcur c0 c1 c2 c3 c4 c5 c6 c7 c8
      go_wp2_with (fail)
      go_roundw
      case rel => exact ⟨k + 1, _, by omega, by go_num, HR.out.1, HR.out.2⟩
      case measure => simp [intOf]; omega
    · have HL : Hid ((xs.take k).map (turnR f t) ++ xs.drop k = xs.map (turnR f t)) := by
        show _ = _
        have hlen := HT.out.1.len
        rw [List.take_of_length_le (by omega), List.drop_eq_nil_iff.2 (by omega), List.append_nil]
      go_wp2
      go_ret
      have h1 := HO.out.1
      rw [HL.out] at h1
      exact ⟨B, d, us2, rfl, h1, hb⟩
end Go.Proofs.Ytlegjdlmcphhlab
