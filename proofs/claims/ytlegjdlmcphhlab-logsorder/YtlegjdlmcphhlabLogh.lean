/-
  PACKAGE logs: Turn.
-/
import Derived.Test.YtlegjdlmcphhlabLogf
import Derived.Test.YtlegjdlmcphhlabValsw
import Derived.Test.YtlegjdlmcphhlabDoesb
import Derived.Test.YtlegjdlmcphhlabFrame
import Derived.Deep.Cut
namespace Go.Proofs.Ytlegjdlmcphhlab
open Go.RowKit

theorem run_callV {P : Program} {ρ : Operand → Value} {w : World} {d : Option Tmp} {ty : TypeId} {pos : String} {af : Array Edge} {g : Option (Nat × Bool)} {f : FuncId} {c : Operand} {caps : Array Value} {x : Operand} {u : Value} {ts : Array TypeId} (hcf : Enters P f) (hfn : ρ c = .func (.func f) #[] caps) (hx : ρ x = u) :
    (execOp ρ ⟨d, .call { callee := .value c, args := #[x], argTypes := ts }, ty, pos, af, g⟩).run P w = .ok (.enter f (#[u] ++ caps)) w := by
  simp [execOp, resolve, invoke, hcf.out, hfn, hx, go_sem]
theorem does_callV {P : Program} {a : Act} {w : World} {R : Value → World → Prop} {d : Option Tmp} {ty : TypeId} {pos : String} {af : Array Edge} {g : Option (Nat × Bool)} {f : FuncId} {c : Operand} {caps : Array Value} {x : Operand} {u : Value} {ts : Array TypeId} (hcf : Enters P f) (hfn : a.eval c = .func (.func f) #[] caps) (hx : a.eval x = u) (h : Calls P f (#[u] ++ caps) w fun e w'' => ∃ r, e = .returned r ∧ R r w'') :
    Does P ⟨d, .call { callee := .value c, args := #[x], argTypes := ts }, ty, pos, af, g⟩ a w R := .inr ⟨f, _, w, run_callV hcf hfn hx, h⟩
theorem run_store3 {ρ : Operand → Value} {w : World} {d : Option Tmp} {ty : TypeId} {pos : String} {af : Array Edge} {g : Option (Nat × Bool)} {x y : Operand} {p : Addr} {i : Int} (hx : ρ x = .pointer (some p)) (hy : ρ y = .int .i64 i) {u : Value} (hc : w.cell? p = some u) (hf : w.frozen? p = false) :
    (execOp ρ ⟨d, .store 3 x y, ty, pos, af, g⟩).run Try.prog w = .ok .skip (w.setCell p (.int .i64 i)) := by
  simp [execOp, hx, hy, go_sem, hc, hf]

/-- the world, behind some of the stores -/
def stw (W : World) (s : Nat) (F D T : Int) (b1 b2 b3 : Bool) : World :=
  let w1 := if b1 then W.setCell ⟨s, 1, none⟩ (.int .i64 F) else W
  let w2 := if b2 then w1.setCell ⟨s, 2, none⟩ (.int .i64 D) else w1
  if b3 then w2.setCell ⟨s, 4, none⟩ (.int .i64 T) else w2
def WT (W : World) (s : Nat) (F D T : Int) (listed : Array Bool) (w : World) : Prop := w = stw W s F D T (listed.getD 13 true) (listed.getD 15 true) (listed.getD 17 true)
def VT (s : Nat) (a : AV) (f t : Int) : Nat → Value → Prop
  | 0, v => v = .func (.func 46) #[] #[.pointer (some ⟨s + 1, 0, none⟩), .pointer (some ⟨s + 2, 0, none⟩)]
  | 1, v => v = .pointer (some ⟨s, 1, none⟩)
  | 2, v => v = .int .i64 a.fid
  | 3, v => v = .int .i64 (turnI a.fid f t)
  | 4, v => v = .func (.func 46) #[] #[.pointer (some ⟨s + 1, 0, none⟩), .pointer (some ⟨s + 2, 0, none⟩)]
  | 5, v => v = .pointer (some ⟨s, 2, none⟩)
  | 6, v => v = .int .i64 a.dir
  | 7, v => v = .int .i64 (turnI a.dir f t)
  | 8, v => v = .func (.func 46) #[] #[.pointer (some ⟨s + 1, 0, none⟩), .pointer (some ⟨s + 2, 0, none⟩)]
  | 9, v => v = .pointer (some ⟨s, 4, none⟩)
  | 10, v => v = .int .i64 a.to
  | 11, v => v = .int .i64 (turnI a.to f t)
  | 12, v => v = .pointer (some ⟨s, 1, none⟩)
  | 14, v => v = .pointer (some ⟨s, 2, none⟩)
  | 16, v => v = .pointer (some ⟨s, 4, none⟩)
  | _, _ => True
theorem wt_same {W : World} {s : Nat} {F D T : Int} {listed : Array Bool} {w : World} (h : WT W s F D T listed w) {i : Nat} (h1 : i ≠ 13) (h2 : i ≠ 15) (h3 : i ≠ 17) : WT W s F D T (listed.setIfInBounds i true) w := by
  unfold WT at h ⊢
  rw [getD_set_ne true h1, getD_set_ne true h2, getD_set_ne true h3]
  exact h
theorem stw_cell {W : World} {s : Nat} {F D T : Int} {b1 b2 b3 : Bool} {q : Nat} (hq : q ≠ s) (o : Nat) : (stw W s F D T b1 b2 b3).cell? ⟨q, o, none⟩ = W.cell? ⟨q, o, none⟩ := by
  have hh : (stw W s F D T b1 b2 b3).heap[q]? = W.heap[q]? := by
    have h : ∀ (W : World) (k : Nat) (u : Value), (W.setCell ⟨s, k, none⟩ u).heap[q]? = W.heap[q]? := fun W k u => Below.heap_setCell _ _ _ _ (by exact hq)
    unfold stw
    cases b1 <;> cases b2 <;> cases b3 <;> simp only [if_true, if_false, Bool.false_eq_true, h]
  simp [World.cell?, hh]
theorem stw_heap {W : World} {s : Nat} {F D T : Int} {b1 b2 b3 : Bool} {q : Nat} (hq : q ≠ s) : (stw W s F D T b1 b2 b3).heap[q]? = W.heap[q]? := by
  have h : ∀ (W : World) (k : Nat) (u : Value), (W.setCell ⟨s, k, none⟩ u).heap[q]? = W.heap[q]? := fun W k u => Below.heap_setCell _ _ _ _ (by exact hq)
  unfold stw
  cases b1 <;> cases b2 <;> cases b3 <;> simp only [if_true, if_false, Bool.false_eq_true, h]
theorem stw_below {B : Nat} {a W : World} (h : Below B a W) {s : Nat} (hs : B ≤ s) (F D T : Int) : Below B a (stw W s F D T true true true) :=
  ((h.setCell (p := ⟨s, 1, none⟩) hs _).setCell (p := ⟨s, 2, none⟩) hs _).setCell (p := ⟨s, 4, none⟩) hs _
theorem stw_own {w : World} {B : Nat} {e : TypeId} {k : Nat} {v : Value} {n : Nat} {xs : List Value} (h : w.ownsRow B e k v n xs) {s : Nat} (hs : s < B) (F D T : Int) : (stw w s F D T true true true).ownsRow B e k v n xs :=
  ownsRow_setCell_below (ownsRow_setCell_below (ownsRow_setCell_below h (a := ⟨s, 1, none⟩) hs _) (a := ⟨s, 2, none⟩) hs _) (a := ⟨s, 4, none⟩) hs _
theorem boxA_set1 {w : World} {s : Nat} {a : AV} (h : BoxA w s a) (k : Int) : BoxA (w.setCell ⟨s, 1, none⟩ (.int .i64 k)) s ⟨a.kind, k, a.dir, a.name, a.to, a.toName, a.dA, a.dn, a.dc⟩ := by
  unfold BoxA at h ⊢; rw [heap_setCell_same _ _ _ _ _ _ h]; rfl
theorem boxA_set2 {w : World} {s : Nat} {a : AV} (h : BoxA w s a) (k : Int) : BoxA (w.setCell ⟨s, 2, none⟩ (.int .i64 k)) s ⟨a.kind, a.fid, k, a.name, a.to, a.toName, a.dA, a.dn, a.dc⟩ := by
  unfold BoxA at h ⊢; rw [heap_setCell_same _ _ _ _ _ _ h]; rfl
theorem boxA_set4 {w : World} {s : Nat} {a : AV} (h : BoxA w s a) (k : Int) : BoxA (w.setCell ⟨s, 4, none⟩ (.int .i64 k)) s ⟨a.kind, a.fid, a.dir, a.name, k, a.toName, a.dA, a.dn, a.dc⟩ := by
  unfold BoxA at h ⊢; rw [heap_setCell_same _ _ _ _ _ _ h]; rfl
set_option maxHeartbeats 2000000 in
theorem put7_box {w : World} {s : Nat} {v : AV} (h : BoxA w s v) (x : AV) : BoxA (put7 w s 0 x) s x := by
  unfold BoxA at h ⊢
  have e0 := heap_setCell_same w s 0 _ 26 (.int .i64 x.kind) h
  have e1 := heap_setCell_same _ s 1 _ 26 (.int .i64 x.fid) e0
  have e2 := heap_setCell_same _ s 2 _ 26 (.int .i64 x.dir) e1
  have e3 := heap_setCell_same _ s 3 _ 26 (.string x.name) e2
  have e4 := heap_setCell_same _ s 4 _ 26 (.int .i64 x.to) e3
  have e5 := heap_setCell_same _ s 5 _ 26 (.string x.toName) e4
  exact heap_setCell_same _ s 6 _ 26 (.slice x.dA x.dn x.dc) e5
theorem put7_other {w : World} {s t : Nat} (ht : t ≠ s) (o : Nat) (x : AV) : (put7 w s o x).heap[t]? = w.heap[t]? := by
  have h : ∀ (W : World) (k : Nat) (u : Value), (W.setCell ⟨s, k, none⟩ u).heap[t]? = W.heap[t]? := fun W k u => Below.heap_setCell _ _ _ _ (by exact ht)
  simp only [put7, h]
theorem turn_start (w : World) (a : AV) (f t : Int) : ∀ W, W = (((w.alloc (.cells #[.int .i64 a.kind, .int .i64 a.fid, .int .i64 a.dir, .string a.name, .int .i64 a.to, .string a.toName, .slice a.dA a.dn a.dc] 26)).alloc (.cells #[.int .i64 f] 3)).alloc (.cells #[.int .i64 t] 3)).alloc (.cells #[.int .i64 0, .int .i64 0, .int .i64 0, .string ⟨#[]⟩, .int .i64 0, .string ⟨#[]⟩, .slice none 0 0] 26) →
    Below w.heap.size w W ∧ BoxA W w.heap.size a ∧ W.heap[w.heap.size + 1]? = some (.cells #[.int .i64 f] 3 (0, 0)) ∧ W.heap[w.heap.size + 2]? = some (.cells #[.int .i64 t] 3 (0, 0)) ∧ BoxA W (w.heap.size + 3) AV.zero ∧ W.heap.size = w.heap.size + 4 := by
  rintro W rfl
  refine ⟨((((Below.refl _ _).alloc (Nat.le_refl _) _).alloc (by simp) _).alloc (by simp; omega) _).alloc (by simp; omega) _, (((BoxA.new w a).alloc _).alloc _).alloc _, ?_, ?_, ?_, by simp⟩
  · rw [Below.heap_alloc _ _ _ (by simp), Below.heap_alloc _ _ _ (by simp)]
    have := heap_alloc_new (w.alloc (.cells #[.int .i64 a.kind, .int .i64 a.fid, .int .i64 a.dir, .string a.name, .int .i64 a.to, .string a.toName, .slice a.dA a.dn a.dc] 26)) (.cells #[.int .i64 f] 3)
    simpa using this
  · rw [Below.heap_alloc _ _ _ (by simp)]
    have := heap_alloc_new ((w.alloc (.cells #[.int .i64 a.kind, .int .i64 a.fid, .int .i64 a.dir, .string a.name, .int .i64 a.to, .string a.toName, .slice a.dA a.dn a.dc] 26)).alloc (.cells #[.int .i64 f] 3)) (.cells #[.int .i64 t] 3)
    simpa using this
  · unfold BoxA
    have := heap_alloc_new (((w.alloc (.cells #[.int .i64 a.kind, .int .i64 a.fid, .int .i64 a.dir, .string a.name, .int .i64 a.to, .string a.toName, .slice a.dA a.dn a.dc] 26)).alloc (.cells #[.int .i64 f] 3)).alloc (.cells #[.int .i64 t] 3)) (.cells #[.int .i64 0, .int .i64 0, .int .i64 0, .string ⟨#[]⟩, .int .i64 0, .string ⟨#[]⟩, .slice none 0 0] 26)
    simpa [AV.zero] using this
theorem stw_box {w : World} {s : Nat} {a : AV} (h : BoxA w s a) (F D T : Int) : BoxA (stw w s F D T true true true) s ⟨a.kind, F, D, a.name, T, a.toName, a.dA, a.dn, a.dc⟩ := boxA_set4 (boxA_set2 (boxA_set1 h F) D) T
/-- an act, turned -/
def turnA (x : M.Act) (f t : Int) : M.Act := ⟨x.kind, turnI x.fid f t, turnI x.dir f t, x.name, turnI x.to f t, x.toName, x.data⟩
def opsT : Array Oper := #[⟨some 11, .move (.tmp 7), 76, "logs.go:55", #[], none⟩, ⟨some 12, .fieldAddr 26 (.tmp 3) 1, 0, "logs.go:55", #[], none⟩, ⟨some 13, .load 3 (.tmp 12), 3, "logs.go:55", #[⟨1, .data⟩], none⟩, ⟨some 14, .call { callee := .value (.tmp 11), args := #[.tmp 13], argTypes := #[3] }, 3, "logs.go:55", #[⟨0, .data⟩, ⟨2, .data⟩], none⟩, ⟨some 15, .move (.tmp 7), 76, "logs.go:55", #[], none⟩, ⟨some 16, .fieldAddr 26 (.tmp 3) 2, 0, "logs.go:55", #[], none⟩, ⟨some 17, .load 3 (.tmp 16), 3, "logs.go:55", #[⟨5, .data⟩], none⟩, ⟨some 18, .call { callee := .value (.tmp 15), args := #[.tmp 17], argTypes := #[3] }, 3, "logs.go:55", #[⟨4, .data⟩, ⟨6, .data⟩, ⟨3, .chain⟩], none⟩, ⟨some 19, .move (.tmp 7), 76, "logs.go:55", #[], none⟩, ⟨some 20, .fieldAddr 26 (.tmp 3) 4, 0, "logs.go:55", #[], none⟩, ⟨some 21, .load 3 (.tmp 20), 3, "logs.go:55", #[⟨9, .data⟩], none⟩, ⟨some 22, .call { callee := .value (.tmp 19), args := #[.tmp 21], argTypes := #[3] }, 3, "logs.go:55", #[⟨8, .data⟩, ⟨10, .data⟩, ⟨7, .chain⟩], none⟩, ⟨some 23, .fieldAddr 26 (.tmp 3) 1, 0, "logs.go:55", #[⟨0, .phase⟩, ⟨1, .phase⟩, ⟨2, .phase⟩, ⟨3, .phase⟩, ⟨4, .textOnly .lateStores⟩, ⟨5, .phase⟩, ⟨6, .phase⟩, ⟨7, .textOnly .lateStoresUnsure⟩, ⟨8, .textOnly .lateStores⟩, ⟨9, .phase⟩, ⟨10, .phase⟩, ⟨11, .textOnly .lateStoresUnsure⟩], none⟩, ⟨none, .store 3 (.tmp 23) (.tmp 14), 0, "logs.go:55", #[⟨12, .data⟩, ⟨3, .data⟩, ⟨11, .chain⟩, ⟨0, .phase⟩, ⟨1, .phase⟩, ⟨2, .phase⟩, ⟨3, .phase⟩, ⟨4, .textOnly .lateStores⟩, ⟨5, .phase⟩, ⟨6, .phase⟩, ⟨7, .textOnly .lateStoresUnsure⟩, ⟨8, .textOnly .lateStores⟩, ⟨9, .phase⟩, ⟨10, .phase⟩, ⟨11, .textOnly .lateStoresUnsure⟩], none⟩, ⟨some 24, .fieldAddr 26 (.tmp 3) 2, 0, "logs.go:55", #[⟨0, .phase⟩, ⟨1, .phase⟩, ⟨2, .phase⟩, ⟨3, .phase⟩, ⟨4, .phase⟩, ⟨5, .phase⟩, ⟨6, .phase⟩, ⟨7, .phase⟩, ⟨8, .textOnly .lateStores⟩, ⟨9, .phase⟩, ⟨10, .phase⟩, ⟨11, .textOnly .lateStoresUnsure⟩, ⟨12, .phase⟩, ⟨13, .phase⟩], none⟩, ⟨none, .store 3 (.tmp 24) (.tmp 18), 0, "logs.go:55", #[⟨14, .data⟩, ⟨7, .data⟩, ⟨13, .chain⟩, ⟨0, .phase⟩, ⟨1, .phase⟩, ⟨2, .phase⟩, ⟨3, .phase⟩, ⟨4, .phase⟩, ⟨5, .phase⟩, ⟨6, .phase⟩, ⟨7, .phase⟩, ⟨8, .textOnly .lateStores⟩, ⟨9, .phase⟩, ⟨10, .phase⟩, ⟨11, .textOnly .lateStoresUnsure⟩, ⟨12, .phase⟩, ⟨13, .phase⟩], none⟩, ⟨some 25, .fieldAddr 26 (.tmp 3) 4, 0, "logs.go:55", #[⟨0, .phase⟩, ⟨1, .phase⟩, ⟨2, .phase⟩, ⟨3, .phase⟩, ⟨4, .phase⟩, ⟨5, .phase⟩, ⟨6, .phase⟩, ⟨7, .phase⟩, ⟨8, .phase⟩, ⟨9, .phase⟩, ⟨10, .phase⟩, ⟨11, .phase⟩, ⟨12, .phase⟩, ⟨13, .phase⟩, ⟨14, .phase⟩, ⟨15, .phase⟩], none⟩, ⟨none, .store 3 (.tmp 25) (.tmp 22), 0, "logs.go:55", #[⟨16, .data⟩, ⟨11, .data⟩, ⟨15, .chain⟩, ⟨0, .phase⟩, ⟨1, .phase⟩, ⟨2, .phase⟩, ⟨3, .phase⟩, ⟨4, .phase⟩, ⟨5, .phase⟩, ⟨6, .phase⟩, ⟨7, .phase⟩, ⟨8, .phase⟩, ⟨9, .phase⟩, ⟨10, .phase⟩, ⟨11, .phase⟩, ⟨12, .phase⟩, ⟨13, .phase⟩, ⟨14, .phase⟩, ⟨15, .phase⟩], none⟩]
set_option maxRecDepth 8000 in
set_option maxHeartbeats 1000000 in
theorem turn_region {Q : Exit → Act → World → Prop} {a0 : Act} {W2 : World} {s : Nat} {a1 : AV} {f t : Int} (hz : a0.tmps.size = 27) (h7 : a0.eval (.tmp 7) = .func (.func 46) #[] #[.pointer (some ⟨s + 1, 0, none⟩), .pointer (some ⟨s + 2, 0, none⟩)]) (h3 : a0.eval (.tmp 3) = .pointer (some ⟨s, 0, none⟩))
    (hb : BoxA W2 s a1) (cf : W2.cell? ⟨s + 1, 0, none⟩ = some (.int .i64 f)) (ct : W2.cell? ⟨s + 2, 0, none⟩ = some (.int .i64 t))
    (last : ∀ a', Framed opsT a0 a' → Q .normal a' (stw W2.drew s (turnI a1.fid f t) (turnI a1.dir f t) (turnI a1.to f t) true true true)) : (Code.region 3 opsT true).wp Try.prog Q a0 W2 := by
  obtain ⟨a0', a1', a2, a3, a4, a5, a6, af, az2⟩ := hb.facts
  have hcell : ∀ (b1 b2 b3 : Bool) (q : Nat), q ≠ s → ∀ o, (stw W2.drew s (turnI a1.fid f t) (turnI a1.dir f t) (turnI a1.to f t) b1 b2 b3).cell? ⟨q, o, none⟩ = W2.cell? ⟨q, o, none⟩ := fun b1 b2 b3 q hq o => stw_cell hq o
  have b0 : BoxA W2.drew s a1 := hb
  have hT1 : ∀ (W : World) (F : Int) (_ _ : Nat), W.cell? ⟨s + 1, 0, none⟩ = some (.int .i64 f) → W.cell? ⟨s + 2, 0, none⟩ = some (.int .i64 t) → Calls Try.prog 46 (#[.int .i64 F] ++ #[.pointer (some ⟨s + 1, 0, none⟩), .pointer (some ⟨s + 2, 0, none⟩)]) W fun e w'' => ∃ r, e = .returned r ∧ (r = .int .i64 (turnI F f t) ∧ w'' = W) := by
    intro W F _ _ h1 h2
    refine (turn1_any F f t (s + 1) (s + 2) W h1 h2).mono ?_
    rintro e w'' ⟨rfl, rfl⟩
    exact ⟨_, rfl, rfl, rfl⟩
  refine wp_region_writes (VT s a1 f t) (WT W2.drew s (turnI a1.fid f t) (turnI a1.dir f t) (turnI a1.to f t)) (by kernel_rfl) (by rw [hz]; kernel_rfl) (by unfold WT; rfl) ?_ ?_
  · intro i hi
    match i, hi with
    | 0, _ =>
      refine StepW.by rfl rfl fun listed a' W hf hw hsz hlw hno hd => ?_
      exact does_move ((hf.keeps 7 (by kernel_rfl)).trans h7) ⟨rfl, wt_same hw (by decide) (by decide) (by decide)⟩
    | 1, _ =>
      refine StepW.by rfl rfl fun listed a' W hf hw hsz hlw hno hd => ?_
      exact does_fieldA (s := s) ((hf.keeps 3 (by kernel_rfl)).trans h3) (by decide) ⟨rfl, wt_same hw (by decide) (by decide) (by decide)⟩
    | 2, _ =>
      refine StepW.by rfl rfl fun listed a' W hf hw hsz hlw hno hd => ?_
      have e0 : W = W2.drew := by rw [hw, hno 13 _ rfl (by kernel_rfl), hno 15 _ rfl (by kernel_rfl), hno 17 _ rfl (by kernel_rfl)]; rfl
      exact does_load3 (hd 1 12 (by kernel_rfl) rfl) (by rw [e0]; exact a1') ⟨rfl, wt_same hw (by decide) (by decide) (by decide)⟩
    | 3, _ =>
      refine StepW.by rfl rfl fun listed a' W hf hw hsz hlw hno hd => ?_
      have h1 : W.cell? ⟨s + 1, 0, none⟩ = some (.int .i64 f) := by rw [hw, hcell _ _ _ _ (by omega)]; exact cf
      have h2 : W.cell? ⟨s + 2, 0, none⟩ = some (.int .i64 t) := by rw [hw, hcell _ _ _ _ (by omega)]; exact ct
      refine does_callV (enters_of Try.func46 (by kernel_rfl) (by kernel_rfl)) (hd 0 11 (by kernel_rfl) rfl) (hd 2 13 (by kernel_rfl) rfl) ((hT1 W a1.fid 0 0 h1 h2).mono ?_)
      rintro e w'' ⟨r, rfl, rfl, rfl⟩
      exact ⟨_, rfl, rfl, wt_same hw (by decide) (by decide) (by decide)⟩
    | 4, _ =>
      refine StepW.by rfl rfl fun listed a' W hf hw hsz hlw hno hd => ?_
      exact does_move ((hf.keeps 7 (by kernel_rfl)).trans h7) ⟨rfl, wt_same hw (by decide) (by decide) (by decide)⟩
    | 5, _ =>
      refine StepW.by rfl rfl fun listed a' W hf hw hsz hlw hno hd => ?_
      exact does_fieldA (s := s) ((hf.keeps 3 (by kernel_rfl)).trans h3) (by decide) ⟨rfl, wt_same hw (by decide) (by decide) (by decide)⟩
    | 6, _ =>
      refine StepW.by rfl rfl fun listed a' W hf hw hsz hlw hno hd => ?_
      have e0 : W = W2.drew := by rw [hw, hno 13 _ rfl (by kernel_rfl), hno 15 _ rfl (by kernel_rfl), hno 17 _ rfl (by kernel_rfl)]; rfl
      exact does_load3 (hd 5 16 (by kernel_rfl) rfl) (by rw [e0]; exact a2) ⟨rfl, wt_same hw (by decide) (by decide) (by decide)⟩
    | 7, _ =>
      refine StepW.by rfl rfl fun listed a' W hf hw hsz hlw hno hd => ?_
      have h1 : W.cell? ⟨s + 1, 0, none⟩ = some (.int .i64 f) := by rw [hw, hcell _ _ _ _ (by omega)]; exact cf
      have h2 : W.cell? ⟨s + 2, 0, none⟩ = some (.int .i64 t) := by rw [hw, hcell _ _ _ _ (by omega)]; exact ct
      refine does_callV (enters_of Try.func46 (by kernel_rfl) (by kernel_rfl)) (hd 4 15 (by kernel_rfl) rfl) (hd 6 17 (by kernel_rfl) rfl) ((hT1 W a1.dir 0 0 h1 h2).mono ?_)
      rintro e w'' ⟨r, rfl, rfl, rfl⟩
      exact ⟨_, rfl, rfl, wt_same hw (by decide) (by decide) (by decide)⟩
    | 8, _ =>
      refine StepW.by rfl rfl fun listed a' W hf hw hsz hlw hno hd => ?_
      exact does_move ((hf.keeps 7 (by kernel_rfl)).trans h7) ⟨rfl, wt_same hw (by decide) (by decide) (by decide)⟩
    | 9, _ =>
      refine StepW.by rfl rfl fun listed a' W hf hw hsz hlw hno hd => ?_
      exact does_fieldA (s := s) ((hf.keeps 3 (by kernel_rfl)).trans h3) (by decide) ⟨rfl, wt_same hw (by decide) (by decide) (by decide)⟩
    | 10, _ =>
      refine StepW.by rfl rfl fun listed a' W hf hw hsz hlw hno hd => ?_
      have e0 : W = W2.drew := by rw [hw, hno 13 _ rfl (by kernel_rfl), hno 15 _ rfl (by kernel_rfl), hno 17 _ rfl (by kernel_rfl)]; rfl
      exact does_load3 (hd 9 20 (by kernel_rfl) rfl) (by rw [e0]; exact a4) ⟨rfl, wt_same hw (by decide) (by decide) (by decide)⟩
    | 11, _ =>
      refine StepW.by rfl rfl fun listed a' W hf hw hsz hlw hno hd => ?_
      have h1 : W.cell? ⟨s + 1, 0, none⟩ = some (.int .i64 f) := by rw [hw, hcell _ _ _ _ (by omega)]; exact cf
      have h2 : W.cell? ⟨s + 2, 0, none⟩ = some (.int .i64 t) := by rw [hw, hcell _ _ _ _ (by omega)]; exact ct
      refine does_callV (enters_of Try.func46 (by kernel_rfl) (by kernel_rfl)) (hd 8 19 (by kernel_rfl) rfl) (hd 10 21 (by kernel_rfl) rfl) ((hT1 W a1.to 0 0 h1 h2).mono ?_)
      rintro e w'' ⟨r, rfl, rfl, rfl⟩
      exact ⟨_, rfl, rfl, wt_same hw (by decide) (by decide) (by decide)⟩
    | 12, _ =>
      refine StepW.by rfl rfl fun listed a' W hf hw hsz hlw hno hd => ?_
      exact does_fieldA (s := s) ((hf.keeps 3 (by kernel_rfl)).trans h3) (by decide) ⟨rfl, wt_same hw (by decide) (by decide) (by decide)⟩
    | 13, _ =>
      refine StepW.skip rfl rfl fun listed a' W hf hw hsz hlw hno hd hself => ?_
      have hin : 13 < listed.size := by rw [hsz]; decide
      have e0 : W = stw W2.drew s (turnI a1.fid f t) (turnI a1.dir f t) (turnI a1.to f t) false false false := by rw [hw, hself, hno 15 _ rfl (by kernel_rfl), hno 17 _ rfl (by kernel_rfl)]
      have bx := b0
      refine ⟨_, run_store3 (hd 12 23 (by kernel_rfl) rfl) (hd 3 14 (by kernel_rfl) rfl) (by rw [e0]; exact bx.facts.2.1) (by rw [e0]; exact bx.facts.2.2.2.2.2.2.2.1 _), trivial, ?_⟩
      unfold WT
      rw [getD_set_self hin, getD_set_ne true (by decide), getD_set_ne true (by decide), hno 15 _ rfl (by kernel_rfl), hno 17 _ rfl (by kernel_rfl)]
      rw [e0]
      rfl
    | 14, _ =>
      refine StepW.by rfl rfl fun listed a' W hf hw hsz hlw hno hd => ?_
      exact does_fieldA (s := s) ((hf.keeps 3 (by kernel_rfl)).trans h3) (by decide) ⟨rfl, wt_same hw (by decide) (by decide) (by decide)⟩
    | 15, _ =>
      refine StepW.skip rfl rfl fun listed a' W hf hw hsz hlw hno hd hself => ?_
      have hin : 15 < listed.size := by rw [hsz]; decide
      have e0 : W = stw W2.drew s (turnI a1.fid f t) (turnI a1.dir f t) (turnI a1.to f t) true false false := by rw [hw, hlw 13 (by kernel_rfl), hself, hno 17 _ rfl (by kernel_rfl)]
      have bx := boxA_set1 b0 (turnI a1.fid f t)
      refine ⟨_, run_store3 (hd 14 24 (by kernel_rfl) rfl) (hd 7 18 (by kernel_rfl) rfl) (by rw [e0]; exact bx.facts.2.2.1) (by rw [e0]; exact bx.facts.2.2.2.2.2.2.2.1 _), trivial, ?_⟩
      unfold WT
      rw [getD_set_ne true (by decide), getD_set_self hin, getD_set_ne true (by decide), hlw 13 (by kernel_rfl), hno 17 _ rfl (by kernel_rfl)]
      rw [e0]
      rfl
    | 16, _ =>
      refine StepW.by rfl rfl fun listed a' W hf hw hsz hlw hno hd => ?_
      exact does_fieldA (s := s) ((hf.keeps 3 (by kernel_rfl)).trans h3) (by decide) ⟨rfl, wt_same hw (by decide) (by decide) (by decide)⟩
    | 17, _ =>
      refine StepW.skip rfl rfl fun listed a' W hf hw hsz hlw hno hd hself => ?_
      have hin : 17 < listed.size := by rw [hsz]; decide
      have e0 : W = stw W2.drew s (turnI a1.fid f t) (turnI a1.dir f t) (turnI a1.to f t) true true false := by rw [hw, hlw 13 (by kernel_rfl), hlw 15 (by kernel_rfl), hself]
      have bx := boxA_set2 (boxA_set1 b0 (turnI a1.fid f t)) (turnI a1.dir f t)
      refine ⟨_, run_store3 (hd 16 25 (by kernel_rfl) rfl) (hd 11 22 (by kernel_rfl) rfl) (by rw [e0]; exact bx.facts.2.2.2.2.1) (by rw [e0]; exact bx.facts.2.2.2.2.2.2.2.1 _), trivial, ?_⟩
      unfold WT
      rw [getD_set_ne true (by decide), getD_set_ne true (by decide), getD_set_self hin, hlw 13 (by kernel_rfl), hlw 15 (by kernel_rfl)]
      rw [e0]
      rfl
    | k + 18, hi => exact absurd hi (Nat.not_lt.2 (Nat.le_add_left _ _))
  · intro listed a' W hf hw hl
    have hw2 : W = stw W2.drew s (turnI a1.fid f t) (turnI a1.dir f t) (turnI a1.to f t) true true true := by
      rw [hw, hl 13 (by decide), hl 15 (by decide), hl 17 (by decide)]
    rw [hw2]
    exact last a' hf

theorem stw_boxo {W : World} {s q : Nat} {a : AV} (h : BoxA W q a) (hq : q ≠ s) (F D T : Int) : BoxA (stw W s F D T true true true) q a := by
  unfold BoxA at h ⊢; rw [stw_heap hq]; exact h
theorem turn_end {w W2 : World} {a1 : AV} {x : M.Act} {f t : Int} (hb : Below w.heap.size w W2) (hx : BoxA W2 w.heap.size a1) (hz : BoxA W2 (w.heap.size + 3) AV.zero) (ho2 : OwnA W2 (w.heap.size + 4) a1 x) :
    ∀ W3, W3 = stw W2.drew w.heap.size (turnI a1.fid f t) (turnI a1.dir f t) (turnI a1.to f t) true true true →
      Below w.heap.size w W3 ∧ BoxA W3 w.heap.size ⟨a1.kind, turnI a1.fid f t, turnI a1.dir f t, a1.name, turnI a1.to f t, a1.toName, a1.dA, a1.dn, a1.dc⟩ ∧ BoxA W3 (w.heap.size + 3) AV.zero ∧ OwnA W3 (w.heap.size + 4) ⟨a1.kind, turnI a1.fid f t, turnI a1.dir f t, a1.name, turnI a1.to f t, a1.toName, a1.dA, a1.dn, a1.dc⟩ (turnA x f t) := by
  rintro W3 rfl
  have hdr : Below W2.heap.size W2 W2.drew := (Below.refl _ _).drew
  have ho := ho2.below (Nat.le_refl _) hdr
  refine ⟨stw_below (hb.trans (hdr.mono hb.size)) (Nat.le_refl _) _ _ _, stw_box (hx.below hdr (lt_of_block hx)) _ _ _, stw_boxo (hz.below hdr (lt_of_block hz)) (by omega) _ _ _, ?_⟩
  exact ⟨ho.1, by rw [ho.2.1]; rfl, by rw [ho.2.2.1]; rfl, ho.2.2.2.1, by rw [ho.2.2.2.2.1]; rfl, ho.2.2.2.2.2.1, stw_own ho.2.2.2.2.2.2 (by omega) _ _ _⟩
set_option maxRecDepth 8000 in
set_option maxHeartbeats 4000000 in
theorem turn_any (a : AV) (x : M.Act) (f t : Int) (w : World) (ha : ContA w a x) (hs : x.data.length ≤ 140737488355328) :
    Calls Try.prog 26 #[a.val, .int .i64 f, .int .i64 t] w fun e w' => ∃ a' : AV, e = .returned a'.val ∧ OwnA w' w.heap.size a' (turnA x f t) ∧ Below w.heap.size w w' := by
  have HA : Hid (ContA w a x) := ha
  have HW : Hid _ := turn_start w a f t
  clear ha
  go_enter Try.func26, Try.ntmps26
  go_wp2_with (fail)
  obtain ⟨q1, q2, q3, q4, q5, q6⟩ := HW.out _ rfl
  refine (ownAct_any a x _ (HA.out.below (Nat.le_refl _) q1) hs).mono ?_
  rintro e w1 ⟨a1, rfl, ho, hb1⟩
  have hz1 := hb1.size
  rw [q6] at hz1 ho
  have HB1 : Hid (Below w.heap.size w w1 ∧ BoxA w1 w.heap.size a ∧ w1.heap[w.heap.size + 1]? = some (.cells #[.int .i64 f] 3 (0, 0)) ∧ w1.heap[w.heap.size + 2]? = some (.cells #[.int .i64 t] 3 (0, 0)) ∧ BoxA w1 (w.heap.size + 3) AV.zero) := ⟨q1.trans (hb1.mono (by omega)), q2.below hb1 (by omega), by rw [hb1.block _ (by omega)]; exact q3, by rw [hb1.block _ (by omega)]; exact q4, q5.below hb1 (by omega)⟩
  have HO : Hid (OwnA w1 (w.heap.size + 4) a1 x) := ho
  obtain ⟨a0, a1', a2, a3, a4, a5, a6, af, az⟩ := HB1.out.2.1.facts
  clear q1 q2 q3 q4 q5 q6 hb1 HW ho
  go_upto_region 3 with (fail)
  have HW2 : Hid (Below w.heap.size w (put7 w1 w.heap.size 0 a1) ∧ BoxA (put7 w1 w.heap.size 0 a1) w.heap.size a1 ∧ (put7 w1 w.heap.size 0 a1).heap[w.heap.size + 1]? = some (.cells #[.int .i64 f] 3 (0, 0)) ∧ (put7 w1 w.heap.size 0 a1).heap[w.heap.size + 2]? = some (.cells #[.int .i64 t] 3 (0, 0)) ∧ BoxA (put7 w1 w.heap.size 0 a1) (w.heap.size + 3) AV.zero ∧ OwnA (put7 w1 w.heap.size 0 a1) (w.heap.size + 4) a1 x) := by
    refine ⟨put7_below HB1.out.1 (Nat.le_refl _) 0 a1, put7_box HB1.out.2.1 a1, by rw [put7_other (by omega)]; exact HB1.out.2.2.1, by rw [put7_other (by omega)]; exact HB1.out.2.2.2.1, ?_, ?_⟩
    · unfold BoxA; rw [put7_other (by omega)]; exact HB1.out.2.2.2.2
    · exact ⟨HO.out.1, HO.out.2.1, HO.out.2.2.1, HO.out.2.2.2.1, HO.out.2.2.2.2.1, HO.out.2.2.2.2.2.1, put7_own HO.out.2.2.2.2.2.2 (by omega) 0 a1⟩
  refine turn_region (s := w.heap.size) (a1 := a1) (f := f) (t := t) rfl rfl rfl HW2.out.2.1 (by simp [World.cell?, HW2.out.2.2.1]) (by simp [World.cell?, HW2.out.2.2.2.1]) ?_
  intro a' hf
  have HW3 : Hid _ := turn_end (f := f) (t := t) HW2.out.1 HW2.out.2.1 HW2.out.2.2.2.2.1 HW2.out.2.2.2.2.2
  have hl := hf.lit (fun t => decide (11 ≤ t) && decide (t ≤ 25)) (by kernel_rfl)
  simp only [overL, Nat.reduceAdd, Nat.reduceLeDiff, decide_true, decide_false, Bool.and_true, Bool.and_false] at hl
  have hE : ∃ W3, W3 = stw (put7 w1 w.heap.size 0 a1).drew w.heap.size (turnI a1.fid f t) (turnI a1.dir f t) (turnI a1.to f t) true true true := ⟨_, rfl⟩
  obtain ⟨W3, hW3⟩ := hE
  have HF3 : Hid _ := HW3.out W3 hW3
  rw [hl]
  show Exit.then _ _ Exit.normal _ (stw (put7 w1 w.heap.size 0 a1).drew w.heap.size (turnI a1.fid f t) (turnI a1.dir f t) (turnI a1.to f t) true true true)
  rw [← hW3]
  clear hl hf hW3 HW3 HW2 a0 a1' a2 a3 a4 a5 a6 af
  obtain ⟨b0, b1, b2, b3, b4, b5, b6, bf, bz⟩ := HF3.out.2.1.facts
  obtain ⟨z0, z1, z2, z3, z4, z5, z6, zf, zz⟩ := HF3.out.2.2.1.facts
  have HP : Hid (OwnA (put7 W3 (w.heap.size + 3) 0 ⟨a1.kind, turnI a1.fid f t, turnI a1.dir f t, a1.name, turnI a1.to f t, a1.toName, a1.dA, a1.dn, a1.dc⟩) w.heap.size ⟨a1.kind, turnI a1.fid f t, turnI a1.dir f t, a1.name, turnI a1.to f t, a1.toName, a1.dA, a1.dn, a1.dc⟩ (turnA x f t) ∧ Below w.heap.size w (put7 W3 (w.heap.size + 3) 0 ⟨a1.kind, turnI a1.fid f t, turnI a1.dir f t, a1.name, turnI a1.to f t, a1.toName, a1.dA, a1.dn, a1.dc⟩)) := by
    have ho := HF3.out.2.2.2
    exact ⟨⟨ho.1, ho.2.1, ho.2.2.1, ho.2.2.2.1, ho.2.2.2.2.1, ho.2.2.2.2.2.1, own_mono (put7_own ho.2.2.2.2.2.2 (by omega) 0 _) (Nat.le_add_right _ 4)⟩, put7_below HF3.out.1 (by omega) 0 _⟩
  generalize turnI a1.fid f t = F at *
  generalize turnI a1.dir f t = D at *
  generalize turnI a1.to f t = T at *
  go_wp2
  exact bodyPost_ret (v := AV.val ⟨a1.kind, F, D, a1.name, T, a1.toName, a1.dA, a1.dn, a1.dc⟩) (by simp [results, Try.results26, go_sem, z0, z1, z2, z3, z4, z5, z6]) rfl ⟨⟨a1.kind, F, D, a1.name, T, a1.toName, a1.dA, a1.dn, a1.dc⟩, rfl, HP.out.1, HP.out.2⟩
end Go.Proofs.Ytlegjdlmcphhlab
