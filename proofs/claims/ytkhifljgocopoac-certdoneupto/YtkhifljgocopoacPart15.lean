/- TEXTS LAID TOGETHER: Rlist, Region, Regionb, List, Mathp, Done -/
import Derived.Test.YtkhifljgocopoacPart14
import Derived.Test.YtkhifljgocopoacPart9
import Derived.Test.YtkhifljgocopoacPart10
import Derived.Deep.Cut
import Derived.Deep.CutRange
import Derived.Test.YtkhifljgocopoacPart6
import Derived.Test.YtkhifljgocopoacPart11
import Derived.Test.YtkhifljgocopoacPart13
import Derived.Test.YtkhifljgocopoacPart7
import Derived.Test.YtkhifljgocopoacPart4
/-
  FOR THE REFERENCE's List: operations on rows of nodes in a region that draws; the frame behind a region, written out; rising lists.
-/
namespace Go.Proofs.Ytkhifljgocopoac
open Go.RowKit

section
variable {ρ : Operand → Value} {w : World} {d : Option Tmp} {ty : TypeId} {pos : String} {af : Array Edge} {g : Option (Nat × Bool)}
theorem run_build0 : (execOp ρ ⟨d, .buildSlice 22 0 #[], ty, pos, af, g⟩).run Try.prog w = .ok (.value (.slice (some ⟨w.heap.size, 0, none⟩) 0 0)) (w.alloc (.cells #[] 56)) := by
  simp [execOp, go_sem]
theorem run_build1 {x : Operand} {v : NV} (hx : ρ x = v.val) : (execOp ρ ⟨d, .buildSlice 22 1 #[(0, x)], ty, pos, af, g⟩).run Try.prog w = .ok (.value (.slice (some ⟨w.heap.size, 0, none⟩) 1 1)) (w.alloc (.cells #[.int .i64 v.fid, .bool v.dir, .slice v.dA v.dn v.dc, .slice v.eA v.en v.ec, .int .i64 v.ver] 56)) := by
  simp [execOp, go_sem, hx]
theorem run_front {x y : Operand} {a : Addr} {m c k : Nat} (hx : ρ x = .slice (some a) m c) (hy : ρ y = .int .i64 (k : Int)) (hk : k ≤ c) : (execOp ρ ⟨d, .slice 22 x none (some y) none, ty, pos, af, g⟩).run Try.prog w = .ok (.value (.slice (some a) k c)) w := by
  simp [execOp, go_sem, hx, hy, hk]
theorem run_front_nil {x y : Operand} (hx : ρ x = .slice none 0 0) (hy : ρ y = .int .i64 ((0 : Nat) : Int)) : (execOp ρ ⟨d, .slice 22 x none (some y) none, ty, pos, af, g⟩).run Try.prog w = .ok (.value (.slice none 0 0)) w := by
  simp [execOp, go_sem, hx, hy]
theorem run_back {x y : Operand} {a : Addr} {m c k : Nat} (hx : ρ x = .slice (some a) m c) (hy : ρ y = .int .i64 (k : Int)) (hk : k ≤ m) : (execOp ρ ⟨d, .slice 22 x (some y) none none, ty, pos, af, g⟩).run Try.prog w = .ok (.value (.slice (some (if c = k then a else a.add (k * 5))) (m - k) (c - k))) w := by
  simp [execOp, go_sem, hx, hy, hk]
  split <;> rfl
theorem run_back_nil {x y : Operand} (hx : ρ x = .slice none 0 0) (hy : ρ y = .int .i64 ((0 : Nat) : Int)) : (execOp ρ ⟨d, .slice 22 x (some y) none none, ty, pos, af, g⟩).run Try.prog w = .ok (.value (.slice none 0 0)) w := by
  simp [execOp, go_sem, hx, hy]
theorem run_append26 {B : Nat} {x y : Operand} {v : Value} {n : Nat} {us : List NV} (hx : ρ x = v) (hown : w.ownsRow B 56 5 v n (us.flatMap NV.cells)) {A : Option Addr} {m c : Nat} {vs : List NV} (hy : ρ y = .slice A m c) (hrow : Nodes w A m vs)
    (hnm : (n + m) * 72 ≤ 140737488355328) (hB : B ≤ w.heap.size) :
    ∃ v' w', (execOp ρ ⟨d, .call { callee := .builtin .append, args := #[x, y], argTypes := #[22, 22] }, ty, pos, af, g⟩).run Try.prog w = .ok (.value v') w' ∧ w'.ownsRow B 56 5 v' (n + m) ((us ++ vs).flatMap NV.cells) ∧ w.grownBy w' v.ownBlock := by
  obtain ⟨i26, hi26, hz26, hs26, hb26⟩ := info_parts info26
  obtain ⟨v', w', hr, h2, h3⟩ := run_append_row (P := Try.prog) w B 22 ty 56 i26 _ 72 Try.underlying22 hi26 hz26 hs26 hb26 rfl (by decide) v n _ hown A m c vs hrow nod_len nod_one (by unfold maxLen; omega) hnm hB
  refine ⟨v', w', ?_, by rw [List.flatMap_append]; exact h2, h3⟩
  simp only [execOp, resolve, invoke, builtin, Sem.run_bind, Sem.run_pure, Result.andThen_ok, List.map_toArray, List.map_cons, List.map_nil, hx, hy, hr]
end

theorem row_take {w : World} {A : Option Addr} {n : Nat} {vs : List NV} (h : Nodes w A n vs) (k : Nat) (hk : k ≤ n) : Nodes w A k (vs.take k) := by
  obtain ⟨hn, h⟩ := h
  refine ⟨by rw [List.length_take]; omega, ?_⟩
  rcases h with h | ⟨b, o, e, hlt, hc⟩
  · left; rw [h]; simp
  · refine .inr ⟨b, o, e, hlt, fun j v hv => hc j v ?_⟩
    rw [List.getElem?_take] at hv
    split at hv
    · exact hv
    · cases hv

end Go.Proofs.Ytkhifljgocopoac
/-
  THE LAST REGION OF THE REFERENCE's List: a node is put into its place by three appends, in whatever order the region goes.
-/
namespace Go.Proofs.Ytkhifljgocopoac
open Go.RowKit

def ops8 : Array Oper := #[
  ⟨some 29, .buildSlice 22 0 #[], 22, "ref.go:87", #[], none⟩,
  ⟨some 30, .move (.tmp 3), 22, "ref.go:87", #[], none⟩,
  ⟨some 31, .move (.tmp 6), 3, "ref.go:87", #[], none⟩,
  ⟨some 32, .slice 22 (.tmp 30) none (some (.tmp 31)) none, 22, "ref.go:87", #[⟨1, .data⟩, ⟨2, .data⟩], none⟩,
  ⟨some 33, .call { callee := .builtin .append, args := #[.tmp 29, .tmp 32], argTypes := #[22, 22] }, 22, "ref.go:87", #[⟨0, .data⟩, ⟨3, .data⟩], none⟩,
  ⟨some 34, .load 56 (.tmp 5), 56, "ref.go:87", #[], none⟩,
  ⟨some 35, .buildSlice 22 1 #[(0, .tmp 34)], 22, "ref.go:87", #[⟨5, .data⟩], none⟩,
  ⟨some 36, .call { callee := .builtin .append, args := #[.tmp 33, .tmp 35], argTypes := #[22, 22] }, 22, "ref.go:87", #[⟨4, .data⟩, ⟨6, .data⟩, ⟨4, .chain⟩], none⟩,
  ⟨some 37, .move (.tmp 3), 22, "ref.go:87", #[], none⟩,
  ⟨some 38, .move (.tmp 6), 3, "ref.go:87", #[], none⟩,
  ⟨some 39, .slice 22 (.tmp 37) (some (.tmp 38)) none none, 22, "ref.go:87", #[⟨8, .data⟩, ⟨9, .data⟩], none⟩,
  ⟨some 40, .call { callee := .builtin .append, args := #[.tmp 36, .tmp 39], argTypes := #[22, 22] }, 22, "ref.go:87", #[⟨7, .data⟩, ⟨10, .data⟩, ⟨7, .chain⟩], none⟩,
  ⟨some 3, .assign (.tmp 40), 22, "ref.go:87", #[⟨11, .data⟩, ⟨11, .chain⟩, ⟨0, .phase⟩, ⟨1, .phase⟩, ⟨2, .phase⟩, ⟨3, .phase⟩, ⟨4, .phase⟩, ⟨5, .phase⟩, ⟨6, .phase⟩, ⟨7, .phase⟩, ⟨8, .phase⟩, ⟨9, .phase⟩, ⟨10, .phase⟩, ⟨11, .phase⟩], none⟩]

/-- what a value is -/
def IsV (c : Value) : Value → World → Prop := fun v _ => v = c
def OldRow (w0 : World) (L : List NV) : Value → World → Prop := fun v w => ∃ A n c, v = .slice A n c ∧ Nodes w0 A n L ∧ Below w0.heap.size w0 w
def NoRoom (w0 : World) : Value → World → Prop := fun v w => ∃ s, v = .slice (some ⟨s, 0, none⟩) 0 0 ∧ w.heap[s]? = some (.cells #[] 56 (0, 0)) ∧ w0.heap.size ≤ s
def OneRow (ve : NV) : Value → World → Prop := fun v w => ∃ s, v = .slice (some ⟨s, 0, none⟩) 1 1 ∧ Box w s ve
def OwnRow (w0 : World) (L : List NV) : Value → World → Prop := fun v w => w.ownsRow w0.heap.size 56 5 v L.length (L.flatMap NV.cells)
def V8 (w0 : World) (A : Option Addr) (m c j : Nat) (us : List NV) (ve : NV) : Nat → Value → World → Prop
  | 0 => NoRoom w0
  | 1 => IsV (.slice A m c)
  | 2 => IsV (.int .i64 (j : Int))
  | 3 => OldRow w0 (us.take j)
  | 4 => OwnRow w0 (us.take j)
  | 5 => IsV ve.val
  | 6 => OneRow ve
  | 7 => OwnRow w0 (us.take j ++ [ve])
  | 8 => IsV (.slice A m c)
  | 9 => IsV (.int .i64 (j : Int))
  | 10 => OldRow w0 (us.drop j)
  | 11 => OwnRow w0 (us.take j ++ [ve] ++ us.drop j)
  | 12 => OwnRow w0 (us.take j ++ [ve] ++ us.drop j)
  | _ => fun _ _ => True

theorem tidy8 : tidy ops8 42 = true := by kernel_rfl
theorem v8_stays (w0 : World) (A : Option Addr) (m c j : Nat) (us : List NV) (ve : NV) : ∀ i v w w', Below w.heap.size w w' → V8 w0 A m c j us ve i v w → V8 w0 A m c j us ve i v w' := by
  have ho : ∀ L v w w', Below w.heap.size w w' → OwnRow w0 L v w → OwnRow w0 L v w' := fun L v w w' hb h => own_below h hb (Nat.le_refl _)
  have hd : ∀ L v w w', Below w.heap.size w w' → OldRow w0 L v w → OldRow w0 L v w' := fun L v w w' hb ⟨A, n, c, h1, h2, h3⟩ => ⟨A, n, c, h1, h2, h3.trans (hb.mono h3.size)⟩
  intro i v w w' hb h
  match i with
  | 0 => obtain ⟨s, h1, h2, h3⟩ := h; exact ⟨s, h1, by rw [hb.block s (lt_of_block h2)]; exact h2, h3⟩
  | 1 | 2 | 5 | 8 | 9 => exact h
  | 3 | 10 => exact hd _ _ _ _ hb h
  | 4 | 7 | 11 | 12 => exact ho _ _ _ _ hb h
  | 6 => obtain ⟨s, h1, h2⟩ := h; exact ⟨s, h1, h2.below hb (lt_of_block h2)⟩
  | _ + 13 => exact h
end Go.Proofs.Ytkhifljgocopoac
/-
  THE LAST REGION OF THE REFERENCE's List, whatever order it draws.
-/
namespace Go.Proofs.Ytkhifljgocopoac
open Go.RowKit

theorem noRoom_own {w0 w : World} {s : Nat} (h : w.heap[s]? = some (.cells #[] 56 (0, 0))) (hs : w0.heap.size ≤ s) : w.ownsRow w0.heap.size 56 5 (.slice (some ⟨s, 0, none⟩) 0 0) 0 (([] : List NV).flatMap NV.cells) :=
  ⟨rfl, .inr ⟨s, 0, #[], rfl, hs, h, Nat.le_refl _, by unfold maxLen; omega, rfl, rfl⟩⟩
theorem box_row {w : World} {s : Nat} {v : NV} (h : Box w s v) : Nodes w (some ⟨s, 0, none⟩) 1 [v] := by
  obtain ⟨p0, p1, p2, p3, p4, pf, pz⟩ := h.facts
  refine ⟨rfl, .inr ⟨s, 0, rfl, pz, fun j u hu i c hc => ?_⟩⟩
  cases j with
  | succ j => cases hu
  | zero =>
    cases hu
    match i, hc with
    | 0, hc => cases hc; exact p0
    | 1, hc => cases hc; exact p1
    | 2, hc => cases hc; exact p2
    | 3, hc => cases hc; exact p3
    | 4, hc => cases hc; exact p4
    | i + 5, hc => simp [NV.cells] at hc
theorem grown_w0 {w0 w w' : World} {v : Value} {e : TypeId} {k n : Nat} {xs : List Value} (hb : Below w0.heap.size w0 w) (hown : w.ownsRow w0.heap.size e k v n xs) (hg : w.grownBy w' v.ownBlock) : Below w0.heap.size w w' :=
  Below.grown (Below.refl _ _) hg (by exact hb.size) (fun k hk => (hown.lt k hk).1)
theorem does_val {a : Act} {w w' : World} {R : Value → World → Prop} {o : Oper} {v : Value} (h : (execOp a.eval o).run Try.prog w = .ok (.value v) w') (hR : R v w') : Does Try.prog o a w R := .inl ⟨v, w', h, hR⟩

set_option maxHeartbeats 2000000 in
theorem region8 {Q : Exit → Act → World → Prop} {a0 : Act} {w0 : World} {A : Option Addr} {m c j B sb : Nat} {us : List NV} {ve : NV} {id : Nat} (hsz : a0.tmps.size = 42) (h3 : a0.eval (.tmp 3) = .slice A m c) (h6 : a0.eval (.tmp 6) = .int .i64 (j : Int)) (h5 : a0.eval (.tmp 5) = .pointer (some ⟨sb, 0, none⟩))
    (hown : w0.ownsRow B 56 5 (.slice A m c) m (us.flatMap NV.cells)) (hbox : Box w0 sb ve) (hj : j ≤ m) (hm : (m + 1) * 72 ≤ 140737488355328)
    (last : ∀ a w, Framed ops8 a0 a → Below w0.heap.size w0 w → OwnRow w0 (us.take j ++ [ve] ++ us.drop j) (a.eval (.tmp 3)) w → Q .normal a w) : (Code.region id ops8 true).wp Try.prog Q a0 w0 := by
  have hrow : Nodes w0 A m us := Row.ofOwn nod_len (by decide) hown
  have hml : m = us.length := hrow.1
  obtain ⟨A', c', hv', hmc, _⟩ := own_form hown
  cases hv'
  have hnil : A = none → m = 0 ∧ c = 0 := by
    intro h
    rcases hown.2 with ⟨h1, _⟩ | ⟨g, cap, cur, h1, _⟩
    · cases h1; exact ⟨rfl, rfl⟩
    · rw [h] at h1; cases h1
  have hdrew : ∀ w, Below w0.drew.heap.size w0.drew w → Below w0.heap.size w0 w := fun w hb => (Below.refl _ _).drew.trans hb
  have keepV : ∀ w w', Below w0.heap.size w0 w' → ∀ i u, (i = 1 ∨ i = 2 ∨ i = 3 ∨ i = 5 ∨ i = 8 ∨ i = 9 ∨ i = 10) → V8 w0 A m c j us ve i u w → V8 w0 A m c j us ve i u w' := by
    intro w w' hb i u hi h
    rcases hi with rfl | rfl | rfl | rfl | rfl | rfl | rfl
    · exact h
    · exact h
    · obtain ⟨B1, n1, c1, e1, e2, _⟩ := h; exact ⟨B1, n1, c1, e1, e2, hb⟩
    · exact h
    · exact h
    · exact h
    · obtain ⟨B1, n1, c1, e1, e2, _⟩ := h; exact ⟨B1, n1, c1, e1, e2, hb⟩
  have same : ∀ (i : Nat) (w : World) (R : Prop), R → Below w0.drew.heap.size w w ∧ (∀ q, q ≠ i → mustKeep ops8 i q = true → ∀ u, V8 w0 A m c j us ve q u w → V8 w0 A m c j us ve q u w) ∧ R := fun i w R h => ⟨Below.refl _ _, fun _ _ _ _ h => h, h⟩
  have grew : ∀ (i : Nat) (w w' : World) (R : Prop), Below w0.heap.size w0 w → Below w.heap.size w w' → R → Below w0.drew.heap.size w w' ∧ (∀ q, q ≠ i → mustKeep ops8 i q = true → ∀ u, V8 w0 A m c j us ve q u w → V8 w0 A m c j us ve q u w') ∧ R :=
    fun i w w' R hb0 hb h => ⟨hb.mono (by exact hb0.size), fun q _ _ u hu => v8_stays w0 A m c j us ve q u w w' hb hu, h⟩
  refine wp_region_soft (V8 w0 A m c j us ve) (by kernel_rfl) (by rw [hsz]; exact tidy8) ?_ ?_
  · intro i hi
    match i, hi with
    | 0, _ =>
      refine SoftAt.by rfl fun a w hf hb hd => .inl ⟨want_none, does_val run_build0 (grew 0 _ _ _ (hdrew w hb) ((Below.refl _ _).alloc (Nat.le_refl _) _) ⟨w.heap.size, rfl, heap_alloc_new w _, (hdrew w hb).size⟩)⟩
    | 1, _ => exact SoftAt.by rfl fun a w hf hb hd => .inl ⟨want_none, does_move ((hf.keeps 3 (by kernel_rfl)).trans h3) (same 1 _ _ rfl)⟩
    | 2, _ => exact SoftAt.by rfl fun a w hf hb hd => .inl ⟨want_none, does_move ((hf.keeps 6 (by kernel_rfl)).trans h6) (same 2 _ _ rfl)⟩
    | 3, _ =>
      refine SoftAt.by rfl fun a w hf hb hd => .inl ⟨want_none, ?_⟩
      have e1 : a.eval (.tmp 30) = .slice A m c := hd 1 (by kernel_rfl)
      have e2 : a.eval (.tmp 31) = .int .i64 (j : Int) := hd 2 (by kernel_rfl)
      cases A with
      | none =>
        obtain ⟨hm0, hc0⟩ := hnil rfl
        subst hm0 hc0
        have hj0 : j = 0 := by omega
        subst hj0
        refine does_val (run_front_nil e1 e2) (same 3 _ _ ⟨none, 0, 0, rfl, ⟨by simp, .inl (by simp)⟩, hdrew w hb⟩)
      | some p => exact does_val (run_front e1 e2 (by omega)) (same 3 _ _ ⟨some p, j, c, rfl, row_take hrow j hj, hdrew w hb⟩)
    | 4, _ =>
      refine SoftAt.by rfl fun a w hf hb hd => .inl ⟨want_none, ?_⟩
      obtain ⟨s, e1, hs, hsB⟩ := hd 0 (by kernel_rfl)
      obtain ⟨A3, n3, c3, e3, hr3, _⟩ := hd 3 (by kernel_rfl)
      have hown0 := noRoom_own (w0 := w0) hs hsB
      have hn3 : n3 ≤ m := by have := hr3.1; rw [List.length_take] at this; omega
      obtain ⟨v', w', hrun, ho, hg⟩ := run_append26 (d := some 33) (ty := 22) (pos := "ref.go:87") (af := #[⟨0, .data⟩, ⟨3, .data⟩]) (g := none) (us := []) e1 hown0 e3 (hr3.below (Nat.le_refl _) (hdrew w hb)) (by omega) (hdrew w hb).size
      refine does_val hrun ⟨grown_w0 (w0 := w0) (hdrew w hb) hown0 hg, fun q hq hmk u hu => ?_, ?_⟩
      · have hb' : Below w0.heap.size w0 w' := (hdrew w hb).trans (grown_w0 (w0 := w0) (hdrew w hb) hown0 hg)
        match q, hq, hmk, hu with
        | 0, _, hmk, _ => exact absurd hmk (by rw [show mustKeep ops8 4 0 = false from by kernel_rfl]; simp)
        | 6, _, _, hu =>
          obtain ⟨s6, e6, hb6⟩ := hu
          refine ⟨s6, e6, ?_⟩
          unfold Box at hb6 ⊢
          have hne : s6 ≠ s := by
            intro e
            rw [e, hs] at hb6
            simp at hb6
          rw [hg.block s6 (lt_of_block hb6) (by simp only [Value.ownBlock, ne_eq, Option.some.injEq]; exact hne)]
          exact hb6
        | 1, _, _, hu => exact keepV w w' hb' 1 u (by simp) hu
        | 2, _, _, hu => exact keepV w w' hb' 2 u (by simp) hu
        | 3, _, _, hu => exact keepV w w' hb' 3 u (by simp) hu
        | 5, _, _, hu => exact keepV w w' hb' 5 u (by simp) hu
        | 8, _, _, hu => exact keepV w w' hb' 8 u (by simp) hu
        | 9, _, _, hu => exact keepV w w' hb' 9 u (by simp) hu
        | 10, _, _, hu => exact keepV w w' hb' 10 u (by simp) hu
        | 4, hq, _, _ => exact absurd rfl hq
        | 7, _, hmk, _ => exact absurd hmk (by rw [show mustKeep ops8 4 7 = false from by kernel_rfl]; simp)
        | 11, _, hmk, _ => exact absurd hmk (by rw [show mustKeep ops8 4 11 = false from by kernel_rfl]; simp)
        | 12, _, hmk, _ => exact absurd hmk (by rw [show mustKeep ops8 4 12 = false from by kernel_rfl]; simp)
        | q + 13, _, _, hu => trivial
      · have e : (us.take j).length = 0 + n3 := by rw [← hr3.1, Nat.zero_add]
        show w'.ownsRow w0.heap.size 56 5 v' (us.take j).length ((us.take j).flatMap NV.cells)
        rw [e]
        exact ho
    | 5, _ =>
      refine SoftAt.by rfl fun a w hf hb hd => .inl ⟨want_none, does_load26 ((hf.keeps 5 (by kernel_rfl)).trans h5) (hbox.below (hdrew w hb) (lt_of_block hbox)) (same 5 _ _ rfl)⟩
    | 6, _ =>
      refine SoftAt.by rfl fun a w hf hb hd => .inl ⟨want_none, does_val (run_build1 (hd 5 (by kernel_rfl))) (grew 6 _ _ _ (hdrew w hb) ((Below.refl _ _).alloc (Nat.le_refl _) _) ⟨w.heap.size, rfl, Box.new w ve⟩)⟩
    | 7, _ =>
      refine SoftAt.by rfl fun a w hf hb hd => .inl ⟨want_none, ?_⟩
      have ho4 : w.ownsRow w0.heap.size 56 5 (a.eval (.tmp 33)) (us.take j).length ((us.take j).flatMap NV.cells) := hd 4 (by kernel_rfl)
      obtain ⟨s6, e6, hb6⟩ := hd 6 (by kernel_rfl)
      obtain ⟨v', w', hrun, ho, hg⟩ := run_append26 (d := some 36) (ty := 22) (pos := "ref.go:87") (af := #[⟨4, .data⟩, ⟨6, .data⟩, ⟨4, .chain⟩]) (g := none) rfl ho4 e6 (box_row hb6) (by rw [List.length_take]; omega) (hdrew w hb).size
      refine does_val hrun ⟨grown_w0 (w0 := w0) (hdrew w hb) ho4 hg, fun q hq hmk u hu => ?_, ?_⟩
      · have hb' : Below w0.heap.size w0 w' := (hdrew w hb).trans (grown_w0 (w0 := w0) (hdrew w hb) ho4 hg)
        match q, hq, hmk, hu with
        | 0, _, hmk, _ => exact absurd hmk (by rw [show mustKeep ops8 7 0 = false from by kernel_rfl]; simp)
        | 4, _, hmk, _ => exact absurd hmk (by rw [show mustKeep ops8 7 4 = false from by kernel_rfl]; simp)
        | 6, _, hmk, _ => exact absurd hmk (by rw [show mustKeep ops8 7 6 = false from by kernel_rfl]; simp)
        | 1, _, _, hu => exact keepV w w' hb' 1 u (by simp) hu
        | 2, _, _, hu => exact keepV w w' hb' 2 u (by simp) hu
        | 3, _, _, hu => exact keepV w w' hb' 3 u (by simp) hu
        | 5, _, _, hu => exact keepV w w' hb' 5 u (by simp) hu
        | 8, _, _, hu => exact keepV w w' hb' 8 u (by simp) hu
        | 9, _, _, hu => exact keepV w w' hb' 9 u (by simp) hu
        | 10, _, _, hu => exact keepV w w' hb' 10 u (by simp) hu
        | 7, hq, _, _ => exact absurd rfl hq
        | 11, _, hmk, _ => exact absurd hmk (by rw [show mustKeep ops8 7 11 = false from by kernel_rfl]; simp)
        | 12, _, hmk, _ => exact absurd hmk (by rw [show mustKeep ops8 7 12 = false from by kernel_rfl]; simp)
        | q + 13, _, _, hu => trivial
      · show w'.ownsRow w0.heap.size 56 5 v' (us.take j ++ [ve]).length ((us.take j ++ [ve]).flatMap NV.cells)
        rw [List.length_append]
        exact ho
    | 8, _ => exact SoftAt.by rfl fun a w hf hb hd => .inl ⟨want_none, does_move ((hf.keeps 3 (by kernel_rfl)).trans h3) (same 8 _ _ rfl)⟩
    | 9, _ => exact SoftAt.by rfl fun a w hf hb hd => .inl ⟨want_none, does_move ((hf.keeps 6 (by kernel_rfl)).trans h6) (same 9 _ _ rfl)⟩
    | 10, _ =>
      refine SoftAt.by rfl fun a w hf hb hd => .inl ⟨want_none, ?_⟩
      have e1 : a.eval (.tmp 37) = .slice A m c := hd 8 (by kernel_rfl)
      have e2 : a.eval (.tmp 38) = .int .i64 (j : Int) := hd 9 (by kernel_rfl)
      cases A with
      | none =>
        obtain ⟨hm0, hc0⟩ := hnil rfl
        subst hm0 hc0
        have hj0 : j = 0 := by omega
        subst hj0
        have hus : us = [] := List.eq_nil_of_length_eq_zero hml.symm
        subst hus
        refine does_val (run_back_nil e1 e2) (same 10 _ _ ⟨none, 0, 0, rfl, ⟨by simp, .inl (by simp)⟩, hdrew w hb⟩)
      | some p =>
        rcases hrow.2 with he | ⟨b, o, he, hlt, hc⟩
        · have hm0 : m = 0 := by rw [hml, he]; rfl
          have hj0 : j = 0 := by omega
          refine does_val (run_back e1 e2 hj) (same 10 _ _ ⟨_, m - j, c - j, rfl, ⟨by rw [List.length_drop]; omega, .inl (by rw [he]; simp)⟩, hdrew w hb⟩)
        · cases he
          refine does_val (run_back e1 e2 hj) (same 10 _ _ ⟨_, m - j, c - j, rfl, ?_, hdrew w hb⟩)
          by_cases hcj : c = j
          · have hmj : m = j := by omega
            exact ⟨by rw [List.length_drop]; omega, .inl (List.drop_of_length_le (by omega))⟩
          · rw [if_neg hcj, Addr.add_lit]
            exact row_sub hrow j
    | 11, _ =>
      refine SoftAt.by rfl fun a w hf hb hd => .inl ⟨want_none, ?_⟩
      have ho7 : w.ownsRow w0.heap.size 56 5 (a.eval (.tmp 36)) (us.take j ++ [ve]).length ((us.take j ++ [ve]).flatMap NV.cells) := hd 7 (by kernel_rfl)
      obtain ⟨A3, n3, c3, e3, hr3, _⟩ := hd 10 (by kernel_rfl)
      have hn3 : n3 = m - j := by have := hr3.1; rw [List.length_drop] at this; omega
      obtain ⟨v', w', hrun, ho, hg⟩ := run_append26 (d := some 40) (ty := 22) (pos := "ref.go:87") (af := #[⟨7, .data⟩, ⟨10, .data⟩, ⟨7, .chain⟩]) (g := none) rfl ho7 e3 (hr3.below (Nat.le_refl _) (hdrew w hb)) (by simp only [List.length_append, List.length_take, List.length_singleton]; omega) (hdrew w hb).size
      refine does_val hrun ⟨grown_w0 (w0 := w0) (hdrew w hb) ho7 hg, fun q hq hmk u hu => ?_, ?_⟩
      · have hb' : Below w0.heap.size w0 w' := (hdrew w hb).trans (grown_w0 (w0 := w0) (hdrew w hb) ho7 hg)
        match q, hq, hmk, hu with
        | 0, _, hmk, _ => exact absurd hmk (by rw [show mustKeep ops8 11 0 = false from by kernel_rfl]; simp)
        | 4, _, hmk, _ => exact absurd hmk (by rw [show mustKeep ops8 11 4 = false from by kernel_rfl]; simp)
        | 6, _, hmk, _ => exact absurd hmk (by rw [show mustKeep ops8 11 6 = false from by kernel_rfl]; simp)
        | 7, _, hmk, _ => exact absurd hmk (by rw [show mustKeep ops8 11 7 = false from by kernel_rfl]; simp)
        | 1, _, _, hu => exact keepV w w' hb' 1 u (by simp) hu
        | 2, _, _, hu => exact keepV w w' hb' 2 u (by simp) hu
        | 3, _, _, hu => exact keepV w w' hb' 3 u (by simp) hu
        | 5, _, _, hu => exact keepV w w' hb' 5 u (by simp) hu
        | 8, _, _, hu => exact keepV w w' hb' 8 u (by simp) hu
        | 9, _, _, hu => exact keepV w w' hb' 9 u (by simp) hu
        | 10, _, _, hu => exact keepV w w' hb' 10 u (by simp) hu
        | 11, hq, _, _ => exact absurd rfl hq
        | 12, _, hmk, _ => exact absurd hmk (by rw [show mustKeep ops8 11 12 = false from by kernel_rfl]; simp)
        | q + 13, _, _, hu => trivial
      · show w'.ownsRow w0.heap.size 56 5 v' (us.take j ++ [ve] ++ us.drop j).length ((us.take j ++ [ve] ++ us.drop j).flatMap NV.cells)
        rw [List.length_append, List.length_drop, ← hml, ← hn3]
        exact ho
    | 12, _ => exact SoftAt.by rfl fun a w hf hb hd => .inl ⟨want_none, does_assign rfl (same 12 _ _ (hd 11 (by kernel_rfl)))⟩
    | k + 13, hi => exact absurd hi (Nat.not_lt.2 (Nat.le_add_left _ _))
  · intro a w hf hb hv
    exact last a w hf hb (hv 12 (by decide) (fun u o ho => by
      have hu : u < ops8.size := (Array.getElem?_eq_some_iff.1 ho).1
      have hall : (List.range ops8.size).all (fun u => match ops8[u]? with | some o => !usesD o 12 | none => true) = true := by kernel_rfl
      rw [List.all_eq_true] at hall
      have := hall u (List.mem_range.2 hu)
      rw [ho] at this
      simpa using this))
end Go.Proofs.Ytkhifljgocopoac
/-
  THE REFERENCE's List.
-/
namespace Go.Proofs.Ytkhifljgocopoac
open Go.RowKit
open Go.ChangeMaps (setBlock)

/-- is the key among those seen? -/
def seenK (es : Array MapEntry) (seen : Array Nat) (k : Int) : Bool := es.toList.any fun e => seen.contains e.born && decide (intKey e.key = some k)
/-- the list so far -/
structure LI (w : World) (bm : Nat) (es : Array MapEntry) (clock : Nat) (xs : List M.Nd) (seen : Array Nat) (A : Option Addr) (m c : Nat) (us : List NV) (wr : World) : Prop where
  it : It w w.heap.size bm es clock seen wr
  own : wr.ownsRow (w.heap.size + 1) 56 5 (.slice A m c) m (us.flatMap NV.cells)
  con : All2 (Cont w) us (xs.filter fun x => seenK es seen x.fid)
theorem LI.start {w : World} {bm : Nat} {es : Array MapEntry} {clock : Nat} (xs : List M.Nd) (hb : w.heap[bm]? = some (.map es clock)) : LI w bm es clock xs #[] none 0 0 [] (w.alloc (.mapIter (some bm) clock #[] clock)) := by
  refine ⟨⟨⟨clock, heap_alloc_new w _, Nat.le_refl _⟩, hb, Nat.le_refl _, (Below.refl _ _).alloc (Nat.le_refl _) _⟩, World.ownsRow_nil _ _ _ _, ?_⟩
  have : (xs.filter fun x => seenK es #[] x.fid) = [] := List.filter_eq_nil_iff.2 (fun x _ => by simp [seenK])
  rw [this]
  exact All2.nil

theorem seenK_push {es : Array MapEntry} {seen : Array Nat} {e : MapEntry} {k : Int} (he : e ∈ es.toList) (hk : e.key = .int .i64 k) (hnd : (es.toList.map (·.born)).Nodup) (q : Int) : seenK es (seen.push e.born) q = (seenK es seen q || decide (q = k)) := by
  have hone : ∀ e' ∈ es.toList, e'.born = e.born → e' = e := by
    intro e' he' hb
    obtain ⟨i, hi⟩ := List.getElem?_of_mem he'
    obtain ⟨j, hj⟩ := List.getElem?_of_mem he
    have hi' : (es.toList.map (·.born))[i]? = some e.born := by rw [List.getElem?_map, hi]; simp [hb]
    have hj' : (es.toList.map (·.born))[j]? = some e.born := by rw [List.getElem?_map, hj]; rfl
    obtain ⟨hil, hie⟩ := List.getElem?_eq_some_iff.1 hi'
    obtain ⟨hjl, hje⟩ := List.getElem?_eq_some_iff.1 hj'
    have hij : i = j := (List.getElem_inj hnd).1 (hie.trans hje.symm)
    subst hij
    rw [hi] at hj
    exact Option.some.inj hj
  rw [Bool.eq_iff_iff, Bool.or_eq_true, decide_eq_true_eq]
  unfold seenK
  simp only [List.any_eq_true, Bool.and_eq_true, decide_eq_true_eq, Array.contains_eq_mem, Array.mem_push]
  constructor
  · rintro ⟨e', he', hs, hq⟩
    rcases hs with hs | hs
    · exact .inl ⟨e', he', hs, hq⟩
    · have := hone e' he' hs
      subst this
      rw [hk] at hq
      simp [intKey] at hq
      exact .inr hq.symm
  · rintro (⟨e', he', hs, hq⟩ | rfl)
    · exact ⟨e', he', .inl hs, hq⟩
    · exact ⟨e, he, .inr rfl, by rw [hk]; rfl⟩
theorem seenK_not {es : Array MapEntry} {seen : Array Nat} {e : MapEntry} {k : Int} (he : e ∈ es.toList) (hk : e.key = .int .i64 k) (hns : seen.contains e.born = false) (hone : es.toList.Pairwise fun a b => a.key ≠ b.key) : seenK es seen k = false := by
  rw [Bool.eq_false_iff]
  intro h
  unfold seenK at h
  rw [List.any_eq_true] at h
  obtain ⟨e', he', h⟩ := h
  simp only [Bool.and_eq_true, decide_eq_true_eq] at h
  have hk' := intKey_iff.1 h.2
  have : e' = e := by
    obtain ⟨i, hi⟩ := List.getElem?_of_mem he'
    obtain ⟨j, hj⟩ := List.getElem?_of_mem he
    obtain ⟨hil, hie⟩ := List.getElem?_eq_some_iff.1 hi
    obtain ⟨hjl, hje⟩ := List.getElem?_eq_some_iff.1 hj
    rcases Nat.lt_trichotomy i j with hlt | heq | hlt
    · exact absurd (by rw [hie, hje, hk, hk']) (List.pairwise_iff_getElem.1 hone i j hil hjl hlt)
    · subst heq; rw [← hie, ← hje]
    · exact absurd (by rw [hie, hje, hk, hk']) (List.pairwise_iff_getElem.1 hone j i hjl hil hlt)
  subst this
  rw [hns] at h
  cases h.1
/-- one more is in its place -/
theorem list_con {w : World} {es : Array MapEntry} {seen : Array Nat} {xs : List M.Nd} {us : List NV} {ve : NV} {x : M.Nd} {b j : Nat} (hr : M.RsN xs) (hx : x ∈ xs) (hc : Cont w ve x) (hcon : All2 (Cont w) us (xs.filter fun y => seenK es seen y.fid))
    (hpush : ∀ q, seenK es (seen.push b) q = (seenK es seen q || decide (q = x.fid))) (hnot : seenK es seen x.fid = false) (hlo : ∀ u ∈ us.take j, u.fid < ve.fid) (hup : ∀ u, us[j]? = some u → ¬ u.fid < ve.fid) :
    All2 (Cont w) (us.take j ++ [ve] ++ us.drop j) (xs.filter fun y => seenK es (seen.push b) y.fid) := by
  rw [filter_put hr hx (seenK es seen) (seenK es (seen.push b)) hnot hpush]
  have hrs : M.RsN (xs.filter fun y => seenK es seen y.fid) := M.rs_sub hr (List.filter_sublist.map _)
  have hfx : ve.fid = x.fid := hc.1
  rw [put_place (k := j) hrs ?_ ?_]
  · exact All2.append (All2.append (hcon.take j) (All2.one hc)) (hcon.drop j)
  · intro y hy
    obtain ⟨i, hi⟩ := List.getElem?_of_mem hy
    have ht := hcon.take j
    have hlt : i < ((xs.filter fun y => seenK es seen y.fid).take j).length := (List.getElem?_eq_some_iff.1 hi).1
    have hiu : i < (us.take j).length := by rw [ht.1]; exact hlt
    have hu : (us.take j)[i]? = some (us.take j)[i] := List.getElem?_eq_getElem hiu
    have hcu := ht.2 i _ y hu hi
    have := hlo _ (List.mem_of_getElem? hu)
    rw [hcu.1, hfx] at this
    exact this
  · intro y hy
    have hlt := (List.getElem?_eq_some_iff.1 hy).1
    have hju : j < us.length := by rw [hcon.1]; exact hlt
    have hu : us[j]? = some us[j] := List.getElem?_eq_getElem hju
    have hcu := hcon.2 j _ y hu hy
    have h1 := hup _ hu
    rw [hcu.1, hfx] at h1
    have hne : y.fid ≠ x.fid := by
      intro e
      have hm := (List.mem_filter.1 (List.mem_of_getElem? hy)).2
      simp only [e] at hm
      rw [hnot] at hm; cases hm
    omega

set_option maxHeartbeats 4000000 in
theorem list_any (bm : Nat) (xs : List M.Nd) (w : World) (ht : TMap w bm xs) (hr : M.RsN xs) (hn : (xs.length + 1) * 72 ≤ 140737488355328) :
    Calls Try.prog 13 #[.map (some bm)] w fun e w' => ∃ (A : Option Addr) (m c : Nat) (us : List NV), e = .returned (.slice A m c) ∧ Tree w' A m us xs ∧ Below w.heap.size w w' := by
  obtain ⟨f, ⟨es, clock, hb, hh, hnd, hcl⟩, ha⟩ := ht
  have H0 : Hid (w.heap[bm]? = some (.map es clock) ∧ Agree w f xs ∧ M.RsN xs) := ⟨hb, ha, hr⟩
  have HH : Hid (Holds es.toList f ∧ (es.toList.map (·.born)).Nodup ∧ ∀ e ∈ es.toList, e.born < clock) := ⟨hh, hnd, hcl⟩
  have hrg := run_range_map (P := Try.prog) w 30 3 56 bm es clock Try.underlying30 hb
  clear hb hh hnd hcl ha hr
  go_enter Try.func13, Try.ntmps13
  go_wp2
  clear hrg
  go_loopw [3] (fun l wr => ∃ (seen : Array Nat) (A : Option Addr) (m c : Nat) (us : List NV), l = .slice A m c ∧ LI w bm es clock xs seen A m c us wr) (fun _ wr => (leftOf es (wr.iterSeen w.heap.size)).size)
  case atStart => exact ⟨#[], none, 0, 0, [], rfl, LI.start xs H0.out.1⟩
  case round =>
    obtain ⟨seen, A, m, c, us, rfl, hli⟩ := hrel
    have HLI : Hid (LI w bm es clock xs seen A m c us wr) := hli
    have hse := hli.it.seen
    rcases hli.it.next HH.out.2.1 HH.out.2.2 0 with ⟨h0, hnx⟩ | ⟨e, he, W, hnx, hen, hit, hsz, hoth⟩
    · have HF : Hid (Tree wr A m us xs ∧ Below w.heap.size w wr) := by
        have hall := all_seen es seen h0
        have hfil : (xs.filter fun x => seenK es seen x.fid) = xs := by
          rw [List.filter_eq_self]
          intro x hx
          obtain ⟨i, hi⟩ := List.getElem?_of_mem hx
          have hfx := M.find_self H0.out.2.2 hi
          rcases H0.out.2.1 x.fid with ⟨_, h2⟩ | ⟨v, y, h1, _, _⟩
          · rw [hfx] at h2; cases h2
          · obtain ⟨e, he, hk, _⟩ := HH.out.1.all _ _ h1
            unfold seenK
            rw [List.any_eq_true]
            exact ⟨e, he, by rw [hall e he, intKey_iff.2 hk]; simp⟩
        have hc := hli.con
        rw [hfil] at hc
        exact ⟨⟨Row.ofOwn nod_len (by decide) hli.own, hc.imp fun v x h => h.below (Nat.le_refl _) hli.it.bel⟩, hli.it.bel⟩
      clear hli hse h0
      go_wp2
      go_ret
      exact ⟨A, m, c, us, rfl, HF.out.1, HF.out.2⟩
    · obtain ⟨hem, hns⟩ := mem_left he
      obtain ⟨k, hk, hfk⟩ := HH.out.1.key e hem
      rcases H0.out.2.1 k with ⟨h6, _⟩ | ⟨ve, x, h6, hfx, hcx⟩
      · rw [h6] at hfk; cases hfk
      · rw [h6] at hfk
        injection hfk with hfk
        rw [hk, ← hfk] at hnx hen
        have hlt := left_shrinks es seen e he
        have hwa : Below W.heap.size W (W.alloc (.cells #[.int .i64 ve.fid, .bool ve.dir, .slice ve.dA ve.dn ve.dc, .slice ve.eA ve.en ve.ec, .int .i64 ve.ver] 56)) := (Below.refl _ _).alloc (Nat.le_refl _) _
        have HX : Hid (Cont w ve x ∧ x ∈ xs ∧ x.fid = k) := ⟨hcx, List.mem_of_find?_eq_some hfx, find_fid hfx⟩
        have HL1 : Hid (LI w bm es clock xs seen A m c us wr) := hli
        have HSK : Hid ((∀ q, seenK es (seen.push e.born) q = (seenK es seen q || decide (q = x.fid))) ∧ seenK es seen x.fid = false) := by
          have hxk : x.fid = k := find_fid hfx
          exact ⟨fun q => by rw [hxk]; exact seenK_push hem hk HH.out.2.1 q, by rw [hxk]; exact seenK_not hem hk hns HH.out.1.one⟩
        have HM : Hid ((leftOf es (seen.push e.born)).size < (leftOf es seen).size ∧ wr.iterSeen w.heap.size = seen) := ⟨hlt, hse⟩
        have HI2 : Hid (It w w.heap.size bm es clock (seen.push e.born) (W.alloc (.cells #[.int .i64 ve.fid, .bool ve.dir, .slice ve.dA ve.dn ve.dc, .slice ve.eA ve.en ve.ec, .int .i64 ve.ver] 56)) ∧ (W.alloc (.cells #[.int .i64 ve.fid, .bool ve.dir, .slice ve.dA ve.dn ve.dc, .slice ve.eA ve.en ve.ec, .int .i64 ve.ver] 56)).ownsRow (w.heap.size + 1) 56 5 (.slice A m c) m (us.flatMap NV.cells) ∧ Box (W.alloc (.cells #[.int .i64 ve.fid, .bool ve.dir, .slice ve.dA ve.dn ve.dc, .slice ve.eA ve.en ve.ec, .int .i64 ve.ver] 56)) W.heap.size ve) := by
          refine ⟨hit.below hwa, ?_, Box.new W ve⟩
          refine own_below ?_ hwa (Nat.le_refl _)
          refine ⟨hli.own.1, ?_⟩
          rcases hli.own.2 with h2 | ⟨g, cap, cur, e1, h1, hg, r⟩
          · exact .inl h2
          · exact .inr ⟨g, cap, cur, e1, h1, by rw [hoth g (by omega)]; exact hg, r⟩
        clear hli hlt hse hem hns hk h6 hfx hcx he hit hoth hwa hfk hsz
        go_upto_region 5 with (fail)
        clear hnx hen
        generalize W.alloc (.cells #[.int .i64 ve.fid, .bool ve.dir, .slice ve.dA ve.dn ve.dc, .slice ve.eA ve.en ve.ec, .int .i64 ve.ver] 56) = Wa at HI2 ⊢
        generalize W.heap.size = sb at HI2 ⊢
        have hmx : m ≤ xs.length := by
          have h1 := own_len nod_len (by decide) HL1.out.own
          have h2 := HL1.out.con.1
          have h3 := List.length_filter_le (fun x : M.Nd => seenK es seen x.fid) xs
          omega
        have hml : m = us.length := own_len nod_len (by decide) HL1.out.own
        have HML : Hid (m = us.length) := hml
        clear hml
        go_wp2
        go_loopw [6] (fun i wi => ∃ j : Nat, j ≤ m ∧ i = .int .i64 j ∧ Hid (∀ u ∈ us.take j, u.fid < ve.fid) ∧ Below Wa.heap.size Wa wi) (fun i _ => m - (intOf i).toNat)
        case atStart => exact ⟨0, Nat.zero_le _, rfl, (by intro u hu; simp at hu), Below.refl _ _⟩
        case round =>
          rename World => wi
          obtain ⟨j, hj, rfl, HLO, hbi⟩ := hrel
          obtain ⟨p0, p1, p2, p3, p4, pf, pz⟩ := (HI2.out.2.2.below hbi (lt_of_block HI2.out.2.2)).facts
          clear p1 p2 p3 p4
          by_cases hjm : j < m
          · obtain ⟨b, o, v, hA, _, hvj, c0, c1, c2, c3, c4⟩ := Nodes.at (Row.ofOwn nod_len (by decide) (own_below HI2.out.2.1 hbi (Nat.le_refl _))) hjm
            have HVJ : Hid (us[j]? = some v) := hvj
            have hd1 : decide ((j : Int) < (m : Int)) = true := by rw [decide_eq_true_eq]; omega
            have hjn : (j : Int) < (m : Int) := by omega
            have hj0 : (0 : Int) ≤ (j : Int) := by omega
            subst hA
            clear hvj c1 c2 c3 c4
            by_cases hlo : v.fid < ve.fid
            · have hd2 : decide (v.fid < ve.fid) = true := by rw [decide_eq_true_eq]; exact hlo
              have HLV : Hid (v.fid < ve.fid) := hlo
              clear hlo
              go_wp2
              go_quiet (fail)
              go_wp2
              go_roundw
              case rel => exact ⟨j + 1, by omega, by go_num, (by intro u hu; rw [take_step HVJ.out] at hu; rcases List.mem_append.1 hu with h1 | h1; exact HLO.out u h1; rw [List.mem_singleton.1 h1]; exact HLV.out), below_drewN hbi _⟩
              case measure => simp [intOf]; omega
            · have hd2 : decide (v.fid < ve.fid) = false := by rw [decide_eq_false_iff_not]; exact hlo
              have HUP : Hid (∀ u, us[j]? = some u → ¬ u.fid < ve.fid) := by intro u hu; rw [HVJ.out] at hu; injection hu with hu; subst hu; exact hlo
              clear hlo
              go_wp2
              go_quiet (fail)
              go_upto_region 8 with (fail)
              refine region8 (j := j) (B := w.heap.size + 1) (sb := sb) (us := us) (ve := ve) rfl rfl rfl rfl (own_below HI2.out.2.1 (below_drewN hbi _) (Nat.le_refl _)) (HI2.out.2.2.below (below_drewN hbi _) (lt_of_block HI2.out.2.2)) hj (by omega) ?_
              intro a' w' hf hb ho
              have hl := hf.lit (fun t => decide (t = 3) || (decide (29 ≤ t) && decide (t ≤ 40))) (by kernel_rfl)
              simp only [overL, Nat.reduceAdd, Nat.reduceLeDiff, Nat.reduceEqDiff, decide_true, decide_false, Bool.and_true, Bool.and_false, Bool.false_or, Bool.true_or] at hl
              obtain ⟨A', c', hv, _, _⟩ := own_form ho
              have ho' : w'.ownsRow (w.heap.size + 1) 56 5 (.slice A' (us.take j ++ [ve] ++ us.drop j).length c') (us.take j ++ [ve] ++ us.drop j).length ((us.take j ++ [ve] ++ us.drop j).flatMap NV.cells) := by
                rw [← hv]
                refine own_mono ho ?_
                have h1 := lt_of_block HI2.out.1.it.choose_spec.1
                have h2 := (below_drewN hbi nq).size
                omega
              have HLI2 : Hid (LI w bm es clock xs (seen.push e.born) A' (us.take j ++ [ve] ++ us.drop j).length c' (us.take j ++ [ve] ++ us.drop j) w') :=
                ⟨HI2.out.1.below ((below_drewN hbi _).trans (hb.mono (below_drewN hbi nq).size)), ho', list_con H0.out.2.2 HX.out.2.1 HX.out.1 HL1.out.con HSK.out.1 HSK.out.2 HLO.out (fun u hu => Int.not_lt.2 (HUP.out u hu))⟩
              rw [hl, hv]
              clear hl hv ho ho' hf hb
              go_wp2_with (fail)
              go_roundw
              case rel => exact ⟨seen.push e.born, A', _, c', _, rfl, HLI2.out⟩
              case measure => rw [HLI2.out.it.seen, HM.out.2]; exact HM.out.1
          · have HUP : Hid (∀ u, us[j]? = some u → ¬ u.fid < ve.fid) := by
              intro u hu
              have := (List.getElem?_eq_some_iff.1 hu).1
              have := HML.out
              omega
            have hd1 : decide ((j : Int) < (m : Int)) = false := by rw [decide_eq_false_iff_not]; omega
            go_wp2
            go_quiet (fail)
            go_upto_region 8 with (fail)
            refine region8 (j := j) (B := w.heap.size + 1) (sb := sb) (us := us) (ve := ve) rfl rfl rfl rfl (own_below HI2.out.2.1 (below_drewN hbi _) (Nat.le_refl _)) (HI2.out.2.2.below (below_drewN hbi _) (lt_of_block HI2.out.2.2)) hj (by omega) ?_
            intro a' w' hf hb ho
            have hl := hf.lit (fun t => decide (t = 3) || (decide (29 ≤ t) && decide (t ≤ 40))) (by kernel_rfl)
            simp only [overL, Nat.reduceAdd, Nat.reduceLeDiff, Nat.reduceEqDiff, decide_true, decide_false, Bool.and_true, Bool.and_false, Bool.false_or, Bool.true_or] at hl
            obtain ⟨A', c', hv, _, _⟩ := own_form ho
            have ho' : w'.ownsRow (w.heap.size + 1) 56 5 (.slice A' (us.take j ++ [ve] ++ us.drop j).length c') (us.take j ++ [ve] ++ us.drop j).length ((us.take j ++ [ve] ++ us.drop j).flatMap NV.cells) := by
              rw [← hv]
              refine own_mono ho ?_
              have h1 := lt_of_block HI2.out.1.it.choose_spec.1
              have h2 := (below_drewN hbi nq).size
              omega
            have HLI2 : Hid (LI w bm es clock xs (seen.push e.born) A' (us.take j ++ [ve] ++ us.drop j).length c' (us.take j ++ [ve] ++ us.drop j) w') :=
              ⟨HI2.out.1.below ((below_drewN hbi _).trans (hb.mono (below_drewN hbi nq).size)), ho', list_con H0.out.2.2 HX.out.2.1 HX.out.1 HL1.out.con HSK.out.1 HSK.out.2 HLO.out (fun u hu => Int.not_lt.2 (HUP.out u hu))⟩
            rw [hl, hv]
            clear hl hv ho ho' hf hb
            go_wp2_with (fail)
            go_roundw
            case rel => exact ⟨seen.push e.born, A', _, c', _, rfl, HLI2.out⟩
            case measure => rw [HLI2.out.it.seen, HM.out.2]; exact HM.out.1
end Go.Proofs.Ytkhifljgocopoac
/-
  PLAIN MATHEMATICS: an act makes at most one entry more.
-/
namespace Go.Proofs.Ytkhifljgocopoac
open M

/-- how many entries there are in all -/
def cnt (xs : List Nd) : Nat := (allF xs).length
theorem cnt_nil : cnt [] = 0 := rfl
theorem cnt_cons (x : Nd) (xs : List Nd) : cnt (x :: xs) = x.ents.length + cnt xs := by unfold cnt allF; rw [List.flatMap_cons, List.length_append, List.length_map]
theorem cnt_append (xs ys : List Nd) : cnt (xs ++ ys) = cnt xs + cnt ys := by unfold cnt allF; rw [List.flatMap_append, List.length_append]
theorem cnt_filter_le (p : Nd → Bool) : ∀ xs : List Nd, cnt (xs.filter p) ≤ cnt xs
  | [] => Nat.le_refl _
  | x :: xs => by
    have ih := cnt_filter_le p xs
    rw [cnt_cons, List.filter_cons]
    split
    · rw [cnt_cons]; omega
    · omega
theorem cnt_mem {xs : List Nd} {x : Nd} (h : x ∈ xs) : x.ents.length ≤ cnt xs := by
  induction xs with
  | nil => cases h
  | cons y ys ih =>
    rw [cnt_cons]
    rcases List.mem_cons.1 h with h | h
    · subst h; omega
    · have := ih h; omega
theorem ltI_no (a : Int) : ltI a a = false := by simp [ltI]
theorem ltI_asym {a b : Int} (h : ltI a b = true) : ltI b a = false := by
  simp only [ltI, decide_eq_true_eq] at h
  simp only [ltI, decide_eq_false_iff_not]
  omega
theorem cnt_two (k : Int) : ∀ xs : List Nd, cnt (xs.filter fun y => ltI y.fid k) + cnt (xs.filter fun y => ltI k y.fid) ≤ cnt xs
  | [] => Nat.le_refl _
  | x :: xs => by
    have ih := cnt_two k xs
    rw [cnt_cons, List.filter_cons, List.filter_cons]
    cases h1 : ltI x.fid k
    · cases h2 : ltI k x.fid
      · simp only [Bool.false_eq_true, if_false]; omega
      · simp only [Bool.false_eq_true, if_false, if_true]; rw [cnt_cons]; omega
    · rw [ltI_asym h1]
      simp only [Bool.false_eq_true, if_false, if_true]; rw [cnt_cons]; omega
theorem cnt_three (k : Int) : ∀ {xs : List Nd} {y : Nd}, y ∈ xs → y.fid = k → cnt (xs.filter fun y => ltI y.fid k) + cnt (xs.filter fun y => ltI k y.fid) + y.ents.length ≤ cnt xs
  | [], y, h, _ => by cases h
  | x :: xs, y, h, hk => by
    rw [cnt_cons, List.filter_cons, List.filter_cons]
    by_cases hxk : x.fid = k
    · rw [hxk, ltI_no]
      simp only [Bool.false_eq_true, if_false]
      rcases List.mem_cons.1 h with h | h
      · subst h; have := cnt_two k xs; omega
      · have := cnt_three k h hk; omega
    · have hyx : y ∈ xs := by
        rcases List.mem_cons.1 h with h | h
        · subst h; exact absurd hk hxk
        · exact h
      have ih := cnt_three k hyx hk
      cases h1 : ltI x.fid k
      · cases h2 : ltI k x.fid
        · simp only [Bool.false_eq_true, if_false]; omega
        · simp only [Bool.false_eq_true, if_false, if_true]; rw [cnt_cons]; omega
      · rw [ltI_asym h1]
        simp only [Bool.false_eq_true, if_false, if_true]; rw [cnt_cons]; omega
theorem putN_eq (xs : List Nd) (x : Nd) : putN xs x = xs.filter (fun y => ltI y.fid x.fid) ++ x :: xs.filter (fun y => ltI x.fid y.fid) := rfl
/-- in the place of one with no fewer entries, but for k -/
theorem cnt_put {xs : List Nd} {x y : Nd} {k : Nat} (hy : find xs x.fid = some y) (h : x.ents.length ≤ y.ents.length + k) : cnt (putN xs x) ≤ cnt xs + k := by
  have := cnt_three x.fid (find_mem hy).1 (find_mem hy).2
  rw [putN_eq, cnt_append, cnt_cons]
  omega
theorem cnt_put0 (xs : List Nd) {x : Nd} (h : x.ents = []) : cnt (putN xs x) ≤ cnt xs := by
  have := cnt_two x.fid xs
  rw [putN_eq, cnt_append, cnt_cons, h]
  simp only [List.length_nil]
  omega
theorem cnt_bring {xs : List Nd} (ac : M.Act) (v : Int) : cnt (M.bringS xs ac v).2 ≤ cnt xs + 1 := by
  by_cases h1 : (M.dirS xs ac.dir).1 = 0
  case' neg => rw [bring_dir h1]; exact Nat.zero_le _
  by_cases h2 : M.freeS (M.dirS xs ac.dir).2 ac.name = 0
  case' neg => rw [bring_free h1 h2]; exact Nat.zero_le _
  by_cases h3 : ac.fid = 0 ∨ (M.find xs ac.fid).isSome
  case' pos => rw [bring_stale h1 h2 h3]; exact Nat.zero_le _
  by_cases h4 : 24 ≤ xs.length
  case' pos => rw [bring_many h1 h2 h3 h4]; exact Nat.zero_le _
  rw [bring_ok h1 h2 h3 h4]
  have hd := M.dir_ok h1
  have e1 : (M.dirS xs ac.dir).2.fid = ac.dir := (M.find_mem hd.1).2
  refine Nat.le_trans (cnt_put0 _ rfl) (cnt_put (y := (M.dirS xs ac.dir).2) ?_ (M.putE_len _ _))
  show M.find xs (M.dirS xs ac.dir).2.fid = _
  rw [e1]; exact hd.1
theorem cnt_store {xs : List Nd} (ac : M.Act) (v : Int) : cnt (M.storeS xs ac v).2 ≤ cnt xs + 1 := by
  unfold M.storeS
  cases hx : M.find xs ac.fid with
  | none => exact Nat.zero_le _
  | some x =>
    simp only
    split
    · exact Nat.zero_le _
    · split
      · exact Nat.zero_le _
      · refine cnt_put (y := x) ?_ (Nat.le_succ _)
        show M.find xs x.fid = _
        rw [(M.find_mem hx).2]; exact hx
theorem cnt_remove {xs : List Nd} (ac : M.Act) (v : Int) : cnt (M.removeS xs ac v).2 ≤ cnt xs + 1 := by
  by_cases h1 : (M.holdS xs ac.dir ac.name ac.fid).1 = 0
  case' neg => rw [remove_hold h1]; exact Nat.zero_le _
  cases hx : M.find xs ac.fid with
  | none => rw [remove_away h1 hx]; exact Nat.zero_le _
  | some x =>
    by_cases he : 0 < x.ents.length
    case' pos => rw [remove_full h1 hx he]; exact Nat.zero_le _
    rw [remove_ok h1 hx he]
    have ho := hold_ok h1
    have hd := M.dir_ok (xs := xs) (f := ac.dir) (by rw [ho.1])
    rw [ho.1] at hd
    refine Nat.le_trans (cnt_filter_le _ _) (cnt_put (y := (M.holdS xs ac.dir ac.name ac.fid).2) ?_ ?_)
    · show M.find xs (M.holdS xs ac.dir ac.name ac.fid).2.fid = _
      rw [(M.find_mem hd.1).2]; exact hd.1
    · exact Nat.le_trans (List.length_filter_le _ _) (Nat.le_succ _)
theorem cnt_rename {xs : List Nd} (h : Good xs) (ac : M.Act) (v : Int) : cnt (M.renameS xs ac v).2 ≤ cnt xs + 1 := by
  by_cases h1 : (M.holdS xs ac.dir ac.name ac.fid).1 = 0
  case' neg => rw [rename_hold h1]; exact Nat.zero_le _
  by_cases h2 : (M.dirS xs ac.to).1 = 0
  case' neg => rw [rename_dir h1 h2]; exact Nat.zero_le _
  by_cases h3 : M.freeS (M.toS xs ac) ac.toName = 0
  case' neg => rw [rename_free h1 h2 h3]; exact Nat.zero_le _
  by_cases h4 : M.find xs ac.fid = none
  case' pos => rw [rename_away h1 h2 h3 h4]; exact Nat.zero_le _
  by_cases h5 : M.Reach xs ac.fid ac.to
  case' pos => rw [rename_loop h1 h2 h3 h4 h5]; exact Nat.zero_le _
  rw [rename_ok h1 h2 h3 h4 h5]
  have hf := from_good h h1
  have ht := to_good h h1 h2
  have c1 : cnt (M.putN xs (M.withV (M.fromS xs ac) v)) ≤ cnt xs + 0 := cnt_put (y := (M.holdS xs ac.dir ac.name ac.fid).2) hf.1 (List.length_filter_le _ _)
  refine Nat.le_trans ?_ (Nat.add_le_add_right c1 1)
  have e0 : (M.withV (withE (M.toS xs ac) (M.putE (M.toS xs ac).ents (ac.toName, ac.fid))) v).fid = ac.to := ht.2.1
  by_cases e : ac.to = ac.dir
  · refine cnt_put (y := M.withV (M.fromS xs ac) v) ?_ ?_
    · have e1 : (M.withV (M.fromS xs ac) v).fid = ac.to := hf.2.1.trans e.symm
      rw [e0, ← e1]
      exact M.put_find (fun y : Nd => y.fid) xs M.ordI (M.withV (M.fromS xs ac) v)
    · have e2 : M.toS xs ac = M.fromS xs ac := by unfold M.toS; rw [if_pos e]
      rw [e2]
      exact M.putE_len _ _
  · have hd := M.dir_ok h2
    have e2 : M.toS xs ac = (M.dirS xs ac.to).2 := by unfold M.toS; rw [if_neg e]
    refine cnt_put (y := (M.dirS xs ac.to).2) ?_ ?_
    · rw [e0]
      have := M.put_find_other (fun y : Nd => y.fid) xs M.ordI (M.withV (M.fromS xs ac) v) ac.to (by show ac.to ≠ (M.fromS xs ac).fid; rw [hf.2.1]; exact e)
      unfold M.find M.putN at *
      rw [this]; exact hd.1
    · rw [e2]
      exact M.putE_len _ _
theorem cnt_apply {xs : List Nd} (h : Good xs) (ac : M.Act) (v : Int) : cnt (M.applyS xs ac v).2 ≤ cnt xs + 1 := by
  unfold M.applyS
  split
  · exact cnt_bring ac v
  · split
    · exact cnt_store ac v
    · split
      · exact cnt_remove ac v
      · split
        · exact cnt_rename h ac v
        · exact Nat.zero_le _
/-- a tree that is fit for all that is asked of it -/
def Fit (xs : List Nd) (N : Nat) : Prop := Good xs ∧ cnt xs ≤ N
theorem Fit.next {xs : List Nd} {N : Nat} (h : Fit xs N) (ac : M.Act) (v : Int) : Fit (M.applyS xs ac v).2 (N + 1) := ⟨good_apply h.1 ac v, Nat.le_trans (cnt_apply h.1 ac v) (Nat.add_le_add_right h.2 1)⟩
theorem Fit.mono {xs : List Nd} {N N' : Nat} (h : Fit xs N) (hn : N ≤ N') : Fit xs N' := ⟨h.1, Nat.le_trans h.2 hn⟩
theorem Fit.wide {xs : List Nd} {N : Nat} (h : Fit xs N) (hN : N ≤ 4000000) : (∀ x ∈ xs, (x.ents.length + 1) * 24 ≤ 140737488355328) ∧ ((allF xs).length + 2) * 8 ≤ 140737488355328 := by
  have h2 : (allF xs).length ≤ N := h.2
  refine ⟨fun x hx => ?_, by omega⟩
  have := cnt_mem hx
  have := h.2
  omega
end Go.Proofs.Ytkhifljgocopoac
/-
  THE LAW CertDone, walked: of any tree and any log that are few enough it answers true, and all that was there stays.
-/
namespace Go.Proofs.Ytkhifljgocopoac
open Go.RowKit
open Go.ChangeMaps (setBlock)

theorem allB_same6 (vb : Bool) : ∀ xs : List M.Nd, allB (sameNd vb) xs xs = true
  | [] => rfl
  | x :: xs => by simp [allB, same_self, allB_same6 vb xs]
theorem done_small : ∀ (l : List M.Rec) {s : M.St}, (∀ a ∈ s.done, SmallA a) → (∀ x ∈ l, SmallA x.act) → ∀ a ∈ (M.judS s l).done, SmallA a
  | [], _, h, _ => h
  | r :: l, s, h, hl => by
    refine done_small l (s := M.stepS s r) ?_ fun x hx => hl x (List.mem_cons_of_mem _ hx)
    intro a ha
    by_cases h0 : (M.tryS s r).1 = 0
    · rw [M.step_yes h0] at ha
      have ha : a ∈ s.done ++ [M.hereS s r.act] := ha
      rcases List.mem_append.1 ha with h1 | h1
      · exact h a h1
      · rw [List.mem_singleton.1 h1]
        exact smallA_here s (hl r List.mem_cons_self)
    · rw [M.step_no h0] at ha
      exact h a ha
theorem apps_cons {xs ys : List M.Nd} {a : M.Act} {l : List M.Act} {v : Int} (h : M.appsS xs (a :: l) v = some ys) : (M.applyS xs a v).1 = 0 ∧ M.appsS (M.applyS xs a v).2 l (v + 1) = some ys := by
  rw [M.appsS] at h
  split at h
  · rename_i h0; exact ⟨h0, h⟩
  · cases h
theorem madeN_snoc (l : List M.Act) (a : M.Act) : M.madeN (l ++ [a]) = M.madeN l + if M.makeB a then 1 else 0 := by
  unfold M.madeN
  rw [List.filter_append, List.length_append]
  by_cases h : M.makeB a = true
  · rw [if_pos h, List.filter_cons_of_pos h]; rfl
  · rw [if_neg h, List.filter_cons_of_neg h]; rfl
theorem madeN_le (l : List M.Act) : M.madeN l ≤ l.length := List.length_filter_le _ _
theorem goodN_snoc (l : List (Int × Int)) (v : Int × Int) : M.goodN (l ++ [v]) = M.goodN l + if v.1 = 0 then 1 else 0 := by
  unfold M.goodN
  rw [List.filter_append, List.length_append]
  by_cases h : v.1 = 0
  · rw [if_pos h, List.filter_cons_of_pos (by simp [h])]; rfl
  · rw [if_neg h, List.filter_cons_of_neg (by simp [h])]; rfl
theorem goodN_le (l : List (Int × Int)) : M.goodN l ≤ l.length := List.length_filter_le _ _
theorem vd_box (w : World) (a b : Int) : ∀ W, W = w.alloc (.cells #[.int .i64 a, .int .i64 b] 48) → Below w.heap.size w W := by
  rintro W rfl
  exact (Below.refl _ _).alloc (Nat.le_refl _) _

set_option maxRecDepth 8000 in
set_option maxHeartbeats 8000000 in
theorem done_law_any (A C : Option Addr) (n c p q : Nat) (vs : List NV) (xs : List M.Nd) (next ver : Int) (rvs : List RV) (recs : List M.Rec) (w : World) (ht : Tree w A n vs xs) (hsm : ∀ x ∈ xs, Small x) (hn : (n + 2) * 72 ≤ 140737488355328) (hr : TreeR w C p rvs recs) (hsr : ∀ x ∈ recs, SmallA x.act) (hp : p * 104 ≤ 140737488355328) (hcb : (allF xs).length ≤ 1048576) (hpb : p ≤ 1048576) :
    Calls Try.prog 4 #[.slice A n c, .int .i64 next, .int .i64 ver, .slice C p q] w fun e w' => e = .returned (.bool true) ∧ Below w.heap.size w w' := by
  have HT : Hid (Tree w A n vs xs ∧ (∀ x ∈ xs, Small x) ∧ TreeR w C p rvs recs ∧ (∀ x ∈ recs, SmallA x.act) ∧ (allF xs).length ≤ 1048576) := ⟨ht, hsm, hr, hsr, hcb⟩
  have HLN : Hid (p = recs.length ∧ n = xs.length) := ⟨hr.len, by rw [ht.1.1, ht.2.1]⟩
  clear ht hsm hr hsr hcb
  go_enter Try.func4, Try.ntmps4
  go_wp2_with (fail)
  refine (alive6_any _).mono ?_
  rintro e w1 ⟨rfl, hb1⟩
  have H1 : Hid (Below w.heap.size w w1) := hb1
  clear hb1
  by_cases v0 : ver < 0
  case' pos =>
    have dv0 : decide (ver < 0) = true := decide_eq_true v0
    clear v0
    go_wp2_with (fail)
    go_ret
    exact ⟨rfl, H1.out⟩
  have dv0 : decide (ver < 0) = false := decide_eq_false v0
  by_cases v1 : 1000000 < ver
  case' pos =>
    have dv1 : decide (1000000 < ver) = true := decide_eq_true v1
    clear v1
    go_wp2_with (fail)
    go_ret
    exact ⟨rfl, H1.out⟩
  have dv1 : decide (1000000 < ver) = false := decide_eq_false v1
  by_cases n0 : next < 0
  case' pos =>
    have dn0 : decide (next < 0) = true := decide_eq_true n0
    clear n0
    go_wp2_with (fail)
    go_ret
    exact ⟨rfl, H1.out⟩
  have dn0 : decide (next < 0) = false := decide_eq_false n0
  by_cases n1 : 1000000 < next
  case' pos =>
    have dn1 : decide (1000000 < next) = true := decide_eq_true n1
    clear n1
    go_wp2_with (fail)
    go_ret
    exact ⟨rfl, H1.out⟩
  have dn1 : decide (1000000 < next) = false := decide_eq_false n1
  have HNV : Hid (0 ≤ next ∧ next ≤ 1000000 ∧ 0 ≤ ver ∧ ver ≤ 1000000) := ⟨by omega, by omega, by omega, by omega⟩
  clear v0 v1 n0 n1
  go_wp2_with (fail)
  refine (rises_any A n c vs xs _ (HT.out.1.below (Nat.le_refl _) H1.out) (by omega) HT.out.2.1).mono ?_
  rintro e w2 ⟨rfl, hb2⟩
  have H2 : Hid (Below w.heap.size w w2) := H1.out.trans (hb2.mono H1.out.size)
  clear hb2
  cases hrb : riseB xs
  case' false =>
    clear hrb
    go_wp2_with (fail)
    go_ret
    exact ⟨rfl, H2.out⟩
  have HR : Hid (M.Rise xs ∧ Good xs) := ⟨riseB_iff.1 hrb, riseB_iff.1 hrb, HT.out.2.1, by rw [← HLN.out.2]; exact hn⟩
  clear hrb dv0 dv1 dn0 dn1 H1
  go_wp2_with (fail)
  refine (judge_all A C n c p q vs xs next ver rvs recs _ (HT.out.1.below (Nat.le_refl _) H2.out) HR.out.2 (HT.out.2.2.1.below (Nat.le_refl _) H2.out) HT.out.2.2.2.1 hp HNV.out.1 HNV.out.2.1 HNV.out.2.2.1 HNV.out.2.2.2).mono ?_
  rintro e w3 ⟨V, m, d, D, dp, dq, davs, A', n', c', us', rfl, hv, hd, ht', hb3⟩
  have hm : m = p := by
    have h := own_len vd_len (by decide) hv
    rw [M.ver_len] at h
    rw [h, HLN.out.1]
  subst hm
  have HDN : Hid (M.Done xs next ver (M.judS (M.begS xs next ver) recs) (M.verS (M.begS xs next ver) recs)) := M.done_all xs next ver recs
  have HSD : Hid (∀ a ∈ (M.judS (M.begS xs next ver) recs).done, SmallA a) := done_small recs (by simp [M.begS]) HT.out.2.2.2.1
  have HGT : Hid (Good (M.judS (M.begS xs next ver) recs).tr) := good_jud recs HR.out.2
  have hdl : dp = (M.judS (M.begS xs next ver) recs).done.length := actsLen hd
  have HNR : Hid (Near next ver m (M.judS (M.begS xs next ver) recs)) := by
    have h := near_all xs next ver recs (near_beg xs next ver)
    rw [Nat.zero_add, ← HLN.out.1] at h
    exact h
  generalize M.judS (M.begS xs next ver) recs = S at hd ht' HDN HSD HGT HNR hdl ⊢
  have HVL : Hid (m = (M.verS (M.begS xs next ver) recs).length) := by show _ = _; rw [M.ver_len, HLN.out.1]
  generalize M.verS (M.begS xs next ver) recs = VS at hv HDN HVL ⊢
  have HDL : Hid (dp = S.done.length) := hdl
  have hdm : dp ≤ m := by rw [hdl]; exact HNR.out.len
  have H3 : Hid (Below w.heap.size w w3 ∧ Row 2 vdCells w3 V m VS ∧ TreeA w3 D dp davs S.done ∧ Tree w3 A' n' us' S.tr) := ⟨H2.out.trans (hb3.mono H2.out.size), Row.ofOwn vd_len (by decide) hv, hd.tree, ht'.tree⟩
  clear hv hd ht' hb3 H2 hdl
  go_wp2_with (fail)
  refine (of_any A n c vs xs w3 (HT.out.1.below (Nat.le_refl _) H3.out.1) HR.out.1.1 (by omega)).mono ?_
  rintro e w4 ⟨b0, rfl, ht4, hb4⟩
  have H4 : Hid (Below w.heap.size w w4 ∧ Row 2 vdCells w4 V m VS ∧ TreeA w4 D dp davs S.done ∧ Tree w4 A' n' us' S.tr ∧ TMap w4 b0 xs) := ⟨H3.out.1.trans (hb4.mono H3.out.1.size), H3.out.2.1.below (Nat.le_refl _) hb4, H3.out.2.2.1.below (Nat.le_refl _) hb4, H3.out.2.2.2.below (Nat.le_refl _) hb4, ht4⟩
  clear ht4 hb4 H3
  have hnv := HNV.out
  have hv0 : 0 ≤ ver := hnv.2.2.1
  have hv1 : ver ≤ 1000000 := hnv.2.2.2
  clear hnv
  go_wp2_with (fail)
  go_loopw [13, 14, 57] (fun u mk t wr => ∃ (k : Nat) (bt : Nat) (N : List M.Nd), k ≤ dp ∧ t = .int .i64 k ∧ u = .map (some bt) ∧ mk = .int .i64 ((M.madeN (S.done.take k) : Nat) : Int) ∧ Hid (TMap wr bt N ∧ M.appsS N (S.done.drop k) (ver + (k : Int)) = some S.tr ∧ Fit N (1048576 + k)) ∧ Below w4.heap.size w4 wr) (fun _ _ t _ => dp - (intOf t).toNat)
  case atStart => exact ⟨0, b0, xs, Nat.zero_le _, rfl, rfl, rfl, ⟨H4.out.2.2.2.2, by simpa using HDN.out.run, HR.out.2, HT.out.2.2.2.2⟩, Below.refl _ _⟩
  case round =>
    obtain ⟨k, bt, N, hk, rfl, rfl, rfl, HN, hbo⟩ := hrel
    rename World => wo
    have hzo := hbo.size
    have hmn : M.madeN (S.done.take k) ≤ k := by
      have h1 := madeN_le (S.done.take k)
      rw [List.length_take] at h1
      omega
    by_cases hlt : k < dp
    · have hbw : Below w.heap.size w wo := H4.out.1.trans (hbo.mono H4.out.1.size)
      have hta := H4.out.2.2.1.below (Nat.le_refl _) hbo
      obtain ⟨b, o, av, rfl, hgb, hvk, c0, c1, c2, c3, c4, c5, c6⟩ := Acts.at hta.1 hlt
      obtain ⟨ac, hx, hcx⟩ := hta.2.at hvk
      have hdr : S.done.drop k = ac :: S.done.drop (k + 1) := by
        obtain ⟨h1, h2⟩ := List.getElem?_eq_some_iff.1 hx
        rw [List.drop_eq_getElem_cons h1, h2]
      have hru := HN.out.2.1
      rw [hdr] at hru
      have HC : Hid _ := apps_cons hru
      have HTK : Hid (S.done.take (k + 1) = S.done.take k ++ [ac]) := take_step hx
      have HX : Hid (ContA wo av ac ∧ SmallA ac) := ⟨hcx, HSD.out ac (List.mem_of_getElem? hx)⟩
      have HWA : Hid _ := boxA_start wo av
      have hF := HN.out.2.2.wide (by omega)
      have HF : Hid ((∀ x ∈ N, (x.ents.length + 1) * 24 ≤ 140737488355328) ∧ ((allF N).length + 2) * 8 ≤ 140737488355328) := hF
      clear hta hvk hx hcx hdr hru hF hbw
      go_wp2_with (fail)
      obtain ⟨p1, p2, p3⟩ := HWA.out _ rfl
      refine (refApply_any bt N av ac (ver + (k : Int)) _ (HN.out.1.below (Nat.le_refl _) p1) (HX.out.1.below (Nat.le_refl _) p1) HN.out.2.2.1.1 HN.out.2.2.1.2.1 HF.out.1 HF.out.2 (by rw [HX.out.1.2.2.2.1]; exact HX.out.2.1) (by rw [HX.out.1.2.2.2.2.2.1]; exact HX.out.2.2.1)).mono ?_
      rintro e w10 ⟨hb10, mm, rfl, hsp⟩
      have h310 : Below wo.heap.size wo w10 := p1.trans (hb10.mono p1.size)
      rcases hsp with ⟨h0, bm2, rfl, ht10⟩ | ⟨h0, rfl⟩
      case' inr => exact absurd HC.out.1 h0
      have hrun2 := HC.out.2
      have hvk1 : ver + ((k + 1 : Nat) : Int) = ver + (k : Int) + 1 := by omega
      have H10 : Hid (Below w4.heap.size w4 w10 ∧ TMap w10 bm2 (M.applyS N ac (ver + (k : Int))).2 ∧ M.appsS (M.applyS N ac (ver + (k : Int))).2 (S.done.drop (k + 1)) (ver + ((k + 1 : Nat) : Int)) = some S.tr ∧ BoxA w10 wo.heap.size av) := ⟨hbo.trans (h310.mono hzo), ht10, by rw [hvk1]; exact hrun2, p2.below hb10 (by omega)⟩
      have HK2 : Hid (av.kind = ac.kind) := HX.out.1.1
      rw [h0]
      clear p1 p2 p3 hb10 h310 h0 ht10 hrun2 hvk1 HWA HC HX HF c0 c1 c2 c3 c4 c5 c6
      obtain ⟨a0, a1, a2, a3, a4, a5, a6, af, az⟩ := H10.out.2.2.2.facts
      by_cases k1 : av.kind = 1
      · have d1 : (av.kind == 1) = true := by simp [k1]
        have HM : Hid (M.madeN (S.done.take (k + 1)) = M.madeN (S.done.take k) + 1) := by show _ = _; rw [HTK.out, madeN_snoc, if_pos (by unfold M.makeB; rw [← HK2.out, k1]; rfl)]
        clear k1
        go_wp2_with (fail)
        go_roundw
        case rel => exact ⟨k + 1, bm2, _, by omega, by go_num, rfl, by rw [HM.out]; go_num, ⟨H10.out.2.1, H10.out.2.2.1, HN.out.2.2.next ac _⟩, H10.out.1⟩
        case measure => simp [intOf]; omega
      · have d1 : (av.kind == 1) = false := by simp [k1]
        by_cases k2 : av.kind = 2
        · have d2 : (av.kind == 2) = true := by simp [k2]
          have HM : Hid (M.madeN (S.done.take (k + 1)) = M.madeN (S.done.take k) + 1) := by show _ = _; rw [HTK.out, madeN_snoc, if_pos (by unfold M.makeB; rw [← HK2.out, k2]; rfl)]
          clear k1 k2
          go_wp2_with (fail)
          go_roundw
          case rel => exact ⟨k + 1, bm2, _, by omega, by go_num, rfl, by rw [HM.out]; go_num, ⟨H10.out.2.1, H10.out.2.2.1, HN.out.2.2.next ac _⟩, H10.out.1⟩
          case measure => simp [intOf]; omega
        · have d2 : (av.kind == 2) = false := by simp [k2]
          have HM : Hid (M.madeN (S.done.take (k + 1)) = M.madeN (S.done.take k)) := by show _ = _; rw [HTK.out, madeN_snoc, if_neg (by unfold M.makeB; rw [← HK2.out]; simp [k1, k2])]; rfl
          clear k1 k2
          go_wp2_with (fail)
          go_roundw
          case rel => exact ⟨k + 1, bm2, _, by omega, by go_num, rfl, by rw [HM.out], ⟨H10.out.2.1, H10.out.2.2.1, HN.out.2.2.next ac _⟩, H10.out.1⟩
          case measure => simp [intOf]; omega
    · have HNT : Hid (N = S.tr) := by
        have h := HN.out.2.1
        rw [List.drop_eq_nil_iff.2 (by rw [← HDL.out]; omega)] at h
        exact Option.some.inj h
      have HMD : Hid (M.madeN (S.done.take k) = M.madeN S.done) := by show _ = _; rw [List.take_of_length_le (by rw [← HDL.out]; omega)]
      rw [HMD.out] at hmn ⊢
      generalize hmk : M.madeN S.done = mk at hmn ⊢
      have HMK : Hid (M.madeN S.done = mk) := hmk
      clear hmk HMD
      have H5 : Hid (Below w.heap.size w wo ∧ Row 2 vdCells wo V m VS ∧ Tree wo A' n' us' S.tr ∧ TMap wo bt S.tr) := ⟨H4.out.1.trans (hbo.mono H4.out.1.size), H4.out.2.1.below (Nat.le_refl _) hbo, H4.out.2.2.2.1.below (Nat.le_refl _) hbo, by rw [← HNT.out]; exact HN.out.1⟩
      clear HN H4 hbo hzo
      go_wp2_with (fail)
      go_loopw [19, 87] (fun u t wr => ∃ k : Nat, k ≤ m ∧ t = .int .i64 k ∧ u = .int .i64 ((M.goodN (VS.take k) : Nat) : Int) ∧ Below wo.heap.size wo wr) (fun _ t _ => m - (intOf t).toNat)
      case atStart => exact ⟨0, Nat.zero_le _, rfl, rfl, Below.refl _ _⟩
      case round =>
        obtain ⟨k2, hk2, rfl, rfl, hbq⟩ := hrel
        rename World => wq
        have hzq := hbq.size
        have hgn : M.goodN (VS.take k2) ≤ k2 := by
          have h1 := goodN_le (VS.take k2)
          rw [List.length_take] at h1
          omega
        by_cases hlt2 : k2 < m
        · have hrow := H5.out.2.1.below (Nat.le_refl _) hbq
          obtain ⟨gv, ov, vd, rfl, hgv, hvd, hvc⟩ := Row.at hrow hlt2
          have v0 := hvc 0 _ rfl
          have v1 := hvc 1 _ rfl
          simp only [Nat.add_zero] at v0
          have HTK : Hid (VS.take (k2 + 1) = VS.take k2 ++ [vd]) := take_step hvd
          have HFD : Hid (vd.1 ≠ 0 → vd.2 = 0) := HDN.out.fid vd (List.mem_of_getElem? hvd)
          have HWV : Hid _ := vd_box wq vd.1 vd.2
          obtain ⟨vd1, vd2⟩ := vd
          clear hrow hvd hvc hgv
          by_cases e0 : vd1 = 0
          · have d0 : (vd1 == 0) = true := by simp [e0]
            have HG : Hid (M.goodN (VS.take (k2 + 1)) = M.goodN (VS.take k2) + 1) := by show _ = _; rw [HTK.out, goodN_snoc, if_pos e0]
            clear e0
            go_wp2_with (fail)
            go_roundw
            case rel => exact ⟨k2 + 1, by omega, by go_num, by rw [HG.out]; go_num, hbq.trans ((HWV.out _ rfl).mono hzq)⟩
            case measure => simp [intOf]; omega
          · have d0 : (vd1 == 0) = false := by simp [e0]
            have HG : Hid (M.goodN (VS.take (k2 + 1)) = M.goodN (VS.take k2)) := by show _ = _; rw [HTK.out, goodN_snoc, if_neg e0]; rfl
            have d1 : (vd2 != 0) = false := by have h : vd2 = 0 := HFD.out e0; rw [h]; rfl
            clear e0
            go_wp2_with (fail)
            go_roundw
            case rel => exact ⟨k2 + 1, by omega, by go_num, by rw [HG.out], hbq.trans ((HWV.out _ rfl).mono hzq)⟩
            case measure => simp [intOf]; omega
        · have HGD : Hid (M.goodN (VS.take k2) = dp) := by show _ = _; rw [List.take_of_length_le (by rw [← HVL.out]; omega), HDN.out.good, HDL.out]
          rw [HGD.out]
          have H6 : Hid (Below w.heap.size w wq ∧ Tree wq A' n' us' S.tr ∧ TMap wq bt S.tr) := ⟨H5.out.1.trans (hbq.mono H5.out.1.size), H5.out.2.2.1.below (Nat.le_refl _) hbq, H5.out.2.2.2.below (Nat.le_refl _) hbq⟩
          have hnx : S.next = next + (mk : Int) := by rw [HDN.out.next, HMK.out]
          have hn0 : 0 ≤ next := HNV.out.1
          have hn1 : next ≤ 1000000 := HNV.out.2.1
          obtain ⟨nx, hnx2⟩ : ∃ nx, S.next = nx := ⟨_, rfl⟩
          rw [hnx2] at hnx ⊢
          have HNX : Hid (nx = next + (mk : Int)) := hnx
          have g1 : decide (next ≤ nx) = true := decide_eq_true (by omega)
          have g2 : ((nx - next : Int) == ((mk : Nat) : Int)) = true := by rw [beq_iff_eq]; omega
          have g3 : nx ≤ 3000000 := by omega
          have g4 : 0 ≤ nx := by omega
          clear hnx hnx2 hbq hzq hgn H5 HGD
          go_wp2_with (fail)
          refine (list_any bt S.tr wq H6.out.2.2 HGT.out.1.1 (by have := HGT.out.2.2; omega)).mono ?_
          rintro e w11 ⟨A1, m1, c1, us1, rfl, ht1, hb11⟩
          have H7 : Hid (Below w.heap.size w w11 ∧ Tree w11 A' n' us' S.tr ∧ Tree w11 A1 m1 us1 S.tr) := ⟨H6.out.1.trans (hb11.mono H6.out.1.size), H6.out.2.1.below (Nat.le_refl _) hb11, ht1⟩
          have hm1 : m1 * 72 ≤ 140737488355328 := by have h1 := ht1.1.1; have h2 := ht1.2.1; have h3 := HGT.out.2.2; omega
          have hm2 : n' * 72 ≤ 140737488355328 := by have h1 := H6.out.2.1.1.1; have h2 := H6.out.2.1.2.1; have h3 := HGT.out.2.2; omega
          clear ht1 hb11 H6
          go_wp2_with (fail)
          refine (refSame_any A' A1 n' m1 c' c1 us' us1 S.tr S.tr true w11 H7.out.2.1 H7.out.2.2 hm2 hm1 HGT.out.2.1 HGT.out.2.1).mono ?_
          rintro e w12 ⟨rfl, hb12⟩
          rw [allB_same6]
          have H8 : Hid (Below w.heap.size w w12) := H7.out.1.trans (hb12.mono H7.out.1.size)
          clear hb12 H7
          go_wp2_with (fail)
          go_ret
          exact ⟨rfl, H8.out⟩
end Go.Proofs.Ytkhifljgocopoac
