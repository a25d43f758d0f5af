/-
  THE LAST REGION OF THE REFERENCE's List: a node is put into its place by three appends, in whatever order the region goes.
-/
import Derived.Test.YtkdpdgbacladhaaRlist
namespace Go.Proofs.Ytkdpdgbacladhaa
open Go.RowKit

def ops8 : Array Oper := #[
  ⟨some 29, .buildSlice 22 0 #[], 22, "ref.go:87", #[], none⟩,
  ⟨some 30, .move (.tmp 3), 22, "ref.go:87", #[], none⟩,
  ⟨some 31, .move (.tmp 6), 3, "ref.go:87", #[], none⟩,
  ⟨some 32, .slice 22 (.tmp 30) none (some (.tmp 31)) none, 22, "ref.go:87", #[⟨1, .data⟩, ⟨2, .data⟩], none⟩,
  ⟨some 33, .call { callee := .builtin .append, args := #[.tmp 29, .tmp 32], argTypes := #[22, 22] }, 22, "ref.go:87", #[⟨0, .data⟩, ⟨3, .data⟩], none⟩,
  ⟨some 34, .load 26 (.tmp 5), 26, "ref.go:87", #[], none⟩,
  ⟨some 35, .buildSlice 22 1 #[(0, .tmp 34)], 22, "ref.go:87", #[⟨5, .data⟩], none⟩,
  ⟨some 36, .call { callee := .builtin .append, args := #[.tmp 33, .tmp 35], argTypes := #[22, 22] }, 22, "ref.go:87", #[⟨4, .data⟩, ⟨6, .data⟩, ⟨4, .chain⟩], none⟩,
  ⟨some 37, .move (.tmp 3), 22, "ref.go:87", #[], none⟩,
  ⟨some 38, .move (.tmp 6), 3, "ref.go:87", #[], none⟩,
  ⟨some 39, .slice 22 (.tmp 37) (some (.tmp 38)) none none, 22, "ref.go:87", #[⟨8, .data⟩, ⟨9, .data⟩], none⟩,
  ⟨some 40, .call { callee := .builtin .append, args := #[.tmp 36, .tmp 39], argTypes := #[22, 22] }, 22, "ref.go:87", #[⟨7, .data⟩, ⟨10, .data⟩, ⟨7, .chain⟩], none⟩,
  ⟨some 3, .assign (.tmp 40), 22, "ref.go:87", #[⟨11, .data⟩, ⟨11, .chain⟩, ⟨0, .phase⟩, ⟨1, .phase⟩, ⟨2, .phase⟩, ⟨3, .phase⟩, ⟨4, .phase⟩, ⟨5, .phase⟩, ⟨6, .phase⟩, ⟨7, .phase⟩, ⟨8, .phase⟩, ⟨9, .phase⟩, ⟨10, .phase⟩, ⟨11, .phase⟩], none⟩]

/-- what a value is -/
def IsV (c : Value) : Value → World → Prop := fun v _ => v = c
def OldRow (w0 : World) (L : List NV) : Value → World → Prop := fun v w => ∃ A n c, v = .slice A n c ∧ Nodes w0 A n L ∧ Below w0.heap.size w0 w
def NoRoom (w0 : World) : Value → World → Prop := fun v w => ∃ s, v = .slice (some ⟨s, 0, none⟩) 0 0 ∧ w.heap[s]? = some (.cells #[] 26 (0, 0)) ∧ w0.heap.size ≤ s
def OneRow (ve : NV) : Value → World → Prop := fun v w => ∃ s, v = .slice (some ⟨s, 0, none⟩) 1 1 ∧ Box w s ve
def OwnRow (w0 : World) (L : List NV) : Value → World → Prop := fun v w => w.ownsRow w0.heap.size 26 5 v L.length (L.flatMap NV.cells)
def V8 (w0 : World) (A : Option Addr) (m c j : Nat) (us : List NV) (ve : NV) : Nat → Value → World → Prop
  | 0 => NoRoom w0
  | 1 => IsV (.slice A m c)
  | 2 => IsV (.int .i64 (j : Int))
  | 3 => OldRow w0 (us.take j)
  | 4 => OwnRow w0 (us.take j)
  | 5 => IsV ve.val
  | 6 => OneRow ve
  | 7 => OwnRow w0 (us.take j ++ [ve])
  | 8 => IsV (.slice A m c)
  | 9 => IsV (.int .i64 (j : Int))
  | 10 => OldRow w0 (us.drop j)
  | 11 => OwnRow w0 (us.take j ++ [ve] ++ us.drop j)
  | 12 => OwnRow w0 (us.take j ++ [ve] ++ us.drop j)
  | _ => fun _ _ => True

theorem tidy8 : tidy ops8 42 = true := by kernel_rfl
theorem v8_stays (w0 : World) (A : Option Addr) (m c j : Nat) (us : List NV) (ve : NV) : ∀ i v w w', Below w.heap.size w w' → V8 w0 A m c j us ve i v w → V8 w0 A m c j us ve i v w' := by
  have ho : ∀ L v w w', Below w.heap.size w w' → OwnRow w0 L v w → OwnRow w0 L v w' := fun L v w w' hb h => own_below h hb (Nat.le_refl _)
  have hd : ∀ L v w w', Below w.heap.size w w' → OldRow w0 L v w → OldRow w0 L v w' := fun L v w w' hb ⟨A, n, c, h1, h2, h3⟩ => ⟨A, n, c, h1, h2, h3.trans (hb.mono h3.size)⟩
  intro i v w w' hb h
  match i with
  | 0 => obtain ⟨s, h1, h2, h3⟩ := h; exact ⟨s, h1, by rw [hb.block s (lt_of_block h2)]; exact h2, h3⟩
  | 1 | 2 | 5 | 8 | 9 => exact h
  | 3 | 10 => exact hd _ _ _ _ hb h
  | 4 | 7 | 11 | 12 => exact ho _ _ _ _ hb h
  | 6 => obtain ⟨s, h1, h2⟩ := h; exact ⟨s, h1, h2.below hb (lt_of_block h2)⟩
  | _ + 13 => exact h
end Go.Proofs.Ytkdpdgbacladhaa
