/-
  FOR THE REFERENCE's List: operations on rows of nodes in a region that draws; the frame behind a region, written out; rising lists.
-/
import Derived.Test.YtkdpdgbacladhaaSoft
import Derived.Test.YtkdpdgbacladhaaFrame
namespace Go.Proofs.Ytkdpdgbacladhaa
open Go.RowKit

section
variable {ρ : Operand → Value} {w : World} {d : Option Tmp} {ty : TypeId} {pos : String} {af : Array Edge} {g : Option (Nat × Bool)}
theorem run_build0 : (execOp ρ ⟨d, .buildSlice 22 0 #[], ty, pos, af, g⟩).run Try.prog w = .ok (.value (.slice (some ⟨w.heap.size, 0, none⟩) 0 0)) (w.alloc (.cells #[] 26)) := by
  simp [execOp, go_sem]
theorem run_build1 {x : Operand} {v : NV} (hx : ρ x = v.val) : (execOp ρ ⟨d, .buildSlice 22 1 #[(0, x)], ty, pos, af, g⟩).run Try.prog w = .ok (.value (.slice (some ⟨w.heap.size, 0, none⟩) 1 1)) (w.alloc (.cells #[.int .i64 v.fid, .bool v.dir, .slice v.dA v.dn v.dc, .slice v.eA v.en v.ec, .int .i64 v.ver] 26)) := by
  simp [execOp, go_sem, hx]
theorem run_front {x y : Operand} {a : Addr} {m c k : Nat} (hx : ρ x = .slice (some a) m c) (hy : ρ y = .int .i64 (k : Int)) (hk : k ≤ c) : (execOp ρ ⟨d, .slice 22 x none (some y) none, ty, pos, af, g⟩).run Try.prog w = .ok (.value (.slice (some a) k c)) w := by
  simp [execOp, go_sem, hx, hy, hk]
theorem run_front_nil {x y : Operand} (hx : ρ x = .slice none 0 0) (hy : ρ y = .int .i64 ((0 : Nat) : Int)) : (execOp ρ ⟨d, .slice 22 x none (some y) none, ty, pos, af, g⟩).run Try.prog w = .ok (.value (.slice none 0 0)) w := by
  simp [execOp, go_sem, hx, hy]
theorem run_back {x y : Operand} {a : Addr} {m c k : Nat} (hx : ρ x = .slice (some a) m c) (hy : ρ y = .int .i64 (k : Int)) (hk : k ≤ m) : (execOp ρ ⟨d, .slice 22 x (some y) none none, ty, pos, af, g⟩).run Try.prog w = .ok (.value (.slice (some (if c = k then a else a.add (k * 5))) (m - k) (c - k))) w := by
  simp [execOp, go_sem, hx, hy, hk]
  split <;> rfl
theorem run_back_nil {x y : Operand} (hx : ρ x = .slice none 0 0) (hy : ρ y = .int .i64 ((0 : Nat) : Int)) : (execOp ρ ⟨d, .slice 22 x (some y) none none, ty, pos, af, g⟩).run Try.prog w = .ok (.value (.slice none 0 0)) w := by
  simp [execOp, go_sem, hx, hy]
theorem run_append26 {B : Nat} {x y : Operand} {v : Value} {n : Nat} {us : List NV} (hx : ρ x = v) (hown : w.ownsRow B 26 5 v n (us.flatMap NV.cells)) {A : Option Addr} {m c : Nat} {vs : List NV} (hy : ρ y = .slice A m c) (hrow : Nodes w A m vs)
    (hnm : (n + m) * 72 ≤ 140737488355328) (hB : B ≤ w.heap.size) :
    ∃ v' w', (execOp ρ ⟨d, .call { callee := .builtin .append, args := #[x, y], argTypes := #[22, 22] }, ty, pos, af, g⟩).run Try.prog w = .ok (.value v') w' ∧ w'.ownsRow B 26 5 v' (n + m) ((us ++ vs).flatMap NV.cells) ∧ w.grownBy w' v.ownBlock := by
  obtain ⟨i26, hi26, hz26, hs26, hb26⟩ := info_parts info26
  obtain ⟨v', w', hr, h2, h3⟩ := run_append_row (P := Try.prog) w B 22 ty 26 i26 _ 72 Try.underlying22 hi26 hz26 hs26 hb26 rfl (by decide) v n _ hown A m c vs hrow nod_len nod_one (by unfold maxLen; omega) hnm hB
  refine ⟨v', w', ?_, by rw [List.flatMap_append]; exact h2, h3⟩
  simp only [execOp, resolve, invoke, builtin, Sem.run_bind, Sem.run_pure, Result.andThen_ok, List.map_toArray, List.map_cons, List.map_nil, hx, hy, hr]
end

theorem row_take {w : World} {A : Option Addr} {n : Nat} {vs : List NV} (h : Nodes w A n vs) (k : Nat) (hk : k ≤ n) : Nodes w A k (vs.take k) := by
  obtain ⟨hn, h⟩ := h
  refine ⟨by rw [List.length_take]; omega, ?_⟩
  rcases h with h | ⟨b, o, e, hlt, hc⟩
  · left; rw [h]; simp
  · refine .inr ⟨b, o, e, hlt, fun j v hv => hc j v ?_⟩
    rw [List.getElem?_take] at hv
    split at hv
    · exact hv
    · cases hv

end Go.Proofs.Ytkdpdgbacladhaa
