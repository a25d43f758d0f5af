/-
  WHAT SINGLE OPERATIONS DO, further: parts of a log, a log of one record.
-/
import Derived.Test.YtlegjdlmcphhlabDoesc
namespace Go.Proofs.Ytlegjdlmcphhlab
open Go.RowKit
section
variable {w : World} {d : Option Tmp} {ty : TypeId} {pos : String} {af : Array Edge} {g : Option (Nat × Bool)} {x y z : Operand}
theorem run_sliceLoR {ρ : Operand → Value} {b o n c lo : Nat} (hx : ρ x = .slice (some ⟨b, o, none⟩) n c) (hy : ρ y = .int .i64 (lo : Int)) (h1 : lo < n) (h2 : n ≤ c) : (execOp ρ ⟨d, .slice 46 x (some y) none none, ty, pos, af, g⟩).run Try.prog w = .ok (.value (.slice (some ⟨b, o + lo * 9, none⟩) (n - lo) (c - lo))) w := by
  have k1 : (lo : Int) ≤ (n : Int) := by omega
  have k2 : (n : Int) ≤ (c : Int) := by omega
  have k3 : ¬ c = lo := by omega
  simp [execOp, hx, hy, go_sem, k1, k3]
theorem run_sliceLoHiR {ρ : Operand → Value} {b o n c lo hi : Nat} (hx : ρ x = .slice (some ⟨b, o, none⟩) n c) (hy : ρ y = .int .i64 (lo : Int)) (hz : ρ z = .int .i64 (hi : Int)) (h1 : lo < hi) (h4 : hi ≤ n) (h2 : n ≤ c) : (execOp ρ ⟨d, .slice 46 x (some y) (some z) none, ty, pos, af, g⟩).run Try.prog w = .ok (.value (.slice (some ⟨b, o + lo * 9, none⟩) (hi - lo) (c - lo))) w := by
  have k1 : (lo : Int) ≤ (hi : Int) := by omega
  have k2 : (hi : Int) ≤ (c : Int) := by omega
  have k3 : ¬ c = lo := by omega
  simp [execOp, hx, hy, hz, go_sem, k1, k2, k3]
end
/-- a log of these records -/
def IsR (ys : List M.Rec) : Value → World → Prop := fun v W => ∃ (B : Option Addr) (m d : Nat) (us : List RV), v = .slice B m d ∧ TreeR W B m us ys
theorem isR_below {ys : List M.Rec} {v : Value} {W W' : World} (hb : Below W.heap.size W W') (h : IsR ys v W) : IsR ys v W' := by
  obtain ⟨B, m, d, us, e, ht⟩ := h
  exact ⟨B, m, d, us, e, ht.below (Nat.le_refl _) hb⟩
/-- a log of one record, new -/
theorem does_buildR {a : Act} {w : World} {d : Option Tmp} {ty : TypeId} {pos : String} {af : Array Edge} {g : Option (Nat × Bool)} {x : Operand} {r : RV} {y : M.Rec} (hx : a.eval x = r.val) (hr : ContR w r y) :
    Does Try.prog ⟨d, .buildSlice 46 1 #[(0, x)], ty, pos, af, g⟩ a w (fun v w' => Below w.heap.size w w' ∧ IsR [y] v w') := by
  have hb : Below w.heap.size w (w.alloc r.obj) := (Below.refl _ _).alloc (Nat.le_refl _) _
  exact does_run (run_buildR hx) ⟨hb, some ⟨w.heap.size, 0, none⟩, 1, 1, [r], rfl, rowR_box (BoxR.new w r), All2.one (hr.below (Nat.le_refl _) hb)⟩
theorem recs_one {w : World} {b o n : Nat} {vs : List RV} (h : Recs w (some ⟨b, o, none⟩) n vs) {j : Nat} {v : RV} (hv : vs[j]? = some v) : Recs w (some ⟨b, o + j * 9, none⟩) 1 [v] := by
  have hj : j < n := by rw [h.1]; exact (List.getElem?_eq_some_iff.1 hv).1
  obtain ⟨b', o', v', e, hlt, _⟩ := h.at hj
  cases e
  refine ⟨rfl, .inr ⟨b, o + j * 9, rfl, hlt, fun i u hu q c hc => ?_⟩⟩
  cases i with
  | succ i => cases hu
  | zero =>
    cases hu
    have := (Recs.recAt h hv) q c hc
    simpa using this
theorem treeR_one {w : World} {b o n : Nat} {vs : List RV} {xs : List M.Rec} (h : TreeR w (some ⟨b, o, none⟩) n vs xs) {j : Nat} {v : RV} {x : M.Rec} (hv : vs[j]? = some v) (hx : xs[j]? = some x) : TreeR w (some ⟨b, o + j * 9, none⟩) 1 [v] [x] :=
  ⟨recs_one h.1 hv, All2.one (h.2.2 j v x hv hx)⟩
end Go.Proofs.Ytlegjdlmcphhlab
