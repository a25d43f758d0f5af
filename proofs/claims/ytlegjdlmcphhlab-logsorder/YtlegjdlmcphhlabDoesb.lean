/-
  WHAT SINGLE OPERATIONS DO, further: fields of an act.
-/
import Derived.Test.YtlegjdlmcphhlabDoes
import Derived.Test.YtlegjdlmcphhlabActb
namespace Go.Proofs.Ytlegjdlmcphhlab
open Go.RowKit

section
variable {a : Act} {w : World} {R : Value → World → Prop} {d : Option Tmp} {ty : TypeId} {pos : String} {af : Array Edge} {g : Option (Nat × Bool)}
theorem run_neqE {ρ : Operand → Value} {x y : Operand} {b c : Int} (hx : ρ x = .int .i64 b) (hy : ρ y = .int .i64 c) : (execOp ρ ⟨d, .binOp .neq 27 x y 27, ty, pos, af, g⟩).run Try.prog w = .ok (.value (.bool (b != c))) w := by
  simp [execOp, hx, hy, go_sem, bne]
theorem run_eqE {ρ : Operand → Value} {x y : Operand} {b c : Int} (hx : ρ x = .int .i64 b) (hy : ρ y = .int .i64 c) : (execOp ρ ⟨d, .binOp .eql 27 x y 27, ty, pos, af, g⟩).run Try.prog w = .ok (.value (.bool (b == c))) w := by
  simp [execOp, hx, hy, go_sem]
theorem run_fieldA {ρ : Operand → Value} {x : Operand} {s k : Nat} (hx : ρ x = .pointer (some ⟨s, 0, none⟩)) (hk : k < 7) : (execOp ρ ⟨d, .fieldAddr 26 x k, ty, pos, af, g⟩).run Try.prog w = .ok (.value (.pointer (some ⟨s, k, none⟩))) w := by
  match k, hk with
  | 0, _ => simp [execOp, hx, go_sem]
  | 1, _ => simp [execOp, hx, go_sem]
  | 2, _ => simp [execOp, hx, go_sem]
  | 3, _ => simp [execOp, hx, go_sem]
  | 4, _ => simp [execOp, hx, go_sem]
  | 5, _ => simp [execOp, hx, go_sem]
  | 6, _ => simp [execOp, hx, go_sem]
theorem run_load3 {ρ : Operand → Value} {x : Operand} {p : Addr} {i : Int} (hx : ρ x = .pointer (some p)) (hc : w.cell? p = some (.int .i64 i)) : (execOp ρ ⟨d, .load 3 x, ty, pos, af, g⟩).run Try.prog w = .ok (.value (.int .i64 i)) w := by
  simp [execOp, hx, go_sem, hc]
theorem run_load9 {ρ : Operand → Value} {x : Operand} {p : Addr} {s : ByteArray} (hx : ρ x = .pointer (some p)) (hc : w.cell? p = some (.string s)) : (execOp ρ ⟨d, .load 9 x, ty, pos, af, g⟩).run Try.prog w = .ok (.value (.string s)) w := by
  simp [execOp, hx, go_sem, hc]
theorem does_neqE {x y : Operand} {b c : Int} (hx : a.eval x = .int .i64 b) (hy : a.eval y = .int .i64 c) (h : R (.bool (b != c)) w) : Does Try.prog ⟨d, .binOp .neq 27 x y 27, ty, pos, af, g⟩ a w R := .inl ⟨_, _, run_neqE hx hy, h⟩
theorem does_fieldA {x : Operand} {s k : Nat} (hx : a.eval x = .pointer (some ⟨s, 0, none⟩)) (hk : k < 7) (h : R (.pointer (some ⟨s, k, none⟩)) w) : Does Try.prog ⟨d, .fieldAddr 26 x k, ty, pos, af, g⟩ a w R := .inl ⟨_, _, run_fieldA hx hk, h⟩
theorem does_load3 {x : Operand} {p : Addr} {i : Int} (hx : a.eval x = .pointer (some p)) (hc : w.cell? p = some (.int .i64 i)) (h : R (.int .i64 i) w) : Does Try.prog ⟨d, .load 3 x, ty, pos, af, g⟩ a w R := .inl ⟨_, _, run_load3 hx hc, h⟩
theorem does_load9 {x : Operand} {p : Addr} {s : ByteArray} (hx : a.eval x = .pointer (some p)) (hc : w.cell? p = some (.string s)) (h : R (.string s) w) : Does Try.prog ⟨d, .load 9 x, ty, pos, af, g⟩ a w R := .inl ⟨_, _, run_load9 hx hc, h⟩
end
end Go.Proofs.Ytlegjdlmcphhlab
