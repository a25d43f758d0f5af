/-
  WHAT SINGLE OPERATIONS DO, further: records, acts, indices, numbers (for regions that draw their order).
-/
import Derived.Test.YtlegjdlmcphhlabDoesb
import Derived.Test.YtlegjdlmcphhlabFrame
import Derived.Test.YtlegjdlmcphhlabLoge
namespace Go.Proofs.Ytlegjdlmcphhlab
open Go.RowKit

theorem does_run {a : Act} {w w' : World} {R : Value → World → Prop} {o : Oper} {v : Value} (h : (execOp a.eval o).run Try.prog w = .ok (.value v) w') (hR : R v w') : Does Try.prog o a w R := .inl ⟨v, w', h, hR⟩
/-- the value is this -/
def IsW (c : Value) : Value → World → Prop := fun v _ => v = c
/-- cells of a record that begins here -/
def RecAt (w : World) (b o : Nat) (r : RV) : Prop := ∀ i c, r.cells[i]? = some c → w.cell? ⟨b, o + i, none⟩ = some c
def ActAt (w : World) (b o : Nat) (r : AV) : Prop := ∀ i c, r.cells[i]? = some c → w.cell? ⟨b, o + i, none⟩ = some c
theorem RecAt.act {w : World} {b o : Nat} {r : RV} (h : RecAt w b o r) : ActAt w b o r.a := fun i c hc => h i c (by
  match i, hc with
  | 0, hc => exact hc
  | 1, hc => exact hc
  | 2, hc => exact hc
  | 3, hc => exact hc
  | 4, hc => exact hc
  | 5, hc => exact hc
  | 6, hc => exact hc
  | i + 7, hc => cases hc)
theorem RecAt.below {w w' : World} {b o B : Nat} {r : RV} (h : RecAt w b o r) (hb : Below B w w') (hs : b < B) : RecAt w' b o r := fun i c hc => by
  rw [hb.cell (p := ⟨b, o + i, none⟩) hs]; exact h i c hc
theorem ActAt.below {w w' : World} {b o B : Nat} {r : AV} (h : ActAt w b o r) (hb : Below B w w') (hs : b < B) : ActAt w' b o r := fun i c hc => by
  rw [hb.cell (p := ⟨b, o + i, none⟩) hs]; exact h i c hc
theorem BoxR.at_ {w : World} {s : Nat} {r : RV} (h : BoxR w s r) : RecAt w s 0 r := fun i c hc => by
  obtain ⟨b0, b1, b2, b3, b4, b5, b6, b7, b8, bf, bz⟩ := h.facts
  rw [Nat.zero_add]
  match i, hc with
  | 0, hc => cases hc; exact b0
  | 1, hc => cases hc; exact b1
  | 2, hc => cases hc; exact b2
  | 3, hc => cases hc; exact b3
  | 4, hc => cases hc; exact b4
  | 5, hc => cases hc; exact b5
  | 6, hc => cases hc; exact b6
  | 7, hc => cases hc; exact b7
  | 8, hc => cases hc; exact b8
  | i + 9, hc => cases hc
theorem BoxA.at_ {w : World} {s : Nat} {r : AV} (h : BoxA w s r) : ActAt w s 0 r := fun i c hc => by
  obtain ⟨b0, b1, b2, b3, b4, b5, b6, bf, bz⟩ := h.facts
  rw [Nat.zero_add]
  match i, hc with
  | 0, hc => cases hc; exact b0
  | 1, hc => cases hc; exact b1
  | 2, hc => cases hc; exact b2
  | 3, hc => cases hc; exact b3
  | 4, hc => cases hc; exact b4
  | 5, hc => cases hc; exact b5
  | 6, hc => cases hc; exact b6
  | i + 7, hc => cases hc
theorem Recs.recAt {w : World} {b o n : Nat} {vs : List RV} (h : Recs w (some ⟨b, o, none⟩) n vs) {j : Nat} {v : RV} (hv : vs[j]? = some v) : RecAt w b (o + j * 9) v := by
  have hj : j < n := by rw [h.1]; exact (List.getElem?_eq_some_iff.1 hv).1
  obtain ⟨b', o', v', e, _, hv', c0, c1, c2, c3, c4, c5, c6, c7, c8⟩ := h.at hj
  cases e
  rw [hv] at hv'
  cases hv'
  intro i c hc
  match i, hc with
  | 0, hc => cases hc; exact c0
  | 1, hc => cases hc; exact c1
  | 2, hc => cases hc; exact c2
  | 3, hc => cases hc; exact c3
  | 4, hc => cases hc; exact c4
  | 5, hc => cases hc; exact c5
  | 6, hc => cases hc; exact c6
  | 7, hc => cases hc; exact c7
  | 8, hc => cases hc; exact c8
  | i + 9, hc => cases hc

theorem want_undef {ops : Array Oper} {a : Act} {d : Option Tmp} {ty : TypeId} {pos : String} {af : Array Edge} {op : Op} {k t : Nat} {want : Bool} (hk : (ops[k]?).bind (·.dst) = some t) (h : a.eval (.tmp t) = undef) : Region.wanted ⟨d, op, ty, pos, af, some (k, want)⟩ (yielded ops a.tmps) = false := by
  have ht : a.tmps[t]? = some undef ∨ a.tmps[t]? = none := by
    have h : a.tmps.getD t undef = undef := h
    rw [Array.getD_eq_getD_getElem?] at h
    cases hx : a.tmps[t]? with
    | none => exact .inr rfl
    | some v => rw [hx] at h; exact .inl (congrArg some h)
  unfold Region.wanted yielded
  simp only [hk, Option.bind_some]
  rcases ht with ht | ht
  · rw [ht]; rfl
  · rw [ht]; rfl

section
variable {w : World} {R : Value → World → Prop} {d : Option Tmp} {ty : TypeId} {pos : String} {af : Array Edge} {g : Option (Nat × Bool)} {x y : Operand}
theorem run_loadR {ρ : Operand → Value} {b o : Nat} {v : RV} (hx : ρ x = .pointer (some ⟨b, o, none⟩)) (h : RecAt w b o v) : (execOp ρ ⟨d, .load 48 x, ty, pos, af, g⟩).run Try.prog w = .ok (.value v.val) w := by
  have c0 := h 0 _ rfl
  have c1 := h 1 _ rfl
  have c2 := h 2 _ rfl
  have c3 := h 3 _ rfl
  have c4 := h 4 _ rfl
  have c5 := h 5 _ rfl
  have c6 := h 6 _ rfl
  have c7 := h 7 _ rfl
  have c8 := h 8 _ rfl
  simp only [Nat.add_zero] at c0
  simp [execOp, hx, go_sem, c0, c1, c2, c3, c4, c5, c6, c7, c8]
theorem run_loadA {ρ : Operand → Value} {b o : Nat} {v : AV} (hx : ρ x = .pointer (some ⟨b, o, none⟩)) (h : ActAt w b o v) : (execOp ρ ⟨d, .load 26 x, ty, pos, af, g⟩).run Try.prog w = .ok (.value v.val) w := by
  have c0 := h 0 _ rfl
  have c1 := h 1 _ rfl
  have c2 := h 2 _ rfl
  have c3 := h 3 _ rfl
  have c4 := h 4 _ rfl
  have c5 := h 5 _ rfl
  have c6 := h 6 _ rfl
  simp only [Nat.add_zero] at c0
  simp [execOp, hx, go_sem, c0, c1, c2, c3, c4, c5, c6]
theorem run_indexR {ρ : Operand → Value} {b o n c k : Nat} (hx : ρ x = .slice (some ⟨b, o, none⟩) n c) (hy : ρ y = .int .i64 (k : Int)) (hk : k < n) : (execOp ρ ⟨d, .indexAddr 46 x y, ty, pos, af, g⟩).run Try.prog w = .ok (.value (.pointer (some ⟨b, o + k * 9, none⟩))) w := by
  have h1 : (k : Int) < (n : Int) := by omega
  have h0 : (0 : Int) ≤ (k : Int) := by omega
  simp [execOp, hx, hy, go_sem, h1]
theorem run_indexA {ρ : Operand → Value} {b o n c k : Nat} (hx : ρ x = .slice (some ⟨b, o, none⟩) n c) (hy : ρ y = .int .i64 (k : Int)) (hk : k < n) : (execOp ρ ⟨d, .indexAddr 53 x y, ty, pos, af, g⟩).run Try.prog w = .ok (.value (.pointer (some ⟨b, o + k * 7, none⟩))) w := by
  have h1 : (k : Int) < (n : Int) := by omega
  have h0 : (0 : Int) ≤ (k : Int) := by omega
  simp [execOp, hx, hy, go_sem, h1]
theorem run_fieldR0 {ρ : Operand → Value} {b o : Nat} (hx : ρ x = .pointer (some ⟨b, o, none⟩)) : (execOp ρ ⟨d, .fieldAddr 48 x 0, ty, pos, af, g⟩).run Try.prog w = .ok (.value (.pointer (some ⟨b, o, none⟩))) w := by
  simp [execOp, hx, go_sem]
theorem run_fieldR1 {ρ : Operand → Value} {b o : Nat} (hx : ρ x = .pointer (some ⟨b, o, none⟩)) : (execOp ρ ⟨d, .fieldAddr 48 x 1, ty, pos, af, g⟩).run Try.prog w = .ok (.value (.pointer (some ⟨b, o + 7, none⟩))) w := by
  simp [execOp, hx, go_sem]
theorem run_fieldR2 {ρ : Operand → Value} {b o : Nat} (hx : ρ x = .pointer (some ⟨b, o, none⟩)) : (execOp ρ ⟨d, .fieldAddr 48 x 2, ty, pos, af, g⟩).run Try.prog w = .ok (.value (.pointer (some ⟨b, o + 8, none⟩))) w := by
  simp [execOp, hx, go_sem]
theorem run_fieldAo {ρ : Operand → Value} {s o k : Nat} (hx : ρ x = .pointer (some ⟨s, o, none⟩)) (hk : k < 7) : (execOp ρ ⟨d, .fieldAddr 26 x k, ty, pos, af, g⟩).run Try.prog w = .ok (.value (.pointer (some ⟨s, o + k, none⟩))) w := by
  match k, hk with
  | 0, _ => simp [execOp, hx, go_sem]
  | 1, _ => simp [execOp, hx, go_sem]
  | 2, _ => simp [execOp, hx, go_sem]
  | 3, _ => simp [execOp, hx, go_sem]
  | 4, _ => simp [execOp, hx, go_sem]
  | 5, _ => simp [execOp, hx, go_sem]
  | 6, _ => simp [execOp, hx, go_sem]
theorem run_eqI {ρ : Operand → Value} {b c : Int} (hx : ρ x = .int .i64 b) (hy : ρ y = .int .i64 c) : (execOp ρ ⟨d, .binOp .eql 3 x y 3, ty, pos, af, g⟩).run Try.prog w = .ok (.value (.bool (b == c))) w := by
  simp [execOp, hx, hy, go_sem]
theorem run_lssI {ρ : Operand → Value} {b c : Int} (hx : ρ x = .int .i64 b) (hy : ρ y = .int .i64 c) : (execOp ρ ⟨d, .binOp .lss 3 x y 3, ty, pos, af, g⟩).run Try.prog w = .ok (.value (.bool (decide (b < c)))) w := by
  simp [execOp, hx, hy, go_sem]
theorem run_gtrI {ρ : Operand → Value} {b c : Int} (hx : ρ x = .int .i64 b) (hy : ρ y = .int .i64 c) : (execOp ρ ⟨d, .binOp .gtr 3 x y 3, ty, pos, af, g⟩).run Try.prog w = .ok (.value (.bool (decide (c < b)))) w := by
  simp [execOp, hx, hy, go_sem]
theorem run_addN {ρ : Operand → Value} {m k : Nat} (hx : ρ x = .int .i64 (m : Int)) (hy : ρ y = .int .i64 (k : Int)) (h : m + k ≤ 9223372036854775807) : (execOp ρ ⟨d, .binOp .add 3 x y 3, ty, pos, af, g⟩).run Try.prog w = .ok (.value (.int .i64 ((m + k : Nat) : Int))) w := by
  have h1 : (m : Int) + (k : Int) ≤ 9223372036854775807 := by omega
  have h2 : (-9223372036854775808 : Int) ≤ (m : Int) + (k : Int) := by omega
  simp [execOp, hx, hy, go_sem, IntWalk.i64_in _ ⟨h2, h1⟩]
theorem run_subN {ρ : Operand → Value} {m k : Nat} (hx : ρ x = .int .i64 (m : Int)) (hy : ρ y = .int .i64 (k : Int)) (h : k ≤ m) (hm : m ≤ 9223372036854775807) : (execOp ρ ⟨d, .binOp .sub 3 x y 3, ty, pos, af, g⟩).run Try.prog w = .ok (.value (.int .i64 ((m - k : Nat) : Int))) w := by
  have h1 : (m : Int) - (k : Int) ≤ 9223372036854775807 := by omega
  have h2 : (-9223372036854775808 : Int) ≤ (m : Int) - (k : Int) := by omega
  have h3 : ((m - k : Nat) : Int) = (m : Int) - (k : Int) := by omega
  rw [h3]
  simp [execOp, hx, hy, go_sem, IntWalk.i64_in _ ⟨h2, h1⟩]
theorem run_lenS {ρ : Operand → Value} {A : Option Addr} {n c : Nat} {t : TypeId} (h : Try.prog.underlying t = some (.slice (Try.prog.elem t))) (hx : ρ x = .slice A n c) : (execOp ρ ⟨d, .call { callee := .builtin .len, args := #[x], argTypes := #[t] }, ty, pos, af, g⟩).run Try.prog w = .ok (.value (.int .i64 (n : Int))) w := by
  have hl := run_len_slice (P := Try.prog) (w := w) t ty A n c h
  clear h
  simp [hx, go_sem, hl]
theorem run_buildR {ρ : Operand → Value} {v : RV} (hx : ρ x = v.val) : (execOp ρ ⟨d, .buildSlice 46 1 #[(0, x)], ty, pos, af, g⟩).run Try.prog w = .ok (.value (.slice (some ⟨w.heap.size, 0, none⟩) 1 1)) (w.alloc v.obj) := by
  simp [execOp, hx, go_sem]
end
end Go.Proofs.Ytlegjdlmcphhlab
