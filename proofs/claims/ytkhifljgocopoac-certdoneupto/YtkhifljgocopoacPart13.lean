/- TEXTS LAID TOGETHER: Alive6, Doesc, Doesv, Refas, Refar -/
import Derived.Test.YtkhifljgocopoacPart12
import Derived.Test.YtkhifljgocopoacPart10
import Derived.Test.YtkhifljgocopoacPart9
import Derived.Test.YtkhifljgocopoacPart8
import Derived.Test.YtkhifljgocopoacPart11
import Derived.Deep.CutRange
/-
  alive: the closed fact of chapter 6's laws.
-/
namespace Go.Proofs.Ytkhifljgocopoac
open Go.RowKit

theorem eqVd (x y : Int × Int) (w : World) : (binOp .eql 48 (.agg #[.int .i64 x.1, .int .i64 x.2]) (.agg #[.int .i64 y.1, .int .i64 y.2])).run Try.prog w = .ok (.bool (decide (x = y))) w := by
  have u3 := Try.underlying3
  have a3 := Try.isAgg3
  have z3 := Try.sizeOf3
  have hS : Try.prog.underlying 48 = some (.struct (Try.prog.fieldsOf 48)) := by kernel_rfl
  have hp : Try.prog.stoodInHeld 48 = false := by kernel_rfl
  rw [run_eql_struct, show (10000 : Nat) = 9999 + 1 from rfl, run_equalIn_agg w 9999 48 _ _ hS hp]
  simp only [Program.fieldsOf, Try.underlying48]
  go_simp
  obtain ⟨x1, x2⟩ := x
  obtain ⟨y1, y2⟩ := y
  by_cases h1 : x1 = y1 <;> by_cases h2 : x2 = y2 <;> simp [h1, h2]
theorem neqVd (x y : Int × Int) (w : World) : (binOp .neq 48 (.agg #[.int .i64 x.1, .int .i64 x.2]) (.agg #[.int .i64 y.1, .int .i64 y.2])).run Try.prog w = .ok (.bool (!decide (x = y))) w := by
  have u3 := Try.underlying3
  have a3 := Try.isAgg3
  have z3 := Try.sizeOf3
  have hS : Try.prog.underlying 48 = some (.struct (Try.prog.fieldsOf 48)) := by kernel_rfl
  have hp : Try.prog.stoodInHeld 48 = false := by kernel_rfl
  rw [run_neq_struct, show (10000 : Nat) = 9999 + 1 from rfl, run_equalIn_agg w 9999 48 _ _ hS hp]
  simp only [Program.fieldsOf, Try.underlying48]
  go_simp
  obtain ⟨x1, x2⟩ := x
  obtain ⟨y1, y2⟩ := y
  by_cases h1 : x1 = y1 <;> by_cases h2 : x2 = y2 <;> simp [h1, h2]
theorem guardVdE (x y : Operand) (xs ys : Array Value) (w : World) : (eqGuard .eql 48 x y (.agg xs) (.agg ys)).run Try.prog w = .ok () w := run_eqGuard_agg w .eql 48 x y xs ys (by kernel_rfl)
theorem guardVdN (x y : Operand) (xs ys : Array Value) (w : World) : (eqGuard .neq 48 x y (.agg xs) (.agg ys)).run Try.prog w = .ok () w := run_eqGuard_agg w .neq 48 x y xs ys (by kernel_rfl)

def r6a : M.Rec := ⟨⟨1, -1, 0, txA, 0, ⟨#[]⟩, []⟩, -1, 0⟩
def r6b : M.Rec := ⟨⟨3, -1, 0, ⟨#[]⟩, 0, ⟨#[]⟩, [122]⟩, -1, 0⟩
def a6a : M.Act := ⟨1, 5, 0, txA, 0, ⟨#[]⟩, []⟩
def a6b : M.Act := ⟨3, 5, 0, ⟨#[]⟩, 0, ⟨#[]⟩, [122]⟩
def t6a : List M.Nd := [⟨0, true, [], [(txA, 5)], 9⟩, ⟨5, false, [], [], 9⟩]
def t6b : List M.Nd := [⟨0, true, [], [(txA, 5)], 9⟩, ⟨5, false, [122], [], 10⟩]
def s6 : M.St := M.begS rootR 5 9
theorem here6a : M.hereS s6 r6a.act = a6a := by rfl
theorem apply6a : M.applyS rootR a6a 9 = (0, t6a) := by
  have h2 : M.freeS ⟨0, true, [], [], 0⟩ txA = 0 := by decide
  unfold M.applyS
  rw [if_pos (.inl rfl)]
  rw [bring_ok (by rfl) (by exact h2) (by decide) (by decide)]
  rfl
theorem try6a : M.tryS s6 r6a = (0, t6a) := by
  have h1 : M.restS s6 r6a.act = false := by unfold M.restS M.fidsS; rfl
  have h2 : (M.makeB r6a.act && !M.freshS s6 r6a.act.fid) = false := by rfl
  have h3 : M.staleS s6 (M.hereS s6 r6a.act) r6a.ver = false := by rfl
  unfold M.tryS
  rw [if_neg (by rw [h1]; decide), if_neg (by rw [h2]; decide), if_neg (by rw [h3]; decide), here6a]
  exact apply6a
def s6a : M.St := M.yesS s6 r6a t6a
theorem step6a : M.stepS s6 r6a = s6a := by rw [M.step_yes (by rw [try6a]), try6a]; rfl
theorem here6b : M.hereS s6a r6b.act = a6b := by rfl
theorem apply6b : M.applyS t6a a6b 10 = (0, t6b) := by
  unfold M.applyS
  rw [if_neg (by decide), if_pos (show a6b.kind = 3 from rfl)]
  rfl
theorem try6b : M.tryS s6a r6b = (0, t6b) := by
  have h1 : M.restS s6a r6b.act = false := by unfold M.restS M.fidsS; rfl
  have h2 : (M.makeB r6b.act && !M.freshS s6a r6b.act.fid) = false := by rfl
  have h3 : M.staleS s6a (M.hereS s6a r6b.act) r6b.ver = false := by rfl
  unfold M.tryS
  rw [if_neg (by rw [h1]; decide), if_neg (by rw [h2]; decide), if_neg (by rw [h3]; decide), here6b]
  exact apply6b
theorem jud6 : (M.judS s6 [r6a, r6b]).tr = t6b ∧ (M.judS s6 [r6a, r6b]).done = [a6a, a6b] ∧ (M.judS s6 [r6a, r6b]).next = 6 := by
  have e : M.judS s6 [r6a, r6b] = M.yesS s6a r6b t6b := by
    show M.stepS (M.stepS s6 r6a) r6b = _
    rw [step6a, M.step_yes (by rw [try6b]), try6b]
  rw [e]
  exact ⟨rfl, rfl, rfl⟩
theorem ver6 : M.verS s6 [r6a, r6b] = [(0, 5), (0, 5)] := by
  show [M.verdS s6 r6a, M.verdS (M.stepS s6 r6a) r6b] = _
  rw [step6a, M.verd_yes (by rw [try6a]), M.verd_yes (by rw [try6b]), here6a, here6b]
  rfl
theorem small6 : ∀ x ∈ [r6a, r6b], SmallA x.act := by
  intro x hx
  simp at hx
  rcases hx with rfl | rfl
  · exact ⟨by decide, by decide, by decide⟩
  · exact ⟨by decide, by decide, by decide⟩
theorem recs_two (w : World) : ∀ W, W = ((w.alloc (.cells #[.int .i64 0, .bool true, .slice none 0 0, .slice none 0 0, .int .i64 0] 56)).alloc (.cells #[.int .u8 122] 5 (1, 2))).alloc (.cells #[.int .i64 1, .int .i64 (-1), .int .i64 0, .string ⟨#[97]⟩, .int .i64 0, .string ⟨#[]⟩, .slice none 0 0, .int .i64 (-1), .int .i64 0, .int .i64 3, .int .i64 (-1), .int .i64 0, .string ⟨#[]⟩, .int .i64 0, .string ⟨#[]⟩, .slice (some ⟨w.heap.size + 1, 0, none⟩) 1 1, .int .i64 (-1), .int .i64 0] 53) →
    Tree W (some ⟨w.heap.size, 0, none⟩) 1 [⟨0, true, none, 0, 0, none, 0, 0, 0⟩] rootR ∧ TreeR W (some ⟨w.heap.size + 1 + 1, 0, none⟩) 2 [⟨⟨1, -1, 0, txA, 0, ⟨#[]⟩, none, 0, 0⟩, -1, 0⟩, ⟨⟨3, -1, 0, ⟨#[]⟩, 0, ⟨#[]⟩, some ⟨w.heap.size + 1, 0, none⟩, 1, 1⟩, -1, 0⟩] [r6a, r6b] ∧ Below w.heap.size w W ∧ W.heap.size = w.heap.size + 3 := by
  rintro W rfl
  obtain ⟨q1, q2, q3⟩ := tree_root w _ rfl
  have r2 := (Below.refl (w.alloc (.cells #[.int .i64 0, .bool true, .slice none 0 0, .slice none 0 0, .int .i64 0] 56)).heap.size (w.alloc (.cells #[.int .i64 0, .bool true, .slice none 0 0, .slice none 0 0, .int .i64 0] 56))).alloc (Nat.le_refl _) (.cells #[.int .u8 122] 5 (1, 2))
  have b2 := byts_lit (w.alloc (.cells #[.int .i64 0, .bool true, .slice none 0 0, .slice none 0 0, .int .i64 0] 56)) 122
  generalize hW2 : (w.alloc (.cells #[.int .i64 0, .bool true, .slice none 0 0, .slice none 0 0, .int .i64 0] 56)).alloc (.cells #[.int .u8 122] 5 (1, 2)) = W2 at r2
  have hz2 : W2.heap.size = w.heap.size + 2 := by rw [← hW2]; simp
  have b2' : Byts W2 (some ⟨w.heap.size + 1, 0, none⟩) 1 [122] := by rw [← hW2]; rw [World.size_alloc] at b2; exact b2
  have r3 := (Below.refl W2.heap.size W2).alloc (Nat.le_refl _) (.cells #[.int .i64 1, .int .i64 (-1), .int .i64 0, .string ⟨#[97]⟩, .int .i64 0, .string ⟨#[]⟩, .slice none 0 0, .int .i64 (-1), .int .i64 0, .int .i64 3, .int .i64 (-1), .int .i64 0, .string ⟨#[]⟩, .int .i64 0, .string ⟨#[]⟩, .slice (some ⟨w.heap.size + 1, 0, none⟩) 1 1, .int .i64 (-1), .int .i64 0] 53)
  have ho := World.ownsRow_lit (e := 53) (size := 9) (base := W2.heap.size) W2 #[.int .i64 1, .int .i64 (-1), .int .i64 0, .string ⟨#[97]⟩, .int .i64 0, .string ⟨#[]⟩, .slice none 0 0, .int .i64 (-1), .int .i64 0, .int .i64 3, .int .i64 (-1), .int .i64 0, .string ⟨#[]⟩, .int .i64 0, .string ⟨#[]⟩, .slice (some ⟨w.heap.size + 1, 0, none⟩) 1 1, .int .i64 (-1), .int .i64 0] 2 (Nat.le_refl _) (by decide) rfl
  have hrow := Row.ofOwn (cs := RV.cells) (vs := [⟨⟨1, -1, 0, txA, 0, ⟨#[]⟩, none, 0, 0⟩, -1, 0⟩, ⟨⟨3, -1, 0, ⟨#[]⟩, 0, ⟨#[]⟩, some ⟨w.heap.size + 1, 0, none⟩, 1, 1⟩, -1, 0⟩]) rec_len (by decide) ho
  rw [hz2] at hrow
  refine ⟨(q1.below (Nat.le_refl _) r2).below (Nat.le_refl _) r3, ⟨hrow, All2.cons ⟨⟨rfl, rfl, rfl, rfl, rfl, rfl, ⟨rfl, .inl rfl⟩⟩, rfl, rfl⟩ (All2.one ⟨⟨rfl, rfl, rfl, rfl, rfl, rfl, b2'.below (Nat.le_refl _) r3⟩, rfl, rfl⟩)⟩, (q2.trans (r2.mono (by simp))).trans (r3.mono (by omega)), by simp [hz2]⟩

set_option maxRecDepth 8000 in
set_option maxHeartbeats 4000000 in
theorem alive6_any (w : World) : Calls Try.prog 14 #[] w fun e w' => e = .returned (.bool true) ∧ Below w.heap.size w w' := by
  have hcs := Lib.run_convert_bytes_const (P := Try.prog) (w.alloc (.cells #[.int .i64 0, .bool true, .slice none 0 0, .slice none 0 0, .int .i64 0] 56)) 41 5 #[.int .u8 122] 1 1 Try.underlying41 Try.underlying5
  rw [World.size_alloc] at hcs
  go_enter Try.func14, Try.ntmps14
  go_wp2_with (fail)
  obtain ⟨q1, q2, q3, q4⟩ := recs_two w _ rfl
  refine (judge_all (some ⟨w.heap.size, 0, none⟩) (some ⟨w.heap.size + 1 + 1, 0, none⟩) 1 1 2 2 _ rootR 5 9 _ [r6a, r6b] _ q1 good_root q2 small6 (by decide) (by decide) (by decide) (by decide) (by decide)).mono ?_
  rintro e w1 ⟨V, m, d, D, p, q, avs, A, n, c, us, rfl, hv, ha, ht, hb⟩
  have e1 : M.begS rootR 5 9 = s6 := rfl
  rw [e1] at hv ha ht ⊢
  rw [ver6] at hv
  rw [jud6.2.1] at ha
  rw [jud6.1] at ht
  rw [jud6.2.2]
  have hm : m = 2 := own_len vd_len (by decide) hv
  subst hm
  have hp : p = 2 := actsLen ha
  subst hp
  have hn : n = 2 := by rw [ht.tree.1.1, ht.tree.2.1]; rfl
  subst hn
  have H1 : Hid (Below w.heap.size w w1) := q3.trans (hb.mono q3.size)
  obtain ⟨g1, o1, v1, rfl, _, hv1, hc1⟩ := Row.at (Row.ofOwn (cs := vdCells) vd_len (by decide) hv) (j := 1) (by decide)
  cases hv1
  have x0 := hc1 0 _ rfl
  have x1 := hc1 1 _ rfl
  obtain ⟨g2, o2, v2, rfl, _, hv2, c0, c1, c2, c3, c4, c5, c6⟩ := Acts.at ha.tree.1 (j := 1) (by decide)
  have hf2 : v2.fid = 5 := (ha.tree.2.2 1 v2 _ hv2 rfl).2.1
  obtain ⟨g3, o3, v3, rfl, _, hv3, d0, d1, d2, d3, d4⟩ := Nodes.at ht.tree.1 (j := 1) (by decide)
  have hf3 : v3.ver = 10 := (ht.tree.2.2 1 v3 _ hv3 rfl).2.2.1
  rw [hf2] at c1
  rw [hf3] at d4
  simp only [Nat.one_mul, Nat.add_zero] at x0 x1 c0 c1 d4
  have hq := eqVd (0, 5) (0, 5)
  have hqg := guardVdE
  simp only [decide_true] at hq
  clear q1 q2 q3 q4 hv ha ht hb hc1 hv2 hv3 hf2 hf3 c0 c2 c3 c4 c5 c6 d0 d1 d2 d3
  go_wp2_with (fail)
  go_ret
  exact ⟨rfl, H1.out⟩
end Go.Proofs.Ytkhifljgocopoac
/-
  WHAT SINGLE OPERATIONS DO, further: records, acts, indices, numbers (for regions that draw their order).
-/
namespace Go.Proofs.Ytkhifljgocopoac
open Go.RowKit

theorem does_run {a : Act} {w w' : World} {R : Value → World → Prop} {o : Oper} {v : Value} (h : (execOp a.eval o).run Try.prog w = .ok (.value v) w') (hR : R v w') : Does Try.prog o a w R := .inl ⟨v, w', h, hR⟩
/-- the value is this -/
def IsW (c : Value) : Value → World → Prop := fun v _ => v = c
/-- cells of a record that begins here -/
def RecAt (w : World) (b o : Nat) (r : RV) : Prop := ∀ i c, r.cells[i]? = some c → w.cell? ⟨b, o + i, none⟩ = some c
def ActAt (w : World) (b o : Nat) (r : AV) : Prop := ∀ i c, r.cells[i]? = some c → w.cell? ⟨b, o + i, none⟩ = some c
theorem RecAt.act {w : World} {b o : Nat} {r : RV} (h : RecAt w b o r) : ActAt w b o r.a := fun i c hc => h i c (by
  match i, hc with
  | 0, hc => exact hc
  | 1, hc => exact hc
  | 2, hc => exact hc
  | 3, hc => exact hc
  | 4, hc => exact hc
  | 5, hc => exact hc
  | 6, hc => exact hc
  | i + 7, hc => cases hc)
theorem RecAt.below {w w' : World} {b o B : Nat} {r : RV} (h : RecAt w b o r) (hb : Below B w w') (hs : b < B) : RecAt w' b o r := fun i c hc => by
  rw [hb.cell (p := ⟨b, o + i, none⟩) hs]; exact h i c hc
theorem ActAt.below {w w' : World} {b o B : Nat} {r : AV} (h : ActAt w b o r) (hb : Below B w w') (hs : b < B) : ActAt w' b o r := fun i c hc => by
  rw [hb.cell (p := ⟨b, o + i, none⟩) hs]; exact h i c hc
theorem BoxR.at_ {w : World} {s : Nat} {r : RV} (h : BoxR w s r) : RecAt w s 0 r := fun i c hc => by
  obtain ⟨b0, b1, b2, b3, b4, b5, b6, b7, b8, bf, bz⟩ := h.facts
  rw [Nat.zero_add]
  match i, hc with
  | 0, hc => cases hc; exact b0
  | 1, hc => cases hc; exact b1
  | 2, hc => cases hc; exact b2
  | 3, hc => cases hc; exact b3
  | 4, hc => cases hc; exact b4
  | 5, hc => cases hc; exact b5
  | 6, hc => cases hc; exact b6
  | 7, hc => cases hc; exact b7
  | 8, hc => cases hc; exact b8
  | i + 9, hc => cases hc
theorem BoxA.at_ {w : World} {s : Nat} {r : AV} (h : BoxA w s r) : ActAt w s 0 r := fun i c hc => by
  obtain ⟨b0, b1, b2, b3, b4, b5, b6, bf, bz⟩ := h.facts
  rw [Nat.zero_add]
  match i, hc with
  | 0, hc => cases hc; exact b0
  | 1, hc => cases hc; exact b1
  | 2, hc => cases hc; exact b2
  | 3, hc => cases hc; exact b3
  | 4, hc => cases hc; exact b4
  | 5, hc => cases hc; exact b5
  | 6, hc => cases hc; exact b6
  | i + 7, hc => cases hc
theorem Recs.recAt {w : World} {b o n : Nat} {vs : List RV} (h : Recs w (some ⟨b, o, none⟩) n vs) {j : Nat} {v : RV} (hv : vs[j]? = some v) : RecAt w b (o + j * 9) v := by
  have hj : j < n := by rw [h.1]; exact (List.getElem?_eq_some_iff.1 hv).1
  obtain ⟨b', o', v', e, _, hv', c0, c1, c2, c3, c4, c5, c6, c7, c8⟩ := h.at hj
  cases e
  rw [hv] at hv'
  cases hv'
  intro i c hc
  match i, hc with
  | 0, hc => cases hc; exact c0
  | 1, hc => cases hc; exact c1
  | 2, hc => cases hc; exact c2
  | 3, hc => cases hc; exact c3
  | 4, hc => cases hc; exact c4
  | 5, hc => cases hc; exact c5
  | 6, hc => cases hc; exact c6
  | 7, hc => cases hc; exact c7
  | 8, hc => cases hc; exact c8
  | i + 9, hc => cases hc

theorem want_undef {ops : Array Oper} {a : Act} {d : Option Tmp} {ty : TypeId} {pos : String} {af : Array Edge} {op : Op} {k t : Nat} {want : Bool} (hk : (ops[k]?).bind (·.dst) = some t) (h : a.eval (.tmp t) = undef) : Region.wanted ⟨d, op, ty, pos, af, some (k, want)⟩ (yielded ops a.tmps) = false := by
  have ht : a.tmps[t]? = some undef ∨ a.tmps[t]? = none := by
    have h : a.tmps.getD t undef = undef := h
    rw [Array.getD_eq_getD_getElem?] at h
    cases hx : a.tmps[t]? with
    | none => exact .inr rfl
    | some v => rw [hx] at h; exact .inl (congrArg some h)
  unfold Region.wanted yielded
  simp only [hk, Option.bind_some]
  rcases ht with ht | ht
  · rw [ht]; rfl
  · rw [ht]; rfl

section
variable {w : World} {R : Value → World → Prop} {d : Option Tmp} {ty : TypeId} {pos : String} {af : Array Edge} {g : Option (Nat × Bool)} {x y : Operand}
theorem run_loadR {ρ : Operand → Value} {b o : Nat} {v : RV} (hx : ρ x = .pointer (some ⟨b, o, none⟩)) (h : RecAt w b o v) : (execOp ρ ⟨d, .load 53 x, ty, pos, af, g⟩).run Try.prog w = .ok (.value v.val) w := by
  have c0 := h 0 _ rfl
  have c1 := h 1 _ rfl
  have c2 := h 2 _ rfl
  have c3 := h 3 _ rfl
  have c4 := h 4 _ rfl
  have c5 := h 5 _ rfl
  have c6 := h 6 _ rfl
  have c7 := h 7 _ rfl
  have c8 := h 8 _ rfl
  simp only [Nat.add_zero] at c0
  simp [execOp, hx, go_sem, c0, c1, c2, c3, c4, c5, c6, c7, c8]
theorem run_loadA {ρ : Operand → Value} {b o : Nat} {v : AV} (hx : ρ x = .pointer (some ⟨b, o, none⟩)) (h : ActAt w b o v) : (execOp ρ ⟨d, .load 43 x, ty, pos, af, g⟩).run Try.prog w = .ok (.value v.val) w := by
  have c0 := h 0 _ rfl
  have c1 := h 1 _ rfl
  have c2 := h 2 _ rfl
  have c3 := h 3 _ rfl
  have c4 := h 4 _ rfl
  have c5 := h 5 _ rfl
  have c6 := h 6 _ rfl
  simp only [Nat.add_zero] at c0
  simp [execOp, hx, go_sem, c0, c1, c2, c3, c4, c5, c6]
theorem run_indexR {ρ : Operand → Value} {b o n c k : Nat} (hx : ρ x = .slice (some ⟨b, o, none⟩) n c) (hy : ρ y = .int .i64 (k : Int)) (hk : k < n) : (execOp ρ ⟨d, .indexAddr 23 x y, ty, pos, af, g⟩).run Try.prog w = .ok (.value (.pointer (some ⟨b, o + k * 9, none⟩))) w := by
  have h1 : (k : Int) < (n : Int) := by omega
  have h0 : (0 : Int) ≤ (k : Int) := by omega
  simp [execOp, hx, hy, go_sem, h1]
theorem run_indexA {ρ : Operand → Value} {b o n c k : Nat} (hx : ρ x = .slice (some ⟨b, o, none⟩) n c) (hy : ρ y = .int .i64 (k : Int)) (hk : k < n) : (execOp ρ ⟨d, .indexAddr 26 x y, ty, pos, af, g⟩).run Try.prog w = .ok (.value (.pointer (some ⟨b, o + k * 7, none⟩))) w := by
  have h1 : (k : Int) < (n : Int) := by omega
  have h0 : (0 : Int) ≤ (k : Int) := by omega
  simp [execOp, hx, hy, go_sem, h1]
theorem run_fieldR0 {ρ : Operand → Value} {b o : Nat} (hx : ρ x = .pointer (some ⟨b, o, none⟩)) : (execOp ρ ⟨d, .fieldAddr 53 x 0, ty, pos, af, g⟩).run Try.prog w = .ok (.value (.pointer (some ⟨b, o, none⟩))) w := by
  simp [execOp, hx, go_sem]
theorem run_fieldR1 {ρ : Operand → Value} {b o : Nat} (hx : ρ x = .pointer (some ⟨b, o, none⟩)) : (execOp ρ ⟨d, .fieldAddr 53 x 1, ty, pos, af, g⟩).run Try.prog w = .ok (.value (.pointer (some ⟨b, o + 7, none⟩))) w := by
  simp [execOp, hx, go_sem]
theorem run_fieldR2 {ρ : Operand → Value} {b o : Nat} (hx : ρ x = .pointer (some ⟨b, o, none⟩)) : (execOp ρ ⟨d, .fieldAddr 53 x 2, ty, pos, af, g⟩).run Try.prog w = .ok (.value (.pointer (some ⟨b, o + 8, none⟩))) w := by
  simp [execOp, hx, go_sem]
theorem run_fieldAo {ρ : Operand → Value} {s o k : Nat} (hx : ρ x = .pointer (some ⟨s, o, none⟩)) (hk : k < 7) : (execOp ρ ⟨d, .fieldAddr 43 x k, ty, pos, af, g⟩).run Try.prog w = .ok (.value (.pointer (some ⟨s, o + k, none⟩))) w := by
  match k, hk with
  | 0, _ => simp [execOp, hx, go_sem]
  | 1, _ => simp [execOp, hx, go_sem]
  | 2, _ => simp [execOp, hx, go_sem]
  | 3, _ => simp [execOp, hx, go_sem]
  | 4, _ => simp [execOp, hx, go_sem]
  | 5, _ => simp [execOp, hx, go_sem]
  | 6, _ => simp [execOp, hx, go_sem]
theorem run_eqI {ρ : Operand → Value} {b c : Int} (hx : ρ x = .int .i64 b) (hy : ρ y = .int .i64 c) : (execOp ρ ⟨d, .binOp .eql 3 x y 3, ty, pos, af, g⟩).run Try.prog w = .ok (.value (.bool (b == c))) w := by
  simp [execOp, hx, hy, go_sem]
theorem run_lssI {ρ : Operand → Value} {b c : Int} (hx : ρ x = .int .i64 b) (hy : ρ y = .int .i64 c) : (execOp ρ ⟨d, .binOp .lss 3 x y 3, ty, pos, af, g⟩).run Try.prog w = .ok (.value (.bool (decide (b < c)))) w := by
  simp [execOp, hx, hy, go_sem]
theorem run_gtrI {ρ : Operand → Value} {b c : Int} (hx : ρ x = .int .i64 b) (hy : ρ y = .int .i64 c) : (execOp ρ ⟨d, .binOp .gtr 3 x y 3, ty, pos, af, g⟩).run Try.prog w = .ok (.value (.bool (decide (c < b)))) w := by
  simp [execOp, hx, hy, go_sem]
theorem run_addN {ρ : Operand → Value} {m k : Nat} (hx : ρ x = .int .i64 (m : Int)) (hy : ρ y = .int .i64 (k : Int)) (h : m + k ≤ 9223372036854775807) : (execOp ρ ⟨d, .binOp .add 3 x y 3, ty, pos, af, g⟩).run Try.prog w = .ok (.value (.int .i64 ((m + k : Nat) : Int))) w := by
  have h1 : (m : Int) + (k : Int) ≤ 9223372036854775807 := by omega
  have h2 : (-9223372036854775808 : Int) ≤ (m : Int) + (k : Int) := by omega
  simp [execOp, hx, hy, go_sem, IntWalk.i64_in _ ⟨h2, h1⟩]
theorem run_subN {ρ : Operand → Value} {m k : Nat} (hx : ρ x = .int .i64 (m : Int)) (hy : ρ y = .int .i64 (k : Int)) (h : k ≤ m) (hm : m ≤ 9223372036854775807) : (execOp ρ ⟨d, .binOp .sub 3 x y 3, ty, pos, af, g⟩).run Try.prog w = .ok (.value (.int .i64 ((m - k : Nat) : Int))) w := by
  have h1 : (m : Int) - (k : Int) ≤ 9223372036854775807 := by omega
  have h2 : (-9223372036854775808 : Int) ≤ (m : Int) - (k : Int) := by omega
  have h3 : ((m - k : Nat) : Int) = (m : Int) - (k : Int) := by omega
  rw [h3]
  simp [execOp, hx, hy, go_sem, IntWalk.i64_in _ ⟨h2, h1⟩]
theorem run_lenS {ρ : Operand → Value} {A : Option Addr} {n c : Nat} {t : TypeId} (h : Try.prog.underlying t = some (.slice (Try.prog.elem t))) (hx : ρ x = .slice A n c) : (execOp ρ ⟨d, .call { callee := .builtin .len, args := #[x], argTypes := #[t] }, ty, pos, af, g⟩).run Try.prog w = .ok (.value (.int .i64 (n : Int))) w := by
  have hl := run_len_slice (P := Try.prog) (w := w) t ty A n c h
  clear h
  simp [hx, go_sem, hl]
theorem run_buildR {ρ : Operand → Value} {v : RV} (hx : ρ x = v.val) : (execOp ρ ⟨d, .buildSlice 23 1 #[(0, x)], ty, pos, af, g⟩).run Try.prog w = .ok (.value (.slice (some ⟨w.heap.size, 0, none⟩) 1 1)) (w.alloc v.obj) := by
  simp [execOp, hx, go_sem]
end
end Go.Proofs.Ytkhifljgocopoac
/-
  WHAT SINGLE OPERATIONS DO, further: verdicts (for regions that draw their order).
-/
namespace Go.Proofs.Ytkhifljgocopoac
open Go.RowKit
/-- cells of a verdict that begins here -/
def VdAt (w : World) (b o : Nat) (r : Int × Int) : Prop := ∀ i c, (vdCells r)[i]? = some c → w.cell? ⟨b, o + i, none⟩ = some c
theorem VdAt.below {w w' : World} {b o B : Nat} {r : Int × Int} (h : VdAt w b o r) (hb : Below B w w') (hs : b < B) : VdAt w' b o r := fun i c hc => by
  rw [hb.cell (p := ⟨b, o + i, none⟩) hs]; exact h i c hc
theorem vdAt_of {w : World} {b o n : Nat} {vs : List (Int × Int)} (h : Row 2 vdCells w (some ⟨b, o, none⟩) n vs) {j : Nat} {v : Int × Int} (hv : vs[j]? = some v) : VdAt w b (o + j * 2) v := by
  have hj : j < n := by rw [h.1]; exact (List.getElem?_eq_some_iff.1 hv).1
  obtain ⟨b', o', v', e, _, hv', hc⟩ := Row.at h hj
  cases e
  rw [hv] at hv'
  cases hv'
  exact hc
section
variable {w : World} {d : Option Tmp} {ty : TypeId} {pos : String} {af : Array Edge} {g : Option (Nat × Bool)} {x y : Operand}
theorem run_indexV {ρ : Operand → Value} {b o n c k : Nat} (hx : ρ x = .slice (some ⟨b, o, none⟩) n c) (hy : ρ y = .int .i64 (k : Int)) (hk : k < n) : (execOp ρ ⟨d, .indexAddr 25 x y, ty, pos, af, g⟩).run Try.prog w = .ok (.value (.pointer (some ⟨b, o + k * 2, none⟩))) w := by
  have h1 : (k : Int) < (n : Int) := by omega
  have h0 : (0 : Int) ≤ (k : Int) := by omega
  simp [execOp, hx, hy, go_sem, h1]
theorem run_fieldVo {ρ : Operand → Value} {s o k : Nat} (hx : ρ x = .pointer (some ⟨s, o, none⟩)) (hk : k < 2) : (execOp ρ ⟨d, .fieldAddr 48 x k, ty, pos, af, g⟩).run Try.prog w = .ok (.value (.pointer (some ⟨s, o + k, none⟩))) w := by
  match k, hk with
  | 0, _ => simp [execOp, hx, go_sem]
  | 1, _ => simp [execOp, hx, go_sem]
theorem run_loadErr {ρ : Operand → Value} {p : Addr} {i : Int} (hx : ρ x = .pointer (some p)) (hc : w.cell? p = some (.int .i64 i)) : (execOp ρ ⟨d, .load 44 x, ty, pos, af, g⟩).run Try.prog w = .ok (.value (.int .i64 i)) w := by
  simp [execOp, hx, go_sem, hc]
end
/-- a list of the fids of this act -/
def IsF (fs : List Int) : Value → World → Prop := fun v W => ∃ (A : Option Addr) (c : Nat), v = .slice A fs.length c ∧ ∃ B, W.ownsRow B 3 1 (.slice A fs.length c) fs.length (fs.map fun f => Value.int .i64 f)
theorem isF_below {fs : List Int} {v : Value} {W W' : World} (hb : Below W.heap.size W W') (h : IsF fs v W) : IsF fs v W' := by
  obtain ⟨A, c, e, B, ho⟩ := h
  exact ⟨A, c, e, B, own_below ho hb (Nat.le_refl _)⟩
end Go.Proofs.Ytkhifljgocopoac
/-
  THE REFERENCE's Apply: acts that store, and those of no kind.
-/
namespace Go.Proofs.Ytkhifljgocopoac
open Go.RowKit

set_option maxRecDepth 8000 in
set_option maxHeartbeats 4000000 in
theorem refNone_any (bm : Nat) (xs : List M.Nd) (a : AV) (ac : M.Act) (ver : Int) (w : World) (ht : TMap w bm xs) (ha : ContA w a ac) (h1 : a.kind ≠ 1) (h2 : a.kind ≠ 2) (h3 : a.kind ≠ 3) (h4 : a.kind ≠ 4) (h5 : a.kind ≠ 5) :
    Calls Try.prog 15 #[.map (some bm), a.val, .int .i64 ver] w (AppliedM w (1, [])) := by
  have HT : Hid (TMap w bm xs ∧ ContA w a ac) := ⟨ht, ha⟩
  have HW : Hid _ := apw_start w a ver
  have k1 : (a.kind == 1) = false := by simp [h1]
  have k2 : (a.kind == 2) = false := by simp [h2]
  have k3 : (a.kind == 3) = false := by simp [h3]
  have k4 : (a.kind == 4) = false := by simp [h4]
  have k5 : (a.kind == 5) = false := by simp [h5]
  clear ht ha h1 h2 h3 h4 h5
  go_enter Try.func15, Try.ntmps15
  go_upto_region 1 with (fail)
  go_cut [8] from 24 to 24 (fun v W => v = .func (.func 23) #[] #[.pointer (some ⟨w.heap.size + 1, 0, none⟩)] ∧ ApW w a ver W)
  case first =>
    go_wp2_with (fail)
    go_meet
    case rel => exact ⟨rfl, HW.out _ rfl⟩
  obtain ⟨rfl, hw1⟩ := hcut
  rename World => w1
  obtain ⟨a0, a1, a2, a3, a4, a5, a6, af, az⟩ := hw1.2.1.facts
  have H1 : Hid (ApW w a ver w1 ∧ True) := ⟨hw1, trivial⟩
  clear hw1 HW
  go_wp2_with (fail)
  go_ret2
  exact AppliedM.no rfl (by decide) H1.out.1.1

set_option maxRecDepth 8000 in
set_option maxHeartbeats 8000000 in
theorem refStore_any (bm : Nat) (xs : List M.Nd) (a : AV) (ac : M.Act) (ver : Int) (w : World) (ht : TMap w bm xs) (ha : ContA w a ac) (hk : a.kind = 3) :
    Calls Try.prog 15 #[.map (some bm), a.val, .int .i64 ver] w (AppliedM w (M.storeS xs ac ver)) := by
  have HT : Hid (TMap w bm xs ∧ ContA w a ac ∧ True) := ⟨ht, ha, trivial⟩
  have HK : Hid (a.fid = ac.fid ∧ a.dn = ac.data.length) := ⟨ha.2.1, ha.2.2.2.2.2.2.1⟩
  have HW : Hid _ := apw_start w a ver
  have k1 : (a.kind == 1) = false := by simp [hk]
  have k2 : (a.kind == 2) = false := by simp [hk]
  have k3 : (a.kind == 3) = true := by simp [hk]
  have k4 : (a.kind == 4) = false := by simp [hk]
  have k5 : (a.kind == 5) = false := by simp [hk]
  clear ht ha hk
  go_enter Try.func15, Try.ntmps15
  go_upto_region 1 with (fail)
  go_cut [8] from 24 to 24 (fun v W => v = .func (.func 23) #[] #[.pointer (some ⟨w.heap.size + 1, 0, none⟩)] ∧ ApW w a ver W)
  case first =>
    go_wp2_with (fail)
    go_meet
    case rel => exact ⟨rfl, HW.out _ rfl⟩
  obtain ⟨rfl, hw1⟩ := hcut
  rename World => w1
  obtain ⟨a0, a1, a2, a3, a4, a5, a6, af, az⟩ := hw1.2.1.facts
  have H1 : Hid (ApW w a ver w1 ∧ TMap w1 bm xs ∧ ContA w1 a ac) := ⟨hw1, HT.out.1.below (Nat.le_refl _) hw1.1, HT.out.2.1.below (Nat.le_refl _) hw1.1⟩
  clear hw1 HW
  rcases IMap.ask H1.out.2.1 a.fid with ⟨hf, hl⟩ | ⟨v, x, hf, hc, hl⟩
  · have hl1 := hl true
    simp only [if_true] at hl1
    have HS : Hid ((M.storeS xs ac ver).1 = 12) := by show _ = _; unfold M.storeS; rw [← HK.out.1, hf]
    clear hl hf
    have HB : Hid (∀ W, Below w1.heap.size w1 W → Below w.heap.size w W) := fun W hb => H1.out.1.1.trans (hb.mono H1.out.1.1.size)
    go_wp2_with (fail)
    go_ret2
    exact AppliedM.no HS.out (by decide) (HB.out _ ((Below.refl _ _).alloc (Nat.le_refl _) _))
  · have hl1 := hl true
    simp only [if_true] at hl1
    have HB : Hid (∀ W, Below w1.heap.size w1 W → Below w.heap.size w W) := fun W hb => H1.out.1.1.trans (hb.mono H1.out.1.1.size)
    obtain ⟨fi, di, dA, dn, dc, eA, en, ec, ve⟩ := v
    have HC : Hid (Cont w1 ⟨fi, di, dA, dn, dc, eA, en, ec, ve⟩ x) := hc
    have hdi : di = x.dir := hc.2.1
    cases di
    case' true =>
      have HS : Hid ((M.storeS xs ac ver).1 = 9) := by show _ = _; unfold M.storeS; rw [← HK.out.1, hf]; simp [← hdi]
      clear hl hf hc hdi
      go_wp2_with (fail)
      go_ret2
      exact AppliedM.no HS.out (by decide) (HB.out _ ((Below.refl _ _).alloc (Nat.le_refl _) _))
    by_cases h20 : 20 < a.dn
    · have h20' : (20 : Int) < (a.dn : Int) := by omega
      have HS : Hid ((M.storeS xs ac ver).1 = 4) := by show _ = _; unfold M.storeS; rw [← HK.out.1, hf]; simp [← hdi, ← HK.out.2, h20]
      clear hl hf hc hdi h20
      go_wp2_with (fail)
      go_ret2
      exact AppliedM.no HS.out (by decide) (HB.out _ ((Below.refl _ _).alloc (Nat.le_refl _) _))
    · have h20' : ¬ (20 : Int) < (a.dn : Int) := by omega
      have HS : Hid (M.storeS xs ac ver = (0, M.putN xs (M.withV { x with data := ac.data } ver))) := by show _ = _; unfold M.storeS; rw [← HK.out.1, hf]; simp [← hdi, ← HK.out.2, h20]
      clear hl hf hc hdi h20
      go_wp2_with (fail)
      have hn2 : Below w1.heap.size w1 (w1.alloc (.cells #[.int .i64 fi, .bool false, .slice a.dA a.dn a.dc, .slice eA en ec, .int .i64 ve] 56)) := (Below.refl _ _).alloc (Nat.le_refl _) _
      refine (refVer_any ⟨fi, false, a.dA, a.dn, a.dc, eA, en, ec, ve⟩ (w.heap.size + 1) ver _ (H1.out.1.next hn2).ver).mono ?_
      rintro e w2 ⟨rfl, hb2⟩
      have hn3 : Below w1.heap.size w1 w2 := hn2.trans (hb2.mono hn2.size)
      have H2 : Hid (Below w1.heap.size w1 w2 ∧ Cont w2 ⟨fi, false, a.dA, a.dn, a.dc, eA, en, ec, ver⟩ (M.withV { x with data := ac.data } ver)) := by
        have h3 := HC.out.below (Nat.le_refl _) hn3
        exact ⟨hn3, h3.1, h3.2.1, rfl, (H1.out.2.2.below (Nat.le_refl _) hn3).2.2.2.2.2.2, h3.2.2.2.2⟩
      clear hn2 hb2 hn3
      go_wp2_with (fail)
      refine (with_any bm xs ⟨fi, false, a.dA, a.dn, a.dc, eA, en, ec, ver⟩ _ w2 (H1.out.2.1.below (Nat.le_refl _) H2.out.1) H2.out.2).mono ?_
      rintro e w3 ⟨b3, rfl, ht3, hb3⟩
      have H3 : Hid (Below w.heap.size w w3 ∧ TMap w3 b3 (M.putN xs (M.withV { x with data := ac.data } ver))) := ⟨HB.out _ (H2.out.1.trans (hb3.mono H2.out.1.size)), ht3⟩
      clear ht3 hb3
      go_wp2_with (fail)
      go_ret2
      exact AppliedM.yes HS.out H3.out.2 H3.out.1
end Go.Proofs.Ytkhifljgocopoac
/-
  THE REFERENCE's Apply: acts that remove.
-/
namespace Go.Proofs.Ytkhifljgocopoac
open Go.RowKit

theorem contV {w : World} {v : NV} {x : M.Nd} (h : Cont w v x) (ver : Int) : Cont w ⟨v.fid, v.dir, v.dA, v.dn, v.dc, v.eA, v.en, v.ec, ver⟩ (M.withV x ver) := ⟨h.1, h.2.1, rfl, h.2.2.2.1, h.2.2.2.2⟩
def VR44 (bm sv sa : Nat) (xs : List M.Nd) (a : AV) (v : NV) (x : M.Nd) (ver : Int) : Nat → Value → World → Prop
  | 0 => IsU (.map (some bm))
  | 1 => IsU (.func (.func 23) #[] #[.pointer (some ⟨sv, 0, none⟩)])
  | 2 => IsU (NV.val v)
  | 3 => IsU (.pointer (some ⟨sa, 3, none⟩))
  | 4 => IsU (.string (a.name))
  | 5 => IsNd (withE x (M.dropE x.ents a.name))
  | 6 => IsNd (M.withV (withE x (M.dropE x.ents a.name)) ver)
  | 7 => IsMp (M.putN xs (M.withV (withE x (M.dropE x.ents a.name)) ver))
  | 8 => IsU (.pointer (some ⟨sa, 1, none⟩))
  | 9 => IsU (.int .i64 (a.fid))
  | 10 => IsMp (M.dropN (M.putN xs (M.withV (withE x (M.dropE x.ents a.name)) ver)) a.fid)
  | 11 => IsMp (M.dropN (M.putN xs (M.withV (withE x (M.dropE x.ents a.name)) ver)) a.fid)
  | 12 => IsU (.int .i64 (0))
  | _ => fun _ _ => True
theorem VR44_stays (bm sv sa : Nat) (xs : List M.Nd) (a : AV) (v : NV) (x : M.Nd) (ver : Int) : ∀ i, Stays (VR44 bm sv sa xs a v x ver i) := by
  intro i v W W' hb h
  match i, h with
  | 0, h => exact h
  | 1, h => exact h
  | 2, h => exact h
  | 3, h => exact h
  | 4, h => exact h
  | 5, h => exact isNd_below hb h
  | 6, h => exact isNd_below hb h
  | 7, h => exact isMp_below hb h
  | 8, h => exact h
  | 9, h => exact h
  | 10, h => exact isMp_below hb h
  | 11, h => exact isMp_below hb h
  | 12, h => exact h
  | k + 13, h => trivial

set_option maxRecDepth 8000 in
set_option maxHeartbeats 8000000 in
theorem refRemove_any (bm : Nat) (xs : List M.Nd) (a : AV) (ac : M.Act) (ver : Int) (w : World) (ht : TMap w bm xs) (ha : ContA w a ac) (hri : M.Rise xs) (hsm : ∀ x ∈ xs, Small x) (hk : a.kind = 4) :
    Calls Try.prog 15 #[.map (some bm), a.val, .int .i64 ver] w (AppliedM w (M.removeS xs ac ver)) := by
  have HT : Hid (TMap w bm xs ∧ ContA w a ac ∧ True) := ⟨ht, ha, trivial⟩
  have HK : Hid (a.fid = ac.fid ∧ a.dir = ac.dir ∧ a.name = ac.name ∧ a.to = ac.to ∧ a.toName = ac.toName) := ⟨ha.2.1, ha.2.2.1, ha.2.2.2.1, ha.2.2.2.2.1, ha.2.2.2.2.2.1⟩
  have HSM : Hid (∀ x ∈ xs, Small x) := hsm
  have HRI : Hid (M.Rise xs) := hri
  have HW : Hid _ := apw_start w a ver
  have k1 : (a.kind == 1) = false := by simp [hk]
  have k2 : (a.kind == 2) = false := by simp [hk]
  have k3 : (a.kind == 3) = false := by simp [hk]
  have k4 : (a.kind == 4) = true := by simp [hk]
  have k5 : (a.kind == 5) = false := by simp [hk]
  clear ht ha hk hri hsm
  go_enter Try.func15, Try.ntmps15
  go_upto_region 1 with (fail)
  go_cut [8] from 24 to 24 (fun v W => v = .func (.func 23) #[] #[.pointer (some ⟨w.heap.size + 1, 0, none⟩)] ∧ ApW w a ver W)
  case first =>
    go_wp2_with (fail)
    go_meet
    case rel => exact ⟨rfl, HW.out _ rfl⟩
  obtain ⟨rfl, hw1⟩ := hcut
  rename World => w1
  obtain ⟨a0, a1, a2, a3, a4, a5, a6, af, az⟩ := hw1.2.1.facts
  have H1 : Hid (ApW w a ver w1 ∧ TMap w1 bm xs ∧ ContA w1 a ac) := ⟨hw1, HT.out.1.below (Nat.le_refl _) hw1.1, HT.out.2.1.below (Nat.le_refl _) hw1.1⟩
  clear hw1 HW
  go_wp2_with (fail)
  refine (refDir_any bm xs a.dir w1 H1.out.2.1).mono ?_
  rintro e w2 ⟨v, rfl, hdc, hb2⟩
  have H2 : Hid (ApW w a ver w2 ∧ TMap w2 bm xs ∧ ContA w2 a ac) := ⟨H1.out.1.next hb2, H1.out.2.1.below (Nat.le_refl _) hb2, H1.out.2.2.below (Nat.le_refl _) hb2⟩
  have HDC : Hid ((M.dirS xs a.dir).1 = 0 → Cont w2 v (M.dirS xs a.dir).2) := hdc
  clear hb2 hdc H1 a0 a1 a2 a3 a4 a5 a6 af az
  obtain ⟨a0, a1, a2, a3, a4, a5, a6, af, az⟩ := H2.out.1.2.1.facts
  by_cases hd0 : (M.dirS xs a.dir).1 = 0
  case' neg =>
    have e1 : ((M.dirS xs a.dir).1 != 0) = true := by simp [hd0]
    have HS : Hid ((M.removeS xs ac ver).1 = (M.dirS xs a.dir).1 ∧ (M.dirS xs a.dir).1 ≠ 0) := ⟨by unfold M.removeS; rw [HK.out.2.1] at hd0 ⊢; rw [hold_err hd0, if_pos hd0], hd0⟩
    clear hd0
    go_wp2_with (fail)
    go_ret2
    exact AppliedM.no HS.out.1 HS.out.2 (H2.out.1.1.trans (((Below.refl _ _).alloc (Nat.le_refl _) _).mono H2.out.1.1.size))
  obtain ⟨x, hx⟩ : ∃ x, (M.dirS xs a.dir).2 = x := ⟨_, rfl⟩
  have HDX : Hid (M.dirS xs a.dir = (0, x)) := by show _ = _; rw [← hx, ← hd0]
  have hfx : M.find xs a.dir = some x := by rw [← hx]; exact (M.dir_ok hd0).1
  have HCX : Hid (Cont w2 v x ∧ Small x ∧ M.RsE x.ents) := ⟨by rw [← hx]; exact HDC.out hd0, HSM.out x (M.find_mem hfx).1, HRI.out.2 x (M.find_mem hfx).1⟩
  rw [hd0]
  clear hd0 hx hfx HDC
  have HWN : Hid (∀ W, W = w2.alloc (.cells #[.int .i64 v.fid, .bool v.dir, .slice v.dA v.dn v.dc, .slice v.eA v.en v.ec, .int .i64 v.ver] 56) → Below w2.heap.size w2 W ∧ Box W w2.heap.size v) := by
    rintro W rfl
    exact ⟨(Below.refl _ _).alloc (Nat.le_refl _) _, Box.new w2 v⟩
  go_wp2_with (fail)
  obtain ⟨q1, q2⟩ := HWN.out _ rfl
  refine (refEntry_any v x a.name _ (HCX.out.1.below (Nat.le_refl _) q1) HCX.out.2.1).mono ?_
  rintro e w3 ⟨rfl, hb3⟩
  have h23 : Below w2.heap.size w2 w3 := q1.trans (hb3.mono q1.size)
  have H3 : Hid (ApW w a ver w3 ∧ TMap w3 bm xs ∧ ContA w3 a ac ∧ Box w3 w2.heap.size v ∧ Cont w3 v x) := ⟨H2.out.1.next h23, H2.out.2.1.below (Nat.le_refl _) h23, H2.out.2.2.below (Nat.le_refl _) h23, q2.below hb3 (lt_of_block q2), HCX.out.1.below (Nat.le_refl _) h23⟩
  have HN2 : Hid (w2.heap.size < w3.heap.size ∧ w.heap.size + 1 < w2.heap.size) := ⟨lt_of_block (q2.below hb3 (lt_of_block q2)), lt_of_block H2.out.1.2.2⟩
  clear q1 q2 hb3 h23 H2 HWN a0 a1 a2 a3 a4 a5 a6 af az
  obtain ⟨a0, a1, a2, a3, a4, a5, a6, af, az⟩ := H3.out.1.2.1.facts
  rcases hlk : M.look x.ents a.name with _ | en
  case' none =>
    have HS : Hid ((M.removeS xs ac ver).1 = 6) := by show _ = _; unfold M.removeS; rw [← HK.out.1, ← HK.out.2.1, ← HK.out.2.2.1, hold_none HDX.out hlk]; rfl
    clear hlk
    go_wp2_with (fail)
    go_ret2
    exact AppliedM.no HS.out (by decide) H3.out.1.1
  obtain ⟨en1, en2⟩ := en
  have hgd : (((some (en1, en2) : Option (ByteArray × Int)).map (·.2)).getD 0) = en2 := rfl
  have hgs : (some (en1, en2) : Option (ByteArray × Int)).isSome = true := rfl
  rw [hgd, hgs]
  clear hgd hgs
  by_cases hen : en2 = a.fid
  case' neg =>
    have e1 : (en2 != a.fid) = true := by simp [hen]
    have HS : Hid ((M.removeS xs ac ver).1 = 13) := by show _ = _; unfold M.removeS; rw [← HK.out.1, ← HK.out.2.1, ← HK.out.2.2.1, hold_other HDX.out hlk hen]; rfl
    clear hlk hen
    go_wp2_with (fail)
    go_ret2
    exact AppliedM.no HS.out (by decide) H3.out.1.1
  have e1 : (en2 != a.fid) = false := by simp [hen]
  have HHO : Hid (M.holdS xs ac.dir ac.name ac.fid = (0, x)) := by
    rw [← HK.out.1, ← HK.out.2.1, ← HK.out.2.2.1]
    exact hold_yes HDX.out hlk hen
  clear hlk hen
  rcases IMap.ask H3.out.2.1 a.fid with ⟨hf, hl⟩ | ⟨vf, xf, hf, hcf, hl⟩
  · have hl1 := hl true
    simp only [if_true] at hl1
    have HS : Hid ((M.removeS xs ac ver).1 = 12) := by show _ = _; unfold M.removeS; rw [HHO.out, ← HK.out.1, hf]; rfl
    clear hl hf
    go_wp2_with (fail)
    go_ret2
    exact AppliedM.no HS.out (by decide) (H3.out.1.1.trans (((Below.refl _ _).alloc (Nat.le_refl _) _).mono H3.out.1.1.size))
  · have hl1 := hl true
    simp only [if_true] at hl1
    have HEN : Hid (vf.en = xf.ents.length) := hcf.2.2.2.2.1
    by_cases he0 : 0 < vf.en
    · have he0' : (0 : Int) < (vf.en : Int) := by omega
      have HS : Hid ((M.removeS xs ac ver).1 = 10) := by show _ = _; unfold M.removeS; rw [HHO.out, ← HK.out.1, hf]; simp [← HEN.out, he0]
      clear hl hf hcf
      go_wp2_with (fail)
      go_ret2
      exact AppliedM.no HS.out (by decide) (H3.out.1.1.trans (((Below.refl _ _).alloc (Nat.le_refl _) _).mono H3.out.1.1.size))
    · have he0' : ¬ (0 : Int) < (vf.en : Int) := by omega
      have HS : Hid (M.removeS xs ac ver = (0, M.dropN (M.putN xs (M.withV (withE x (M.dropE x.ents a.name)) ver)) a.fid)) := by
        show _ = _
        unfold M.removeS
        rw [HHO.out, ← HK.out.1, ← HK.out.2.2.1, hf]
        simp [← HEN.out, he0, withE]
      clear hl hf hcf
      have HN5 : Hid (∀ W, W = w3.alloc (.cells #[.int .i64 vf.fid, .bool vf.dir, .slice vf.dA vf.dn vf.dc, .slice vf.eA vf.en vf.ec, .int .i64 vf.ver] 56) → Below w3.heap.size w3 W) := by
        rintro W rfl; exact (Below.refl _ _).alloc (Nat.le_refl _) _
      have HSX : Hid (Small x) := HCX.out.2.1
      go_upto_region 44 with (fail)
      have hb5 := HN5.out _ rfl
      have hbd : ∀ W5 : World, Below w3.heap.size w3 W5 → ∀ W, Below W5.drew.heap.size W5.drew W → Below w3.heap.size w3 W := fun W5 h5 W hb => h5.trans (((Below.refl _ _).drew.trans hb).mono h5.size)
      have HA := fun W hb => (H3.out.1.next (hbd _ hb5 W hb)).2.1
      have HV := fun W hb => (H3.out.1.next (hbd _ hb5 W hb)).ver
      have HM := fun W hb => H3.out.2.1.below (Nat.le_refl _) (hbd _ hb5 W hb)
      have HN := fun W hb => H3.out.2.2.2.1.below (hbd _ hb5 W hb) (lt_of_block H3.out.2.2.2.1)
      have HCN := fun W hb => H3.out.2.2.2.2.below (Nat.le_refl _) (hbd _ hb5 W hb)
      have HEND : Hid (∀ W5 W : World, Below w3.heap.size w3 W5 → Below W5.heap.size W5 W → Below w.heap.size w W) := fun W5 W h5 hb => H3.out.1.1.trans ((h5.trans (hb.mono h5.size)).mono H3.out.1.1.size)
      refine wp_region_vals (VR44 bm (w.heap.size + 1) w.heap.size xs a v x ver) (by kernel_rfl) (by kernel_rfl) (VR44_stays bm (w.heap.size + 1) w.heap.size xs a v x ver) ?_ ?_
      · intro i hi
        match i, hi with
        | 0, _ =>
          refine StepAt.by rfl fun a' W hf hb hd => ?_
          exact .inl ⟨want_none, does_move ((hf.keeps 0 (by kernel_rfl)).trans rfl) ⟨Below.refl _ _, rfl⟩⟩
        | 1, _ =>
          refine StepAt.by rfl fun a' W hf hb hd => ?_
          exact .inl ⟨want_none, does_move ((hf.keeps 8 (by kernel_rfl)).trans rfl) ⟨Below.refl _ _, rfl⟩⟩
        | 2, _ =>
          refine StepAt.by rfl fun a' W hf hb hd => ?_
          exact .inl ⟨want_none, does_rn (run_load26 ((hf.keeps 16 (by kernel_rfl)).trans rfl) (HN W hb)) ⟨Below.refl _ _, rfl⟩⟩
        | 3, _ =>
          refine StepAt.by rfl fun a' W hf hb hd => ?_
          exact .inl ⟨want_none, does_rn (run_fieldA ((hf.keeps 4 (by kernel_rfl)).trans rfl) (by decide)) ⟨Below.refl _ _, rfl⟩⟩
        | 4, _ =>
          refine StepAt.by rfl fun a' W hf hb hd => ?_
          exact .inl ⟨want_none, does_rn (run_load9 (hd 3 (by kernel_rfl)) (BoxA.facts (HA W hb)).2.2.2.1) ⟨Below.refl _ _, rfl⟩⟩
        | 5, _ =>
          refine StepAt.by rfl fun a' W hf hb hd => ?_
          refine .inl ⟨want_none, ?_⟩
          exact does_call2 (enters_of Try.func29 (by kernel_rfl) (by kernel_rfl)) (hd 2 (by kernel_rfl)) (hd 4 (by kernel_rfl)) ((refLeave_any v x a.name W (HCN W hb) HSX.out).mono fun e W' ⟨v', he, hc, hb'⟩ => ⟨_, he, hb', v', rfl, hc⟩)
        | 6, _ =>
          refine StepAt.by rfl fun a' W hf hb hd => ?_
          refine .inl ⟨want_none, ?_⟩
          obtain ⟨v1, e1, hc1⟩ := hd 5 (by kernel_rfl)
          exact does_callC (enters_of Try.func23 (by kernel_rfl) (by kernel_rfl)) (hd 1 (by kernel_rfl)) e1 ((refVer_any v1 (w.heap.size + 1) ver W (HV W hb)).mono fun e W' ⟨he, hb'⟩ => ⟨_, he, hb', ⟨v1.fid, v1.dir, v1.dA, v1.dn, v1.dc, v1.eA, v1.en, v1.ec, ver⟩, rfl, (contV hc1 ver).below (Nat.le_refl _) hb'⟩)
        | 7, _ =>
          refine StepAt.by rfl fun a' W hf hb hd => ?_
          refine .inl ⟨want_none, ?_⟩
          obtain ⟨v1, e1, hc1⟩ := hd 6 (by kernel_rfl)
          have e0 := hd 0 (by kernel_rfl)
          have ht0 := HM W hb
          exact does_call2 (enters_of Try.func26 (by kernel_rfl) (by kernel_rfl)) e0 e1 ((with_any _ _ v1 _ W ht0 hc1).mono fun e W' ⟨b, he, ht, hb'⟩ => ⟨_, he, hb', b, rfl, ht⟩)
        | 8, _ =>
          refine StepAt.by rfl fun a' W hf hb hd => ?_
          exact .inl ⟨want_none, does_rn (run_fieldA ((hf.keeps 4 (by kernel_rfl)).trans rfl) (by decide)) ⟨Below.refl _ _, rfl⟩⟩
        | 9, _ =>
          refine StepAt.by rfl fun a' W hf hb hd => ?_
          exact .inl ⟨want_none, does_rn (run_load3 (hd 8 (by kernel_rfl)) (BoxA.facts (HA W hb)).2.1) ⟨Below.refl _ _, rfl⟩⟩
        | 10, _ =>
          refine StepAt.by rfl fun a' W hf hb hd => ?_
          refine .inl ⟨want_none, ?_⟩
          obtain ⟨b0, e0, ht0⟩ := hd 7 (by kernel_rfl)
          exact does_call2 (enters_of Try.func30 (by kernel_rfl) (by kernel_rfl)) e0 (hd 9 (by kernel_rfl)) ((without_any _ _ a.fid W ht0).mono fun e W' ⟨b, he, ht, hb'⟩ => ⟨_, he, hb', b, rfl, ht⟩)
        | 11, _ =>
          refine StepAt.by rfl fun a' W hf hb hd => ?_
          exact .inl ⟨want_none, does_assign rfl ⟨Below.refl _ _, (hd 10 (by kernel_rfl))⟩⟩
        | 12, _ =>
          refine StepAt.by rfl fun a' W hf hb hd => ?_
          exact .inl ⟨want_none, does_assign rfl ⟨Below.refl _ _, rfl⟩⟩
        | k + 13, hi => exact absurd hi (Nat.not_lt.2 (Nat.le_add_left _ _))
      · intro a' W hf hb hv
        obtain ⟨b6, e6, ht6⟩ := hv 11 (by decide)
        have e7 : a'.eval (.tmp 7) = .int .i64 (0) := hv 12 (by decide)
        have hl := hf.lit (fun t => decide (149 ≤ t) && decide (t ≤ 159) || decide (t = 6) || decide (t = 7)) (by kernel_rfl)
        simp only [overL, Nat.reduceAdd, Nat.reduceLeDiff, Nat.reduceEqDiff, decide_true, decide_false, Bool.and_true, Bool.and_false, Bool.or_true, Bool.or_false] at hl
        have e6' : a'.eval (.tmp 6) = .map (some b6) := e6
        rw [hl, e6', e7]
        have HF : Hid (TMap W b6 _ ∧ Below _ _ W) := ⟨ht6, hb⟩
        clear hl hf hb hv e6 e6' e7 ht6
        go_wp2_with (fail)
        go_ret2
        exact AppliedM.yes HS.out HF.out.1 (HEND.out _ _ (HN5.out _ rfl) HF.out.2)
end Go.Proofs.Ytkhifljgocopoac
