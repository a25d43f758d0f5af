/- TEXTS LAID TOGETHER: Alive6, Doesc, Doesv, Has, Rests -/
import Derived.Test.YtkhifljgocopoacPart12
import Derived.Test.YtkhifljgocopoacPart10
import Derived.Test.YtkhifljgocopoacPart9
import Derived.Test.YtkhifljgocopoacPart8
import Derived.Test.YtkhifljgocopoacPart4
import Derived.Deep.CutRange
/-
  alive: the closed fact of chapter 6's laws.
-/
namespace Go.Proofs.Ytkhifljgocopoac
open Go.RowKit

theorem eqVd (x y : Int × Int) (w : World) : (binOp .eql 48 (.agg #[.int .i64 x.1, .int .i64 x.2]) (.agg #[.int .i64 y.1, .int .i64 y.2])).run Try.prog w = .ok (.bool (decide (x = y))) w := by
  have u3 := Try.underlying3
  have a3 := Try.isAgg3
  have z3 := Try.sizeOf3
  have hS : Try.prog.underlying 48 = some (.struct (Try.prog.fieldsOf 48)) := by kernel_rfl
  have hp : Try.prog.stoodInHeld 48 = false := by kernel_rfl
  rw [run_eql_struct, show (10000 : Nat) = 9999 + 1 from rfl, run_equalIn_agg w 9999 48 _ _ hS hp]
  simp only [Program.fieldsOf, Try.underlying48]
  go_simp
  obtain ⟨x1, x2⟩ := x
  obtain ⟨y1, y2⟩ := y
  by_cases h1 : x1 = y1 <;> by_cases h2 : x2 = y2 <;> simp [h1, h2]
theorem neqVd (x y : Int × Int) (w : World) : (binOp .neq 48 (.agg #[.int .i64 x.1, .int .i64 x.2]) (.agg #[.int .i64 y.1, .int .i64 y.2])).run Try.prog w = .ok (.bool (!decide (x = y))) w := by
  have u3 := Try.underlying3
  have a3 := Try.isAgg3
  have z3 := Try.sizeOf3
  have hS : Try.prog.underlying 48 = some (.struct (Try.prog.fieldsOf 48)) := by kernel_rfl
  have hp : Try.prog.stoodInHeld 48 = false := by kernel_rfl
  rw [run_neq_struct, show (10000 : Nat) = 9999 + 1 from rfl, run_equalIn_agg w 9999 48 _ _ hS hp]
  simp only [Program.fieldsOf, Try.underlying48]
  go_simp
  obtain ⟨x1, x2⟩ := x
  obtain ⟨y1, y2⟩ := y
  by_cases h1 : x1 = y1 <;> by_cases h2 : x2 = y2 <;> simp [h1, h2]
theorem guardVdE (x y : Operand) (xs ys : Array Value) (w : World) : (eqGuard .eql 48 x y (.agg xs) (.agg ys)).run Try.prog w = .ok () w := run_eqGuard_agg w .eql 48 x y xs ys (by kernel_rfl)
theorem guardVdN (x y : Operand) (xs ys : Array Value) (w : World) : (eqGuard .neq 48 x y (.agg xs) (.agg ys)).run Try.prog w = .ok () w := run_eqGuard_agg w .neq 48 x y xs ys (by kernel_rfl)

def r6a : M.Rec := ⟨⟨1, -1, 0, txA, 0, ⟨#[]⟩, []⟩, -1, 0⟩
def r6b : M.Rec := ⟨⟨3, -1, 0, ⟨#[]⟩, 0, ⟨#[]⟩, [122]⟩, -1, 0⟩
def a6a : M.Act := ⟨1, 5, 0, txA, 0, ⟨#[]⟩, []⟩
def a6b : M.Act := ⟨3, 5, 0, ⟨#[]⟩, 0, ⟨#[]⟩, [122]⟩
def t6a : List M.Nd := [⟨0, true, [], [(txA, 5)], 9⟩, ⟨5, false, [], [], 9⟩]
def t6b : List M.Nd := [⟨0, true, [], [(txA, 5)], 9⟩, ⟨5, false, [122], [], 10⟩]
def s6 : M.St := M.begS rootR 5 9
theorem here6a : M.hereS s6 r6a.act = a6a := by rfl
theorem apply6a : M.applyS rootR a6a 9 = (0, t6a) := by
  have h2 : M.freeS ⟨0, true, [], [], 0⟩ txA = 0 := by decide
  unfold M.applyS
  rw [if_pos (.inl rfl)]
  rw [bring_ok (by rfl) (by exact h2) (by decide) (by decide)]
  rfl
theorem try6a : M.tryS s6 r6a = (0, t6a) := by
  have h1 : M.restS s6 r6a.act = false := by unfold M.restS M.fidsS; rfl
  have h2 : (M.makeB r6a.act && !M.freshS s6 r6a.act.fid) = false := by rfl
  have h3 : M.staleS s6 (M.hereS s6 r6a.act) r6a.ver = false := by rfl
  unfold M.tryS
  rw [if_neg (by rw [h1]; decide), if_neg (by rw [h2]; decide), if_neg (by rw [h3]; decide), here6a]
  exact apply6a
def s6a : M.St := M.yesS s6 r6a t6a
theorem step6a : M.stepS s6 r6a = s6a := by rw [M.step_yes (by rw [try6a]), try6a]; rfl
theorem here6b : M.hereS s6a r6b.act = a6b := by rfl
theorem apply6b : M.applyS t6a a6b 10 = (0, t6b) := by
  unfold M.applyS
  rw [if_neg (by decide), if_pos (show a6b.kind = 3 from rfl)]
  rfl
theorem try6b : M.tryS s6a r6b = (0, t6b) := by
  have h1 : M.restS s6a r6b.act = false := by unfold M.restS M.fidsS; rfl
  have h2 : (M.makeB r6b.act && !M.freshS s6a r6b.act.fid) = false := by rfl
  have h3 : M.staleS s6a (M.hereS s6a r6b.act) r6b.ver = false := by rfl
  unfold M.tryS
  rw [if_neg (by rw [h1]; decide), if_neg (by rw [h2]; decide), if_neg (by rw [h3]; decide), here6b]
  exact apply6b
theorem jud6 : (M.judS s6 [r6a, r6b]).tr = t6b ∧ (M.judS s6 [r6a, r6b]).done = [a6a, a6b] ∧ (M.judS s6 [r6a, r6b]).next = 6 := by
  have e : M.judS s6 [r6a, r6b] = M.yesS s6a r6b t6b := by
    show M.stepS (M.stepS s6 r6a) r6b = _
    rw [step6a, M.step_yes (by rw [try6b]), try6b]
  rw [e]
  exact ⟨rfl, rfl, rfl⟩
theorem ver6 : M.verS s6 [r6a, r6b] = [(0, 5), (0, 5)] := by
  show [M.verdS s6 r6a, M.verdS (M.stepS s6 r6a) r6b] = _
  rw [step6a, M.verd_yes (by rw [try6a]), M.verd_yes (by rw [try6b]), here6a, here6b]
  rfl
theorem small6 : ∀ x ∈ [r6a, r6b], SmallA x.act := by
  intro x hx
  simp at hx
  rcases hx with rfl | rfl
  · exact ⟨by decide, by decide, by decide⟩
  · exact ⟨by decide, by decide, by decide⟩
theorem recs_two (w : World) : ∀ W, W = ((w.alloc (.cells #[.int .i64 0, .bool true, .slice none 0 0, .slice none 0 0, .int .i64 0] 56)).alloc (.cells #[.int .u8 122] 5 (1, 2))).alloc (.cells #[.int .i64 1, .int .i64 (-1), .int .i64 0, .string ⟨#[97]⟩, .int .i64 0, .string ⟨#[]⟩, .slice none 0 0, .int .i64 (-1), .int .i64 0, .int .i64 3, .int .i64 (-1), .int .i64 0, .string ⟨#[]⟩, .int .i64 0, .string ⟨#[]⟩, .slice (some ⟨w.heap.size + 1, 0, none⟩) 1 1, .int .i64 (-1), .int .i64 0] 53) →
    Tree W (some ⟨w.heap.size, 0, none⟩) 1 [⟨0, true, none, 0, 0, none, 0, 0, 0⟩] rootR ∧ TreeR W (some ⟨w.heap.size + 1 + 1, 0, none⟩) 2 [⟨⟨1, -1, 0, txA, 0, ⟨#[]⟩, none, 0, 0⟩, -1, 0⟩, ⟨⟨3, -1, 0, ⟨#[]⟩, 0, ⟨#[]⟩, some ⟨w.heap.size + 1, 0, none⟩, 1, 1⟩, -1, 0⟩] [r6a, r6b] ∧ Below w.heap.size w W ∧ W.heap.size = w.heap.size + 3 := by
  rintro W rfl
  obtain ⟨q1, q2, q3⟩ := tree_root w _ rfl
  have r2 := (Below.refl (w.alloc (.cells #[.int .i64 0, .bool true, .slice none 0 0, .slice none 0 0, .int .i64 0] 56)).heap.size (w.alloc (.cells #[.int .i64 0, .bool true, .slice none 0 0, .slice none 0 0, .int .i64 0] 56))).alloc (Nat.le_refl _) (.cells #[.int .u8 122] 5 (1, 2))
  have b2 := byts_lit (w.alloc (.cells #[.int .i64 0, .bool true, .slice none 0 0, .slice none 0 0, .int .i64 0] 56)) 122
  generalize hW2 : (w.alloc (.cells #[.int .i64 0, .bool true, .slice none 0 0, .slice none 0 0, .int .i64 0] 56)).alloc (.cells #[.int .u8 122] 5 (1, 2)) = W2 at r2
  have hz2 : W2.heap.size = w.heap.size + 2 := by rw [← hW2]; simp
  have b2' : Byts W2 (some ⟨w.heap.size + 1, 0, none⟩) 1 [122] := by rw [← hW2]; rw [World.size_alloc] at b2; exact b2
  have r3 := (Below.refl W2.heap.size W2).alloc (Nat.le_refl _) (.cells #[.int .i64 1, .int .i64 (-1), .int .i64 0, .string ⟨#[97]⟩, .int .i64 0, .string ⟨#[]⟩, .slice none 0 0, .int .i64 (-1), .int .i64 0, .int .i64 3, .int .i64 (-1), .int .i64 0, .string ⟨#[]⟩, .int .i64 0, .string ⟨#[]⟩, .slice (some ⟨w.heap.size + 1, 0, none⟩) 1 1, .int .i64 (-1), .int .i64 0] 53)
  have ho := World.ownsRow_lit (e := 53) (size := 9) (base := W2.heap.size) W2 #[.int .i64 1, .int .i64 (-1), .int .i64 0, .string ⟨#[97]⟩, .int .i64 0, .string ⟨#[]⟩, .slice none 0 0, .int .i64 (-1), .int .i64 0, .int .i64 3, .int .i64 (-1), .int .i64 0, .string ⟨#[]⟩, .int .i64 0, .string ⟨#[]⟩, .slice (some ⟨w.heap.size + 1, 0, none⟩) 1 1, .int .i64 (-1), .int .i64 0] 2 (Nat.le_refl _) (by decide) rfl
  have hrow := Row.ofOwn (cs := RV.cells) (vs := [⟨⟨1, -1, 0, txA, 0, ⟨#[]⟩, none, 0, 0⟩, -1, 0⟩, ⟨⟨3, -1, 0, ⟨#[]⟩, 0, ⟨#[]⟩, some ⟨w.heap.size + 1, 0, none⟩, 1, 1⟩, -1, 0⟩]) rec_len (by decide) ho
  rw [hz2] at hrow
  refine ⟨(q1.below (Nat.le_refl _) r2).below (Nat.le_refl _) r3, ⟨hrow, All2.cons ⟨⟨rfl, rfl, rfl, rfl, rfl, rfl, ⟨rfl, .inl rfl⟩⟩, rfl, rfl⟩ (All2.one ⟨⟨rfl, rfl, rfl, rfl, rfl, rfl, b2'.below (Nat.le_refl _) r3⟩, rfl, rfl⟩)⟩, (q2.trans (r2.mono (by simp))).trans (r3.mono (by omega)), by simp [hz2]⟩

set_option maxRecDepth 8000 in
set_option maxHeartbeats 4000000 in
theorem alive6_any (w : World) : Calls Try.prog 14 #[] w fun e w' => e = .returned (.bool true) ∧ Below w.heap.size w w' := by
  have hcs := Lib.run_convert_bytes_const (P := Try.prog) (w.alloc (.cells #[.int .i64 0, .bool true, .slice none 0 0, .slice none 0 0, .int .i64 0] 56)) 41 5 #[.int .u8 122] 1 1 Try.underlying41 Try.underlying5
  rw [World.size_alloc] at hcs
  go_enter Try.func14, Try.ntmps14
  go_wp2_with (fail)
  obtain ⟨q1, q2, q3, q4⟩ := recs_two w _ rfl
  refine (judge_all (some ⟨w.heap.size, 0, none⟩) (some ⟨w.heap.size + 1 + 1, 0, none⟩) 1 1 2 2 _ rootR 5 9 _ [r6a, r6b] _ q1 good_root q2 small6 (by decide) (by decide) (by decide) (by decide) (by decide)).mono ?_
  rintro e w1 ⟨V, m, d, D, p, q, avs, A, n, c, us, rfl, hv, ha, ht, hb⟩
  have e1 : M.begS rootR 5 9 = s6 := rfl
  rw [e1] at hv ha ht ⊢
  rw [ver6] at hv
  rw [jud6.2.1] at ha
  rw [jud6.1] at ht
  rw [jud6.2.2]
  have hm : m = 2 := own_len vd_len (by decide) hv
  subst hm
  have hp : p = 2 := actsLen ha
  subst hp
  have hn : n = 2 := by rw [ht.tree.1.1, ht.tree.2.1]; rfl
  subst hn
  have H1 : Hid (Below w.heap.size w w1) := q3.trans (hb.mono q3.size)
  obtain ⟨g1, o1, v1, rfl, _, hv1, hc1⟩ := Row.at (Row.ofOwn (cs := vdCells) vd_len (by decide) hv) (j := 1) (by decide)
  cases hv1
  have x0 := hc1 0 _ rfl
  have x1 := hc1 1 _ rfl
  obtain ⟨g2, o2, v2, rfl, _, hv2, c0, c1, c2, c3, c4, c5, c6⟩ := Acts.at ha.tree.1 (j := 1) (by decide)
  have hf2 : v2.fid = 5 := (ha.tree.2.2 1 v2 _ hv2 rfl).2.1
  obtain ⟨g3, o3, v3, rfl, _, hv3, d0, d1, d2, d3, d4⟩ := Nodes.at ht.tree.1 (j := 1) (by decide)
  have hf3 : v3.ver = 10 := (ht.tree.2.2 1 v3 _ hv3 rfl).2.2.1
  rw [hf2] at c1
  rw [hf3] at d4
  simp only [Nat.one_mul, Nat.add_zero] at x0 x1 c0 c1 d4
  have hq := eqVd (0, 5) (0, 5)
  have hqg := guardVdE
  simp only [decide_true] at hq
  clear q1 q2 q3 q4 hv ha ht hb hc1 hv2 hv3 hf2 hf3 c0 c2 c3 c4 c5 c6 d0 d1 d2 d3
  go_wp2_with (fail)
  go_ret
  exact ⟨rfl, H1.out⟩
end Go.Proofs.Ytkhifljgocopoac
/-
  WHAT SINGLE OPERATIONS DO, further: records, acts, indices, numbers (for regions that draw their order).
-/
namespace Go.Proofs.Ytkhifljgocopoac
open Go.RowKit

theorem does_run {a : Act} {w w' : World} {R : Value → World → Prop} {o : Oper} {v : Value} (h : (execOp a.eval o).run Try.prog w = .ok (.value v) w') (hR : R v w') : Does Try.prog o a w R := .inl ⟨v, w', h, hR⟩
/-- the value is this -/
def IsW (c : Value) : Value → World → Prop := fun v _ => v = c
/-- cells of a record that begins here -/
def RecAt (w : World) (b o : Nat) (r : RV) : Prop := ∀ i c, r.cells[i]? = some c → w.cell? ⟨b, o + i, none⟩ = some c
def ActAt (w : World) (b o : Nat) (r : AV) : Prop := ∀ i c, r.cells[i]? = some c → w.cell? ⟨b, o + i, none⟩ = some c
theorem RecAt.act {w : World} {b o : Nat} {r : RV} (h : RecAt w b o r) : ActAt w b o r.a := fun i c hc => h i c (by
  match i, hc with
  | 0, hc => exact hc
  | 1, hc => exact hc
  | 2, hc => exact hc
  | 3, hc => exact hc
  | 4, hc => exact hc
  | 5, hc => exact hc
  | 6, hc => exact hc
  | i + 7, hc => cases hc)
theorem RecAt.below {w w' : World} {b o B : Nat} {r : RV} (h : RecAt w b o r) (hb : Below B w w') (hs : b < B) : RecAt w' b o r := fun i c hc => by
  rw [hb.cell (p := ⟨b, o + i, none⟩) hs]; exact h i c hc
theorem ActAt.below {w w' : World} {b o B : Nat} {r : AV} (h : ActAt w b o r) (hb : Below B w w') (hs : b < B) : ActAt w' b o r := fun i c hc => by
  rw [hb.cell (p := ⟨b, o + i, none⟩) hs]; exact h i c hc
theorem BoxR.at_ {w : World} {s : Nat} {r : RV} (h : BoxR w s r) : RecAt w s 0 r := fun i c hc => by
  obtain ⟨b0, b1, b2, b3, b4, b5, b6, b7, b8, bf, bz⟩ := h.facts
  rw [Nat.zero_add]
  match i, hc with
  | 0, hc => cases hc; exact b0
  | 1, hc => cases hc; exact b1
  | 2, hc => cases hc; exact b2
  | 3, hc => cases hc; exact b3
  | 4, hc => cases hc; exact b4
  | 5, hc => cases hc; exact b5
  | 6, hc => cases hc; exact b6
  | 7, hc => cases hc; exact b7
  | 8, hc => cases hc; exact b8
  | i + 9, hc => cases hc
theorem BoxA.at_ {w : World} {s : Nat} {r : AV} (h : BoxA w s r) : ActAt w s 0 r := fun i c hc => by
  obtain ⟨b0, b1, b2, b3, b4, b5, b6, bf, bz⟩ := h.facts
  rw [Nat.zero_add]
  match i, hc with
  | 0, hc => cases hc; exact b0
  | 1, hc => cases hc; exact b1
  | 2, hc => cases hc; exact b2
  | 3, hc => cases hc; exact b3
  | 4, hc => cases hc; exact b4
  | 5, hc => cases hc; exact b5
  | 6, hc => cases hc; exact b6
  | i + 7, hc => cases hc
theorem Recs.recAt {w : World} {b o n : Nat} {vs : List RV} (h : Recs w (some ⟨b, o, none⟩) n vs) {j : Nat} {v : RV} (hv : vs[j]? = some v) : RecAt w b (o + j * 9) v := by
  have hj : j < n := by rw [h.1]; exact (List.getElem?_eq_some_iff.1 hv).1
  obtain ⟨b', o', v', e, _, hv', c0, c1, c2, c3, c4, c5, c6, c7, c8⟩ := h.at hj
  cases e
  rw [hv] at hv'
  cases hv'
  intro i c hc
  match i, hc with
  | 0, hc => cases hc; exact c0
  | 1, hc => cases hc; exact c1
  | 2, hc => cases hc; exact c2
  | 3, hc => cases hc; exact c3
  | 4, hc => cases hc; exact c4
  | 5, hc => cases hc; exact c5
  | 6, hc => cases hc; exact c6
  | 7, hc => cases hc; exact c7
  | 8, hc => cases hc; exact c8
  | i + 9, hc => cases hc

theorem want_undef {ops : Array Oper} {a : Act} {d : Option Tmp} {ty : TypeId} {pos : String} {af : Array Edge} {op : Op} {k t : Nat} {want : Bool} (hk : (ops[k]?).bind (·.dst) = some t) (h : a.eval (.tmp t) = undef) : Region.wanted ⟨d, op, ty, pos, af, some (k, want)⟩ (yielded ops a.tmps) = false := by
  have ht : a.tmps[t]? = some undef ∨ a.tmps[t]? = none := by
    have h : a.tmps.getD t undef = undef := h
    rw [Array.getD_eq_getD_getElem?] at h
    cases hx : a.tmps[t]? with
    | none => exact .inr rfl
    | some v => rw [hx] at h; exact .inl (congrArg some h)
  unfold Region.wanted yielded
  simp only [hk, Option.bind_some]
  rcases ht with ht | ht
  · rw [ht]; rfl
  · rw [ht]; rfl

section
variable {w : World} {R : Value → World → Prop} {d : Option Tmp} {ty : TypeId} {pos : String} {af : Array Edge} {g : Option (Nat × Bool)} {x y : Operand}
theorem run_loadR {ρ : Operand → Value} {b o : Nat} {v : RV} (hx : ρ x = .pointer (some ⟨b, o, none⟩)) (h : RecAt w b o v) : (execOp ρ ⟨d, .load 53 x, ty, pos, af, g⟩).run Try.prog w = .ok (.value v.val) w := by
  have c0 := h 0 _ rfl
  have c1 := h 1 _ rfl
  have c2 := h 2 _ rfl
  have c3 := h 3 _ rfl
  have c4 := h 4 _ rfl
  have c5 := h 5 _ rfl
  have c6 := h 6 _ rfl
  have c7 := h 7 _ rfl
  have c8 := h 8 _ rfl
  simp only [Nat.add_zero] at c0
  simp [execOp, hx, go_sem, c0, c1, c2, c3, c4, c5, c6, c7, c8]
theorem run_loadA {ρ : Operand → Value} {b o : Nat} {v : AV} (hx : ρ x = .pointer (some ⟨b, o, none⟩)) (h : ActAt w b o v) : (execOp ρ ⟨d, .load 43 x, ty, pos, af, g⟩).run Try.prog w = .ok (.value v.val) w := by
  have c0 := h 0 _ rfl
  have c1 := h 1 _ rfl
  have c2 := h 2 _ rfl
  have c3 := h 3 _ rfl
  have c4 := h 4 _ rfl
  have c5 := h 5 _ rfl
  have c6 := h 6 _ rfl
  simp only [Nat.add_zero] at c0
  simp [execOp, hx, go_sem, c0, c1, c2, c3, c4, c5, c6]
theorem run_indexR {ρ : Operand → Value} {b o n c k : Nat} (hx : ρ x = .slice (some ⟨b, o, none⟩) n c) (hy : ρ y = .int .i64 (k : Int)) (hk : k < n) : (execOp ρ ⟨d, .indexAddr 23 x y, ty, pos, af, g⟩).run Try.prog w = .ok (.value (.pointer (some ⟨b, o + k * 9, none⟩))) w := by
  have h1 : (k : Int) < (n : Int) := by omega
  have h0 : (0 : Int) ≤ (k : Int) := by omega
  simp [execOp, hx, hy, go_sem, h1]
theorem run_indexA {ρ : Operand → Value} {b o n c k : Nat} (hx : ρ x = .slice (some ⟨b, o, none⟩) n c) (hy : ρ y = .int .i64 (k : Int)) (hk : k < n) : (execOp ρ ⟨d, .indexAddr 26 x y, ty, pos, af, g⟩).run Try.prog w = .ok (.value (.pointer (some ⟨b, o + k * 7, none⟩))) w := by
  have h1 : (k : Int) < (n : Int) := by omega
  have h0 : (0 : Int) ≤ (k : Int) := by omega
  simp [execOp, hx, hy, go_sem, h1]
theorem run_fieldR0 {ρ : Operand → Value} {b o : Nat} (hx : ρ x = .pointer (some ⟨b, o, none⟩)) : (execOp ρ ⟨d, .fieldAddr 53 x 0, ty, pos, af, g⟩).run Try.prog w = .ok (.value (.pointer (some ⟨b, o, none⟩))) w := by
  simp [execOp, hx, go_sem]
theorem run_fieldR1 {ρ : Operand → Value} {b o : Nat} (hx : ρ x = .pointer (some ⟨b, o, none⟩)) : (execOp ρ ⟨d, .fieldAddr 53 x 1, ty, pos, af, g⟩).run Try.prog w = .ok (.value (.pointer (some ⟨b, o + 7, none⟩))) w := by
  simp [execOp, hx, go_sem]
theorem run_fieldR2 {ρ : Operand → Value} {b o : Nat} (hx : ρ x = .pointer (some ⟨b, o, none⟩)) : (execOp ρ ⟨d, .fieldAddr 53 x 2, ty, pos, af, g⟩).run Try.prog w = .ok (.value (.pointer (some ⟨b, o + 8, none⟩))) w := by
  simp [execOp, hx, go_sem]
theorem run_fieldAo {ρ : Operand → Value} {s o k : Nat} (hx : ρ x = .pointer (some ⟨s, o, none⟩)) (hk : k < 7) : (execOp ρ ⟨d, .fieldAddr 43 x k, ty, pos, af, g⟩).run Try.prog w = .ok (.value (.pointer (some ⟨s, o + k, none⟩))) w := by
  match k, hk with
  | 0, _ => simp [execOp, hx, go_sem]
  | 1, _ => simp [execOp, hx, go_sem]
  | 2, _ => simp [execOp, hx, go_sem]
  | 3, _ => simp [execOp, hx, go_sem]
  | 4, _ => simp [execOp, hx, go_sem]
  | 5, _ => simp [execOp, hx, go_sem]
  | 6, _ => simp [execOp, hx, go_sem]
theorem run_eqI {ρ : Operand → Value} {b c : Int} (hx : ρ x = .int .i64 b) (hy : ρ y = .int .i64 c) : (execOp ρ ⟨d, .binOp .eql 3 x y 3, ty, pos, af, g⟩).run Try.prog w = .ok (.value (.bool (b == c))) w := by
  simp [execOp, hx, hy, go_sem]
theorem run_lssI {ρ : Operand → Value} {b c : Int} (hx : ρ x = .int .i64 b) (hy : ρ y = .int .i64 c) : (execOp ρ ⟨d, .binOp .lss 3 x y 3, ty, pos, af, g⟩).run Try.prog w = .ok (.value (.bool (decide (b < c)))) w := by
  simp [execOp, hx, hy, go_sem]
theorem run_gtrI {ρ : Operand → Value} {b c : Int} (hx : ρ x = .int .i64 b) (hy : ρ y = .int .i64 c) : (execOp ρ ⟨d, .binOp .gtr 3 x y 3, ty, pos, af, g⟩).run Try.prog w = .ok (.value (.bool (decide (c < b)))) w := by
  simp [execOp, hx, hy, go_sem]
theorem run_addN {ρ : Operand → Value} {m k : Nat} (hx : ρ x = .int .i64 (m : Int)) (hy : ρ y = .int .i64 (k : Int)) (h : m + k ≤ 9223372036854775807) : (execOp ρ ⟨d, .binOp .add 3 x y 3, ty, pos, af, g⟩).run Try.prog w = .ok (.value (.int .i64 ((m + k : Nat) : Int))) w := by
  have h1 : (m : Int) + (k : Int) ≤ 9223372036854775807 := by omega
  have h2 : (-9223372036854775808 : Int) ≤ (m : Int) + (k : Int) := by omega
  simp [execOp, hx, hy, go_sem, IntWalk.i64_in _ ⟨h2, h1⟩]
theorem run_subN {ρ : Operand → Value} {m k : Nat} (hx : ρ x = .int .i64 (m : Int)) (hy : ρ y = .int .i64 (k : Int)) (h : k ≤ m) (hm : m ≤ 9223372036854775807) : (execOp ρ ⟨d, .binOp .sub 3 x y 3, ty, pos, af, g⟩).run Try.prog w = .ok (.value (.int .i64 ((m - k : Nat) : Int))) w := by
  have h1 : (m : Int) - (k : Int) ≤ 9223372036854775807 := by omega
  have h2 : (-9223372036854775808 : Int) ≤ (m : Int) - (k : Int) := by omega
  have h3 : ((m - k : Nat) : Int) = (m : Int) - (k : Int) := by omega
  rw [h3]
  simp [execOp, hx, hy, go_sem, IntWalk.i64_in _ ⟨h2, h1⟩]
theorem run_lenS {ρ : Operand → Value} {A : Option Addr} {n c : Nat} {t : TypeId} (h : Try.prog.underlying t = some (.slice (Try.prog.elem t))) (hx : ρ x = .slice A n c) : (execOp ρ ⟨d, .call { callee := .builtin .len, args := #[x], argTypes := #[t] }, ty, pos, af, g⟩).run Try.prog w = .ok (.value (.int .i64 (n : Int))) w := by
  have hl := run_len_slice (P := Try.prog) (w := w) t ty A n c h
  clear h
  simp [hx, go_sem, hl]
theorem run_buildR {ρ : Operand → Value} {v : RV} (hx : ρ x = v.val) : (execOp ρ ⟨d, .buildSlice 23 1 #[(0, x)], ty, pos, af, g⟩).run Try.prog w = .ok (.value (.slice (some ⟨w.heap.size, 0, none⟩) 1 1)) (w.alloc v.obj) := by
  simp [execOp, hx, go_sem]
end
end Go.Proofs.Ytkhifljgocopoac
/-
  WHAT SINGLE OPERATIONS DO, further: verdicts (for regions that draw their order).
-/
namespace Go.Proofs.Ytkhifljgocopoac
open Go.RowKit
/-- cells of a verdict that begins here -/
def VdAt (w : World) (b o : Nat) (r : Int × Int) : Prop := ∀ i c, (vdCells r)[i]? = some c → w.cell? ⟨b, o + i, none⟩ = some c
theorem VdAt.below {w w' : World} {b o B : Nat} {r : Int × Int} (h : VdAt w b o r) (hb : Below B w w') (hs : b < B) : VdAt w' b o r := fun i c hc => by
  rw [hb.cell (p := ⟨b, o + i, none⟩) hs]; exact h i c hc
theorem vdAt_of {w : World} {b o n : Nat} {vs : List (Int × Int)} (h : Row 2 vdCells w (some ⟨b, o, none⟩) n vs) {j : Nat} {v : Int × Int} (hv : vs[j]? = some v) : VdAt w b (o + j * 2) v := by
  have hj : j < n := by rw [h.1]; exact (List.getElem?_eq_some_iff.1 hv).1
  obtain ⟨b', o', v', e, _, hv', hc⟩ := Row.at h hj
  cases e
  rw [hv] at hv'
  cases hv'
  exact hc
section
variable {w : World} {d : Option Tmp} {ty : TypeId} {pos : String} {af : Array Edge} {g : Option (Nat × Bool)} {x y : Operand}
theorem run_indexV {ρ : Operand → Value} {b o n c k : Nat} (hx : ρ x = .slice (some ⟨b, o, none⟩) n c) (hy : ρ y = .int .i64 (k : Int)) (hk : k < n) : (execOp ρ ⟨d, .indexAddr 25 x y, ty, pos, af, g⟩).run Try.prog w = .ok (.value (.pointer (some ⟨b, o + k * 2, none⟩))) w := by
  have h1 : (k : Int) < (n : Int) := by omega
  have h0 : (0 : Int) ≤ (k : Int) := by omega
  simp [execOp, hx, hy, go_sem, h1]
theorem run_fieldVo {ρ : Operand → Value} {s o k : Nat} (hx : ρ x = .pointer (some ⟨s, o, none⟩)) (hk : k < 2) : (execOp ρ ⟨d, .fieldAddr 48 x k, ty, pos, af, g⟩).run Try.prog w = .ok (.value (.pointer (some ⟨s, o + k, none⟩))) w := by
  match k, hk with
  | 0, _ => simp [execOp, hx, go_sem]
  | 1, _ => simp [execOp, hx, go_sem]
theorem run_loadErr {ρ : Operand → Value} {p : Addr} {i : Int} (hx : ρ x = .pointer (some p)) (hc : w.cell? p = some (.int .i64 i)) : (execOp ρ ⟨d, .load 44 x, ty, pos, af, g⟩).run Try.prog w = .ok (.value (.int .i64 i)) w := by
  simp [execOp, hx, go_sem, hc]
end
/-- a list of the fids of this act -/
def IsF (fs : List Int) : Value → World → Prop := fun v W => ∃ (A : Option Addr) (c : Nat), v = .slice A fs.length c ∧ ∃ B, W.ownsRow B 3 1 (.slice A fs.length c) fs.length (fs.map fun f => Value.int .i64 f)
theorem isF_below {fs : List Int} {v : Value} {W W' : World} (hb : Below W.heap.size W W') (h : IsF fs v W) : IsF fs v W' := by
  obtain ⟨A, c, e, B, ho⟩ := h
  exact ⟨A, c, e, B, own_below ho hb (Nat.le_refl _)⟩
end Go.Proofs.Ytkhifljgocopoac
/-
  THE REFERENCE's Has.
-/
namespace Go.Proofs.Ytkhifljgocopoac
open Go.RowKit

theorem mem_take_step {fs : List Int} {k : Nat} {x t : Int} (h : fs[k]? = some x) (hne : x ≠ t) (hk : t ∉ fs.take k) : t ∉ fs.take (k + 1) := by
  have hl := (List.getElem?_eq_some_iff.1 h).1
  have e : fs[k] = x := by rw [List.getElem?_eq_getElem hl] at h; exact Option.some.inj h
  rw [List.take_succ_eq_append_getElem hl, e, List.mem_append, List.mem_singleton]
  rintro (h1 | h1)
  · exact hk h1
  · exact hne h1.symm
set_option maxHeartbeats 1000000 in
theorem refHas_any (A : Option Addr) (n c : Nat) (fs : List Int) (t : Int) (w : World) (B : Nat) (hv : w.ownsRow B 3 1 (.slice A n c) n (fs.map fun f => Value.int .i64 f)) (hn : n ≤ 140737488355328) :
    Calls Try.prog 16 #[.slice A n c, .int .i64 t] w fun e w' => e = .returned (.bool (decide (t ∈ fs))) ∧ w' = w := by
  have hrow : Row 1 (fun f : Int => [Value.int .i64 f]) w A n fs := Row.ofOwn (fun _ => rfl) (by decide) (by rw [fm_ints]; exact hv)
  have HR : Hid (Row 1 (fun f : Int => [Value.int .i64 f]) w A n fs) := hrow
  clear hv hrow
  go_enter Try.func16, Try.ntmps16
  go_wp2
  go_loop [9] (fun i => ∃ k : Nat, k ≤ n ∧ i = .int .i64 k ∧ Hid (t ∉ fs.take k)) (fun i => n - (intOf i).toNat)
  case atStart => exact ⟨0, Nat.zero_le _, rfl, by show t ∉ _; simp⟩
  case round =>
    obtain ⟨k, hk, rfl, HN⟩ := hrel
    by_cases hlt : k < n
    · obtain ⟨b, o, x, rfl, _, hx, hc⟩ := Row.at HR.out hlt
      have c0 := hc 0 _ rfl
      simp only [Nat.mul_one, Nat.add_zero] at c0
      have HX : Hid (fs[k]? = some x) := hx
      clear hx hc
      by_cases hxt : x = t
      · have q : (x == t) = true := by simp [hxt]
        have HM : Hid (decide (t ∈ fs) = true) := by show _ = _; rw [decide_eq_true_eq, ← hxt]; exact List.mem_of_getElem? HX.out
        clear hxt
        go_wp2
        go_ret
        exact ⟨ret_bool HM.out.symm, rfl⟩
      · have q : (x == t) = false := by simp [hxt]
        have HM : Hid (t ∉ fs.take (k + 1)) := mem_take_step HX.out hxt HN.out
        clear hxt
        go_wp2
        go_round
        case rel => exact ⟨k + 1, by omega, by go_num, HM⟩
        case measure => simp [intOf]; omega
    · have HM : Hid (decide (t ∈ fs) = false) := by
        show _ = _
        rw [decide_eq_false_iff_not]
        have h := HN.out
        rw [List.take_of_length_le (by rw [← HR.out.1]; omega)] at h
        exact h
      go_wp2
      go_ret
      exact ⟨ret_bool HM.out.symm, rfl⟩

end Go.Proofs.Ytkhifljgocopoac
/-
  THE LAW CertRests, walked: of any tree and any log it answers true, and all that was there stays.
-/
namespace Go.Proofs.Ytkhifljgocopoac
open Go.RowKit
open Go.ChangeMaps (setBlock)
def VRA (gv : Nat) (ov : Nat) (m : Nat) (d : Nat) (k : Nat) (vk : Int × Int) : Nat → Value → World → Prop
  | 0 => IsW (.slice (some ⟨gv, ov, none⟩) m d)
  | 1 => IsW (.int .i64 ((k : Nat) : Int))
  | 2 => IsW (.pointer (some ⟨gv, ov + k * 2, none⟩))
  | 3 => IsW (.pointer (some ⟨gv, ov + k * 2, none⟩))
  | 4 => IsW (.int .i64 (vk.1))
  | 5 => IsW (.bool false)
  | 6 => IsW (.bool false)
  | 7 => IsW (undef)
  | 8 => IsW (undef)
  | 9 => IsW (undef)
  | 10 => IsW (undef)
  | 11 => IsW (undef)
  | 12 => IsW (undef)
  | 13 => IsW (undef)
  | 14 => IsW (undef)
  | 15 => IsW (undef)
  | 16 => IsW (undef)
  | 17 => IsW (undef)
  | 18 => IsW (undef)
  | 19 => IsW (undef)
  | 20 => IsW (.bool false)
  | 21 => IsW (.bool false)
  | 22 => IsW (undef)
  | 23 => IsW (undef)
  | 24 => IsW (undef)
  | 25 => IsW (undef)
  | 26 => IsW (undef)
  | 27 => IsW (undef)
  | 28 => IsW (.bool false)
  | _ => fun _ _ => True
theorem VRA_stays (gv : Nat) (ov : Nat) (m : Nat) (d : Nat) (k : Nat) (vk : Int × Int) : ∀ i, Stays (VRA gv ov m d k vk i) := by
  intro i v W W' hb h
  match i, h with
  | 0, h => exact h
  | 1, h => exact h
  | 2, h => exact h
  | 3, h => exact h
  | 4, h => exact h
  | 5, h => exact h
  | 6, h => exact h
  | 7, h => exact h
  | 8, h => exact h
  | 9, h => exact h
  | 10, h => exact h
  | 11, h => exact h
  | 12, h => exact h
  | 13, h => exact h
  | 14, h => exact h
  | 15, h => exact h
  | 16, h => exact h
  | 17, h => exact h
  | 18, h => exact h
  | 19, h => exact h
  | 20, h => exact h
  | 21, h => exact h
  | 22, h => exact h
  | 23, h => exact h
  | 24, h => exact h
  | 25, h => exact h
  | 26, h => exact h
  | 27, h => exact h
  | 28, h => exact h
  | k + 29, h => trivial
def VRB (gv : Nat) (ov : Nat) (b : Nat) (o : Nat) (m : Nat) (d : Nat) (q : Nat) (iu : Nat) (k : Nat) (vk : Int × Int) (vi : Int × Int) (ri : RV) (rk : RV) (xi : M.Rec) : Nat → Value → World → Prop
  | 0 => IsW (.slice (some ⟨gv, ov, none⟩) m d)
  | 1 => IsW (.int .i64 ((k : Nat) : Int))
  | 2 => IsW (.pointer (some ⟨gv, ov + k * 2, none⟩))
  | 3 => IsW (.pointer (some ⟨gv, ov + k * 2, none⟩))
  | 4 => IsW (.int .i64 (vk.1))
  | 5 => IsW (.bool true)
  | 6 => IsW (.bool true)
  | 7 => IsW (.slice (some ⟨b, o, none⟩) m q)
  | 8 => IsW (.int .i64 ((iu : Nat) : Int))
  | 9 => IsW (.pointer (some ⟨b, o + iu * 9, none⟩))
  | 10 => IsW (.pointer (some ⟨b, o + iu * 9, none⟩))
  | 11 => IsW (AV.val ri.a)
  | 12 => IsF (M.fidsS xi.act)
  | 13 => IsW (.slice (some ⟨b, o, none⟩) m q)
  | 14 => IsW (.int .i64 ((k : Nat) : Int))
  | 15 => IsW (.pointer (some ⟨b, o + k * 9, none⟩))
  | 16 => IsW (.pointer (some ⟨b, o + k * 9, none⟩))
  | 17 => IsW (.pointer (some ⟨b, o + k * 9 + 1, none⟩))
  | 18 => IsW (.int .i64 (rk.a.fid))
  | 19 => IsW (.bool true)
  | 20 => IsW (.bool true)
  | 21 => IsW (.bool true)
  | 22 => IsW (.slice (some ⟨gv, ov, none⟩) m d)
  | 23 => IsW (.int .i64 ((iu : Nat) : Int))
  | 24 => IsW (.pointer (some ⟨gv, ov + iu * 2, none⟩))
  | 25 => IsW (.pointer (some ⟨gv, ov + iu * 2, none⟩))
  | 26 => IsW (.int .i64 (vi.1))
  | 27 => IsW (.bool false)
  | 28 => IsW (.bool false)
  | _ => fun _ _ => True
theorem VRB_stays (gv : Nat) (ov : Nat) (b : Nat) (o : Nat) (m : Nat) (d : Nat) (q : Nat) (iu : Nat) (k : Nat) (vk : Int × Int) (vi : Int × Int) (ri : RV) (rk : RV) (xi : M.Rec) : ∀ i, Stays (VRB gv ov b o m d q iu k vk vi ri rk xi i) := by
  intro i v W W' hb h
  match i, h with
  | 0, h => exact h
  | 1, h => exact h
  | 2, h => exact h
  | 3, h => exact h
  | 4, h => exact h
  | 5, h => exact h
  | 6, h => exact h
  | 7, h => exact h
  | 8, h => exact h
  | 9, h => exact h
  | 10, h => exact h
  | 11, h => exact h
  | 12, h => exact isF_below hb h
  | 13, h => exact h
  | 14, h => exact h
  | 15, h => exact h
  | 16, h => exact h
  | 17, h => exact h
  | 18, h => exact h
  | 19, h => exact h
  | 20, h => exact h
  | 21, h => exact h
  | 22, h => exact h
  | 23, h => exact h
  | 24, h => exact h
  | 25, h => exact h
  | 26, h => exact h
  | 27, h => exact h
  | 28, h => exact h
  | k + 29, h => trivial
def VRC (gv : Nat) (ov : Nat) (b : Nat) (o : Nat) (m : Nat) (d : Nat) (q : Nat) (iu : Nat) (k : Nat) (vk : Int × Int) (ri : RV) (rk : RV) (xi : M.Rec) : Nat → Value → World → Prop
  | 0 => IsW (.slice (some ⟨gv, ov, none⟩) m d)
  | 1 => IsW (.int .i64 ((k : Nat) : Int))
  | 2 => IsW (.pointer (some ⟨gv, ov + k * 2, none⟩))
  | 3 => IsW (.pointer (some ⟨gv, ov + k * 2, none⟩))
  | 4 => IsW (.int .i64 (vk.1))
  | 5 => IsW (.bool true)
  | 6 => IsW (.bool true)
  | 7 => IsW (.slice (some ⟨b, o, none⟩) m q)
  | 8 => IsW (.int .i64 ((iu : Nat) : Int))
  | 9 => IsW (.pointer (some ⟨b, o + iu * 9, none⟩))
  | 10 => IsW (.pointer (some ⟨b, o + iu * 9, none⟩))
  | 11 => IsW (AV.val ri.a)
  | 12 => IsF (M.fidsS xi.act)
  | 13 => IsW (.slice (some ⟨b, o, none⟩) m q)
  | 14 => IsW (.int .i64 ((k : Nat) : Int))
  | 15 => IsW (.pointer (some ⟨b, o + k * 9, none⟩))
  | 16 => IsW (.pointer (some ⟨b, o + k * 9, none⟩))
  | 17 => IsW (.pointer (some ⟨b, o + k * 9 + 1, none⟩))
  | 18 => IsW (.int .i64 (rk.a.fid))
  | 19 => IsW (.bool false)
  | 20 => IsW (.bool false)
  | 21 => IsW (.bool false)
  | 22 => IsW (undef)
  | 23 => IsW (undef)
  | 24 => IsW (undef)
  | 25 => IsW (undef)
  | 26 => IsW (undef)
  | 27 => IsW (undef)
  | 28 => IsW (.bool false)
  | _ => fun _ _ => True
theorem VRC_stays (gv : Nat) (ov : Nat) (b : Nat) (o : Nat) (m : Nat) (d : Nat) (q : Nat) (iu : Nat) (k : Nat) (vk : Int × Int) (ri : RV) (rk : RV) (xi : M.Rec) : ∀ i, Stays (VRC gv ov b o m d q iu k vk ri rk xi i) := by
  intro i v W W' hb h
  match i, h with
  | 0, h => exact h
  | 1, h => exact h
  | 2, h => exact h
  | 3, h => exact h
  | 4, h => exact h
  | 5, h => exact h
  | 6, h => exact h
  | 7, h => exact h
  | 8, h => exact h
  | 9, h => exact h
  | 10, h => exact h
  | 11, h => exact h
  | 12, h => exact isF_below hb h
  | 13, h => exact h
  | 14, h => exact h
  | 15, h => exact h
  | 16, h => exact h
  | 17, h => exact h
  | 18, h => exact h
  | 19, h => exact h
  | 20, h => exact h
  | 21, h => exact h
  | 22, h => exact h
  | 23, h => exact h
  | 24, h => exact h
  | 25, h => exact h
  | 26, h => exact h
  | 27, h => exact h
  | 28, h => exact h
  | k + 29, h => trivial

set_option maxRecDepth 8000 in
set_option maxHeartbeats 8000000 in
theorem rests_law_any (A C : Option Addr) (n c p q : Nat) (vs : List NV) (xs : List M.Nd) (next ver : Int) (rvs : List RV) (recs : List M.Rec) (w : World) (ht : Tree w A n vs xs) (hsm : ∀ x ∈ xs, Small x) (hn : (n + 2) * 72 ≤ 140737488355328) (hr : TreeR w C p rvs recs) (hsr : ∀ x ∈ recs, SmallA x.act) (hp : p * 104 ≤ 140737488355328) :
    Calls Try.prog 5 #[.slice A n c, .int .i64 next, .int .i64 ver, .slice C p q] w fun e w' => e = .returned (.bool true) ∧ Below w.heap.size w w' := by
  have HT : Hid (Tree w A n vs xs ∧ (∀ x ∈ xs, Small x) ∧ TreeR w C p rvs recs ∧ (∀ x ∈ recs, SmallA x.act)) := ⟨ht, hsm, hr, hsr⟩
  have HLN : Hid (p = recs.length ∧ n = xs.length) := ⟨hr.len, by rw [ht.1.1, ht.2.1]⟩
  clear ht hsm hr hsr
  go_enter Try.func5, Try.ntmps5
  go_wp2_with (fail)
  refine (alive6_any _).mono ?_
  rintro e w1 ⟨rfl, hb1⟩
  have H1 : Hid (Below w.heap.size w w1) := hb1
  clear hb1
  by_cases v0 : ver < 0
  case' pos =>
    have dv0 : decide (ver < 0) = true := decide_eq_true v0
    clear v0
    go_wp2_with (fail)
    go_ret
    exact ⟨rfl, H1.out⟩
  have dv0 : decide (ver < 0) = false := decide_eq_false v0
  by_cases v1 : 1000000 < ver
  case' pos =>
    have dv1 : decide (1000000 < ver) = true := decide_eq_true v1
    clear v1
    go_wp2_with (fail)
    go_ret
    exact ⟨rfl, H1.out⟩
  have dv1 : decide (1000000 < ver) = false := decide_eq_false v1
  by_cases n0 : next < 0
  case' pos =>
    have dn0 : decide (next < 0) = true := decide_eq_true n0
    clear n0
    go_wp2_with (fail)
    go_ret
    exact ⟨rfl, H1.out⟩
  have dn0 : decide (next < 0) = false := decide_eq_false n0
  by_cases n1 : 1000000 < next
  case' pos =>
    have dn1 : decide (1000000 < next) = true := decide_eq_true n1
    clear n1
    go_wp2_with (fail)
    go_ret
    exact ⟨rfl, H1.out⟩
  have dn1 : decide (1000000 < next) = false := decide_eq_false n1
  have HNV : Hid (0 ≤ next ∧ next ≤ 1000000 ∧ 0 ≤ ver ∧ ver ≤ 1000000) := ⟨by omega, by omega, by omega, by omega⟩
  clear v0 v1 n0 n1
  go_wp2_with (fail)
  refine (rises_any A n c vs xs _ (HT.out.1.below (Nat.le_refl _) H1.out) (by omega) HT.out.2.1).mono ?_
  rintro e w2 ⟨rfl, hb2⟩
  have H2 : Hid (Below w.heap.size w w2) := H1.out.trans (hb2.mono H1.out.size)
  clear hb2
  cases hrb : riseB xs
  case' false =>
    clear hrb
    go_wp2_with (fail)
    go_ret
    exact ⟨rfl, H2.out⟩
  have HR : Hid (M.Rise xs ∧ Good xs) := ⟨riseB_iff.1 hrb, riseB_iff.1 hrb, HT.out.2.1, by rw [← HLN.out.2]; exact hn⟩
  clear hrb dv0 dv1 dn0 dn1 H1
  go_wp2_with (fail)
  refine (judge_all A C n c p q vs xs next ver rvs recs _ (HT.out.1.below (Nat.le_refl _) H2.out) HR.out.2 (HT.out.2.2.1.below (Nat.le_refl _) H2.out) HT.out.2.2.2 hp HNV.out.1 HNV.out.2.1 HNV.out.2.2.1 HNV.out.2.2.2).mono ?_
  rintro e w3 ⟨V, m, d, D, dp, dq, davs, A', n', c', us', rfl, hv, hd, ht', hb3⟩
  have hm : m = p := by
    have h := own_len vd_len (by decide) hv
    rw [M.ver_len] at h
    rw [h, HLN.out.1]
  subst hm
  have H3 : Hid (Below w.heap.size w w3 ∧ Row 2 vdCells w3 V m (M.verS (M.begS xs next ver) recs)) := ⟨H2.out.trans (hb3.mono H2.out.size), Row.ofOwn vd_len (by decide) hv⟩
  clear hv hd ht' hb3 H2
  go_wp2_with (fail)
  go_loopw [53] (fun t wr => ∃ iu : Nat, iu ≤ m ∧ t = .int .i64 iu ∧ Below w3.heap.size w3 wr) (fun t _ => m - (intOf t).toNat)
  case atStart => exact ⟨0, Nat.zero_le _, rfl, Below.refl _ _⟩
  case round =>
    obtain ⟨iu, hi, rfl, hbr⟩ := hrel
    rename World => wo
    have hzo := hbr.size
    by_cases hlt : iu < m
    case' neg =>
      have HE : Hid (Below w.heap.size w wo) := H3.out.1.trans (hbr.mono H3.out.1.size)
      go_wp2_with (fail)
      go_ret
      exact ⟨rfl, HE.out⟩
    have HBO : Hid (Below w3.heap.size w3 wo ∧ Below w.heap.size w wo) := ⟨hbr, H3.out.1.trans (hbr.mono H3.out.1.size)⟩
    clear hbr
    go_wp2_with (fail)
    go_loopw [57] (fun t wr => ∃ k : Nat, k ≤ iu ∧ t = .int .i64 k ∧ Below wo.heap.size wo wr) (fun t _ => iu - (intOf t).toNat)
    case atStart => exact ⟨0, Nat.zero_le _, rfl, Below.refl _ _⟩
    case round =>
      obtain ⟨k, hk, rfl, hbq⟩ := hrel
      have hzq := hbq.size
      by_cases hkl : k < iu
      case' neg =>
        have HE : Hid (Below w3.heap.size w3 wr) := HBO.out.1.trans (hbq.mono hzo)
        go_wp2_with (fail)
        go_roundw
        case rel => exact ⟨iu + 1, by omega, by go_num, HE.out⟩
        case measure => simp [intOf]; omega
      have hbw : Below w.heap.size w wr := HBO.out.2.trans (hbq.mono HBO.out.2.size)
      have hb3r : Below w3.heap.size w3 wr := HBO.out.1.trans (hbq.mono hzo)
      have hrow := H3.out.2.below (Nat.le_refl _) hb3r
      have hlog := HT.out.2.2.1.below (Nat.le_refl _) hbw
      obtain ⟨gv, ov, vi, rfl, hgv, hvi, _⟩ := Row.at hrow hlt
      obtain ⟨_, _, vk, e0, _, hvk, _⟩ := Row.at hrow (show k < m by omega)
      cases e0
      obtain ⟨b, o, ri, rfl, hgb, hri, _⟩ := Row.at hlog.1 hlt
      obtain ⟨_, _, rk, e0, _, hrk, _⟩ := Row.at hlog.1 (show k < m by omega)
      cases e0
      obtain ⟨xi, hxi, hci⟩ := hlog.2.at hri
      obtain ⟨xk, hxk, hck⟩ := hlog.2.at hrk
      have HX : Hid (VdAt wr gv (ov + iu * 2) vi ∧ VdAt wr gv (ov + k * 2) vk ∧ RecAt wr b (o + iu * 9) ri ∧ RecAt wr b (o + k * 9) rk ∧ ContR wr ri xi ∧ gv < wr.heap.size ∧ b < wr.heap.size) := ⟨vdAt_of hrow hvi, vdAt_of hrow hvk, Recs.recAt hlog.1 hri, Recs.recAt hlog.1 hrk, hci, hgv, hgb⟩
      have HLAW : Hid (vk.1 ≠ 0 → rk.a.fid ∈ M.fidsS xi.act → vi.1 ≠ 0) := fun h1 h2 => by
        have e1 := (M.ver_at (M.begS xs next ver) recs hxk).symm.trans hvk
        have e2 := (M.ver_at (M.begS xs next ver) recs hxi).symm.trans hvi
        cases e1; cases e2
        exact M.rests_law (M.begS xs next ver) recs hkl hxk hxi h1 (by rw [← hck.1.2.1]; exact h2)
      clear hrow hlog hvi hvk hri hrk hxi hxk hci hck hgv hgb
      go_upto_region 14 with (fail)
      go_cut [88] from 60 to 88 (fun t W => t = .bool false ∧ Below wr.heap.size wr W)
      case first =>
        have hbd : ∀ W, Below wr.drew.heap.size wr.drew W → Below wr.heap.size wr W := fun W hb => (Below.refl _ _).drew.trans hb
        have HVI : ∀ W, Below wr.drew.heap.size wr.drew W → VdAt W gv (ov + iu * 2) vi := fun W hb => HX.out.1.below (hbd W hb) HX.out.2.2.2.2.2.1
        have HVK : ∀ W, Below wr.drew.heap.size wr.drew W → VdAt W gv (ov + k * 2) vk := fun W hb => HX.out.2.1.below (hbd W hb) HX.out.2.2.2.2.2.1
        have HRI : ∀ W, Below wr.drew.heap.size wr.drew W → RecAt W b (o + iu * 9) ri := fun W hb => HX.out.2.2.1.below (hbd W hb) HX.out.2.2.2.2.2.2
        have HRK : ∀ W, Below wr.drew.heap.size wr.drew W → RecAt W b (o + k * 9) rk := fun W hb => HX.out.2.2.2.1.below (hbd W hb) HX.out.2.2.2.2.2.2
        have HCI : ∀ W, Below wr.drew.heap.size wr.drew W → ContA W ri.a xi.act := fun W hb => (HX.out.2.2.2.2.1.below (Nat.le_refl _) (hbd W hb)).1
        by_cases h1 : vk.1 = 0
        · have rb1 : ((vk.1 : Int) != (0 : Int)) = false := by simp [h1]
          refine wp_region_vals (VRA gv ov m d k vk) (by kernel_rfl) (by kernel_rfl) (VRA_stays gv ov m d k vk) ?_ ?_
          · intro j hj
            match j, hj with
            | 0, _ =>
              refine StepAt.by rfl fun a' W hf hb hd => ?_
              exact .inl ⟨want_none, does_move ((hf.keeps 9 (by kernel_rfl)).trans rfl) ⟨Below.refl _ _, rfl⟩⟩
            | 1, _ =>
              refine StepAt.by rfl fun a' W hf hb hd => ?_
              exact .inl ⟨want_none, does_move ((hf.keeps 14 (by kernel_rfl)).trans rfl) ⟨Below.refl _ _, rfl⟩⟩
            | 2, _ =>
              refine StepAt.by rfl fun a' W hf hb hd => ?_
              exact .inl ⟨want_none, does_run (run_indexV (hd 0 (by kernel_rfl)) (hd 1 (by kernel_rfl)) (by omega)) ⟨Below.refl _ _, rfl⟩⟩
            | 3, _ =>
              refine StepAt.by rfl fun a' W hf hb hd => ?_
              exact .inl ⟨want_none, does_run (run_fieldVo (hd 2 (by kernel_rfl)) (by decide)) ⟨Below.refl _ _, rfl⟩⟩
            | 4, _ =>
              refine StepAt.by rfl fun a' W hf hb hd => ?_
              exact .inl ⟨want_none, does_run (run_loadErr (hd 3 (by kernel_rfl)) ((HVK W hb) 0 _ rfl)) ⟨Below.refl _ _, rfl⟩⟩
            | 5, _ =>
              refine StepAt.by rfl fun a' W hf hb hd => ?_
              exact .inl ⟨want_none, does_run (run_neqE (hd 4 (by kernel_rfl)) rfl) ⟨Below.refl _ _, by show Value.bool _ = _; rw [rb1]⟩⟩
            | 6, _ =>
              refine StepAt.by rfl fun a' W hf hb hd => ?_
              exact .inl ⟨want_none, does_move (hd 5 (by kernel_rfl)) ⟨Below.refl _ _, rfl⟩⟩
            | 7, _ =>
              refine StepAt.by rfl fun a' W hf hb hd => ?_
              exact .inr ⟨want_some (k := 6) (t := 66) rfl (hd 6 (by kernel_rfl)), rfl⟩
            | 8, _ =>
              refine StepAt.by rfl fun a' W hf hb hd => ?_
              exact .inr ⟨want_some (k := 6) (t := 66) rfl (hd 6 (by kernel_rfl)), rfl⟩
            | 9, _ =>
              refine StepAt.by rfl fun a' W hf hb hd => ?_
              exact .inr ⟨want_some (k := 6) (t := 66) rfl (hd 6 (by kernel_rfl)), rfl⟩
            | 10, _ =>
              refine StepAt.by rfl fun a' W hf hb hd => ?_
              exact .inr ⟨want_some (k := 6) (t := 66) rfl (hd 6 (by kernel_rfl)), rfl⟩
            | 11, _ =>
              refine StepAt.by rfl fun a' W hf hb hd => ?_
              exact .inr ⟨want_some (k := 6) (t := 66) rfl (hd 6 (by kernel_rfl)), rfl⟩
            | 12, _ =>
              refine StepAt.by rfl fun a' W hf hb hd => ?_
              exact .inr ⟨want_some (k := 6) (t := 66) rfl (hd 6 (by kernel_rfl)), rfl⟩
            | 13, _ =>
              refine StepAt.by rfl fun a' W hf hb hd => ?_
              exact .inr ⟨want_some (k := 6) (t := 66) rfl (hd 6 (by kernel_rfl)), rfl⟩
            | 14, _ =>
              refine StepAt.by rfl fun a' W hf hb hd => ?_
              exact .inr ⟨want_some (k := 6) (t := 66) rfl (hd 6 (by kernel_rfl)), rfl⟩
            | 15, _ =>
              refine StepAt.by rfl fun a' W hf hb hd => ?_
              exact .inr ⟨want_some (k := 6) (t := 66) rfl (hd 6 (by kernel_rfl)), rfl⟩
            | 16, _ =>
              refine StepAt.by rfl fun a' W hf hb hd => ?_
              exact .inr ⟨want_some (k := 6) (t := 66) rfl (hd 6 (by kernel_rfl)), rfl⟩
            | 17, _ =>
              refine StepAt.by rfl fun a' W hf hb hd => ?_
              exact .inr ⟨want_some (k := 6) (t := 66) rfl (hd 6 (by kernel_rfl)), rfl⟩
            | 18, _ =>
              refine StepAt.by rfl fun a' W hf hb hd => ?_
              exact .inr ⟨want_some (k := 6) (t := 66) rfl (hd 6 (by kernel_rfl)), rfl⟩
            | 19, _ =>
              refine StepAt.by rfl fun a' W hf hb hd => ?_
              exact .inr ⟨want_some (k := 6) (t := 66) rfl (hd 6 (by kernel_rfl)), rfl⟩
            | 20, _ =>
              refine StepAt.by rfl fun a' W hf hb hd => ?_
              exact .inl ⟨want_none, does_pick (b := false) (hd 6 (by kernel_rfl)) rfl ⟨Below.refl _ _, rfl⟩⟩
            | 21, _ =>
              refine StepAt.by rfl fun a' W hf hb hd => ?_
              exact .inl ⟨want_none, does_move (hd 20 (by kernel_rfl)) ⟨Below.refl _ _, rfl⟩⟩
            | 22, _ =>
              refine StepAt.by rfl fun a' W hf hb hd => ?_
              exact .inr ⟨want_some (k := 21) (t := 81) rfl (hd 21 (by kernel_rfl)), rfl⟩
            | 23, _ =>
              refine StepAt.by rfl fun a' W hf hb hd => ?_
              exact .inr ⟨want_some (k := 21) (t := 81) rfl (hd 21 (by kernel_rfl)), rfl⟩
            | 24, _ =>
              refine StepAt.by rfl fun a' W hf hb hd => ?_
              exact .inr ⟨want_some (k := 21) (t := 81) rfl (hd 21 (by kernel_rfl)), rfl⟩
            | 25, _ =>
              refine StepAt.by rfl fun a' W hf hb hd => ?_
              exact .inr ⟨want_some (k := 21) (t := 81) rfl (hd 21 (by kernel_rfl)), rfl⟩
            | 26, _ =>
              refine StepAt.by rfl fun a' W hf hb hd => ?_
              exact .inr ⟨want_some (k := 21) (t := 81) rfl (hd 21 (by kernel_rfl)), rfl⟩
            | 27, _ =>
              refine StepAt.by rfl fun a' W hf hb hd => ?_
              exact .inr ⟨want_some (k := 21) (t := 81) rfl (hd 21 (by kernel_rfl)), rfl⟩
            | 28, _ =>
              refine StepAt.by rfl fun a' W hf hb hd => ?_
              exact .inl ⟨want_none, does_pick (b := false) (hd 21 (by kernel_rfl)) rfl ⟨Below.refl _ _, rfl⟩⟩
            | k + 29, hi => exact absurd hi (Nat.not_lt.2 (Nat.le_add_left _ _))
          · intro a' W hf hb hv
            have hlast : a'.eval (.tmp 88) = .bool false := hv 28 (by decide)
            have hl := hf.lit (fun t => decide (60 ≤ t) && decide (t ≤ 88)) (by kernel_rfl)
            simp only [overL, Nat.reduceAdd, Nat.reduceLeDiff, decide_true, decide_false, Bool.and_true, Bool.and_false] at hl
            rw [hl]
            clear hl
            go_wp2_with (fail)
            go_meet
            case rel => exact ⟨hlast, hb⟩
        · have rb1 : ((vk.1 : Int) != (0 : Int)) = true := by simp [h1]
          by_cases h2 : rk.a.fid ∈ M.fidsS xi.act
          · have rb2 : decide (rk.a.fid ∈ M.fidsS xi.act) = true := decide_eq_true h2
            have rb3 : ((vi.1 : Int) == (0 : Int)) = false := by simp [HLAW.out h1 h2]
            refine wp_region_vals (VRB gv ov b o m d q iu k vk vi ri rk xi) (by kernel_rfl) (by kernel_rfl) (VRB_stays gv ov b o m d q iu k vk vi ri rk xi) ?_ ?_
            · intro j hj
              match j, hj with
              | 0, _ =>
                refine StepAt.by rfl fun a' W hf hb hd => ?_
                exact .inl ⟨want_none, does_move ((hf.keeps 9 (by kernel_rfl)).trans rfl) ⟨Below.refl _ _, rfl⟩⟩
              | 1, _ =>
                refine StepAt.by rfl fun a' W hf hb hd => ?_
                exact .inl ⟨want_none, does_move ((hf.keeps 14 (by kernel_rfl)).trans rfl) ⟨Below.refl _ _, rfl⟩⟩
              | 2, _ =>
                refine StepAt.by rfl fun a' W hf hb hd => ?_
                exact .inl ⟨want_none, does_run (run_indexV (hd 0 (by kernel_rfl)) (hd 1 (by kernel_rfl)) (by omega)) ⟨Below.refl _ _, rfl⟩⟩
              | 3, _ =>
                refine StepAt.by rfl fun a' W hf hb hd => ?_
                exact .inl ⟨want_none, does_run (run_fieldVo (hd 2 (by kernel_rfl)) (by decide)) ⟨Below.refl _ _, rfl⟩⟩
              | 4, _ =>
                refine StepAt.by rfl fun a' W hf hb hd => ?_
                exact .inl ⟨want_none, does_run (run_loadErr (hd 3 (by kernel_rfl)) ((HVK W hb) 0 _ rfl)) ⟨Below.refl _ _, rfl⟩⟩
              | 5, _ =>
                refine StepAt.by rfl fun a' W hf hb hd => ?_
                exact .inl ⟨want_none, does_run (run_neqE (hd 4 (by kernel_rfl)) rfl) ⟨Below.refl _ _, by show Value.bool _ = _; rw [rb1]⟩⟩
              | 6, _ =>
                refine StepAt.by rfl fun a' W hf hb hd => ?_
                exact .inl ⟨want_none, does_move (hd 5 (by kernel_rfl)) ⟨Below.refl _ _, rfl⟩⟩
              | 7, _ =>
                refine StepAt.by rfl fun a' W hf hb hd => ?_
                exact .inl ⟨want_some (k := 6) (t := 66) rfl (hd 6 (by kernel_rfl)), does_move ((hf.keeps 3 (by kernel_rfl)).trans rfl) ⟨Below.refl _ _, rfl⟩⟩
              | 8, _ =>
                refine StepAt.by rfl fun a' W hf hb hd => ?_
                exact .inl ⟨want_some (k := 6) (t := 66) rfl (hd 6 (by kernel_rfl)), does_move ((hf.keeps 13 (by kernel_rfl)).trans rfl) ⟨Below.refl _ _, rfl⟩⟩
              | 9, _ =>
                refine StepAt.by rfl fun a' W hf hb hd => ?_
                exact .inl ⟨want_some (k := 6) (t := 66) rfl (hd 6 (by kernel_rfl)), does_run (run_indexR (hd 7 (by kernel_rfl)) (hd 8 (by kernel_rfl)) (by omega)) ⟨Below.refl _ _, rfl⟩⟩
              | 10, _ =>
                refine StepAt.by rfl fun a' W hf hb hd => ?_
                exact .inl ⟨want_some (k := 6) (t := 66) rfl (hd 6 (by kernel_rfl)), does_run (run_fieldR0 (hd 9 (by kernel_rfl))) ⟨Below.refl _ _, rfl⟩⟩
              | 11, _ =>
                refine StepAt.by rfl fun a' W hf hb hd => ?_
                exact .inl ⟨want_some (k := 6) (t := 66) rfl (hd 6 (by kernel_rfl)), does_run (run_loadA (hd 10 (by kernel_rfl)) (RecAt.act (HRI W hb))) ⟨Below.refl _ _, rfl⟩⟩
              | 12, _ =>
                refine StepAt.by rfl fun a' W hf hb hd => ?_
                refine .inl ⟨want_some (k := 6) (t := 66) rfl (hd 6 (by kernel_rfl)), ?_⟩
                exact does_call1 (enters_of Try.func17 (by kernel_rfl) (by kernel_rfl)) (hd 11 (by kernel_rfl)) ((refFids_any ri.a xi.act W (HCI W hb)).mono fun e W2 ⟨A1, c1, he, ho, hb2⟩ => ⟨_, he, hb2, A1, c1, rfl, _, ho⟩)
              | 13, _ =>
                refine StepAt.by rfl fun a' W hf hb hd => ?_
                exact .inl ⟨want_some (k := 6) (t := 66) rfl (hd 6 (by kernel_rfl)), does_move ((hf.keeps 3 (by kernel_rfl)).trans rfl) ⟨Below.refl _ _, rfl⟩⟩
              | 14, _ =>
                refine StepAt.by rfl fun a' W hf hb hd => ?_
                exact .inl ⟨want_some (k := 6) (t := 66) rfl (hd 6 (by kernel_rfl)), does_move ((hf.keeps 14 (by kernel_rfl)).trans rfl) ⟨Below.refl _ _, rfl⟩⟩
              | 15, _ =>
                refine StepAt.by rfl fun a' W hf hb hd => ?_
                exact .inl ⟨want_some (k := 6) (t := 66) rfl (hd 6 (by kernel_rfl)), does_run (run_indexR (hd 13 (by kernel_rfl)) (hd 14 (by kernel_rfl)) (by omega)) ⟨Below.refl _ _, rfl⟩⟩
              | 16, _ =>
                refine StepAt.by rfl fun a' W hf hb hd => ?_
                exact .inl ⟨want_some (k := 6) (t := 66) rfl (hd 6 (by kernel_rfl)), does_run (run_fieldR0 (hd 15 (by kernel_rfl))) ⟨Below.refl _ _, rfl⟩⟩
              | 17, _ =>
                refine StepAt.by rfl fun a' W hf hb hd => ?_
                exact .inl ⟨want_some (k := 6) (t := 66) rfl (hd 6 (by kernel_rfl)), does_run (run_fieldAo (hd 16 (by kernel_rfl)) (by decide)) ⟨Below.refl _ _, rfl⟩⟩
              | 18, _ =>
                refine StepAt.by rfl fun a' W hf hb hd => ?_
                exact .inl ⟨want_some (k := 6) (t := 66) rfl (hd 6 (by kernel_rfl)), does_run (run_load3 (hd 17 (by kernel_rfl)) ((HRK W hb) 1 _ rfl)) ⟨Below.refl _ _, rfl⟩⟩
              | 19, _ =>
                refine StepAt.by rfl fun a' W hf hb hd => ?_
                refine .inl ⟨want_some (k := 6) (t := 66) rfl (hd 6 (by kernel_rfl)), ?_⟩
                obtain ⟨A1, c1, e1, B1, ho1⟩ := hd 12 (by kernel_rfl)
                exact does_call2 (enters_of Try.func16 (by kernel_rfl) (by kernel_rfl)) e1 (hd 18 (by kernel_rfl)) ((refHas_any A1 _ c1 _ _ W B1 ho1 (by have := fids_len3 xi.act; omega)).mono fun e W2 ⟨he, hw⟩ => ⟨_, he, by rw [hw]; exact Below.refl _ _, by show Value.bool _ = _; rw [rb2]⟩)
              | 20, _ =>
                refine StepAt.by rfl fun a' W hf hb hd => ?_
                exact .inl ⟨want_none, does_pick (b := true) (hd 6 (by kernel_rfl)) (hd 19 (by kernel_rfl)) ⟨Below.refl _ _, rfl⟩⟩
              | 21, _ =>
                refine StepAt.by rfl fun a' W hf hb hd => ?_
                exact .inl ⟨want_none, does_move (hd 20 (by kernel_rfl)) ⟨Below.refl _ _, rfl⟩⟩
              | 22, _ =>
                refine StepAt.by rfl fun a' W hf hb hd => ?_
                exact .inl ⟨want_some (k := 21) (t := 81) rfl (hd 21 (by kernel_rfl)), does_move ((hf.keeps 9 (by kernel_rfl)).trans rfl) ⟨Below.refl _ _, rfl⟩⟩
              | 23, _ =>
                refine StepAt.by rfl fun a' W hf hb hd => ?_
                exact .inl ⟨want_some (k := 21) (t := 81) rfl (hd 21 (by kernel_rfl)), does_move ((hf.keeps 13 (by kernel_rfl)).trans rfl) ⟨Below.refl _ _, rfl⟩⟩
              | 24, _ =>
                refine StepAt.by rfl fun a' W hf hb hd => ?_
                exact .inl ⟨want_some (k := 21) (t := 81) rfl (hd 21 (by kernel_rfl)), does_run (run_indexV (hd 22 (by kernel_rfl)) (hd 23 (by kernel_rfl)) (by omega)) ⟨Below.refl _ _, rfl⟩⟩
              | 25, _ =>
                refine StepAt.by rfl fun a' W hf hb hd => ?_
                exact .inl ⟨want_some (k := 21) (t := 81) rfl (hd 21 (by kernel_rfl)), does_run (run_fieldVo (hd 24 (by kernel_rfl)) (by decide)) ⟨Below.refl _ _, rfl⟩⟩
              | 26, _ =>
                refine StepAt.by rfl fun a' W hf hb hd => ?_
                exact .inl ⟨want_some (k := 21) (t := 81) rfl (hd 21 (by kernel_rfl)), does_run (run_loadErr (hd 25 (by kernel_rfl)) ((HVI W hb) 0 _ rfl)) ⟨Below.refl _ _, rfl⟩⟩
              | 27, _ =>
                refine StepAt.by rfl fun a' W hf hb hd => ?_
                exact .inl ⟨want_some (k := 21) (t := 81) rfl (hd 21 (by kernel_rfl)), does_run (run_eqE (hd 26 (by kernel_rfl)) rfl) ⟨Below.refl _ _, by show Value.bool _ = _; rw [rb3]⟩⟩
              | 28, _ =>
                refine StepAt.by rfl fun a' W hf hb hd => ?_
                exact .inl ⟨want_none, does_pick (b := true) (hd 21 (by kernel_rfl)) (hd 27 (by kernel_rfl)) ⟨Below.refl _ _, rfl⟩⟩
              | k + 29, hi => exact absurd hi (Nat.not_lt.2 (Nat.le_add_left _ _))
            · intro a' W hf hb hv
              have hlast : a'.eval (.tmp 88) = .bool false := hv 28 (by decide)
              have hl := hf.lit (fun t => decide (60 ≤ t) && decide (t ≤ 88)) (by kernel_rfl)
              simp only [overL, Nat.reduceAdd, Nat.reduceLeDiff, decide_true, decide_false, Bool.and_true, Bool.and_false] at hl
              rw [hl]
              clear hl
              go_wp2_with (fail)
              go_meet
              case rel => exact ⟨hlast, hb⟩
          · have rb2 : decide (rk.a.fid ∈ M.fidsS xi.act) = false := decide_eq_false h2
            refine wp_region_vals (VRC gv ov b o m d q iu k vk ri rk xi) (by kernel_rfl) (by kernel_rfl) (VRC_stays gv ov b o m d q iu k vk ri rk xi) ?_ ?_
            · intro j hj
              match j, hj with
              | 0, _ =>
                refine StepAt.by rfl fun a' W hf hb hd => ?_
                exact .inl ⟨want_none, does_move ((hf.keeps 9 (by kernel_rfl)).trans rfl) ⟨Below.refl _ _, rfl⟩⟩
              | 1, _ =>
                refine StepAt.by rfl fun a' W hf hb hd => ?_
                exact .inl ⟨want_none, does_move ((hf.keeps 14 (by kernel_rfl)).trans rfl) ⟨Below.refl _ _, rfl⟩⟩
              | 2, _ =>
                refine StepAt.by rfl fun a' W hf hb hd => ?_
                exact .inl ⟨want_none, does_run (run_indexV (hd 0 (by kernel_rfl)) (hd 1 (by kernel_rfl)) (by omega)) ⟨Below.refl _ _, rfl⟩⟩
              | 3, _ =>
                refine StepAt.by rfl fun a' W hf hb hd => ?_
                exact .inl ⟨want_none, does_run (run_fieldVo (hd 2 (by kernel_rfl)) (by decide)) ⟨Below.refl _ _, rfl⟩⟩
              | 4, _ =>
                refine StepAt.by rfl fun a' W hf hb hd => ?_
                exact .inl ⟨want_none, does_run (run_loadErr (hd 3 (by kernel_rfl)) ((HVK W hb) 0 _ rfl)) ⟨Below.refl _ _, rfl⟩⟩
              | 5, _ =>
                refine StepAt.by rfl fun a' W hf hb hd => ?_
                exact .inl ⟨want_none, does_run (run_neqE (hd 4 (by kernel_rfl)) rfl) ⟨Below.refl _ _, by show Value.bool _ = _; rw [rb1]⟩⟩
              | 6, _ =>
                refine StepAt.by rfl fun a' W hf hb hd => ?_
                exact .inl ⟨want_none, does_move (hd 5 (by kernel_rfl)) ⟨Below.refl _ _, rfl⟩⟩
              | 7, _ =>
                refine StepAt.by rfl fun a' W hf hb hd => ?_
                exact .inl ⟨want_some (k := 6) (t := 66) rfl (hd 6 (by kernel_rfl)), does_move ((hf.keeps 3 (by kernel_rfl)).trans rfl) ⟨Below.refl _ _, rfl⟩⟩
              | 8, _ =>
                refine StepAt.by rfl fun a' W hf hb hd => ?_
                exact .inl ⟨want_some (k := 6) (t := 66) rfl (hd 6 (by kernel_rfl)), does_move ((hf.keeps 13 (by kernel_rfl)).trans rfl) ⟨Below.refl _ _, rfl⟩⟩
              | 9, _ =>
                refine StepAt.by rfl fun a' W hf hb hd => ?_
                exact .inl ⟨want_some (k := 6) (t := 66) rfl (hd 6 (by kernel_rfl)), does_run (run_indexR (hd 7 (by kernel_rfl)) (hd 8 (by kernel_rfl)) (by omega)) ⟨Below.refl _ _, rfl⟩⟩
              | 10, _ =>
                refine StepAt.by rfl fun a' W hf hb hd => ?_
                exact .inl ⟨want_some (k := 6) (t := 66) rfl (hd 6 (by kernel_rfl)), does_run (run_fieldR0 (hd 9 (by kernel_rfl))) ⟨Below.refl _ _, rfl⟩⟩
              | 11, _ =>
                refine StepAt.by rfl fun a' W hf hb hd => ?_
                exact .inl ⟨want_some (k := 6) (t := 66) rfl (hd 6 (by kernel_rfl)), does_run (run_loadA (hd 10 (by kernel_rfl)) (RecAt.act (HRI W hb))) ⟨Below.refl _ _, rfl⟩⟩
              | 12, _ =>
                refine StepAt.by rfl fun a' W hf hb hd => ?_
                refine .inl ⟨want_some (k := 6) (t := 66) rfl (hd 6 (by kernel_rfl)), ?_⟩
                exact does_call1 (enters_of Try.func17 (by kernel_rfl) (by kernel_rfl)) (hd 11 (by kernel_rfl)) ((refFids_any ri.a xi.act W (HCI W hb)).mono fun e W2 ⟨A1, c1, he, ho, hb2⟩ => ⟨_, he, hb2, A1, c1, rfl, _, ho⟩)
              | 13, _ =>
                refine StepAt.by rfl fun a' W hf hb hd => ?_
                exact .inl ⟨want_some (k := 6) (t := 66) rfl (hd 6 (by kernel_rfl)), does_move ((hf.keeps 3 (by kernel_rfl)).trans rfl) ⟨Below.refl _ _, rfl⟩⟩
              | 14, _ =>
                refine StepAt.by rfl fun a' W hf hb hd => ?_
                exact .inl ⟨want_some (k := 6) (t := 66) rfl (hd 6 (by kernel_rfl)), does_move ((hf.keeps 14 (by kernel_rfl)).trans rfl) ⟨Below.refl _ _, rfl⟩⟩
              | 15, _ =>
                refine StepAt.by rfl fun a' W hf hb hd => ?_
                exact .inl ⟨want_some (k := 6) (t := 66) rfl (hd 6 (by kernel_rfl)), does_run (run_indexR (hd 13 (by kernel_rfl)) (hd 14 (by kernel_rfl)) (by omega)) ⟨Below.refl _ _, rfl⟩⟩
              | 16, _ =>
                refine StepAt.by rfl fun a' W hf hb hd => ?_
                exact .inl ⟨want_some (k := 6) (t := 66) rfl (hd 6 (by kernel_rfl)), does_run (run_fieldR0 (hd 15 (by kernel_rfl))) ⟨Below.refl _ _, rfl⟩⟩
              | 17, _ =>
                refine StepAt.by rfl fun a' W hf hb hd => ?_
                exact .inl ⟨want_some (k := 6) (t := 66) rfl (hd 6 (by kernel_rfl)), does_run (run_fieldAo (hd 16 (by kernel_rfl)) (by decide)) ⟨Below.refl _ _, rfl⟩⟩
              | 18, _ =>
                refine StepAt.by rfl fun a' W hf hb hd => ?_
                exact .inl ⟨want_some (k := 6) (t := 66) rfl (hd 6 (by kernel_rfl)), does_run (run_load3 (hd 17 (by kernel_rfl)) ((HRK W hb) 1 _ rfl)) ⟨Below.refl _ _, rfl⟩⟩
              | 19, _ =>
                refine StepAt.by rfl fun a' W hf hb hd => ?_
                refine .inl ⟨want_some (k := 6) (t := 66) rfl (hd 6 (by kernel_rfl)), ?_⟩
                obtain ⟨A1, c1, e1, B1, ho1⟩ := hd 12 (by kernel_rfl)
                exact does_call2 (enters_of Try.func16 (by kernel_rfl) (by kernel_rfl)) e1 (hd 18 (by kernel_rfl)) ((refHas_any A1 _ c1 _ _ W B1 ho1 (by have := fids_len3 xi.act; omega)).mono fun e W2 ⟨he, hw⟩ => ⟨_, he, by rw [hw]; exact Below.refl _ _, by show Value.bool _ = _; rw [rb2]⟩)
              | 20, _ =>
                refine StepAt.by rfl fun a' W hf hb hd => ?_
                exact .inl ⟨want_none, does_pick (b := true) (hd 6 (by kernel_rfl)) (hd 19 (by kernel_rfl)) ⟨Below.refl _ _, rfl⟩⟩
              | 21, _ =>
                refine StepAt.by rfl fun a' W hf hb hd => ?_
                exact .inl ⟨want_none, does_move (hd 20 (by kernel_rfl)) ⟨Below.refl _ _, rfl⟩⟩
              | 22, _ =>
                refine StepAt.by rfl fun a' W hf hb hd => ?_
                exact .inr ⟨want_some (k := 21) (t := 81) rfl (hd 21 (by kernel_rfl)), rfl⟩
              | 23, _ =>
                refine StepAt.by rfl fun a' W hf hb hd => ?_
                exact .inr ⟨want_some (k := 21) (t := 81) rfl (hd 21 (by kernel_rfl)), rfl⟩
              | 24, _ =>
                refine StepAt.by rfl fun a' W hf hb hd => ?_
                exact .inr ⟨want_some (k := 21) (t := 81) rfl (hd 21 (by kernel_rfl)), rfl⟩
              | 25, _ =>
                refine StepAt.by rfl fun a' W hf hb hd => ?_
                exact .inr ⟨want_some (k := 21) (t := 81) rfl (hd 21 (by kernel_rfl)), rfl⟩
              | 26, _ =>
                refine StepAt.by rfl fun a' W hf hb hd => ?_
                exact .inr ⟨want_some (k := 21) (t := 81) rfl (hd 21 (by kernel_rfl)), rfl⟩
              | 27, _ =>
                refine StepAt.by rfl fun a' W hf hb hd => ?_
                exact .inr ⟨want_some (k := 21) (t := 81) rfl (hd 21 (by kernel_rfl)), rfl⟩
              | 28, _ =>
                refine StepAt.by rfl fun a' W hf hb hd => ?_
                exact .inl ⟨want_none, does_pick (b := false) (hd 21 (by kernel_rfl)) rfl ⟨Below.refl _ _, rfl⟩⟩
              | k + 29, hi => exact absurd hi (Nat.not_lt.2 (Nat.le_add_left _ _))
            · intro a' W hf hb hv
              have hlast : a'.eval (.tmp 88) = .bool false := hv 28 (by decide)
              have hl := hf.lit (fun t => decide (60 ≤ t) && decide (t ≤ 88)) (by kernel_rfl)
              simp only [overL, Nat.reduceAdd, Nat.reduceLeDiff, decide_true, decide_false, Bool.and_true, Bool.and_false] at hl
              rw [hl]
              clear hl
              go_wp2_with (fail)
              go_meet
              case rel => exact ⟨hlast, hb⟩
      obtain ⟨rfl, hb5⟩ := hcut
      rename World => w5
      have HE : Hid (Below wo.heap.size wo w5) := hbq.trans (hb5.mono hzq)
      clear hb5 HX HLAW hbw hb3r
      go_wp2_with (fail)
      go_roundw
      case rel => exact ⟨k + 1, by omega, by go_num, HE.out⟩
      case measure => simp [intOf]; omega
end Go.Proofs.Ytkhifljgocopoac
