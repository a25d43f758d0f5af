/- TEXTS LAID TOGETHER: Doesl, Doesk, Frame, Kcd, Kce, Kcf, Kcg -/
import Derived.Test.YtjpdoblmdchmkadPart6
import Derived.Test.YtjpdoblmdchmkadPart5
import Derived.Test.YtjpdoblmdchmkadPart2
import Derived.Deep.DeepAppendRoom
/-
  WHAT SINGLE OPERATIONS DO, further: indices, numbers, loads (for regions that draw their order).
-/
namespace Go.Proofs.Ytjpdoblmdchmkad
open Go.RowKit

theorem does_run {a : Act} {w w' : World} {R : Value → World → Prop} {o : Oper} {v : Value} (h : (execOp a.eval o).run Try.prog w = .ok (.value v) w') (hR : R v w') : Does Try.prog o a w R := .inl ⟨v, w', h, hR⟩
/-- the value is this -/
def IsW (c : Value) : Value → World → Prop := fun v _ => v = c
theorem want_undef {ops : Array Oper} {a : Act} {d : Option Tmp} {ty : TypeId} {pos : String} {af : Array Edge} {op : Op} {k t : Nat} {want : Bool} (hk : (ops[k]?).bind (·.dst) = some t) (h : a.eval (.tmp t) = undef) : Region.wanted ⟨d, op, ty, pos, af, some (k, want)⟩ (yielded ops a.tmps) = false := by
  have ht : a.tmps[t]? = some undef ∨ a.tmps[t]? = none := by
    have h : a.tmps.getD t undef = undef := h
    rw [Array.getD_eq_getD_getElem?] at h
    cases hx : a.tmps[t]? with
    | none => exact .inr rfl
    | some v => rw [hx] at h; exact .inl (congrArg some h)
  unfold Region.wanted yielded
  simp only [hk, Option.bind_some]
  rcases ht with ht | ht
  · rw [ht]; rfl
  · rw [ht]; rfl

section
variable {w : World} {R : Value → World → Prop} {d : Option Tmp} {ty : TypeId} {pos : String} {af : Array Edge} {g : Option (Nat × Bool)} {x y : Operand}
theorem run_eqI {ρ : Operand → Value} {b c : Int} (hx : ρ x = .int .i64 b) (hy : ρ y = .int .i64 c) : (execOp ρ ⟨d, .binOp .eql 3 x y 3, ty, pos, af, g⟩).run Try.prog w = .ok (.value (.bool (b == c))) w := by
  simp [execOp, hx, hy, go_sem]
theorem run_lssI {ρ : Operand → Value} {b c : Int} (hx : ρ x = .int .i64 b) (hy : ρ y = .int .i64 c) : (execOp ρ ⟨d, .binOp .lss 3 x y 3, ty, pos, af, g⟩).run Try.prog w = .ok (.value (.bool (decide (b < c)))) w := by
  simp [execOp, hx, hy, go_sem]
theorem run_gtrI {ρ : Operand → Value} {b c : Int} (hx : ρ x = .int .i64 b) (hy : ρ y = .int .i64 c) : (execOp ρ ⟨d, .binOp .gtr 3 x y 3, ty, pos, af, g⟩).run Try.prog w = .ok (.value (.bool (decide (c < b)))) w := by
  simp [execOp, hx, hy, go_sem]
theorem run_addN {ρ : Operand → Value} {m k : Nat} (hx : ρ x = .int .i64 (m : Int)) (hy : ρ y = .int .i64 (k : Int)) (h : m + k ≤ 9223372036854775807) : (execOp ρ ⟨d, .binOp .add 3 x y 3, ty, pos, af, g⟩).run Try.prog w = .ok (.value (.int .i64 ((m + k : Nat) : Int))) w := by
  have h1 : (m : Int) + (k : Int) ≤ 9223372036854775807 := by omega
  have h2 : (-9223372036854775808 : Int) ≤ (m : Int) + (k : Int) := by omega
  simp [execOp, hx, hy, go_sem, IntWalk.i64_in _ ⟨h2, h1⟩]
theorem run_subN {ρ : Operand → Value} {m k : Nat} (hx : ρ x = .int .i64 (m : Int)) (hy : ρ y = .int .i64 (k : Int)) (h : k ≤ m) (hm : m ≤ 9223372036854775807) : (execOp ρ ⟨d, .binOp .sub 3 x y 3, ty, pos, af, g⟩).run Try.prog w = .ok (.value (.int .i64 ((m - k : Nat) : Int))) w := by
  have h1 : (m : Int) - (k : Int) ≤ 9223372036854775807 := by omega
  have h2 : (-9223372036854775808 : Int) ≤ (m : Int) - (k : Int) := by omega
  have h3 : ((m - k : Nat) : Int) = (m : Int) - (k : Int) := by omega
  rw [h3]
  simp [execOp, hx, hy, go_sem, IntWalk.i64_in _ ⟨h2, h1⟩]
theorem run_lenS {ρ : Operand → Value} {A : Option Addr} {n c : Nat} {t : TypeId} (h : Try.prog.underlying t = some (.slice (Try.prog.elem t))) (hx : ρ x = .slice A n c) : (execOp ρ ⟨d, .call { callee := .builtin .len, args := #[x], argTypes := #[t] }, ty, pos, af, g⟩).run Try.prog w = .ok (.value (.int .i64 (n : Int))) w := by
  have hl := run_len_slice (P := Try.prog) (w := w) t ty A n c h
  clear h
  simp [hx, go_sem, hl]
end
section
variable {a : Act} {w : World} {R : Value → World → Prop} {d : Option Tmp} {ty : TypeId} {pos : String} {af : Array Edge} {g : Option (Nat × Bool)}
theorem run_load3 {ρ : Operand → Value} {x : Operand} {p : Addr} {i : Int} (hx : ρ x = .pointer (some p)) (hc : w.cell? p = some (.int .i64 i)) : (execOp ρ ⟨d, .load 3 x, ty, pos, af, g⟩).run Try.prog w = .ok (.value (.int .i64 i)) w := by
  simp [execOp, hx, go_sem, hc]
theorem run_load9 {ρ : Operand → Value} {x : Operand} {p : Addr} {s : ByteArray} (hx : ρ x = .pointer (some p)) (hc : w.cell? p = some (.string s)) : (execOp ρ ⟨d, .load 9 x, ty, pos, af, g⟩).run Try.prog w = .ok (.value (.string s)) w := by
  simp [execOp, hx, go_sem, hc]
end
end Go.Proofs.Ytjpdoblmdchmkad
/-
  WHAT SINGLE OPERATIONS DO, further: nodes that are kept (for regions that draw their order).
-/
namespace Go.Proofs.Ytjpdoblmdchmkad
open Go.RowKit
/-- cells of one that is kept, that begins here -/
def KeptAt (w : World) (b o : Nat) (r : KV) : Prop := ∀ i c, (KV.cells r)[i]? = some c → w.cell? ⟨b, o + i, none⟩ = some c
theorem KeptAt.below {w w' : World} {b o B : Nat} {r : KV} (h : KeptAt w b o r) (hb : Below B w w') (hs : b < B) : KeptAt w' b o r := fun i c hc => by
  rw [hb.cell (p := ⟨b, o + i, none⟩) hs]; exact h i c hc
theorem keptAt_of {w : World} {b o n : Nat} {vs : List KV} (h : Row 8 KV.cells w (some ⟨b, o, none⟩) n vs) {j : Nat} {v : KV} (hv : vs[j]? = some v) : KeptAt w b (o + j * 8) v := by
  have hj : j < n := by rw [h.1]; exact (List.getElem?_eq_some_iff.1 hv).1
  obtain ⟨b', o', v', e, _, hv', hc⟩ := Row.at h hj
  cases e
  rw [hv] at hv'
  cases hv'
  exact hc
theorem keptAt_box {w : World} {g : Nat} {v : KV} (h : BoxK w g v) : KeptAt w g 0 v := by
  obtain ⟨b0, b1, b2, b3, b4, b5, b6, b7, bf, bz⟩ := h.facts
  intro i c hi
  rw [Nat.zero_add]
  match i, hi with
  | 0, hi => cases hi; exact b0
  | 1, hi => cases hi; exact b1
  | 2, hi => cases hi; exact b2
  | 3, hi => cases hi; exact b3
  | 4, hi => cases hi; exact b4
  | 5, hi => cases hi; exact b5
  | 6, hi => cases hi; exact b6
  | 7, hi => cases hi; exact b7
  | i + 8, hi => cases hi
section
variable {w : World} {d : Option Tmp} {ty : TypeId} {pos : String} {af : Array Edge} {g : Option (Nat × Bool)} {x y : Operand}
theorem run_indexK {ρ : Operand → Value} {b o n c k : Nat} (hx : ρ x = .slice (some ⟨b, o, none⟩) n c) (hy : ρ y = .int .i64 (k : Int)) (hk : k < n) : (execOp ρ ⟨d, .indexAddr 61 x y, ty, pos, af, g⟩).run Try.prog w = .ok (.value (.pointer (some ⟨b, o + k * 8, none⟩))) w := by
  have h1 : (k : Int) < (n : Int) := by omega
  have h0 : (0 : Int) ≤ (k : Int) := by omega
  simp [execOp, hx, hy, go_sem, h1]
theorem run_fieldK0 {ρ : Operand → Value} {s o : Nat} (hx : ρ x = .pointer (some ⟨s, o, none⟩)) : (execOp ρ ⟨d, .fieldAddr 63 x 0, ty, pos, af, g⟩).run Try.prog w = .ok (.value (.pointer (some ⟨s, o, none⟩))) w := by simp [execOp, hx, go_sem]
theorem run_fieldK1 {ρ : Operand → Value} {s o : Nat} (hx : ρ x = .pointer (some ⟨s, o, none⟩)) : (execOp ρ ⟨d, .fieldAddr 63 x 1, ty, pos, af, g⟩).run Try.prog w = .ok (.value (.pointer (some ⟨s, o + 5, none⟩))) w := by simp [execOp, hx, go_sem]
theorem run_fieldK2 {ρ : Operand → Value} {s o : Nat} (hx : ρ x = .pointer (some ⟨s, o, none⟩)) : (execOp ρ ⟨d, .fieldAddr 63 x 2, ty, pos, af, g⟩).run Try.prog w = .ok (.value (.pointer (some ⟨s, o + 6, none⟩))) w := by simp [execOp, hx, go_sem]
theorem run_fieldK3 {ρ : Operand → Value} {s o : Nat} (hx : ρ x = .pointer (some ⟨s, o, none⟩)) : (execOp ρ ⟨d, .fieldAddr 63 x 3, ty, pos, af, g⟩).run Try.prog w = .ok (.value (.pointer (some ⟨s, o + 7, none⟩))) w := by simp [execOp, hx, go_sem]
theorem run_fieldN0 {ρ : Operand → Value} {s o : Nat} (hx : ρ x = .pointer (some ⟨s, o, none⟩)) : (execOp ρ ⟨d, .fieldAddr 41 x 0, ty, pos, af, g⟩).run Try.prog w = .ok (.value (.pointer (some ⟨s, o, none⟩))) w := by simp [execOp, hx, go_sem]
theorem run_fieldN4 {ρ : Operand → Value} {s o : Nat} (hx : ρ x = .pointer (some ⟨s, o, none⟩)) : (execOp ρ ⟨d, .fieldAddr 41 x 4, ty, pos, af, g⟩).run Try.prog w = .ok (.value (.pointer (some ⟨s, o + 4, none⟩))) w := by simp [execOp, hx, go_sem]
theorem run_load4 {ρ : Operand → Value} {p : Addr} {b : Bool} (hx : ρ x = .pointer (some p)) (hc : w.cell? p = some (.bool b)) : (execOp ρ ⟨d, .load 4 x, ty, pos, af, g⟩).run Try.prog w = .ok (.value (.bool b)) w := by
  simp [execOp, hx, go_sem, hc]
theorem run_loadKp {ρ : Operand → Value} {b o : Nat} {v : KV} (hx : ρ x = .pointer (some ⟨b, o, none⟩)) (h : KeptAt w b o v) : (execOp ρ ⟨d, .load 63 x, ty, pos, af, g⟩).run Try.prog w = .ok (.value v.val) w := by
  have c0 := h 0 _ rfl
  have c1 := h 1 _ rfl
  have c2 := h 2 _ rfl
  have c3 := h 3 _ rfl
  have c4 := h 4 _ rfl
  have c5 := h 5 _ rfl
  have c6 := h 6 _ rfl
  have c7 := h 7 _ rfl
  simp only [Nat.add_zero] at c0
  simp [execOp, hx, go_sem, c0, c1, c2, c3, c4, c5, c6, c7]
end
end Go.Proofs.Ytjpdoblmdchmkad
/-
  THE FRAME behind a region that draws its order, written out.
-/
namespace Go.Proofs.Ytjpdoblmdchmkad
open Go.RowKit

/-- the frame behind a region: slots for which wr is true hold something -/
def overL (wr : Nat → Bool) (a : Act) : Nat → List Value → List Value
  | _, [] => []
  | t, v :: vs => (match wr t with | true => a.eval (.tmp t) | false => v) :: overL wr a (t + 1) vs
theorem overL_len (wr : Nat → Bool) (a : Act) : ∀ (l : List Value) (t : Nat), (overL wr a t l).length = l.length
  | [], _ => rfl
  | _ :: l, t => by simp [overL, overL_len wr a l (t + 1)]
theorem overL_get (wr : Nat → Bool) (a : Act) : ∀ (l : List Value) (t i : Nat) (v : Value), l[i]? = some v → (overL wr a t l)[i]? = some (match wr (t + i) with | true => a.eval (.tmp (t + i)) | false => v)
  | [], _, _, _, h => by cases h
  | x :: l, t, 0, v, h => by
    simp at h
    subst h
    simp [overL]
  | x :: l, t, i + 1, v, h => by
    simp only [List.getElem?_cons_succ] at h
    have := overL_get wr a l (t + 1) i v h
    simp only [overL, List.getElem?_cons_succ]
    rw [this, show t + 1 + i = t + (i + 1) by omega]
theorem Framed.lit {ops : Array Oper} {a0 a : Act} (hf : Framed ops a0 a) (wr : Nat → Bool) (hw : (ops.all fun o => match o.dst with | some d => wr d | none => true) = true) : a = ⟨(overL wr a 0 a0.tmps.toList).toArray, a0.defers⟩ := by
  have hs : a.tmps = (overL wr a 0 a0.tmps.toList).toArray := by
    apply Array.ext_getElem?
    intro i
    have hr : (overL wr a 0 a0.tmps.toList).toArray[i]? = (overL wr a 0 a0.tmps.toList)[i]? := by simp
    rw [hr]
    rcases Nat.lt_or_ge i a0.tmps.size with hi | hi
    · have h0 : a0.tmps.toList[i]? = some a0.tmps[i] := by rw [Array.getElem?_toList]; exact Array.getElem?_eq_getElem hi
      rw [overL_get wr a _ 0 i _ h0, Nat.zero_add]
      have hi' : i < a.tmps.size := by rw [hf.size]; exact hi
      have hev : a.eval (.tmp i) = a.tmps[i] := by simp [Act.eval, hi']
      rw [Array.getElem?_eq_getElem hi']
      cases hwi : wr i with
      | true => rw [← hev]
      | false =>
        have hap : apart ops i = true := by
          unfold apart
          rw [Array.all_eq_true_iff_forall_mem] at hw ⊢
          intro o ho
          have := hw o ho
          cases hd : o.dst with
          | none => rfl
          | some d =>
            rw [hd] at this
            simp only at this
            simp only [bne_iff_ne, ne_eq, Option.some.injEq]
            intro e
            subst e
            rw [hwi] at this
            cases this
        have := hf.keeps i hap
        rw [hev] at this
        rw [this]
        simp [Act.eval, hi]
    · rw [Array.getElem?_eq_none (by rw [hf.size]; exact hi), List.getElem?_eq_none (by rw [overL_len]; simpa using hi)]
  have hd := hf.defers
  cases a
  simp only at hs hd
  subst hd
  rw [Act.mk.injEq]
  exact ⟨hs, rfl⟩

end Go.Proofs.Ytjpdoblmdchmkad
/-
  PACKAGE cache: what goes first.
-/
namespace Go.Proofs.Ytjpdoblmdchmkad
open Go.RowKit

def intCells (i : Int) : List Value := [.int .i64 i]
/-- the first one that is not zero -/
def orS : List Int → Int
  | [] => 0
  | i :: l => if i = 0 then orS l else i
theorem orS_none : ∀ {l : List Int}, (∀ i ∈ l, i = 0) → orS l = 0
  | [], _ => rfl
  | i :: l, h => by
    unfold orS
    rw [if_pos (h i (List.mem_cons_self ..))]
    exact orS_none fun j hj => h j (List.mem_cons_of_mem _ hj)
theorem orS_at : ∀ {l : List Int} {k : Nat} {i : Int}, (∀ j ∈ l.take k, j = 0) → l[k]? = some i → i ≠ 0 → orS l = i
  | [], k, i, _, h, _ => by cases h
  | j :: l, 0, i, _, h, hi => by
    cases h
    unfold orS
    rw [if_neg hi]
  | j :: l, k + 1, i, hz, h, hi => by
    unfold orS
    rw [if_pos (hz j (by simp))]
    exact orS_at (fun q hq => hz q (by rw [List.take_succ_cons]; exact List.mem_cons_of_mem _ hq)) (by simpa using h) hi
theorem ints3 {w : World} {b : Nat} {x y z : Int} (h : w.heap[b]? = some (.cells #[.int .i64 x, .int .i64 y, .int .i64 z] 3 (0, 0))) : Row 1 intCells w (some ⟨b, 0, none⟩) 3 [x, y, z] := by
  have c0 : w.cell? ⟨b, 0, none⟩ = some (.int .i64 x) := by simp [World.cell?, h]
  have c1 : w.cell? ⟨b, 1, none⟩ = some (.int .i64 y) := by simp [World.cell?, h]
  have c2 : w.cell? ⟨b, 2, none⟩ = some (.int .i64 z) := by simp [World.cell?, h]
  refine ⟨rfl, .inr ⟨b, 0, rfl, lt_of_block h, fun j u hv i c hi => ?_⟩⟩
  match i, hi with
  | i + 1, hi => cases hi
  | 0, hi =>
    cases hi
    match j, hv with
    | 0, hv => cases hv; exact c0
    | 1, hv => cases hv; exact c1
    | 2, hv => cases hv; exact c2
    | j + 3, hv => cases hv
set_option maxHeartbeats 1000000 in
theorem or_any (A : Option Addr) (n c : Nat) (l : List Int) (w : World) (hv : Row 1 intCells w A n l) (hn : n ≤ 140737488355328) :
    Calls Try.prog 76 #[.slice A n c] w fun e w' => e = .returned (.int .i64 (orS l)) ∧ Below w.heap.size w w' := by
  have HT : Hid (Row 1 intCells w A n l) := hv
  clear hv
  go_enter Try.func76, Try.ntmps76
  go_wp2
  go_loopw [8] (fun i wr => ∃ k : Nat, k ≤ n ∧ i = .int .i64 k ∧ Hid (∀ j ∈ l.take k, j = 0) ∧ Below w.heap.size w wr) (fun i _ => n - (intOf i).toNat)
  case atStart => exact ⟨0, Nat.zero_le _, rfl, (by show ∀ x ∈ _, _; simp), Below.refl _ _⟩
  case round =>
    obtain ⟨k, hk, rfl, HN, hb⟩ := hrel
    have HB : Hid (Below w.heap.size w wr) := hb
    by_cases hlt : k < n
    · obtain ⟨g, o, i, rfl, hgb, hik, hc⟩ := Row.at (HT.out.below (Nat.le_refl _) hb) hlt
      have c0 : wr.cell? ⟨g, o + k * 1, none⟩ = some (.int .i64 i) := hc 0 _ rfl
      rw [Nat.mul_one] at c0
      have HX : Hid (l[k]? = some i) := hik
      clear hik hc hb
      by_cases hz : i = 0
      · have HN2 : Hid (∀ j ∈ l.take (k + 1), j = 0) := by
          show ∀ j ∈ _, _
          intro j hj
          rw [take_step HX.out] at hj
          rcases List.mem_append.1 hj with h | h
          · exact HN.out j h
          · rw [List.mem_singleton.1 h]; exact hz
        have kz : (i != 0) = false := by simp [hz]
        clear hz
        go_wp2_with (fail)
        go_roundw
        case rel => exact ⟨k + 1, by omega, by go_num, HN2, HB.out⟩
        case measure => simp [intOf]; omega
      · have HR : Hid (orS l = i) := orS_at HN.out HX.out hz
        have kz : (i != 0) = true := by simp [hz]
        clear hz
        go_wp2_with (fail)
        go_ret
        exact ⟨ret_int HR.out.symm, HB.out⟩
    · have HR : Hid (orS l = 0) := orS_none (by
        have := HN.out
        rw [List.take_of_length_le (by rw [← HT.out.1]; omega)] at this
        exact this)
      clear hb
      go_wp2
      go_ret
      exact ⟨ret_int HR.out.symm, HB.out⟩
set_option maxHeartbeats 1000000 in
theorem mayGo_kept (v : KV) (w : World) : Calls Try.prog 59 #[v.val] w fun e w' => e = .returned (.bool (!v.dirty && !decide (v.n.fid = 0))) ∧ Below w.heap.size w w' := by
  obtain ⟨vn, vd, vw, vl⟩ := v
  have HW : Hid _ := boxK_one w ⟨vn, vd, vw, vl⟩
  cases vd
  · by_cases hz : vn.fid = 0
    · have kz : (vn.fid != 0) = false := by simp [hz]
      have HR : Hid ((!false && !decide (vn.fid = 0)) = false) := by show _ = _; simp [hz]
      clear hz
      go_enter Try.func59, Try.ntmps59
      go_wp2
      go_ret
      exact ⟨ret_bool HR.out.symm, (HW.out _ rfl).1⟩
    · have kz : (vn.fid != 0) = true := by simp [hz]
      have HR : Hid ((!false && !decide (vn.fid = 0)) = true) := by show _ = _; simp [hz]
      clear hz
      go_enter Try.func59, Try.ntmps59
      go_wp2
      go_ret
      exact ⟨ret_bool HR.out.symm, (HW.out _ rfl).1⟩
  · go_enter Try.func59, Try.ntmps59
    go_wp2
    go_ret
    exact ⟨rfl, (HW.out _ rfl).1⟩
/-- what a and b are worth, held against each other -/
def worthV (a b : KV) : Int := orS [M.cmpI a.worth b.worth, M.cmpI a.last b.last, M.cmpI a.n.fid b.n.fid]
theorem cmpI_pos {a b : Int} : M.cmpI a b < 0 ↔ a < b := by
  unfold M.cmpI
  split
  · simp [*]
  · split
    · simp; omega
    · simp; omega
theorem worthV_is (a b : KV) : decide (worthV a b < 0) = worseV a b := by
  unfold worthV worseV orS orS orS orS
  by_cases h1 : a.worth = b.worth
  · rw [if_pos (by rw [← beq_iff_eq, M.cmpI_eq]; simp [h1]), if_pos h1]
    by_cases h2 : a.last = b.last
    · rw [if_pos (by rw [← beq_iff_eq, M.cmpI_eq]; simp [h2]), if_pos h2]
      by_cases h3 : M.cmpI a.n.fid b.n.fid = 0
      · rw [if_pos h3]
        have : a.n.fid = b.n.fid := by
          have h4 := M.cmpI_eq a.n.fid b.n.fid
          rw [h3] at h4
          simpa using h4
        simp [this]
      · rw [if_neg h3]; simp only [cmpI_pos]
    · rw [if_neg (by rw [← beq_iff_eq, M.cmpI_eq]; simp [h2]), if_neg h2]; simp only [cmpI_pos]
  · rw [if_neg (by rw [← beq_iff_eq, M.cmpI_eq]; simp [h1]), if_neg h1]; simp only [cmpI_pos]
theorem run_build3 {ρ : Operand → Value} {w : World} {d : Option Tmp} {ty : TypeId} {pos : String} {af : Array Edge} {g : Option (Nat × Bool)} {x y z : Operand} {a b c : Int} (hx : ρ x = .int .i64 a) (hy : ρ y = .int .i64 b) (hz : ρ z = .int .i64 c) : (execOp ρ ⟨d, .buildSlice 46 3 #[(0, x), (1, y), (2, z)], ty, pos, af, g⟩).run Try.prog w = .ok (.value (.slice (some ⟨w.heap.size, 0, none⟩) 3 3)) (w.alloc (.cells #[.int .i64 a, .int .i64 b, .int .i64 c] 3)) := by
  simp [execOp, hx, hy, hz, go_sem]
theorem two_boxesK2 (w : World) (a b : KV) : ∀ W, W = (w.alloc (.cells #[.int .i64 a.n.fid, .bool a.n.dir, .slice a.n.dA a.n.dn a.n.dc, .slice a.n.eA a.n.en a.n.ec, .int .i64 a.n.ver, .bool a.dirty, .int .i64 a.worth, .int .i64 a.last] 63)).alloc (.cells #[.int .i64 b.n.fid, .bool b.n.dir, .slice b.n.dA b.n.dn b.n.dc, .slice b.n.eA b.n.en b.n.ec, .int .i64 b.n.ver, .bool b.dirty, .int .i64 b.worth, .int .i64 b.last] 63) → Below w.heap.size w W ∧ BoxK W w.heap.size a ∧ BoxK W (w.heap.size + 1) b ∧ W.heap.size = w.heap.size + 2 := by
  rintro W rfl
  refine ⟨((Below.refl _ _).alloc (Nat.le_refl _) _).alloc (by simp) _, (show BoxK (w.alloc _) w.heap.size a from heap_alloc_new w _).alloc _, ?_, by simp⟩
  have h := heap_alloc_new (w.alloc (.cells #[.int .i64 a.n.fid, .bool a.n.dir, .slice a.n.dA a.n.dn a.n.dc, .slice a.n.eA a.n.en a.n.ec, .int .i64 a.n.ver, .bool a.dirty, .int .i64 a.worth, .int .i64 a.last] 63)) (.cells #[.int .i64 b.n.fid, .bool b.n.dir, .slice b.n.dA b.n.dn b.n.dc, .slice b.n.eA b.n.en b.n.ec, .int .i64 b.n.ver, .bool b.dirty, .int .i64 b.worth, .int .i64 b.last] 63)
  unfold BoxK
  simpa using h
def VWO (sa : Nat) (sb : Nat) (v : KV) (u : KV) : Nat → Value → World → Prop
  | 0 => IsW (.pointer (some ⟨sa, 0 + 6, none⟩))
  | 1 => IsW (.int .i64 (v.worth))
  | 2 => IsW (.pointer (some ⟨sb, 0 + 6, none⟩))
  | 3 => IsW (.int .i64 (u.worth))
  | 4 => IsW (.int .i64 (M.cmpI v.worth u.worth))
  | 5 => IsW (.pointer (some ⟨sa, 0 + 7, none⟩))
  | 6 => IsW (.int .i64 (v.last))
  | 7 => IsW (.pointer (some ⟨sb, 0 + 7, none⟩))
  | 8 => IsW (.int .i64 (u.last))
  | 9 => IsW (.int .i64 (M.cmpI v.last u.last))
  | 10 => IsW (.pointer (some ⟨sa, 0, none⟩))
  | 11 => IsW (.pointer (some ⟨sa, 0, none⟩))
  | 12 => IsW (.int .i64 (v.n.fid))
  | 13 => IsW (.pointer (some ⟨sb, 0, none⟩))
  | 14 => IsW (.pointer (some ⟨sb, 0, none⟩))
  | 15 => IsW (.int .i64 (u.n.fid))
  | 16 => IsW (.int .i64 (M.cmpI v.n.fid u.n.fid))
  | 17 => fun x W => ∃ b : Nat, x = .slice (some ⟨b, 0, none⟩) 3 3 ∧ W.heap[b]? = some (.cells #[.int .i64 (M.cmpI v.worth u.worth), .int .i64 (M.cmpI v.last u.last), .int .i64 (M.cmpI v.n.fid u.n.fid)] 3 (0, 0))
  | 18 => IsW (.int .i64 (worthV v u))
  | 19 => IsW (.int .i64 (worthV v u))
  | _ => fun _ _ => True
theorem VWO_stays (sa : Nat) (sb : Nat) (v : KV) (u : KV) : ∀ i, Stays (VWO sa sb v u i) := by
  intro i v W W' hb h
  match i, h with
  | 0, h => exact h
  | 1, h => exact h
  | 2, h => exact h
  | 3, h => exact h
  | 4, h => exact h
  | 5, h => exact h
  | 6, h => exact h
  | 7, h => exact h
  | 8, h => exact h
  | 9, h => exact h
  | 10, h => exact h
  | 11, h => exact h
  | 12, h => exact h
  | 13, h => exact h
  | 14, h => exact h
  | 15, h => exact h
  | 16, h => exact h
  | 17, h => exact (let ⟨b, h1, h2⟩ := h; ⟨b, h1, (hb.block b (lt_of_block h2)).trans h2⟩)
  | 18, h => exact h
  | 19, h => exact h
  | k + 20, h => trivial
set_option maxRecDepth 8000 in
set_option maxHeartbeats 2000000 in
theorem worth_kept (v u : KV) (w : World) : Calls Try.prog 60 #[v.val, u.val] w fun e w' => e = .returned (.int .i64 (worthV v u)) ∧ Below w.heap.size w w' := by
  have HW : Hid _ := two_boxesK2 w v u
  go_enter Try.func60, Try.ntmps60
  go_upto_region 1 with (fail)
  obtain ⟨w1, hw1⟩ : ∃ W, W = (w.alloc (.cells #[.int .i64 v.n.fid, .bool v.n.dir, .slice v.n.dA v.n.dn v.n.dc, .slice v.n.eA v.n.en v.n.ec, .int .i64 v.n.ver, .bool v.dirty, .int .i64 v.worth, .int .i64 v.last] 63)).alloc (.cells #[.int .i64 u.n.fid, .bool u.n.dir, .slice u.n.dA u.n.dn u.n.dc, .slice u.n.eA u.n.en u.n.ec, .int .i64 u.n.ver, .bool u.dirty, .int .i64 u.worth, .int .i64 u.last] 63) := ⟨_, rfl⟩
  have H1 : Hid (Below w.heap.size w w1 ∧ BoxK w1 w.heap.size v ∧ BoxK w1 (w.heap.size + 1) u ∧ w1.heap.size = w.heap.size + 2) := HW.out _ hw1
  rw [← hw1]
  clear hw1 HW
  go_cut [4] from 4 to 23 (fun t W => t = .int .i64 (worthV v u) ∧ Hid (Below w.heap.size w W))
  case first =>
    have hbd : ∀ W, Below w1.drew.heap.size w1.drew W → Below w1.heap.size w1 W := fun W hb => (Below.refl _ _).drew.trans hb
    have HVA : ∀ W, Below w1.drew.heap.size w1.drew W → KeptAt W w.heap.size 0 v := fun W hb => keptAt_box (H1.out.2.1.below (hbd W hb) (by have := H1.out.2.2.2; omega))
    have HVB : ∀ W, Below w1.drew.heap.size w1.drew W → KeptAt W (w.heap.size + 1) 0 u := fun W hb => keptAt_box (H1.out.2.2.1.below (hbd W hb) (by have := H1.out.2.2.2; omega))
    refine wp_region_vals (VWO w.heap.size (w.heap.size + 1) v u) (by kernel_rfl) (by kernel_rfl) (VWO_stays w.heap.size (w.heap.size + 1) v u) ?_ ?_
    · intro j hj
      match j, hj with
      | 0, _ =>
        refine StepAt.by rfl fun a' W hf hb hd => ?_
        exact .inl ⟨want_none, does_run (run_fieldK2 ((hf.keeps 2 (by kernel_rfl)).trans rfl)) ⟨Below.refl _ _, rfl⟩⟩
      | 1, _ =>
        refine StepAt.by rfl fun a' W hf hb hd => ?_
        exact .inl ⟨want_none, does_run (run_load3 (hd 0 (by kernel_rfl)) ((HVA W hb) 6 _ rfl)) ⟨Below.refl _ _, rfl⟩⟩
      | 2, _ =>
        refine StepAt.by rfl fun a' W hf hb hd => ?_
        exact .inl ⟨want_none, does_run (run_fieldK2 ((hf.keeps 3 (by kernel_rfl)).trans rfl)) ⟨Below.refl _ _, rfl⟩⟩
      | 3, _ =>
        refine StepAt.by rfl fun a' W hf hb hd => ?_
        exact .inl ⟨want_none, does_run (run_load3 (hd 2 (by kernel_rfl)) ((HVB W hb) 6 _ rfl)) ⟨Below.refl _ _, rfl⟩⟩
      | 4, _ =>
        refine StepAt.by rfl fun a' W hf hb hd => ?_
        refine .inl ⟨want_none, ?_⟩
        exact does_call2 (enters_of Try.func54 (by kernel_rfl) (by kernel_rfl)) (hd 1 (by kernel_rfl)) (hd 3 (by kernel_rfl)) ((cmpI_any v.worth u.worth W).mono fun e W2 ⟨he, hw⟩ => ⟨_, he, by rw [hw]; exact Below.refl _ _, rfl⟩)
      | 5, _ =>
        refine StepAt.by rfl fun a' W hf hb hd => ?_
        exact .inl ⟨want_none, does_run (run_fieldK3 ((hf.keeps 2 (by kernel_rfl)).trans rfl)) ⟨Below.refl _ _, rfl⟩⟩
      | 6, _ =>
        refine StepAt.by rfl fun a' W hf hb hd => ?_
        exact .inl ⟨want_none, does_run (run_load3 (hd 5 (by kernel_rfl)) ((HVA W hb) 7 _ rfl)) ⟨Below.refl _ _, rfl⟩⟩
      | 7, _ =>
        refine StepAt.by rfl fun a' W hf hb hd => ?_
        exact .inl ⟨want_none, does_run (run_fieldK3 ((hf.keeps 3 (by kernel_rfl)).trans rfl)) ⟨Below.refl _ _, rfl⟩⟩
      | 8, _ =>
        refine StepAt.by rfl fun a' W hf hb hd => ?_
        exact .inl ⟨want_none, does_run (run_load3 (hd 7 (by kernel_rfl)) ((HVB W hb) 7 _ rfl)) ⟨Below.refl _ _, rfl⟩⟩
      | 9, _ =>
        refine StepAt.by rfl fun a' W hf hb hd => ?_
        refine .inl ⟨want_none, ?_⟩
        exact does_call2 (enters_of Try.func54 (by kernel_rfl) (by kernel_rfl)) (hd 6 (by kernel_rfl)) (hd 8 (by kernel_rfl)) ((cmpI_any v.last u.last W).mono fun e W2 ⟨he, hw⟩ => ⟨_, he, by rw [hw]; exact Below.refl _ _, rfl⟩)
      | 10, _ =>
        refine StepAt.by rfl fun a' W hf hb hd => ?_
        exact .inl ⟨want_none, does_run (run_fieldK0 ((hf.keeps 2 (by kernel_rfl)).trans rfl)) ⟨Below.refl _ _, rfl⟩⟩
      | 11, _ =>
        refine StepAt.by rfl fun a' W hf hb hd => ?_
        exact .inl ⟨want_none, does_run (run_fieldN0 (hd 10 (by kernel_rfl))) ⟨Below.refl _ _, rfl⟩⟩
      | 12, _ =>
        refine StepAt.by rfl fun a' W hf hb hd => ?_
        exact .inl ⟨want_none, does_run (run_load3 (hd 11 (by kernel_rfl)) ((HVA W hb) 0 _ rfl)) ⟨Below.refl _ _, rfl⟩⟩
      | 13, _ =>
        refine StepAt.by rfl fun a' W hf hb hd => ?_
        exact .inl ⟨want_none, does_run (run_fieldK0 ((hf.keeps 3 (by kernel_rfl)).trans rfl)) ⟨Below.refl _ _, rfl⟩⟩
      | 14, _ =>
        refine StepAt.by rfl fun a' W hf hb hd => ?_
        exact .inl ⟨want_none, does_run (run_fieldN0 (hd 13 (by kernel_rfl))) ⟨Below.refl _ _, rfl⟩⟩
      | 15, _ =>
        refine StepAt.by rfl fun a' W hf hb hd => ?_
        exact .inl ⟨want_none, does_run (run_load3 (hd 14 (by kernel_rfl)) ((HVB W hb) 0 _ rfl)) ⟨Below.refl _ _, rfl⟩⟩
      | 16, _ =>
        refine StepAt.by rfl fun a' W hf hb hd => ?_
        refine .inl ⟨want_none, ?_⟩
        exact does_call2 (enters_of Try.func54 (by kernel_rfl) (by kernel_rfl)) (hd 12 (by kernel_rfl)) (hd 15 (by kernel_rfl)) ((cmpI_any v.n.fid u.n.fid W).mono fun e W2 ⟨he, hw⟩ => ⟨_, he, by rw [hw]; exact Below.refl _ _, rfl⟩)
      | 17, _ =>
        refine StepAt.by rfl fun a' W hf hb hd => ?_
        refine .inl ⟨want_none, ?_⟩
        exact does_run (run_build3 (hd 4 (by kernel_rfl)) (hd 9 (by kernel_rfl)) (hd 16 (by kernel_rfl))) ⟨(Below.refl _ _).alloc (Nat.le_refl _) _, _, rfl, heap_alloc_new W _⟩
      | 18, _ =>
        refine StepAt.by rfl fun a' W hf hb hd => ?_
        refine .inl ⟨want_none, ?_⟩
        obtain ⟨bb, e22, hbb⟩ := hd 17 (by kernel_rfl)
        exact does_call1 (enters_of Try.func76 (by kernel_rfl) (by kernel_rfl)) e22 ((or_any (some ⟨bb, 0, none⟩) 3 3 [M.cmpI v.worth u.worth, M.cmpI v.last u.last, M.cmpI v.n.fid u.n.fid] W (ints3 hbb) (by decide)).mono fun e W2 ⟨he, hb2⟩ => ⟨_, he, hb2, rfl⟩)
      | 19, _ =>
        refine StepAt.by rfl fun a' W hf hb hd => ?_
        exact .inl ⟨want_none, does_assign (hd 18 (by kernel_rfl)) ⟨Below.refl _ _, rfl⟩⟩
      | k + 20, hi => exact absurd hi (Nat.not_lt.2 (Nat.le_add_left _ _))
    · intro a' W hf hb hv
      have hlast : a'.eval (.tmp 4) = .int .i64 (worthV v u) := hv 19 (by decide)
      have hl := hf.lit (fun t => decide (4 ≤ t) && decide (t ≤ 23)) (by kernel_rfl)
      simp only [overL, Nat.reduceAdd, Nat.reduceLeDiff, decide_true, decide_false, Bool.and_true] at hl
      rw [hl]
      clear hl
      go_wp2_with (fail)
      go_meet
      case rel => exact ⟨hlast, H1.out.1.trans (hb.mono H1.out.1.size)⟩
  obtain ⟨rfl, HB⟩ := hcut
  go_wp2_with (fail)
  go_ret
  exact ⟨rfl, HB.out⟩
end Go.Proofs.Ytjpdoblmdchmkad
/-
  PACKAGE cache: Worst.
-/
namespace Go.Proofs.Ytjpdoblmdchmkad
open Go.RowKit

theorem M.aheadC_some {xs : List M.Kp} {x y : M.Kp} {i : Nat} (h : xs[i]? = some y) : M.ahead xs x (some i) = M.worseS x y := by unfold M.ahead; simp only [h]
def idxW : Option Nat → Int
  | none => -1
  | some i => (i : Int)
theorem worseC_is {w w' : World} {a b : KV} {x y : M.Kp} (ha : ContC w a x) (hb : ContC w' b y) : worseV a b = M.worseS x y := by
  unfold worseV M.worseS
  rw [ha.2.2.1, ha.2.2.2, ha.1.1, hb.2.2.1, hb.2.2.2, hb.1.1]
def VWA (v : KV) : Nat → Value → World → Prop
  | 0 => IsW (KV.val v)
  | 1 => IsW (.bool false)
  | 2 => IsW (.bool false)
  | 3 => IsW (undef)
  | 4 => IsW (undef)
  | 5 => IsW (undef)
  | 6 => IsW (undef)
  | 7 => IsW (undef)
  | 8 => IsW (undef)
  | 9 => IsW (undef)
  | 10 => IsW (undef)
  | 11 => IsW (undef)
  | 12 => IsW (undef)
  | 13 => IsW (undef)
  | 14 => IsW (.bool false)
  | _ => fun _ _ => True
theorem VWA_stays (v : KV) : ∀ i, Stays (VWA v i) := by
  intro i v W W' hb h
  match i, h with
  | 0, h => exact h
  | 1, h => exact h
  | 2, h => exact h
  | 3, h => exact h
  | 4, h => exact h
  | 5, h => exact h
  | 6, h => exact h
  | 7, h => exact h
  | 8, h => exact h
  | 9, h => exact h
  | 10, h => exact h
  | 11, h => exact h
  | 12, h => exact h
  | 13, h => exact h
  | 14, h => exact h
  | k + 15, h => trivial
def VWC (v : KV) : Nat → Value → World → Prop
  | 0 => IsW (KV.val v)
  | 1 => IsW (.bool true)
  | 2 => IsW (.bool true)
  | 3 => IsW (.int .i64 (-1))
  | 4 => IsW (.bool true)
  | 5 => IsW (.bool true)
  | 6 => IsW (undef)
  | 7 => IsW (undef)
  | 8 => IsW (undef)
  | 9 => IsW (undef)
  | 10 => IsW (undef)
  | 11 => IsW (undef)
  | 12 => IsW (undef)
  | 13 => IsW (.bool true)
  | 14 => IsW (.bool true)
  | _ => fun _ _ => True
theorem VWC_stays (v : KV) : ∀ i, Stays (VWC v i) := by
  intro i v W W' hb h
  match i, h with
  | 0, h => exact h
  | 1, h => exact h
  | 2, h => exact h
  | 3, h => exact h
  | 4, h => exact h
  | 5, h => exact h
  | 6, h => exact h
  | 7, h => exact h
  | 8, h => exact h
  | 9, h => exact h
  | 10, h => exact h
  | 11, h => exact h
  | 12, h => exact h
  | 13, h => exact h
  | 14, h => exact h
  | k + 15, h => trivial
def VWD (g : Nat) (o : Nat) (n : Nat) (c : Nat) (iq : Nat) (v : KV) (vi : KV) : Nat → Value → World → Prop
  | 0 => IsW (KV.val v)
  | 1 => IsW (.bool true)
  | 2 => IsW (.bool true)
  | 3 => IsW (.int .i64 ((iq : Nat) : Int))
  | 4 => IsW (.bool false)
  | 5 => IsW (.bool false)
  | 6 => IsW (KV.val v)
  | 7 => IsW (.slice (some ⟨g, o, none⟩) n c)
  | 8 => IsW (.int .i64 ((iq : Nat) : Int))
  | 9 => IsW (.pointer (some ⟨g, o + iq * 8, none⟩))
  | 10 => IsW (KV.val vi)
  | 11 => IsW (.int .i64 (worthV v vi))
  | 12 => IsW (.bool (decide ((worthV v vi : Int) < (0 : Int))))
  | 13 => IsW (.bool (decide ((worthV v vi : Int) < (0 : Int))))
  | 14 => IsW (.bool (decide ((worthV v vi : Int) < (0 : Int))))
  | _ => fun _ _ => True
theorem VWD_stays (g : Nat) (o : Nat) (n : Nat) (c : Nat) (iq : Nat) (v : KV) (vi : KV) : ∀ i, Stays (VWD g o n c iq v vi i) := by
  intro i v W W' hb h
  match i, h with
  | 0, h => exact h
  | 1, h => exact h
  | 2, h => exact h
  | 3, h => exact h
  | 4, h => exact h
  | 5, h => exact h
  | 6, h => exact h
  | 7, h => exact h
  | 8, h => exact h
  | 9, h => exact h
  | 10, h => exact h
  | 11, h => exact h
  | 12, h => exact h
  | 13, h => exact h
  | 14, h => exact h
  | k + 15, h => trivial
set_option maxRecDepth 8000 in
set_option maxHeartbeats 4000000 in
theorem worst_kept (A : Option Addr) (n c : Nat) (vs : List KV) (xs : List M.Kp) (w : World) (ht : TreeC w A n vs xs) (hn : n ≤ 140737488355328) :
    Calls Try.prog 31 #[.slice A n c] w fun e w' => e = .returned (.int .i64 (idxW (M.worstS xs xs.length))) ∧ Below w.heap.size w w' := by
  have HT : Hid (TreeC w A n vs xs) := ht
  have HLN : Hid (n = xs.length) := ht.len
  clear ht
  go_enter Try.func31, Try.ntmps31
  go_wp2_with (fail)
  go_loopw [3, 8] (fun t i W => ∃ j : Nat, j ≤ n ∧ i = .int .i64 j ∧ t = .int .i64 (idxW (M.worstS xs j)) ∧ Below w.heap.size w W) (fun _ i _ => n - (intOf i).toNat)
  case atStart => exact ⟨0, Nat.zero_le _, rfl, rfl, Below.refl _ _⟩
  case round =>
    obtain ⟨j, hj, rfl, rfl, hbj⟩ := hrel
    rename World => wj
    have HBJ : Hid (Below w.heap.size w wj) := hbj
    by_cases hlt : j < n
    · have htr := HT.out.below (Nat.le_refl _) hbj
      obtain ⟨g, o, v, hV, hgb, hvk, c0, c1, c2, c3, c4, c5, c6, c7⟩ := htr.1.at hlt
      obtain ⟨x, hx, hcx⟩ := htr.2.at hvk
      subst hV
      obtain ⟨wi, hwi⟩ : ∃ q, q = M.worstS xs j := ⟨_, rfl⟩
      have HWI : Hid (wi = M.worstS xs j ∧ ∀ i, wi = some i → i < j) := ⟨hwi, fun i h => (M.worst_lt xs j i (by rw [← hwi]; exact h)).1⟩
      rw [← hwi]
      have HX : Hid (xs[j]? = some x ∧ ContC wj v x) := ⟨hx, hcx⟩
      have HWA : Hid _ := boxK_one wj v
      clear hwi hvk hx hcx hbj htr
      go_upto_region 5 with (fail)
      obtain ⟨w3, hw3⟩ : ∃ W, W = wj.alloc (.cells #[.int .i64 v.n.fid, .bool v.n.dir, .slice v.n.dA v.n.dn v.n.dc, .slice v.n.eA v.n.en v.n.ec, .int .i64 v.n.ver, .bool v.dirty, .int .i64 v.worth, .int .i64 v.last] 63) := ⟨_, rfl⟩
      have H3N : Hid (Below w.heap.size w w3) := HBJ.out.trans ((HWA.out _ hw3).1.mono HBJ.out.size)
      have H3 : Hid (Below w.heap.size w w3.drew ∧ BoxK w3.drew wj.heap.size v ∧ Below wj.heap.size wj w3.drew) := by
        obtain ⟨q1, q2, q3⟩ := HWA.out _ hw3
        exact ⟨(HBJ.out.trans (q1.mono HBJ.out.size)).drew, q2.below (Below.refl _ _).drew (Nat.lt_of_lt_of_eq (Nat.lt_succ_self _) q3.symm), q1.drew⟩
      rw [← hw3]
      clear hw3 HWA c0 c1 c2 c3 c4 c5 c6 c7
      have hgd : g < w3.drew.heap.size := Nat.lt_of_lt_of_le hgb H3.out.2.2.size
      clear hgb
      go_cut [27] from 13 to 27 (fun t W => t = .bool (M.freeK x && M.ahead xs x wi) ∧ Hid (Below w.heap.size w W))
      case first =>
        have HFK : Hid (M.freeK x = (!v.dirty && !decide (v.n.fid = 0))) := by show _ = _; unfold M.freeK; rw [HX.out.2.2.1, HX.out.2.1.1]
        have HVB : ∀ W, Below w3.drew.heap.size w3.drew W → KeptAt W wj.heap.size 0 v := fun W hb => (keptAt_box H3.out.2.1).below hb (lt_of_block H3.out.2.1)
        obtain ⟨mg, hmg⟩ : ∃ mg, (!v.dirty && !decide (v.n.fid = 0)) = mg := ⟨_, rfl⟩
        have HMG : Hid ((!v.dirty && !decide (v.n.fid = 0)) = mg) := hmg
        rw [hmg] at HFK
        clear hmg
        cases mg
        case' false =>
          have HE : Hid (M.freeK x = false) := HFK.out
          refine wp_region_vals (VWA v) (by kernel_rfl) (by kernel_rfl) (VWA_stays v) ?_ ?_
          · intro j hj
            match j, hj with
            | 0, _ =>
              refine StepAt.by rfl fun a' W hf hb hd => ?_
              exact .inl ⟨want_none, does_run (run_loadKp ((hf.keeps 5 (by kernel_rfl)).trans rfl) (HVB W hb)) ⟨Below.refl _ _, rfl⟩⟩
            | 1, _ =>
              refine StepAt.by rfl fun a' W hf hb hd => ?_
              refine .inl ⟨want_none, ?_⟩
              exact does_call1 (enters_of Try.func59 (by kernel_rfl) (by kernel_rfl)) (hd 0 (by kernel_rfl)) ((mayGo_kept v W).mono fun e W2 ⟨he, hb2⟩ => ⟨_, he, hb2, by show Value.bool _ = _; rw [HMG.out]⟩)
            | 2, _ =>
              refine StepAt.by rfl fun a' W hf hb hd => ?_
              exact .inl ⟨want_none, does_move (hd 1 (by kernel_rfl)) ⟨Below.refl _ _, rfl⟩⟩
            | 3, _ =>
              refine StepAt.by rfl fun a' W hf hb hd => ?_
              exact .inr ⟨want_some (k := 2) (t := 15) rfl (hd 2 (by kernel_rfl)), rfl⟩
            | 4, _ =>
              refine StepAt.by rfl fun a' W hf hb hd => ?_
              exact .inr ⟨want_some (k := 2) (t := 15) rfl (hd 2 (by kernel_rfl)), rfl⟩
            | 5, _ =>
              refine StepAt.by rfl fun a' W hf hb hd => ?_
              exact .inr ⟨want_some (k := 2) (t := 15) rfl (hd 2 (by kernel_rfl)), rfl⟩
            | 6, _ =>
              refine StepAt.by rfl fun a' W hf hb hd => ?_
              exact .inr ⟨want_undef (k := 5) (t := 18) rfl (hd 5 (by kernel_rfl)), rfl⟩
            | 7, _ =>
              refine StepAt.by rfl fun a' W hf hb hd => ?_
              exact .inr ⟨want_undef (k := 5) (t := 18) rfl (hd 5 (by kernel_rfl)), rfl⟩
            | 8, _ =>
              refine StepAt.by rfl fun a' W hf hb hd => ?_
              exact .inr ⟨want_undef (k := 5) (t := 18) rfl (hd 5 (by kernel_rfl)), rfl⟩
            | 9, _ =>
              refine StepAt.by rfl fun a' W hf hb hd => ?_
              exact .inr ⟨want_undef (k := 5) (t := 18) rfl (hd 5 (by kernel_rfl)), rfl⟩
            | 10, _ =>
              refine StepAt.by rfl fun a' W hf hb hd => ?_
              exact .inr ⟨want_undef (k := 5) (t := 18) rfl (hd 5 (by kernel_rfl)), rfl⟩
            | 11, _ =>
              refine StepAt.by rfl fun a' W hf hb hd => ?_
              exact .inr ⟨want_undef (k := 5) (t := 18) rfl (hd 5 (by kernel_rfl)), rfl⟩
            | 12, _ =>
              refine StepAt.by rfl fun a' W hf hb hd => ?_
              exact .inr ⟨want_undef (k := 5) (t := 18) rfl (hd 5 (by kernel_rfl)), rfl⟩
            | 13, _ =>
              refine StepAt.by rfl fun a' W hf hb hd => ?_
              exact .inr ⟨want_some (k := 2) (t := 15) rfl (hd 2 (by kernel_rfl)), rfl⟩
            | 14, _ =>
              refine StepAt.by rfl fun a' W hf hb hd => ?_
              exact .inl ⟨want_none, does_pick (b := false) (hd 2 (by kernel_rfl)) rfl ⟨Below.refl _ _, rfl⟩⟩
            | k + 15, hi => exact absurd hi (Nat.not_lt.2 (Nat.le_add_left _ _))
          · intro a' W hf hb hv
            have hlast : a'.eval (.tmp 27) = .bool false := hv 14 (by decide)
            have hl := hf.lit (fun t => decide (13 ≤ t) && decide (t ≤ 27)) (by kernel_rfl)
            simp only [overL, Nat.reduceAdd, Nat.reduceLeDiff, decide_true, decide_false, Bool.and_true, Bool.and_false] at hl
            rw [hl]
            clear hl
            go_wp2_with (fail)
            go_meet
            case rel => exact ⟨hlast.trans (congrArg Value.bool (by rw [HE.out]; rfl)), H3N.out.trans (hb.mono H3N.out.size)⟩
        case' true =>
          rcases wi with _ | i
          · have HE : Hid ((M.freeK x && M.ahead xs x none) = true) := by show _ = _; rw [HFK.out]; rfl
            have rb2 : decide ((-1 : Int) < (0 : Int)) = true := by decide
            rw [show idxW none = -1 from rfl]
            refine wp_region_vals (VWC v) (by kernel_rfl) (by kernel_rfl) (VWC_stays v) ?_ ?_
            · intro j hj
              match j, hj with
              | 0, _ =>
                refine StepAt.by rfl fun a' W hf hb hd => ?_
                exact .inl ⟨want_none, does_run (run_loadKp ((hf.keeps 5 (by kernel_rfl)).trans rfl) (HVB W hb)) ⟨Below.refl _ _, rfl⟩⟩
              | 1, _ =>
                refine StepAt.by rfl fun a' W hf hb hd => ?_
                refine .inl ⟨want_none, ?_⟩
                exact does_call1 (enters_of Try.func59 (by kernel_rfl) (by kernel_rfl)) (hd 0 (by kernel_rfl)) ((mayGo_kept v W).mono fun e W2 ⟨he, hb2⟩ => ⟨_, he, hb2, by show Value.bool _ = _; rw [HMG.out]⟩)
              | 2, _ =>
                refine StepAt.by rfl fun a' W hf hb hd => ?_
                exact .inl ⟨want_none, does_move (hd 1 (by kernel_rfl)) ⟨Below.refl _ _, rfl⟩⟩
              | 3, _ =>
                refine StepAt.by rfl fun a' W hf hb hd => ?_
                exact .inl ⟨want_some (k := 2) (t := 15) rfl (hd 2 (by kernel_rfl)), does_move ((hf.keeps 3 (by kernel_rfl)).trans rfl) ⟨Below.refl _ _, rfl⟩⟩
              | 4, _ =>
                refine StepAt.by rfl fun a' W hf hb hd => ?_
                exact .inl ⟨want_some (k := 2) (t := 15) rfl (hd 2 (by kernel_rfl)), does_run (run_lssI (hd 3 (by kernel_rfl)) rfl) ⟨Below.refl _ _, by show Value.bool _ = _; rw [rb2]⟩⟩
              | 5, _ =>
                refine StepAt.by rfl fun a' W hf hb hd => ?_
                exact .inl ⟨want_some (k := 2) (t := 15) rfl (hd 2 (by kernel_rfl)), does_move (hd 4 (by kernel_rfl)) ⟨Below.refl _ _, rfl⟩⟩
              | 6, _ =>
                refine StepAt.by rfl fun a' W hf hb hd => ?_
                exact .inr ⟨want_some (k := 5) (t := 18) rfl (hd 5 (by kernel_rfl)), rfl⟩
              | 7, _ =>
                refine StepAt.by rfl fun a' W hf hb hd => ?_
                exact .inr ⟨want_some (k := 5) (t := 18) rfl (hd 5 (by kernel_rfl)), rfl⟩
              | 8, _ =>
                refine StepAt.by rfl fun a' W hf hb hd => ?_
                exact .inr ⟨want_some (k := 5) (t := 18) rfl (hd 5 (by kernel_rfl)), rfl⟩
              | 9, _ =>
                refine StepAt.by rfl fun a' W hf hb hd => ?_
                exact .inr ⟨want_some (k := 5) (t := 18) rfl (hd 5 (by kernel_rfl)), rfl⟩
              | 10, _ =>
                refine StepAt.by rfl fun a' W hf hb hd => ?_
                exact .inr ⟨want_some (k := 5) (t := 18) rfl (hd 5 (by kernel_rfl)), rfl⟩
              | 11, _ =>
                refine StepAt.by rfl fun a' W hf hb hd => ?_
                exact .inr ⟨want_some (k := 5) (t := 18) rfl (hd 5 (by kernel_rfl)), rfl⟩
              | 12, _ =>
                refine StepAt.by rfl fun a' W hf hb hd => ?_
                exact .inr ⟨want_some (k := 5) (t := 18) rfl (hd 5 (by kernel_rfl)), rfl⟩
              | 13, _ =>
                refine StepAt.by rfl fun a' W hf hb hd => ?_
                exact .inl ⟨want_some (k := 2) (t := 15) rfl (hd 2 (by kernel_rfl)), does_pick (b := true) (hd 5 (by kernel_rfl)) rfl ⟨Below.refl _ _, rfl⟩⟩
              | 14, _ =>
                refine StepAt.by rfl fun a' W hf hb hd => ?_
                exact .inl ⟨want_none, does_pick (b := true) (hd 2 (by kernel_rfl)) (hd 13 (by kernel_rfl)) ⟨Below.refl _ _, rfl⟩⟩
              | k + 15, hi => exact absurd hi (Nat.not_lt.2 (Nat.le_add_left _ _))
            · intro a' W hf hb hv
              have hlast : a'.eval (.tmp 27) = .bool true := hv 14 (by decide)
              have hl := hf.lit (fun t => decide (13 ≤ t) && decide (t ≤ 27)) (by kernel_rfl)
              simp only [overL, Nat.reduceAdd, Nat.reduceLeDiff, decide_true, decide_false, Bool.and_true, Bool.and_false] at hl
              rw [hl]
              clear hl
              go_wp2_with (fail)
              go_meet
              case rel => exact ⟨hlast.trans (congrArg Value.bool (HE.out.symm)), H3N.out.trans (hb.mono H3N.out.size)⟩
          · have hij : i < j := HWI.out.2 i rfl
            have hin : i < n := by omega
            have rb2 : decide (((i : Nat) : Int) < (0 : Int)) = false := by simp
            obtain ⟨g', o', vi, e9, hgi, hvi, _⟩ := (HT.out.below (Nat.le_refl _) H3.out.1).1.at hin
            cases e9
            obtain ⟨y, hy, hcy⟩ := (HT.out.below (Nat.le_refl _) H3.out.1).2.at hvi
            have HWV : Hid (M.ahead xs x (some i) = decide (worthV v vi < 0)) := by
              show _ = _
              rw [M.aheadC_some hy, worthV_is]
              exact (worseC_is HX.out.2 hcy).symm
            have HVI : ∀ W, Below w3.drew.heap.size w3.drew W → KeptAt W g (o + i * 8) vi := fun W hb => (keptAt_of (HT.out.below (Nat.le_refl _) H3.out.1).1 hvi).below hb hgi
            have HE : Hid ((M.freeK x && M.ahead xs x (some i)) = decide (worthV v vi < 0)) := by show _ = _; rw [HFK.out, HWV.out]; rfl
            rw [show idxW (some i) = (i : Int) from rfl]
            clear hvi hy hcy hgi
            refine wp_region_vals (VWD g o n c i v vi) (by kernel_rfl) (by kernel_rfl) (VWD_stays g o n c i v vi) ?_ ?_
            · intro j hj
              match j, hj with
              | 0, _ =>
                refine StepAt.by rfl fun a' W hf hb hd => ?_
                exact .inl ⟨want_none, does_run (run_loadKp ((hf.keeps 5 (by kernel_rfl)).trans rfl) (HVB W hb)) ⟨Below.refl _ _, rfl⟩⟩
              | 1, _ =>
                refine StepAt.by rfl fun a' W hf hb hd => ?_
                refine .inl ⟨want_none, ?_⟩
                exact does_call1 (enters_of Try.func59 (by kernel_rfl) (by kernel_rfl)) (hd 0 (by kernel_rfl)) ((mayGo_kept v W).mono fun e W2 ⟨he, hb2⟩ => ⟨_, he, hb2, by show Value.bool _ = _; rw [HMG.out]⟩)
              | 2, _ =>
                refine StepAt.by rfl fun a' W hf hb hd => ?_
                exact .inl ⟨want_none, does_move (hd 1 (by kernel_rfl)) ⟨Below.refl _ _, rfl⟩⟩
              | 3, _ =>
                refine StepAt.by rfl fun a' W hf hb hd => ?_
                exact .inl ⟨want_some (k := 2) (t := 15) rfl (hd 2 (by kernel_rfl)), does_move ((hf.keeps 3 (by kernel_rfl)).trans rfl) ⟨Below.refl _ _, rfl⟩⟩
              | 4, _ =>
                refine StepAt.by rfl fun a' W hf hb hd => ?_
                exact .inl ⟨want_some (k := 2) (t := 15) rfl (hd 2 (by kernel_rfl)), does_run (run_lssI (hd 3 (by kernel_rfl)) rfl) ⟨Below.refl _ _, by show Value.bool _ = _; rw [rb2]⟩⟩
              | 5, _ =>
                refine StepAt.by rfl fun a' W hf hb hd => ?_
                exact .inl ⟨want_some (k := 2) (t := 15) rfl (hd 2 (by kernel_rfl)), does_move (hd 4 (by kernel_rfl)) ⟨Below.refl _ _, rfl⟩⟩
              | 6, _ =>
                refine StepAt.by rfl fun a' W hf hb hd => ?_
                exact .inl ⟨want_some (k := 5) (t := 18) rfl (hd 5 (by kernel_rfl)), does_run (run_loadKp ((hf.keeps 5 (by kernel_rfl)).trans rfl) (HVB W hb)) ⟨Below.refl _ _, rfl⟩⟩
              | 7, _ =>
                refine StepAt.by rfl fun a' W hf hb hd => ?_
                exact .inl ⟨want_some (k := 5) (t := 18) rfl (hd 5 (by kernel_rfl)), does_move ((hf.keeps 0 (by kernel_rfl)).trans rfl) ⟨Below.refl _ _, rfl⟩⟩
              | 8, _ =>
                refine StepAt.by rfl fun a' W hf hb hd => ?_
                exact .inl ⟨want_some (k := 5) (t := 18) rfl (hd 5 (by kernel_rfl)), does_move ((hf.keeps 3 (by kernel_rfl)).trans rfl) ⟨Below.refl _ _, rfl⟩⟩
              | 9, _ =>
                refine StepAt.by rfl fun a' W hf hb hd => ?_
                exact .inl ⟨want_some (k := 5) (t := 18) rfl (hd 5 (by kernel_rfl)), does_run (run_indexK (hd 7 (by kernel_rfl)) (hd 8 (by kernel_rfl)) (by omega)) ⟨Below.refl _ _, rfl⟩⟩
              | 10, _ =>
                refine StepAt.by rfl fun a' W hf hb hd => ?_
                exact .inl ⟨want_some (k := 5) (t := 18) rfl (hd 5 (by kernel_rfl)), does_run (run_loadKp (hd 9 (by kernel_rfl)) (HVI W hb)) ⟨Below.refl _ _, rfl⟩⟩
              | 11, _ =>
                refine StepAt.by rfl fun a' W hf hb hd => ?_
                refine .inl ⟨want_some (k := 5) (t := 18) rfl (hd 5 (by kernel_rfl)), ?_⟩
                exact does_call2 (enters_of Try.func60 (by kernel_rfl) (by kernel_rfl)) (hd 6 (by kernel_rfl)) (hd 10 (by kernel_rfl)) ((worth_kept v vi W).mono fun e W2 ⟨he, hb2⟩ => ⟨_, he, hb2, rfl⟩)
              | 12, _ =>
                refine StepAt.by rfl fun a' W hf hb hd => ?_
                exact .inl ⟨want_some (k := 5) (t := 18) rfl (hd 5 (by kernel_rfl)), does_run (run_lssI (hd 11 (by kernel_rfl)) rfl) ⟨Below.refl _ _, rfl⟩⟩
              | 13, _ =>
                refine StepAt.by rfl fun a' W hf hb hd => ?_
                exact .inl ⟨want_some (k := 2) (t := 15) rfl (hd 2 (by kernel_rfl)), does_pick (b := false) (hd 5 (by kernel_rfl)) (hd 12 (by kernel_rfl)) ⟨Below.refl _ _, rfl⟩⟩
              | 14, _ =>
                refine StepAt.by rfl fun a' W hf hb hd => ?_
                exact .inl ⟨want_none, does_pick (b := true) (hd 2 (by kernel_rfl)) (hd 13 (by kernel_rfl)) ⟨Below.refl _ _, rfl⟩⟩
              | k + 15, hi => exact absurd hi (Nat.not_lt.2 (Nat.le_add_left _ _))
            · intro a' W hf hb hv
              have hlast : a'.eval (.tmp 27) = .bool (decide (worthV v vi < 0)) := hv 14 (by decide)
              have hl := hf.lit (fun t => decide (13 ≤ t) && decide (t ≤ 27)) (by kernel_rfl)
              simp only [overL, Nat.reduceAdd, Nat.reduceLeDiff, decide_true, decide_false, Bool.and_true, Bool.and_false] at hl
              rw [hl]
              clear hl
              go_wp2_with (fail)
              go_meet
              case rel => exact ⟨hlast.trans (congrArg Value.bool (HE.out.symm)), H3N.out.trans (hb.mono H3N.out.size)⟩
      obtain ⟨rfl, H4⟩ := hcut
      rename World => w4
      clear H3
      have HST : Hid (M.worstS xs (j + 1) = if (M.freeK x && M.ahead xs x wi) = true then some j else wi) := by
        show _ = _
        rw [M.worst_step HX.out.1, HWI.out.1]
      generalize (M.freeK x && M.ahead xs x wi) = fl at HST ⊢
      cases fl
      · go_wp2_with (fail)
        go_roundw
        case rel => exact ⟨j + 1, by omega, by go_num, congrArg (fun q => Value.int .i64 (idxW q)) (by rw [HST.out]; rfl), H4.out⟩
        case measure => simp [intOf]; omega
      · go_wp2_with (fail)
        go_roundw
        case rel => exact ⟨j + 1, by omega, by go_num, (by rw [HST.out]; rfl), H4.out⟩
        case measure => simp [intOf]; omega
    · have hjn : j = xs.length := by rw [← HLN.out]; omega
      subst hjn
      go_wp2_with (fail)
      go_ret
      exact ⟨rfl, HBJ.out⟩
end Go.Proofs.Ytjpdoblmdchmkad
/-
  PACKAGE cache: slices.Delete of one that is kept.
-/
namespace Go.Proofs.Ytjpdoblmdchmkad
open Go.RowKit

theorem step_append_spare {P : Program} {w : World} {ops : Array Oper} {o : Oper} {a : Act} {K : Act → World → Prop} {Q : Exit → Act → World → Prop} {E : Prop} (hg : o.guard = none) (s x : Operand) (t : TypeId)
    (ho : o.op = .call { callee := .builtin .append, args := #[s, x], argTypes := #[t, t] })
    (base : Nat) (e : TypeId) (i : TypeInfo) (size : Nat) (ht : P.underlying t = some (.slice e)) (hi : P.info? e = some i) (hsize : i.size = size)
    (g n cap : Nat) (xs : List Value) (hs : a.eval s = .slice (some ⟨g, 0, none⟩) n cap) (hown : w.ownsRow base e size (.slice (some ⟨g, 0, none⟩) n cap) n xs)
    (ad : Addr) (m c : Nat) (news : List Value) (hx : a.eval x = .slice (some ad) m c) (hl : news.length = m * size) (hnews : ∀ j u, news[j]? = some u → w.cell? (ad.add j) = some u) (h1 : ∀ u ∈ news, u.oneCell' = true)
    (hroom : n + m ≤ cap)
    (h : ∀ w', w'.ownsRow base e size (.slice (some ⟨g, 0, none⟩) (n + m) cap) (n + m) (xs ++ news) → w.grownBy w' (some g) → K (a.put o.dst (.slice (some ⟨g, 0, none⟩) (n + m) cap)) w') :
    if Region.wanted o (yielded ops a.tmps) = true then Oper.wp P o a w K Q else E := by
  have hw : Region.wanted o (yielded ops a.tmps) = true := by simp [Region.wanted, hg]
  rw [if_pos hw]
  exact wp_append_own_spare w s x t ho base e i size ht hi hsize g n cap xs hs hown ad m c news hx hl hnews h1 hroom h
theorem own_pre {w : World} {B : Nat} {e : TypeId} {k g n c i : Nat} {xs : List Value} (h : w.ownsRow B e k (.slice (some ⟨g, 0, none⟩) n c) n xs) (hi : i ≤ n) : w.ownsRow B e k (.slice (some ⟨g, 0, none⟩) i c) i (xs.take (i * k)) := by
  have hm : i * k ≤ n * k := Nat.mul_le_mul_right _ hi
  refine ⟨by rw [List.length_take, h.1]; omega, ?_⟩
  rcases h.2 with ⟨h', _⟩ | ⟨g', cap, cur, h', hb, hg, hnc, hcm, hcs, htake⟩
  · cases h'
  · cases h'
    refine .inr ⟨g, c, cur, rfl, hb, hg, by omega, hcm, hcs, ?_⟩
    rw [← htake, List.take_take]
    congr 1
    omega
theorem own_more {w : World} {B : Nat} {e : TypeId} {k g q n c : Nat} {xs : List Value} (h : w.ownsRow B e k (.slice (some ⟨g, 0, none⟩) q c) q xs) (hq : q ≤ n) (hn : n ≤ c) : ∃ ys, w.ownsRow B e k (.slice (some ⟨g, 0, none⟩) n c) n ys ∧ ys.take (q * k) = xs := by
  have hm : q * k ≤ n * k := Nat.mul_le_mul_right _ hq
  have hm2 : n * k ≤ c * k := Nat.mul_le_mul_right _ hn
  rcases h.2 with ⟨h', _⟩ | ⟨g', cap, cur, h', hb, hg, hnc, hcm, hcs, htake⟩
  · cases h'
  · cases h'
    refine ⟨cur.toList.take (n * k), ⟨?_, .inr ⟨g, c, cur, rfl, hb, hg, hn, hcm, hcs, rfl⟩⟩, ?_⟩
    · rw [List.length_take, Array.length_toList, hcs]; omega
    · rw [List.take_take, ← htake]
      congr 1
      omega
theorem zcK : (Value.cells (.agg #[.int .i64 0, .bool false, .slice none 0 0, .slice none 0 0, .int .i64 0, .bool false, .int .i64 0, .int .i64 0])).size = 8 := rfl
theorem zoK : ∀ u ∈ (Value.cells (.agg #[.int .i64 0, .bool false, .slice none 0 0, .slice none 0 0, .int .i64 0, .bool false, .int .i64 0, .int .i64 0])).toList, u.oneCell' = true := by
  intro u hu; simp [Value.cells] at hu; rcases hu with rfl | rfl | rfl | rfl | rfl | rfl | rfl | rfl <;> rfl
theorem rowK_drop {w : World} {b o n : Nat} {vs : List KV} (h : Kepts w (some ⟨b, o, none⟩) n vs) (j : Nat) : Kepts w (some ⟨b, o + j * 8, none⟩) (n - j) (vs.drop j) := by
  obtain ⟨hn, h⟩ := h
  refine ⟨by rw [List.length_drop]; omega, ?_⟩
  rcases h with h | ⟨b', o', e, hlt, hc⟩
  · left; rw [h]; simp
  · cases e
    refine .inr ⟨b, o + j * 8, rfl, hlt, fun i v hv k c hk => ?_⟩
    rw [List.getElem?_drop] at hv
    have := hc (j + i) v hv k c hk
    rw [show o + j * 8 + i * 8 + k = o + (j + i) * 8 + k by omega]
    exact this
theorem rowK_cells {w : World} {b o n : Nat} {vs : List KV} (h : Kepts w (some ⟨b, o, none⟩) n vs) : ∀ j u, (vs.flatMap KV.cells)[j]? = some u → w.cell? (Addr.add ⟨b, o, none⟩ j) = some u := by
  intro j u hj
  obtain ⟨v, hv, hc⟩ := fm_inv kept_len vs j u hj
  rcases h.2 with h0 | ⟨b', o', e, _, hcell⟩
  · rw [h0] at hv; cases hv
  · cases e
    have := hcell (j / 8) v hv (j % 8) u hc
    have e : o + j / 8 * 8 + j % 8 = o + j := by omega
    rw [e] at this
    by_cases hj0 : j = 0
    · subst hj0
      simpa [Addr.add] using this
    · simpa [Addr.add, hj0] using this
set_option maxRecDepth 8000 in
set_option maxHeartbeats 4000000 in
theorem delete_kept (g n c B i : Nat) (us : List KV) (w : World) (hown : w.ownsRow B 63 8 (.slice (some ⟨g, 0, none⟩) n c) n (us.flatMap KV.cells)) (hi : i < n) (hn : n ≤ 140737488355328) :
    Calls Try.prog 49 #[.slice (some ⟨g, 0, none⟩) n c, .int .i64 (i : Int), .int .i64 ((i : Int) + 1)] w fun e w' => e = .returned (.slice (some ⟨g, 0, none⟩) (n - 1) c) ∧ w'.ownsRow B 63 8 (.slice (some ⟨g, 0, none⟩) (n - 1) c) (n - 1) ((us.eraseIdx i).flatMap KV.cells) ∧ w.grownBy w' (some g) := by
  obtain ⟨iK, hiK, hzK, hsK, hbK⟩ := info_parts infoK
  have hnc : n ≤ c := by
    obtain ⟨A9, c9, e9, h9, _⟩ := own_form hown
    cases e9
    exact h9
  have HO : Hid (w.ownsRow B 63 8 (.slice (some ⟨g, 0, none⟩) n c) n (us.flatMap KV.cells)) := hown
  have HK : Hid (Kepts w (some ⟨g, 0, none⟩) n us) := Row.ofOwn kept_len (by decide) hown
  clear hown
  have hi0 : (0 : Int) ≤ (i : Int) + 1 := by omega
  have hi1 : ((i : Int) + 1).toNat = i + 1 := by omega
  have hle1 : (i : Int) + 1 ≤ (n : Int) := by omega
  have hlei : (i : Int) ≤ (i : Int) + 1 := by omega
  have hnci : (n : Int) ≤ (c : Int) := by omega
  have hne : ((i : Int) == (i : Int) + 1) = false := by simp; omega
  go_enter Try.func49, Try.ntmps49
  go_upto_region 5 with (fail)
  obtain ⟨ad, hax⟩ : ∃ ad : Addr, (if c = i + 1 then some ⟨g, 0, none⟩ else some ⟨g, (i + 1) * 8, none⟩ : Option Addr) = some ad := by
    split
    · exact ⟨_, rfl⟩
    · exact ⟨_, rfl⟩
  have HDR : Hid (∀ j u, ((us.drop (i + 1)).flatMap KV.cells)[j]? = some u → w.drew.cell? (ad.add j) = some u) := by
    show ∀ j u, _ → _
    intro j u hj
    have hul : n = us.length := HK.out.1
    by_cases hd : c = i + 1
    · have e : us.drop (i + 1) = [] := List.drop_eq_nil_iff.2 (by omega)
      rw [e] at hj
      cases hj
    · rw [if_neg hd] at hax
      cases hax
      have h := rowK_drop HK.out (i + 1)
      rw [Nat.zero_add] at h
      exact rowK_cells h j u hj
  have HL : Hid (((us.drop (i + 1)).flatMap KV.cells).length = (n - (i + 1)) * 8 ∧ i + (n - (i + 1)) ≤ c ∧ i + (n - (i + 1)) = n - 1) := by
    have hul : n = us.length := HK.out.1
    refine ⟨by rw [fm_len kept_len, List.length_drop, hul], by omega, by omega⟩
  have HP : Hid (w.drew.ownsRow B 63 8 (.slice (some ⟨g, 0, none⟩) i c) i ((us.flatMap KV.cells).take (i * 8))) := own_pre (own_below HO.out ((Below.refl _ _).drew) (Nat.le_refl _)) (Nat.le_of_lt hi)
  have hic : i ≤ c := by omega
  have hilc : (i : Int) ≤ (c : Int) := by omega
  go_region_law (refine step_append_spare (by rfl) (.tmp 22) (.tmp 25) 61 (by rfl) B 63 iK 8 Try.underlying61 hiK hsK g i c _ (by rfl) HP.out ad (n - (i + 1)) _ _ (by rfl) HL.out.1 HDR.out (by intro u hu; obtain ⟨v, _, h⟩ := List.mem_flatMap.1 hu; exact kept_one v u h) HL.out.2.1 ?_; intro w1 hown1 hg1)
  all_goals
    rw [HL.out.2.2] at hown1 ⊢
    obtain ⟨ys, hys, hyt⟩ := own_more hown1 (show n - 1 ≤ n by omega) hnc
    have H1 : Hid (w1.ownsRow B 63 8 (.slice (some ⟨g, 0, none⟩) n c) n ys ∧ ys.take ((n - 1) * 8) = ((us.eraseIdx i).flatMap KV.cells) ∧ w.grownBy w1 (some g)) := by
      refine ⟨hys, ?_, ?_⟩
      · rw [hyt, List.eraseIdx_eq_take_drop_succ, List.flatMap_append, fm_take kept_len]
      · exact ⟨hg1.os, hg1.tape, hg1.output, hg1.size, hg1.block⟩
    have hn1 : n - 1 + 1 = n := by omega
    have hle2 : ((n - 1 : Nat) : Int) ≤ (n : Int) := by omega
    clear hown1 hg1 hys hyt hax
    go_wp2_with (refine wpList_clear_own _ (by rfl) (.tmp 31) 61 (by rfl) B 63 iK (.agg #[.int .i64 0, .bool false, .slice none 0 0, .slice none 0 0, .int .i64 0, .bool false, .int .i64 0, .int .i64 0]) Try.underlying61 hiK hzK zcK (by decide) zoK g n c _ H1.out.1 ((n - 1) * 8) (n - (n - 1)) (c - (n - 1)) (n - 1) (by rfl) rfl (by omega) (by omega) ?_; intro w2 hown2 hg2)
    have H2 : Hid (w2.ownsRow B 63 8 (.slice (some ⟨g, 0, none⟩) (n - 1) c) (n - 1) ((us.eraseIdx i).flatMap KV.cells) ∧ w.grownBy w2 (some g)) := ⟨by rw [← H1.out.2.1]; exact hown2, grown_trans H1.out.2.2 hg2⟩
    clear hown2 hg2
    go_wp2
    go_ret
    exact ⟨rfl, H2.out⟩
end Go.Proofs.Ytjpdoblmdchmkad
/-
  PACKAGE cache: one that is kept is written in its place; Use.
-/
namespace Go.Proofs.Ytjpdoblmdchmkad
open Go.RowKit

theorem set8 (L : List Value) (o : Nat) (a b c d e f g h : Value) (hl : o + 8 ≤ L.length) : (((((((L.set o a).set (o + 1) b).set (o + 2) c).set (o + 3) d).set (o + 4) e).set (o + 5) f).set (o + 6) g).set (o + 7) h = L.take o ++ ([a, b, c, d, e, f, g, h] ++ L.drop (o + 8)) := by
  apply List.ext_getElem?
  intro j
  by_cases h1 : j < o
  · rw [List.getElem?_append_left (by simp; omega), List.getElem?_take, if_pos h1]
    rw [List.getElem?_set_ne (by omega), List.getElem?_set_ne (by omega), List.getElem?_set_ne (by omega), List.getElem?_set_ne (by omega), List.getElem?_set_ne (by omega), List.getElem?_set_ne (by omega), List.getElem?_set_ne (by omega), List.getElem?_set_ne (by omega)]
  · rw [List.getElem?_append_right (by simp; omega)]
    have e1 : (L.take o).length = o := by simp; omega
    rw [e1]
    by_cases h2 : j < o + 8
    · rw [List.getElem?_append_left (by simp; omega)]
      obtain ⟨i, rfl⟩ : ∃ i, j = o + i := ⟨j - o, by omega⟩
      have hi : i = 0 ∨ i = 1 ∨ i = 2 ∨ i = 3 ∨ i = 4 ∨ i = 5 ∨ i = 6 ∨ i = 7 := by omega
      have e2 : o + i - o = i := by omega
      rw [e2]
      rcases hi with rfl | rfl | rfl | rfl | rfl | rfl | rfl | rfl <;> simp [List.getElem?_set] <;> omega
    · rw [List.getElem?_append_right (by simp; omega), List.getElem?_drop]
      rw [List.getElem?_set_ne (by omega), List.getElem?_set_ne (by omega), List.getElem?_set_ne (by omega), List.getElem?_set_ne (by omega), List.getElem?_set_ne (by omega), List.getElem?_set_ne (by omega), List.getElem?_set_ne (by omega), List.getElem?_set_ne (by omega)]
      congr 1
      simp; omega
theorem own_put8 {w : World} {B g n c : Nat} {us : List KV} (h : w.ownsRow B 63 8 (.slice (some ⟨g, 0, none⟩) n c) n (us.flatMap KV.cells)) (j : Nat) (hj : j < n) (v : KV) :
    (put8 w g (j * 8) v).ownsRow B 63 8 (.slice (some ⟨g, 0, none⟩) n c) n ((us.set j v).flatMap KV.cells) ∧ w.grownBy (put8 w g (j * 8) v) (some g) := by
  have hl := own_len kept_len (by decide) h
  have s0 := h.stored (j * 8) (.int .i64 v.n.fid)
  have s1 := s0.1.stored (j * 8 + 1) (.bool v.n.dir)
  have s2 := s1.1.stored (j * 8 + 2) (.slice v.n.dA v.n.dn v.n.dc)
  have s3 := s2.1.stored (j * 8 + 3) (.slice v.n.eA v.n.en v.n.ec)
  have s4 := s3.1.stored (j * 8 + 4) (.int .i64 v.n.ver)
  have s5 := s4.1.stored (j * 8 + 5) (.bool v.dirty)
  have s6 := s5.1.stored (j * 8 + 6) (.int .i64 v.worth)
  have s7 := s6.1.stored (j * 8 + 7) (.int .i64 v.last)
  refine ⟨?_, grown_trans (grown_trans (grown_trans (grown_trans (grown_trans (grown_trans (grown_trans s0.2 s1.2) s2.2) s3.2) s4.2) s5.2) s6.2) s7.2⟩
  rw [fm_set kept_len us j v (by omega)]
  have := s7.1
  rw [set8 _ _ _ _ _ _ _ _ _ _ (by rw [fm_len kept_len]; omega)] at this
  exact this
theorem set_last (us : List KV) (j : Nat) (u : KV) (x : Int) (hu : us[j]? = some u) : (us.flatMap KV.cells).set (j * 8 + 7) (.int .i64 x) = (us.set j ⟨u.n, u.dirty, u.worth, x⟩).flatMap KV.cells := by
  have hj : j < us.length := (List.getElem?_eq_some_iff.1 hu).1
  apply List.ext_getElem?
  intro q
  by_cases hq : q < us.length * 8
  · have h8 : q / 8 < us.length := by omega
    have e1 := fm_get kept_len us (q / 8) (q % 8) _ (List.getElem?_eq_getElem h8) (by omega)
    rw [show q / 8 * 8 + q % 8 = q by omega] at e1
    by_cases hqj : q / 8 = j
    · have e2 := fm_get kept_len (us.set j ⟨u.n, u.dirty, u.worth, x⟩) (q / 8) (q % 8) ⟨u.n, u.dirty, u.worth, x⟩ (by rw [hqj]; simp [hj]) (by omega)
      rw [show q / 8 * 8 + q % 8 = q by omega] at e2
      rw [e2, List.getElem?_set]
      have hu' : us[q / 8] = u := by
        have h10 : us[q / 8]? = some u := by rw [hqj]; exact hu
        rw [List.getElem?_eq_getElem h8] at h10
        exact Option.some.inj h10
      rw [hu'] at e1
      by_cases h7 : q % 8 = 7
      · have : j * 8 + 7 = q := by omega
        rw [if_pos this, if_pos (by rw [fm_len kept_len]; omega), h7]; rfl
      · rw [if_neg (by omega), e1]
        have : q % 8 < 7 := by omega
        generalize q % 8 = r at this
        match r, this with
        | 0, _ => rfl
        | 1, _ => rfl
        | 2, _ => rfl
        | 3, _ => rfl
        | 4, _ => rfl
        | 5, _ => rfl
        | 6, _ => rfl
    · have e2 := fm_get kept_len (us.set j ⟨u.n, u.dirty, u.worth, x⟩) (q / 8) (q % 8) us[q / 8] (by rw [List.getElem?_set_ne (fun e => hqj e.symm)]; exact List.getElem?_eq_getElem h8) (by omega)
      rw [show q / 8 * 8 + q % 8 = q by omega] at e2
      rw [e2, List.getElem?_set_ne (by omega), e1]
  · rw [List.getElem?_eq_none (by rw [List.length_set, fm_len kept_len]; omega), List.getElem?_eq_none (by rw [fm_len kept_len, List.length_set]; omega)]
theorem All2.setAt {α β : Type} {R : α → β → Prop} {vs : List α} {xs : List β} (h : All2 R vs xs) (j : Nat) {v : α} {x : β} (hr : R v x) : All2 R (vs.set j v) (xs.set j x) := by
  refine ⟨by rw [List.length_set, List.length_set, h.1], fun i u y hu hy => ?_⟩
  by_cases e : j = i
  · subst e
    have hj : j < vs.length := by
      have := (List.getElem?_eq_some_iff.1 hu).1
      simpa using this
    have hj2 : j < xs.length := by rw [← h.1]; exact hj
    rw [List.getElem?_set_self hj] at hu
    rw [List.getElem?_set_self hj2] at hy
    cases hu; cases hy
    exact hr
  · rw [List.getElem?_set_ne e] at hu hy
    exact h.2 i u y hu hy
namespace M
theorem placeK_at {xs : List Kp} {f : Int} {i : Nat} (h : placeK xs f = some i) : ∃ x, xs[i]? = some x ∧ x.node.fid = f ∧ i < xs.length ∧ ∀ y ∈ xs.take i, y.node.fid ≠ f := by
  unfold placeK at h
  obtain ⟨hi, hp, hn⟩ := List.findIdx?_eq_some_iff_getElem.1 h
  refine ⟨xs[i], List.getElem?_eq_getElem hi, by simpa using hp, hi, fun y hy => ?_⟩
  obtain ⟨j, hj⟩ := List.getElem?_of_mem hy
  rw [List.getElem?_take] at hj
  split at hj
  · have := hn j (by assumption)
    rw [List.getElem?_eq_getElem (by omega)] at hj
    cases hj
    simpa using this
  · cases hj
theorem rep_at : ∀ {xs : List Kp} {k : Kp} {i : Nat} {x : Kp}, placeK xs k.node.fid = some i → xs[i]? = some x → repK xs k = xs.set i (mixK x k)
  | [], k, i, x, h, hx => by cases hx
  | y :: xs, k, i, x, h, hx => by
    obtain ⟨z, hz, hf, hi, hn⟩ := placeK_at h
    rw [hx] at hz
    cases hz
    cases i with
    | zero =>
      cases hx
      rw [repK, if_pos hf]; rfl
    | succ i =>
      have hy : ¬ y.node.fid = k.node.fid := hn y (by simp)
      rw [repK, if_neg hy, List.set_cons_succ]
      congr 1
      refine rep_at ?_ (by simpa using hx)
      unfold placeK at h ⊢
      rw [List.findIdx?_cons, if_neg (by simpa using hy)] at h
      cases hq : List.findIdx? (fun x => decide (x.node.fid = k.node.fid)) xs with
      | none => rw [hq] at h; cases h
      | some q => rw [hq] at h; simp at h; rw [h]
/-- used now -/
def useS (xs : List Kp) (f now : Int) : List Kp := match placeK xs f with
  | none => xs
  | some i => match xs[i]? with
    | none => xs
    | some x => xs.set i ⟨x.node, x.dirty, x.worth, now⟩
theorem useS_none {xs : List Kp} {f now : Int} (h : placeK xs f = none) : useS xs f now = xs := by unfold useS; rw [h]
theorem useS_some {xs : List Kp} {f now : Int} {i : Nat} {x : Kp} (h : placeK xs f = some i) (hx : xs[i]? = some x) : useS xs f now = xs.set i ⟨x.node, x.dirty, x.worth, now⟩ := by unfold useS; rw [h]; simp only [hx]
end M
set_option maxHeartbeats 2000000 in
theorem use_kept (A : Option Addr) (n c : Nat) (vs : List KV) (xs : List M.Kp) (f now : Int) (w : World) (ht : TreeC w A n vs xs) (hs : ∀ x ∈ xs, Small x.node) (hn : (n + 1) * 96 ≤ 140737488355328) :
    Calls Try.prog 33 #[.slice A n c, .int .i64 f, .int .i64 now] w fun e w' => ∃ (B : Option Addr) (d : Nat) (us : List KV), e = .returned (.slice B n d) ∧ OwnC w' w.heap.size B n d us (M.useS xs f now) ∧ Below w.heap.size w w' := by
  have HT : Hid (TreeC w A n vs xs ∧ ∀ x ∈ xs, Small x.node) := ⟨ht, hs⟩
  have hn2 : n ≤ 140737488355328 := by omega
  clear ht hs
  go_enter Try.func33, Try.ntmps33
  go_wp2_with (fail)
  refine (ownL_kept A n c vs xs w HT.out.1 HT.out.2 hn).mono ?_
  rintro e w1 ⟨B, d, us, rfl, ho, hb⟩
  have HO : Hid (OwnC w1 w.heap.size B n d us xs ∧ Below w.heap.size w w1) := ⟨ho, hb⟩
  clear ho hb
  go_wp2_with (fail)
  refine (place_kept B n d us xs f w1 HO.out.1.tree hn2).mono ?_
  rintro e w2 ⟨rfl, hb⟩
  have H2 : Hid (OwnC w2 w.heap.size B n d us xs ∧ Below w.heap.size w w2) := ⟨HO.out.1.below (Nat.le_refl _) hb, HO.out.2.trans (hb.mono HO.out.2.size)⟩
  clear hb
  obtain ⟨pi, hpi⟩ : ∃ pi, M.placeK xs f = pi := ⟨_, rfl⟩
  have HPI : Hid (M.placeK xs f = pi) := hpi
  rw [hpi]
  clear hpi
  cases pi with
  | none =>
    rw [show idxC none = -1 from rfl]
    have HR : Hid (M.useS xs f now = xs) := M.useS_none HPI.out
    go_wp2_with (fail)
    go_ret
    exact ⟨B, d, us, rfl, by rw [HR.out]; exact H2.out.1, H2.out.2⟩
  | some i =>
    rw [show idxC (some i) = (i : Int) from rfl]
    obtain ⟨x, hx, _, hil, _⟩ := M.placeK_at HPI.out
    have hin : i < n := by rw [H2.out.1.len]; exact hil
    obtain ⟨g, rfl, hBg, hgl⟩ := own_some H2.out.1.1 (by omega)
    obtain ⟨g', o', u, e9, _, hu, c0, c1, c2, c3, c4, c5, c6, c7⟩ := H2.out.1.tree.1.at hin
    cases e9
    simp only [Nat.zero_add] at c7
    have HX : Hid (xs[i]? = some x ∧ us[i]? = some u) := ⟨hx, hu⟩
    have hfz : ∀ j, w2.frozen? ⟨g, j, none⟩ = false := fun j => H2.out.1.1.frozenAt j
    have HR : Hid (OwnC (w2.setCell ⟨g, i * 8 + 7, none⟩ (.int .i64 now)) w.heap.size (some ⟨g, 0, none⟩) n d (us.set i ⟨u.n, u.dirty, u.worth, now⟩) (M.useS xs f now) ∧ Below w.heap.size w (w2.setCell ⟨g, i * 8 + 7, none⟩ (.int .i64 now))) := by
      have s := H2.out.1.1.stored (i * 8 + 7) (.int .i64 now)
      rw [set_last us i u now hu] at s
      refine ⟨⟨s.1, ?_⟩, H2.out.2.setCell hBg _⟩
      rw [M.useS_some HPI.out hx]
      have ho : OwnKp w2 w.heap.size u x := H2.out.1.2.2 i u x hu hx
      exact (H2.out.1.2.imp fun _ _ h => h.grown H2.out.1.1 s.2).setAt i ⟨(ho.grown H2.out.1.1 s.2).1, ho.2.1, ho.2.2.1, rfl⟩
    clear hx hu c0 c1 c2 c3 c4 c5 c6 HPI hBg hgl
    go_wp2_with (fail)
    go_ret
    exact ⟨_, d, _, rfl, HR.out⟩
end Go.Proofs.Ytjpdoblmdchmkad
