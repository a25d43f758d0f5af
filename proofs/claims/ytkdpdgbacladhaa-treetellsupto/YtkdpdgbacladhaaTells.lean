/-
  THE LAW TreeTells, walked: what it says of any tree, node, name and path.
-/
import Derived.Test.YtkdpdgbacladhaaList
import Derived.Test.YtkdpdgbacladhaaRefw
import Derived.Test.YtkdpdgbacladhaaFrame
import Derived.Test.YtkdpdgbacladhaaRwithin
import Derived.Deep.Cut
import Derived.Deep.CutRange
namespace Go.Proofs.Ytkdpdgbacladhaa
open Go.RowKit

def IsT (xs : List M.Nd) : Value → World → Prop := fun v W => ∃ (B : Option Addr) (m d : Nat) (us : List NV), v = .slice B m d ∧ Tree W B m us xs
def IsM (xs : List M.Nd) : Value → World → Prop := fun v W => ∃ b, v = .map (some b) ∧ TMap W b xs
theorem isT_below {xs : List M.Nd} {v : Value} {W W' : World} (hb : Below W.heap.size W W') (h : IsT xs v W) : IsT xs v W' := by
  obtain ⟨B, m, d, us, e, ht⟩ := h
  exact ⟨B, m, d, us, e, ht.below (Nat.le_refl _) hb⟩
theorem isM_below {xs : List M.Nd} {v : Value} {W W' : World} (hb : Below W.heap.size W W') (h : IsM xs v W) : IsM xs v W' := by
  obtain ⟨b, e, ht⟩ := h
  exact ⟨b, e, ht.below (Nat.le_refl _) hb⟩
theorem tlen {W : World} {B : Option Addr} {m : Nat} {us : List NV} {xs : List M.Nd} (h : Tree W B m us xs) (hl : (xs.length + 1) * 72 ≤ 140737488355328) : m * 72 ≤ 140737488355328 := by have h1 := h.1.1; have h2 := h.2.1; omega
theorem allB_self (vb : Bool) : ∀ xs : List M.Nd, allB (sameNd vb) xs xs = true
  | [] => rfl
  | x :: xs => by rw [allB, same_self, allB_self vb xs]; rfl
theorem alike_same : ∀ xs ms : List M.Nd, allB alike xs ms = allB (sameNd false) xs ms
  | [], [] => rfl
  | [], _ :: _ => rfl
  | _ :: _, [] => rfl
  | x :: xs, y :: ys => by rw [allB, allB, alike_same xs ys]; simp [sameNd]
theorem does_valT {a : Act} {w w' : World} {R : Value → World → Prop} {o : Oper} {v : Value} (h : (execOp a.eval o).run Try.prog w = .ok (.value v) w') (hR : R v w') : Does Try.prog o a w R := .inl ⟨v, w', h, hR⟩
theorem run_buildT {ρ : Operand → Value} {w : World} {d : Option Tmp} {ty : TypeId} {pos : String} {af : Array Edge} {g : Option (Nat × Bool)} (hc : ρ (.const (.bool true)) = .bool true) : (execOp ρ ⟨d, .build 26 #[(1, .const (.bool true))], ty, pos, af, g⟩).run Try.prog w = .ok (.value (NV.val ⟨0, true, none, 0, 0, none, 0, 0, 0⟩)) w := by
  simp [execOp, go_sem, hc]
theorem isT_root (W : World) : IsT root0 (.slice (some ⟨W.heap.size, 0, none⟩) 1 1) (W.alloc (.cells #[.int .i64 0, .bool true, .slice none 0 0, .slice none 0 0, .int .i64 0] 26)) :=
  ⟨_, _, _, [⟨0, true, none, 0, 0, none, 0, 0, 0⟩], rfl, box_row (Box.new W ⟨0, true, none, 0, 0, none, 0, 0, 0⟩), All2.one ⟨rfl, rfl, rfl, ⟨rfl, .inl rfl⟩, ⟨rfl, .inl rfl⟩⟩⟩
def IsC (x : M.Nd) : Value → World → Prop := fun v W => ∃ v' : NV, v = v'.val ∧ Cont W v' x
theorem isC_below {x : M.Nd} {v : Value} {W W' : World} (hb : Below W.heap.size W W') (h : IsC x v W) : IsC x v W' := by
  obtain ⟨v', e, hc⟩ := h
  exact ⟨v', e, hc.below (Nat.le_refl _) hb⟩
theorem bool_iff {p : Prop} {a b : Bool} (h : a = true ↔ p) (k : b = true ↔ p) : a = b := by
  cases a <;> cases b <;> simp_all
section
variable {a : Act} {w : World} {R : Value → World → Prop} {d : Option Tmp} {ty : TypeId} {pos : String} {af : Array Edge} {g : Option (Nat × Bool)}
theorem run_neqET {ρ : Operand → Value} {x y : Operand} {b c : Int} (hx : ρ x = .int .i64 b) (hy : ρ y = .int .i64 c) : (execOp ρ ⟨d, .binOp .neq 43 x y 43, ty, pos, af, g⟩).run Try.prog w = .ok (.value (.bool (b != c))) w := by
  simp [execOp, hx, hy, go_sem, bne]
theorem run_fieldN {ρ : Operand → Value} {x : Operand} {s : Nat} (hx : ρ x = .pointer (some ⟨s, 0, none⟩)) : (execOp ρ ⟨d, .fieldAddr 26 x 0, ty, pos, af, g⟩).run Try.prog w = .ok (.value (.pointer (some ⟨s, 0, none⟩))) w := by
  simp [execOp, hx, go_sem]
theorem run_load3T {ρ : Operand → Value} {x : Operand} {p : Addr} {i : Int} (hx : ρ x = .pointer (some p)) (hc : w.cell? p = some (.int .i64 i)) : (execOp ρ ⟨d, .load 3 x, ty, pos, af, g⟩).run Try.prog w = .ok (.value (.int .i64 i)) w := by
  simp [execOp, hx, go_sem, hc]
theorem does_neqET {x y : Operand} {b c : Int} (hx : a.eval x = .int .i64 b) (hy : a.eval y = .int .i64 c) (h : R (.bool (b != c)) w) : Does Try.prog ⟨d, .binOp .neq 43 x y 43, ty, pos, af, g⟩ a w R := .inl ⟨_, _, run_neqET hx hy, h⟩
theorem does_fieldN {x : Operand} {s : Nat} (hx : a.eval x = .pointer (some ⟨s, 0, none⟩)) (h : R (.pointer (some ⟨s, 0, none⟩)) w) : Does Try.prog ⟨d, .fieldAddr 26 x 0, ty, pos, af, g⟩ a w R := .inl ⟨_, _, run_fieldN hx, h⟩
theorem does_load3T {x : Operand} {p : Addr} {i : Int} (hx : a.eval x = .pointer (some p)) (hc : w.cell? p = some (.int .i64 i)) (h : R (.int .i64 i) w) : Does Try.prog ⟨d, .load 3 x, ty, pos, af, g⟩ a w R := .inl ⟨_, _, run_load3T hx hc, h⟩
end
theorem small_root : (∀ x ∈ root0, Small x) ∧ (root0.length + 1) * 72 ≤ 140737488355328 := ⟨fun x hx => by simp [root0] at hx; subst hx; exact small_any (by simp) (by simp), by decide⟩

def V6 (A : Option Addr) (n c : Nat) (Am : Option Addr) (nm cm : Nat) (xs ms : List M.Nd) (y : M.Nd) (t : Int) (ok : Bool) (vx vy vn : NV) (bm : Nat) : Nat → Value → World → Prop
  | 0 => IsV (.bool ok)
  | 1 => IsV (.bool ok)
  | 2 => IsV (.bool false)
  | 3 => IsV (.bool false)
  | 4 => IsV (.bool ok)
  | 5 => IsV (.bool ok)
  | 6 => fun v _ => ok = true → v = vx.val
  | 7 => fun v _ => ok = true → v = vy.val
  | 8 => fun v _ => ok = true → v = .bool true
  | 9 => fun v _ => ok = true → v = .bool false
  | 10 => IsV (.bool false)
  | 11 => IsV (.bool false)
  | 12 => IsV (.bool false)
  | 13 => IsV (.slice A n c)
  | 14 => IsV (vn.val)
  | 15 => IsT (M.putN xs y)
  | 16 => IsV (.map (some bm))
  | 17 => IsV (vn.val)
  | 18 => IsM (M.putN xs y)
  | 19 => IsT (M.putN xs y)
  | 20 => IsV (.bool true)
  | 21 => IsV (.bool false)
  | 22 => IsV (.bool false)
  | 23 => IsV (.bool false)
  | 24 => IsV (.slice A n c)
  | 25 => IsV (.int .i64 t)
  | 26 => IsT (M.dropN xs t)
  | 27 => IsV (.map (some bm))
  | 28 => IsV (.int .i64 t)
  | 29 => IsM (M.dropN xs t)
  | 30 => IsT (M.dropN xs t)
  | 31 => IsV (.bool true)
  | 32 => IsV (.bool false)
  | 33 => IsV (.bool false)
  | 34 => IsV (.bool false)
  | 35 => IsV (.slice A n c)
  | 36 => IsT xs
  | 37 => IsV (.slice A n c)
  | 38 => IsV (.bool true)
  | 39 => IsV (.bool false)
  | 40 => IsV (.bool false)
  | 41 => IsV (.bool false)
  | 42 => IsT root0
  | 43 => IsV (NV.val ⟨0, true, none, 0, 0, none, 0, 0, 0⟩)
  | 44 => IsT root0
  | 45 => IsV (.bool true)
  | 46 => IsV (.bool false)
  | 47 => IsV (.bool false)
  | 48 => IsV (.bool false)
  | 49 => IsV (.slice A n c)
  | 50 => IsV (.slice Am nm cm)
  | 51 => IsV (.bool (allB alike xs ms))
  | 52 => IsV (.slice A n c)
  | 53 => IsV (.slice Am nm cm)
  | 54 => IsV (.bool (allB (sameNd false) xs ms))
  | 55 => IsV (.bool false)
  | 56 => IsV (.bool false)
  | _ => fun _ _ => True
theorem V6_stays (A : Option Addr) (n c : Nat) (Am : Option Addr) (nm cm : Nat) (xs ms : List M.Nd) (y : M.Nd) (t : Int) (ok : Bool) (vx vy vn : NV) (bm : Nat) : ∀ i, Stays (V6 A n c Am nm cm xs ms y t ok vx vy vn bm i) := by
  intro i v W W' hb h
  match i, h with
  | 0, h => exact h
  | 1, h => exact h
  | 2, h => exact h
  | 3, h => exact h
  | 4, h => exact h
  | 5, h => exact h
  | 6, h => exact h
  | 7, h => exact h
  | 8, h => exact h
  | 9, h => exact h
  | 10, h => exact h
  | 11, h => exact h
  | 12, h => exact h
  | 13, h => exact h
  | 14, h => exact h
  | 15, h => exact isT_below hb h
  | 16, h => exact h
  | 17, h => exact h
  | 18, h => exact isM_below hb h
  | 19, h => exact isT_below hb h
  | 20, h => exact h
  | 21, h => exact h
  | 22, h => exact h
  | 23, h => exact h
  | 24, h => exact h
  | 25, h => exact h
  | 26, h => exact isT_below hb h
  | 27, h => exact h
  | 28, h => exact h
  | 29, h => exact isM_below hb h
  | 30, h => exact isT_below hb h
  | 31, h => exact h
  | 32, h => exact h
  | 33, h => exact h
  | 34, h => exact h
  | 35, h => exact h
  | 36, h => exact isT_below hb h
  | 37, h => exact h
  | 38, h => exact h
  | 39, h => exact h
  | 40, h => exact h
  | 41, h => exact h
  | 42, h => exact isT_below hb h
  | 43, h => exact h
  | 44, h => exact isT_below hb h
  | 45, h => exact h
  | 46, h => exact h
  | 47, h => exact h
  | 48, h => exact h
  | 49, h => exact h
  | 50, h => exact h
  | 51, h => exact h
  | 52, h => exact h
  | 53, h => exact h
  | 54, h => exact h
  | 55, h => exact h
  | 56, h => exact h
  | k + 57, h => trivial
def V10 (A : Option Addr) (n c : Nat) (t f g : Int) (s : Nat) (vn : NV) (bm : Nat) (rb : Bool) : Nat → Value → World → Prop
  | 0 => IsV (.int .i64 f)
  | 1 => IsV (.int .i64 f)
  | 2 => IsV (.bool false)
  | 3 => IsV (.bool false)
  | 4 => IsV (.int .i64 g)
  | 5 => IsV (.int .i64 g)
  | 6 => IsV (.bool false)
  | 7 => IsV (.bool false)
  | 8 => IsV (.bool false)
  | 9 => IsV (.slice A n c)
  | 10 => IsV (.int .i64 t)
  | 11 => IsV (.pointer (some ⟨s, 0, none⟩))
  | 12 => IsV (.int .i64 vn.fid)
  | 13 => IsV (.bool rb)
  | 14 => IsV (.map (some bm))
  | 15 => IsV (.int .i64 t)
  | 16 => IsV (.pointer (some ⟨s, 0, none⟩))
  | 17 => IsV (.int .i64 vn.fid)
  | 18 => IsV (.bool rb)
  | 19 => IsV (.bool false)
  | 20 => IsV (.bool false)
  | _ => fun _ _ => True
theorem V10_stays (A : Option Addr) (n c : Nat) (t f g : Int) (s : Nat) (vn : NV) (bm : Nat) (rb : Bool) : ∀ i, Stays (V10 A n c t f g s vn bm rb i) := by
  intro i v W W' hb h
  match i, h with
  | 0, h => exact h
  | 1, h => exact h
  | 2, h => exact h
  | 3, h => exact h
  | 4, h => exact h
  | 5, h => exact h
  | 6, h => exact h
  | 7, h => exact h
  | 8, h => exact h
  | 9, h => exact h
  | 10, h => exact h
  | 11, h => exact h
  | 12, h => exact h
  | 13, h => exact h
  | 14, h => exact h
  | 15, h => exact h
  | 16, h => exact h
  | 17, h => exact h
  | 18, h => exact h
  | 19, h => exact h
  | 20, h => exact h
  | k + 21, h => trivial
def V17 (f t : Int) (b : Bool) (s : ByteArray) (v : NV) (x : M.Nd) : Nat → Value → World → Prop
  | 0 => IsV (.int .i64 f)
  | 1 => IsV (.int .i64 f)
  | 2 => IsV (.bool false)
  | 3 => IsV (.bool false)
  | 4 => IsV (.bool b)
  | 5 => IsV (.bool b)
  | 6 => IsV (.bool false)
  | 7 => IsV (.bool false)
  | 8 => IsV (.bool false)
  | 9 => IsV (v.val)
  | 10 => IsV (.string s)
  | 11 => IsV (.int .i64 t)
  | 12 => IsC (withE x (M.putE x.ents (s, t)))
  | 13 => IsV (v.val)
  | 14 => IsV (.string s)
  | 15 => IsV (.int .i64 t)
  | 16 => IsC (withE x (M.putE x.ents (s, t)))
  | 17 => IsV (.bool true)
  | 18 => IsV (.bool false)
  | 19 => IsV (.bool false)
  | 20 => IsV (.bool false)
  | 21 => IsV (v.val)
  | 22 => IsV (.string s)
  | 23 => IsC (withE x (M.dropE x.ents s))
  | 24 => IsV (v.val)
  | 25 => IsV (.string s)
  | 26 => IsC (withE x (M.dropE x.ents s))
  | 27 => IsV (.bool true)
  | 28 => IsV (.bool false)
  | 29 => IsV (.bool false)
  | _ => fun _ _ => True
theorem V17_stays (f t : Int) (b : Bool) (s : ByteArray) (v : NV) (x : M.Nd) : ∀ i, Stays (V17 f t b s v x i) := by
  intro i v W W' hb h
  match i, h with
  | 0, h => exact h
  | 1, h => exact h
  | 2, h => exact h
  | 3, h => exact h
  | 4, h => exact h
  | 5, h => exact h
  | 6, h => exact h
  | 7, h => exact h
  | 8, h => exact h
  | 9, h => exact h
  | 10, h => exact h
  | 11, h => exact h
  | 12, h => exact isC_below hb h
  | 13, h => exact h
  | 14, h => exact h
  | 15, h => exact h
  | 16, h => exact isC_below hb h
  | 17, h => exact h
  | 18, h => exact h
  | 19, h => exact h
  | 20, h => exact h
  | 21, h => exact h
  | 22, h => exact h
  | 23, h => exact isC_below hb h
  | 24, h => exact h
  | 25, h => exact h
  | 26, h => exact isC_below hb h
  | 27, h => exact h
  | 28, h => exact h
  | 29, h => exact h
  | k + 30, h => trivial

set_option maxRecDepth 4000 in
set_option maxHeartbeats 20000000 in
theorem tells_any (A Am Bp : Option Addr) (n c nm cm np cp : Nat) (vs vms : List NV) (xs ms : List M.Nd) (t : Int) (vn : NV) (y : M.Nd) (s : ByteArray) (ls : List ByteArray) (w : World) (ht : Tree w A n vs xs) (hn : (n + 4) * 72 ≤ 140737488355328) (hs : ∀ x ∈ xs, Small x)
    (hm : Tree w Am nm vms ms) (hnm : (nm + 4) * 72 ≤ 140737488355328) (hsm : ∀ x ∈ ms, Small x) (hc : Cont w vn y) (hsy : Small y) (hp : Strs w Bp np ls) (hnp : np ≤ 140737488355328) (hN : ((allF xs).length + 2) * 8 ≤ 140737488355328) (hE : ∀ x ∈ xs, (x.ents.length + 1) * 24 ≤ 140737488355328) :
    Calls Try.prog 3 #[.slice A n c, .slice Am nm cm, .int .i64 t, vn.val, .string s, .slice Bp np cp] w fun e w' => e = .returned (.bool true) ∧ Below w.heap.size w w' := by
  have HT : Hid (Tree w A n vs xs ∧ (∀ x ∈ xs, Small x)) := ⟨ht, hs⟩
  have HMM : Hid (Tree w Am nm vms ms ∧ (∀ x ∈ ms, Small x)) := ⟨hm, hsm⟩
  have HY : Hid (Cont w vn y ∧ Small y ∧ True) := ⟨hc, hsy, trivial⟩
  have HPT : Hid (Strs w Bp np ls) := hp
  have HLN : Hid (n = xs.length) := by show n = _; rw [ht.1.1, ht.2.1]
  have HEX : Hid (∀ x ∈ xs, (x.ents.length + 1) * 24 ≤ 140737488355328) := hE
  have HW0 : Hid _ := fun W (hW : W = w.alloc (.cells #[.int .i64 vn.fid, .bool vn.dir, .slice vn.dA vn.dn vn.dc, .slice vn.eA vn.en vn.ec, .int .i64 vn.ver] 26)) => (show Below w.heap.size w W ∧ Box W w.heap.size vn from by subst hW; exact ⟨(Below.refl _ _).alloc (Nat.le_refl _) _, Box.new w vn⟩)
  clear ht hs hm hsm hc hsy hp hE
  go_enter Try.func3, Try.ntmps3
  go_wp2_with (fail)
  obtain ⟨q1, q2⟩ := HW0.out _ rfl
  refine (rises_any A n c vs xs _ (HT.out.1.below (Nat.le_refl _) q1) (by omega) HT.out.2).mono ?_
  rintro e w1 ⟨rfl, hb1⟩
  have H1 : Hid (Below w.heap.size w w1 ∧ Box w1 w.heap.size vn) := ⟨q1.trans (hb1.mono q1.size), q2.below hb1 (lt_of_block q2)⟩
  clear q1 q2 hb1 HW0
  cases hrb : riseB xs
  case' false =>
    go_wp2
    go_ret
    exact ⟨rfl, H1.out.1⟩
  have HR : Hid (M.Rise xs) := riseB_iff.1 hrb
  clear hrb
  go_wp2_with (fail)
  refine (rises_any Am nm cm vms ms _ (HMM.out.1.below (Nat.le_refl _) H1.out.1) (by omega) HMM.out.2).mono ?_
  rintro e w2 ⟨rfl, hb2⟩
  have H2 : Hid (Below w.heap.size w w2 ∧ Box w2 w.heap.size vn) := ⟨H1.out.1.trans (hb2.mono H1.out.1.size), H1.out.2.below hb2 (lt_of_block H1.out.2)⟩
  clear hb2 H1
  cases hrb : riseB ms
  case' false =>
    go_wp2
    go_ret
    exact ⟨rfl, H2.out.1⟩
  clear hrb
  obtain ⟨p0, p1, p2, p3, p4, pf, pz⟩ := H2.out.2.facts
  have HW2 : Hid _ := fun W (hW : W = w2.alloc (.cells #[.int .i64 vn.fid, .bool vn.dir, .slice vn.dA vn.dn vn.dc, .slice vn.eA vn.en vn.ec, .int .i64 vn.ver] 26)) => (show Below w2.heap.size w2 W ∧ Box W w2.heap.size vn ∧ W.heap.size = w2.heap.size + 1 from by subst hW; exact ⟨(Below.refl _ _).alloc (Nat.le_refl _) _, Box.new w2 vn, by simp⟩)
  go_wp2_with (fail)
  obtain ⟨q1, q2, q3⟩ := HW2.out _ rfl
  have hbq : Below w.heap.size w _ := H2.out.1.trans (q1.mono H2.out.1.size)
  refine (rises_any (some ⟨w2.heap.size, 0, none⟩) 1 1 [vn] [y] _ ⟨box_row q2, All2.one (HY.out.1.below (Nat.le_refl _) hbq)⟩ (by decide) (fun x hx => by rw [List.mem_singleton.1 hx]; exact HY.out.2.1)).mono ?_
  rintro e w3 ⟨rfl, hb3⟩
  have H3 : Hid (Below w.heap.size w w3 ∧ Box w3 w.heap.size vn) := ⟨hbq.trans (hb3.mono hbq.size), (H2.out.2.below q1 (lt_of_block H2.out.2)).below hb3 (by have := lt_of_block H2.out.2; omega)⟩
  clear hb3 q1 q2 q3 hbq HW2 H2 p0 p1 p2 p3 p4 pf pz
  cases hrb : riseB [y]
  case' false =>
    go_wp2
    go_ret
    exact ⟨rfl, H3.out.1⟩
  clear hrb
  go_wp2_with (fail)
  refine (of_any A n c vs xs _ (HT.out.1.below (Nat.le_refl _) H3.out.1) HR.out.1 (by omega)).mono ?_
  rintro e w4 ⟨bm, rfl, htm4, hb4⟩
  have H4 : Hid (Below w.heap.size w w4 ∧ Box w4 w.heap.size vn ∧ TMap w4 bm xs) := ⟨H3.out.1.trans (hb4.mono H3.out.1.size), H3.out.2.below hb4 (lt_of_block H3.out.2), htm4⟩
  clear htm4 hb4 H3
  go_wp2_with (fail)
  refine (find_any A n c vs xs t _ (HT.out.1.below (Nat.le_refl _) H4.out.1) HR.out.1 (by omega) HT.out.2).mono ?_
  rintro e w5 ⟨vx, rfl, ho5, hb5⟩
  have H5 : Hid (Below w.heap.size w w5 ∧ Box w5 w.heap.size vn ∧ TMap w5 bm xs ∧ Cont w5 vx ((M.find xs t).getD nd0)) := ⟨H4.out.1.trans (hb5.mono H4.out.1.size), H4.out.2.1.below hb5 (lt_of_block H4.out.2.1), H4.out.2.2.below (Nat.le_refl _) hb5, ho5.cont⟩
  clear ho5 hb5 H4
  have hask := IMap.ask (H5.out.2.2.1.below (Nat.le_refl _) ((Below.refl _ _).alloc (Nat.le_refl _) (.cells #[.int .i64 vx.fid, .bool vx.dir, .slice vx.dA vx.dn vx.dc, .slice vx.eA vx.en vx.ec, .int .i64 vx.ver] 26))) t
  obtain ⟨vy, ok, hok, hlk, hcy⟩ : ∃ (vy : NV) (ok : Bool), (M.find xs t).isSome = ok ∧ (Instr.lookup 30 (.map (some bm)) (.int .i64 t) true).run Try.prog (w5.alloc (.cells #[.int .i64 vx.fid, .bool vx.dir, .slice vx.dA vx.dn vx.dc, .slice vx.eA vx.en vx.ec, .int .i64 vx.ver] 26)) = .ok (.tuple #[vy.val, .bool ok]) (w5.alloc (.cells #[.int .i64 vx.fid, .bool vx.dir, .slice vx.dA vx.dn vx.dc, .slice vx.eA vx.en vx.ec, .int .i64 vx.ver] 26)) ∧
      (ok = true → ∃ z, M.find xs t = some z ∧ Cont (w5.alloc (.cells #[.int .i64 vx.fid, .bool vx.dir, .slice vx.dA vx.dn vx.dc, .slice vx.eA vx.en vx.ec, .int .i64 vx.ver] 26)) vy z) := by
    rcases hask with ⟨hf, h⟩ | ⟨v, z, hf, hcz, h⟩
    · exact ⟨NV.zero, false, by rw [hf]; rfl, h true, fun h => by cases h⟩
    · exact ⟨v, true, by rw [hf]; rfl, h true, fun _ => ⟨z, hf, hcz⟩⟩
  have HCY : Hid _ := hcy
  clear hask hcy
  rw [hok]
  have HW6 : Hid _ := fun W (hW : W = (w5.alloc (.cells #[.int .i64 vx.fid, .bool vx.dir, .slice vx.dA vx.dn vx.dc, .slice vx.eA vx.en vx.ec, .int .i64 vx.ver] 26)).alloc (.cells #[.int .i64 vy.fid, .bool vy.dir, .slice vy.dA vy.dn vy.dc, .slice vy.eA vy.en vy.ec, .int .i64 vy.ver] 26)) => (show Below w5.heap.size w5 W ∧ Box W w5.heap.size vx ∧ Box W (w5.heap.size + 1) vy ∧ Below (w5.heap.size + 1) (w5.alloc (.cells #[.int .i64 vx.fid, .bool vx.dir, .slice vx.dA vx.dn vx.dc, .slice vx.eA vx.en vx.ec, .int .i64 vx.ver] 26)) W ∧ W.heap.size = w5.heap.size + 2 from by
    subst hW
    refine ⟨((Below.refl _ _).alloc (Nat.le_refl _) _).alloc (by simp) _, (Box.new w5 vx).alloc _, ?_, (Below.refl _ _).alloc (by simp) _, by simp⟩
    have h := Box.new (w5.alloc (.cells #[.int .i64 vx.fid, .bool vx.dir, .slice vx.dA vx.dn vx.dc, .slice vx.eA vx.en vx.ec, .int .i64 vx.ver] 26)) vy
    rw [World.size_alloc] at h
    exact h)
  go_upto_region 6 with (fail)
  obtain ⟨q1, q2, q3, q4, q5⟩ := HW6.out _ rfl
  have HA : Hid (∀ W, W = (w5.alloc (.cells #[.int .i64 vx.fid, .bool vx.dir, .slice vx.dA vx.dn vx.dc, .slice vx.eA vx.en vx.ec, .int .i64 vx.ver] 26)).alloc (.cells #[.int .i64 vy.fid, .bool vy.dir, .slice vy.dA vy.dn vy.dc, .slice vy.eA vy.en vy.ec, .int .i64 vy.ver] 26) → Below w.heap.size w W ∧ Box W w.heap.size vn ∧ TMap W bm xs ∧ (ok = true → ∃ z, Cont W vx z ∧ Cont W vy z ∧ Small z)) := by
    rintro W rfl
    refine ⟨H5.out.1.trans (q1.mono H5.out.1.size), H5.out.2.1.below q1 (lt_of_block H5.out.2.1), H5.out.2.2.1.below (Nat.le_refl _) q1, fun h => ?_⟩
    obtain ⟨z, hz, hcz⟩ := HCY.out h
    have h1 := H5.out.2.2.2
    rw [hz] at h1
    exact ⟨z, h1.below (Nat.le_refl _) q1, hcz.below (by simp) q4, HT.out.2 z (List.mem_of_find?_eq_some hz)⟩
  have HA' := HA.out _ rfl
  clear HA HW6 hlk q1 q4
  generalize (w5.alloc (.cells #[.int .i64 vx.fid, .bool vx.dir, .slice vx.dA vx.dn vx.dc, .slice vx.eA vx.en vx.ec, .int .i64 vx.ver] 26)).alloc (.cells #[.int .i64 vy.fid, .bool vy.dir, .slice vy.dA vy.dn vy.dc, .slice vy.eA vy.en vy.ec, .int .i64 vy.ver] 26) = wa at HA' q2 q3 q5 ⊢
  have HWA : Hid (Below w.heap.size w wa ∧ Box wa w.heap.size vn ∧ TMap wa bm xs) := ⟨HA'.1, HA'.2.1, HA'.2.2.1⟩
  go_cut [112] from 56 (fun b W => b = .bool false ∧ Below wa.heap.size wa W)
  case first =>
    have hbd : ∀ W, Below wa.drew.heap.size wa.drew W → Below wa.heap.size wa W := fun W hb => (Below.refl _ _).drew.trans hb
    have hbw : ∀ W, Below wa.drew.heap.size wa.drew W → Below w.heap.size w W := fun W hb => HWA.out.1.trans ((hbd W hb).mono HWA.out.1.size)
    have hbn : ∀ W, Below wa.drew.heap.size wa.drew W → Box W w.heap.size vn := fun W hb => HWA.out.2.1.below (hbd W hb) (lt_of_block HWA.out.2.1)
    have hbx : ∀ W, Below wa.drew.heap.size wa.drew W → Box W w5.heap.size vx := fun W hb => q2.below (hbd W hb) (lt_of_block q2)
    have hby : ∀ W, Below wa.drew.heap.size wa.drew W → Box W (w5.heap.size + 1) vy := fun W hb => q3.below (hbd W hb) (lt_of_block q3)
    have htm : ∀ W, Below wa.drew.heap.size wa.drew W → TMap W bm xs := fun W hb => HWA.out.2.2.below (Nat.le_refl _) (hbd W hb)
    have hxy := HA'.2.2.2
    have HP : Hid ((∀ x ∈ M.putN xs y, Small x) ∧ ((M.putN xs y).length + 1) * 72 ≤ 140737488355328 ∧ M.RsN (M.putN xs y)) := ⟨small_put HT.out.2 HY.out.2.1, by have h1 := M.put_len (fun x : M.Nd => x.fid) xs M.ordI y; have h2 := HLN.out; unfold M.putN; omega, rs_put y HR.out.1⟩
    have HD : Hid ((∀ x ∈ M.dropN xs t, Small x) ∧ ((M.dropN xs t).length + 1) * 72 ≤ 140737488355328 ∧ M.RsN (M.dropN xs t)) := ⟨small_drop t HT.out.2, by have h1 : (M.dropN xs t).length ≤ xs.length := List.length_filter_le _ _; have h2 := HLN.out; omega, rs_drop t HR.out.1⟩
    have HX : Hid ((∀ x ∈ xs, Small x) ∧ (xs.length + 1) * 72 ≤ 140737488355328) := ⟨HT.out.2, by have h2 := HLN.out; omega⟩
    have HRT : Hid ((∀ x ∈ root0, Small x) ∧ (root0.length + 1) * 72 ≤ 140737488355328) := small_root
    refine wp_region_vals (V6 A n c Am nm cm xs ms y t ok vx vy vn bm) (by kernel_rfl) (by kernel_rfl) (V6_stays _ _ _ _ _ _ _ _ _ _ _ _ _ _ _) ?_ ?_
    · intro i hi
      match i, hi with
      | 0, _ =>
        refine StepAt.by rfl fun a' W hf hb hd => .inl ⟨want_none, ?_⟩
        exact does_move ((hf.keeps 15 (by kernel_rfl)).trans rfl) ⟨Below.refl _ _, rfl⟩
        | 1, _ =>
        refine StepAt.by rfl fun a' W hf hb hd => .inl ⟨want_none, ?_⟩
        exact does_move ((hf.keeps 17 (by kernel_rfl)).trans rfl) ⟨Below.refl _ _, rfl⟩
        | 2, _ =>
        refine StepAt.by rfl fun a' W hf hb hd => .inl ⟨want_none, ?_⟩
        exact does_neqB (hd 0 (by kernel_rfl)) (hd 1 (by kernel_rfl)) ⟨Below.refl _ _, by show _ = _; simp⟩
        | 3, _ =>
        refine StepAt.by rfl fun a' W hf hb hd => .inl ⟨want_none, ?_⟩
        exact does_move (hd 2 (by kernel_rfl)) ⟨Below.refl _ _, rfl⟩
        | 4, _ =>
        refine StepAt.by rfl fun a' W hf hb hd => .inl ⟨want_some (k := 3) (t := 59) rfl (hd 3 (by kernel_rfl)), ?_⟩
        exact does_move ((hf.keeps 15 (by kernel_rfl)).trans rfl) ⟨Below.refl _ _, rfl⟩
        | 5, _ =>
        refine StepAt.by rfl fun a' W hf hb hd => .inl ⟨want_some (k := 3) (t := 59) rfl (hd 3 (by kernel_rfl)), ?_⟩
        exact does_move (hd 4 (by kernel_rfl)) ⟨Below.refl _ _, rfl⟩
        | 6, _ =>
        refine StepAt.by rfl fun a' W hf hb hd => ?_
        have hgv : a'.eval (.tmp 61) = .bool ok := hd 5 (by kernel_rfl)
        cases hok : ok
        · rw [hok] at hgv
          exact .inr ⟨want_some (k := 5) (t := 61) rfl hgv, fun h => by cases h⟩
        · rw [hok] at hgv
          exact .inl ⟨want_some (k := 5) (t := 61) rfl hgv, does_load26 ((hf.keeps 14 (by kernel_rfl)).trans rfl) (hbx W hb) ⟨Below.refl _ _, fun _ => rfl⟩⟩
        | 7, _ =>
        refine StepAt.by rfl fun a' W hf hb hd => ?_
        have hgv : a'.eval (.tmp 61) = .bool ok := hd 5 (by kernel_rfl)
        cases hok : ok
        · rw [hok] at hgv
          exact .inr ⟨want_some (k := 5) (t := 61) rfl hgv, fun h => by cases h⟩
        · rw [hok] at hgv
          exact .inl ⟨want_some (k := 5) (t := 61) rfl hgv, does_load26 ((hf.keeps 16 (by kernel_rfl)).trans rfl) (hby W hb) ⟨Below.refl _ _, fun _ => rfl⟩⟩
        | 8, _ =>
        refine StepAt.by rfl fun a' W hf hb hd => ?_
        have hgv : a'.eval (.tmp 61) = .bool ok := hd 5 (by kernel_rfl)
        have h6 : ok = true → a'.eval (.tmp 62) = vx.val := hd 6 (by kernel_rfl)
        have h7 : ok = true → a'.eval (.tmp 63) = vy.val := hd 7 (by kernel_rfl)
        cases hok : ok
        · rw [hok] at hgv
          exact .inr ⟨want_some (k := 5) (t := 61) rfl hgv, fun h => by cases h⟩
        · rw [hok] at hgv
          obtain ⟨z, hz1, hz2, hz3⟩ := hxy hok
          exact .inl ⟨want_some (k := 5) (t := 61) rfl hgv, does_call3 (enters_of Try.func10 (by kernel_rfl) (by kernel_rfl)) (h6 hok) (h7 hok) rfl ((sameNode_any vx vy z z true W (hz1.below (Nat.le_refl _) (hbd W hb)) (hz2.below (Nat.le_refl _) (hbd W hb)) hz3 hz3).mono fun e W' ⟨he, hb'⟩ => ⟨_, he, hb', fun _ => by rw [same_self]⟩)⟩
        | 9, _ =>
        refine StepAt.by rfl fun a' W hf hb hd => ?_
        have hgv : a'.eval (.tmp 61) = .bool ok := hd 5 (by kernel_rfl)
        have h8 : ok = true → a'.eval (.tmp 64) = .bool true := hd 8 (by kernel_rfl)
        cases hok : ok
        · rw [hok] at hgv
          exact .inr ⟨want_some (k := 5) (t := 61) rfl hgv, fun h => by cases h⟩
        · rw [hok] at hgv
          exact .inl ⟨want_some (k := 5) (t := 61) rfl hgv, does_not (h8 hok) ⟨Below.refl _ _, fun _ => rfl⟩⟩
        | 10, _ =>
        refine StepAt.by rfl fun a' W hf hb hd => .inl ⟨want_some (k := 3) (t := 59) rfl (hd 3 (by kernel_rfl)), ?_⟩
        have hgv : a'.eval (.tmp 61) = .bool ok := hd 5 (by kernel_rfl)
        have h9 : ok = true → a'.eval (.tmp 65) = .bool false := hd 9 (by kernel_rfl)
        cases hok : ok
        · rw [hok] at hgv
          exact does_pick (b := false) hgv rfl ⟨Below.refl _ _, rfl⟩
        · rw [hok] at hgv
          exact does_pick (b := true) hgv (h9 hok) ⟨Below.refl _ _, rfl⟩
        | 11, _ =>
        refine StepAt.by rfl fun a' W hf hb hd => .inl ⟨want_none, ?_⟩
        exact does_pick (b := false) (hd 3 (by kernel_rfl)) (hd 10 (by kernel_rfl)) ⟨Below.refl _ _, rfl⟩
        | 12, _ =>
        refine StepAt.by rfl fun a' W hf hb hd => .inl ⟨want_none, ?_⟩
        exact does_move (hd 11 (by kernel_rfl)) ⟨Below.refl _ _, rfl⟩
        | 13, _ =>
        refine StepAt.by rfl fun a' W hf hb hd => .inl ⟨want_some (k := 12) (t := 68) rfl (hd 12 (by kernel_rfl)), ?_⟩
        exact does_move ((hf.keeps 0 (by kernel_rfl)).trans rfl) ⟨Below.refl _ _, rfl⟩
        | 14, _ =>
        refine StepAt.by rfl fun a' W hf hb hd => .inl ⟨want_some (k := 12) (t := 68) rfl (hd 12 (by kernel_rfl)), ?_⟩
        exact does_load26 ((hf.keeps 9 (by kernel_rfl)).trans rfl) (hbn W hb) ⟨Below.refl _ _, rfl⟩
        | 15, _ =>
        refine StepAt.by rfl fun a' W hf hb hd => .inl ⟨want_some (k := 12) (t := 68) rfl (hd 12 (by kernel_rfl)), ?_⟩
        exact does_call2 (enters_of Try.func12 (by kernel_rfl) (by kernel_rfl)) (hd 13 (by kernel_rfl)) (hd 14 (by kernel_rfl)) ((put_any A n c vs xs vn y W (HT.out.1.below (Nat.le_refl _) (hbw W hb)) HR.out.1 (by omega) HT.out.2 (HY.out.1.below (Nat.le_refl _) (hbw W hb)) HY.out.2.1).mono fun e W' ⟨B, m, d, us, he, _, ho, hb'⟩ => ⟨_, he, hb', B, m, d, us, rfl, ho.tree⟩)
        | 16, _ =>
        refine StepAt.by rfl fun a' W hf hb hd => .inl ⟨want_some (k := 12) (t := 68) rfl (hd 12 (by kernel_rfl)), ?_⟩
        exact does_move ((hf.keeps 13 (by kernel_rfl)).trans rfl) ⟨Below.refl _ _, rfl⟩
        | 17, _ =>
        refine StepAt.by rfl fun a' W hf hb hd => .inl ⟨want_some (k := 12) (t := 68) rfl (hd 12 (by kernel_rfl)), ?_⟩
        exact does_load26 ((hf.keeps 9 (by kernel_rfl)).trans rfl) (hbn W hb) ⟨Below.refl _ _, rfl⟩
        | 18, _ =>
        refine StepAt.by rfl fun a' W hf hb hd => .inl ⟨want_some (k := 12) (t := 68) rfl (hd 12 (by kernel_rfl)), ?_⟩
        exact does_call2 (enters_of Try.func13 (by kernel_rfl) (by kernel_rfl)) (hd 16 (by kernel_rfl)) (hd 17 (by kernel_rfl)) ((with_any bm xs vn y W (htm W hb) (HY.out.1.below (Nat.le_refl _) (hbw W hb))).mono fun e W' ⟨b, he, ht', hb'⟩ => ⟨_, he, hb', b, rfl, ht'⟩)
        | 19, _ =>
        refine StepAt.by rfl fun a' W hf hb hd => .inl ⟨want_some (k := 12) (t := 68) rfl (hd 12 (by kernel_rfl)), ?_⟩
        obtain ⟨b1, e1, ht1⟩ := hd 18 (by kernel_rfl)
        exact does_call1 (enters_of Try.func14 (by kernel_rfl) (by kernel_rfl)) e1 ((list_any b1 _ W ht1 HP.out.2.2 HP.out.2.1).mono fun e W' ⟨B, m, d, us, he, ht', hb'⟩ => ⟨_, he, hb', B, m, d, us, rfl, ht'⟩)
        | 20, _ =>
        refine StepAt.by rfl fun a' W hf hb hd => .inl ⟨want_some (k := 12) (t := 68) rfl (hd 12 (by kernel_rfl)), ?_⟩
        have hBW := hbw W hb
        obtain ⟨B1, m1, d1, us1, e1, ht1⟩ := hd 15 (by kernel_rfl)
        obtain ⟨B2, m2, d2, us2, e2, ht2⟩ := hd 19 (by kernel_rfl)
        exact does_call3 (enters_of Try.func11 (by kernel_rfl) (by kernel_rfl)) e1 e2 rfl ((refSame_any B1 B2 m1 m2 d1 d2 us1 us2 _ _ true W ht1 ht2 (tlen ht1 HP.out.2.1) (tlen ht2 HP.out.2.1) HP.out.1 HP.out.1).mono fun e W' ⟨he, hb'⟩ => ⟨_, he, hb', by show _ = _; rw [allB_self]⟩)
        | 21, _ =>
        refine StepAt.by rfl fun a' W hf hb hd => .inl ⟨want_some (k := 12) (t := 68) rfl (hd 12 (by kernel_rfl)), ?_⟩
        exact does_not (hd 20 (by kernel_rfl)) ⟨Below.refl _ _, rfl⟩
        | 22, _ =>
        refine StepAt.by rfl fun a' W hf hb hd => .inl ⟨want_none, ?_⟩
        exact does_pick (b := false) (hd 12 (by kernel_rfl)) (hd 21 (by kernel_rfl)) ⟨Below.refl _ _, rfl⟩
        | 23, _ =>
        refine StepAt.by rfl fun a' W hf hb hd => .inl ⟨want_none, ?_⟩
        exact does_move (hd 22 (by kernel_rfl)) ⟨Below.refl _ _, rfl⟩
        | 24, _ =>
        refine StepAt.by rfl fun a' W hf hb hd => .inl ⟨want_some (k := 23) (t := 79) rfl (hd 23 (by kernel_rfl)), ?_⟩
        exact does_move ((hf.keeps 0 (by kernel_rfl)).trans rfl) ⟨Below.refl _ _, rfl⟩
        | 25, _ =>
        refine StepAt.by rfl fun a' W hf hb hd => .inl ⟨want_some (k := 23) (t := 79) rfl (hd 23 (by kernel_rfl)), ?_⟩
        exact does_move ((hf.keeps 2 (by kernel_rfl)).trans rfl) ⟨Below.refl _ _, rfl⟩
        | 26, _ =>
        refine StepAt.by rfl fun a' W hf hb hd => .inl ⟨want_some (k := 23) (t := 79) rfl (hd 23 (by kernel_rfl)), ?_⟩
        exact does_call2 (enters_of Try.func15 (by kernel_rfl) (by kernel_rfl)) (hd 24 (by kernel_rfl)) (hd 25 (by kernel_rfl)) ((drop_any A n c vs xs t W (HT.out.1.below (Nat.le_refl _) (hbw W hb)) (by omega) HT.out.2).mono fun e W' ⟨B, m, d, us, he, _, ho, hb'⟩ => ⟨_, he, hb', B, m, d, us, rfl, ho.tree⟩)
        | 27, _ =>
        refine StepAt.by rfl fun a' W hf hb hd => .inl ⟨want_some (k := 23) (t := 79) rfl (hd 23 (by kernel_rfl)), ?_⟩
        exact does_move ((hf.keeps 13 (by kernel_rfl)).trans rfl) ⟨Below.refl _ _, rfl⟩
        | 28, _ =>
        refine StepAt.by rfl fun a' W hf hb hd => .inl ⟨want_some (k := 23) (t := 79) rfl (hd 23 (by kernel_rfl)), ?_⟩
        exact does_move ((hf.keeps 2 (by kernel_rfl)).trans rfl) ⟨Below.refl _ _, rfl⟩
        | 29, _ =>
        refine StepAt.by rfl fun a' W hf hb hd => .inl ⟨want_some (k := 23) (t := 79) rfl (hd 23 (by kernel_rfl)), ?_⟩
        exact does_call2 (enters_of Try.func16 (by kernel_rfl) (by kernel_rfl)) (hd 27 (by kernel_rfl)) (hd 28 (by kernel_rfl)) ((without_any bm xs t W (htm W hb)).mono fun e W' ⟨b, he, ht', hb'⟩ => ⟨_, he, hb', b, rfl, ht'⟩)
        | 30, _ =>
        refine StepAt.by rfl fun a' W hf hb hd => .inl ⟨want_some (k := 23) (t := 79) rfl (hd 23 (by kernel_rfl)), ?_⟩
        obtain ⟨b1, e1, ht1⟩ := hd 29 (by kernel_rfl)
        exact does_call1 (enters_of Try.func14 (by kernel_rfl) (by kernel_rfl)) e1 ((list_any b1 _ W ht1 HD.out.2.2 HD.out.2.1).mono fun e W' ⟨B, m, d, us, he, ht', hb'⟩ => ⟨_, he, hb', B, m, d, us, rfl, ht'⟩)
        | 31, _ =>
        refine StepAt.by rfl fun a' W hf hb hd => .inl ⟨want_some (k := 23) (t := 79) rfl (hd 23 (by kernel_rfl)), ?_⟩
        have hBW := hbw W hb
        obtain ⟨B1, m1, d1, us1, e1, ht1⟩ := hd 26 (by kernel_rfl)
        obtain ⟨B2, m2, d2, us2, e2, ht2⟩ := hd 30 (by kernel_rfl)
        exact does_call3 (enters_of Try.func11 (by kernel_rfl) (by kernel_rfl)) e1 e2 rfl ((refSame_any B1 B2 m1 m2 d1 d2 us1 us2 _ _ true W ht1 ht2 (tlen ht1 HD.out.2.1) (tlen ht2 HD.out.2.1) HD.out.1 HD.out.1).mono fun e W' ⟨he, hb'⟩ => ⟨_, he, hb', by show _ = _; rw [allB_self]⟩)
        | 32, _ =>
        refine StepAt.by rfl fun a' W hf hb hd => .inl ⟨want_some (k := 23) (t := 79) rfl (hd 23 (by kernel_rfl)), ?_⟩
        exact does_not (hd 31 (by kernel_rfl)) ⟨Below.refl _ _, rfl⟩
        | 33, _ =>
        refine StepAt.by rfl fun a' W hf hb hd => .inl ⟨want_none, ?_⟩
        exact does_pick (b := false) (hd 23 (by kernel_rfl)) (hd 32 (by kernel_rfl)) ⟨Below.refl _ _, rfl⟩
        | 34, _ =>
        refine StepAt.by rfl fun a' W hf hb hd => .inl ⟨want_none, ?_⟩
        exact does_move (hd 33 (by kernel_rfl)) ⟨Below.refl _ _, rfl⟩
        | 35, _ =>
        refine StepAt.by rfl fun a' W hf hb hd => .inl ⟨want_some (k := 34) (t := 90) rfl (hd 34 (by kernel_rfl)), ?_⟩
        exact does_move ((hf.keeps 0 (by kernel_rfl)).trans rfl) ⟨Below.refl _ _, rfl⟩
        | 36, _ =>
        refine StepAt.by rfl fun a' W hf hb hd => .inl ⟨want_some (k := 34) (t := 90) rfl (hd 34 (by kernel_rfl)), ?_⟩
        exact does_call1 (enters_of Try.func17 (by kernel_rfl) (by kernel_rfl)) (hd 35 (by kernel_rfl)) ((own_any A n c vs xs W (HT.out.1.below (Nat.le_refl _) (hbw W hb)) (by omega) HT.out.2).mono fun e W' ⟨g, us, he, ho, hb'⟩ => ⟨_, he, hb', _, _, _, us, rfl, ho.tree⟩)
        | 37, _ =>
        refine StepAt.by rfl fun a' W hf hb hd => .inl ⟨want_some (k := 34) (t := 90) rfl (hd 34 (by kernel_rfl)), ?_⟩
        exact does_move ((hf.keeps 0 (by kernel_rfl)).trans rfl) ⟨Below.refl _ _, rfl⟩
        | 38, _ =>
        refine StepAt.by rfl fun a' W hf hb hd => .inl ⟨want_some (k := 34) (t := 90) rfl (hd 34 (by kernel_rfl)), ?_⟩
        obtain ⟨B1, m1, d1, us1, e1, ht1⟩ := hd 36 (by kernel_rfl)
        exact does_call3 (enters_of Try.func11 (by kernel_rfl) (by kernel_rfl)) e1 (hd 37 (by kernel_rfl)) rfl ((refSame_any B1 A m1 n d1 c us1 vs xs xs true W ht1 (HT.out.1.below (Nat.le_refl _) (hbw W hb)) (tlen ht1 HX.out.2) (by omega) HT.out.2 HT.out.2).mono fun e W' ⟨he, hb'⟩ => ⟨_, he, hb', by show _ = _; rw [allB_self]⟩)
        | 39, _ =>
        refine StepAt.by rfl fun a' W hf hb hd => .inl ⟨want_some (k := 34) (t := 90) rfl (hd 34 (by kernel_rfl)), ?_⟩
        exact does_not (hd 38 (by kernel_rfl)) ⟨Below.refl _ _, rfl⟩
        | 40, _ =>
        refine StepAt.by rfl fun a' W hf hb hd => .inl ⟨want_none, ?_⟩
        exact does_pick (b := false) (hd 34 (by kernel_rfl)) (hd 39 (by kernel_rfl)) ⟨Below.refl _ _, rfl⟩
        | 41, _ =>
        refine StepAt.by rfl fun a' W hf hb hd => .inl ⟨want_none, ?_⟩
        exact does_move (hd 40 (by kernel_rfl)) ⟨Below.refl _ _, rfl⟩
        | 42, _ =>
        refine StepAt.by rfl fun a' W hf hb hd => .inl ⟨want_some (k := 41) (t := 97) rfl (hd 41 (by kernel_rfl)), ?_⟩
        exact does_call0 (enters_of Try.func18 (by kernel_rfl) (by kernel_rfl)) ((new_any W).mono fun e W' ⟨g, us, he, ho, hb'⟩ => ⟨_, he, hb', _, _, _, us, rfl, ho.tree⟩)
        | 43, _ =>
        refine StepAt.by rfl fun a' W hf hb hd => .inl ⟨want_some (k := 41) (t := 97) rfl (hd 41 (by kernel_rfl)), ?_⟩
        exact does_valT (run_buildT rfl) ⟨Below.refl _ _, rfl⟩
        | 44, _ =>
        refine StepAt.by rfl fun a' W hf hb hd => .inl ⟨want_some (k := 41) (t := 97) rfl (hd 41 (by kernel_rfl)), ?_⟩
        exact does_valT (run_build1 (v := ⟨0, true, none, 0, 0, none, 0, 0, 0⟩) (hd 43 (by kernel_rfl))) ⟨(Below.refl _ _).alloc (Nat.le_refl _) _, isT_root W⟩
        | 45, _ =>
        refine StepAt.by rfl fun a' W hf hb hd => .inl ⟨want_some (k := 41) (t := 97) rfl (hd 41 (by kernel_rfl)), ?_⟩
        have hBW := hbw W hb
        obtain ⟨B1, m1, d1, us1, e1, ht1⟩ := hd 42 (by kernel_rfl)
        obtain ⟨B2, m2, d2, us2, e2, ht2⟩ := hd 44 (by kernel_rfl)
        exact does_call3 (enters_of Try.func11 (by kernel_rfl) (by kernel_rfl)) e1 e2 rfl ((refSame_any B1 B2 m1 m2 d1 d2 us1 us2 _ _ true W ht1 ht2 (tlen ht1 HRT.out.2) (tlen ht2 HRT.out.2) HRT.out.1 HRT.out.1).mono fun e W' ⟨he, hb'⟩ => ⟨_, he, hb', by show _ = _; rw [allB_self]⟩)
        | 46, _ =>
        refine StepAt.by rfl fun a' W hf hb hd => .inl ⟨want_some (k := 41) (t := 97) rfl (hd 41 (by kernel_rfl)), ?_⟩
        exact does_not (hd 45 (by kernel_rfl)) ⟨Below.refl _ _, rfl⟩
        | 47, _ =>
        refine StepAt.by rfl fun a' W hf hb hd => .inl ⟨want_none, ?_⟩
        exact does_pick (b := false) (hd 41 (by kernel_rfl)) (hd 46 (by kernel_rfl)) ⟨Below.refl _ _, rfl⟩
        | 48, _ =>
        refine StepAt.by rfl fun a' W hf hb hd => .inl ⟨want_none, ?_⟩
        exact does_move (hd 47 (by kernel_rfl)) ⟨Below.refl _ _, rfl⟩
        | 49, _ =>
        refine StepAt.by rfl fun a' W hf hb hd => .inl ⟨want_some (k := 48) (t := 104) rfl (hd 48 (by kernel_rfl)), ?_⟩
        exact does_move ((hf.keeps 0 (by kernel_rfl)).trans rfl) ⟨Below.refl _ _, rfl⟩
        | 50, _ =>
        refine StepAt.by rfl fun a' W hf hb hd => .inl ⟨want_some (k := 48) (t := 104) rfl (hd 48 (by kernel_rfl)), ?_⟩
        exact does_move ((hf.keeps 1 (by kernel_rfl)).trans rfl) ⟨Below.refl _ _, rfl⟩
        | 51, _ =>
        refine StepAt.by rfl fun a' W hf hb hd => .inl ⟨want_some (k := 48) (t := 104) rfl (hd 48 (by kernel_rfl)), ?_⟩
        exact does_call2 (enters_of Try.func19 (by kernel_rfl) (by kernel_rfl)) (hd 49 (by kernel_rfl)) (hd 50 (by kernel_rfl)) ((same_any A Am n nm c cm vs vms xs ms W (HT.out.1.below (Nat.le_refl _) (hbw W hb)) (HMM.out.1.below (Nat.le_refl _) (hbw W hb)) (by omega) (by omega) HT.out.2 HMM.out.2).mono fun e W' ⟨he, hb'⟩ => ⟨_, he, hb', rfl⟩)
        | 52, _ =>
        refine StepAt.by rfl fun a' W hf hb hd => .inl ⟨want_some (k := 48) (t := 104) rfl (hd 48 (by kernel_rfl)), ?_⟩
        exact does_move ((hf.keeps 0 (by kernel_rfl)).trans rfl) ⟨Below.refl _ _, rfl⟩
        | 53, _ =>
        refine StepAt.by rfl fun a' W hf hb hd => .inl ⟨want_some (k := 48) (t := 104) rfl (hd 48 (by kernel_rfl)), ?_⟩
        exact does_move ((hf.keeps 1 (by kernel_rfl)).trans rfl) ⟨Below.refl _ _, rfl⟩
        | 54, _ =>
        refine StepAt.by rfl fun a' W hf hb hd => .inl ⟨want_some (k := 48) (t := 104) rfl (hd 48 (by kernel_rfl)), ?_⟩
        exact does_call3 (enters_of Try.func11 (by kernel_rfl) (by kernel_rfl)) (hd 52 (by kernel_rfl)) (hd 53 (by kernel_rfl)) rfl ((refSame_any A Am n nm c cm vs vms xs ms false W (HT.out.1.below (Nat.le_refl _) (hbw W hb)) (HMM.out.1.below (Nat.le_refl _) (hbw W hb)) (by omega) (by omega) HT.out.2 HMM.out.2).mono fun e W' ⟨he, hb'⟩ => ⟨_, he, hb', rfl⟩)
        | 55, _ =>
        refine StepAt.by rfl fun a' W hf hb hd => .inl ⟨want_some (k := 48) (t := 104) rfl (hd 48 (by kernel_rfl)), ?_⟩
        exact does_neqB (hd 51 (by kernel_rfl)) (hd 54 (by kernel_rfl)) ⟨Below.refl _ _, by show _ = _; rw [alike_same]; simp⟩
        | 56, _ =>
        refine StepAt.by rfl fun a' W hf hb hd => .inl ⟨want_none, ?_⟩
        exact does_pick (b := false) (hd 48 (by kernel_rfl)) (hd 55 (by kernel_rfl)) ⟨Below.refl _ _, rfl⟩
        | k + 57, hi => exact absurd hi (Nat.not_lt.2 (Nat.le_add_left _ _))
    · intro a' W hf hb hv
      have h112 : a'.eval (.tmp 112) = .bool false := hv 56 (by decide)
      have hl := hf.lit (fun t => decide (56 ≤ t) && decide (t ≤ 112)) (by kernel_rfl)
      simp only [overL, Nat.reduceAdd, Nat.reduceLeDiff, decide_true, decide_false, Bool.and_true, Bool.and_false] at hl
      rw [hl]
      clear hl
      go_wp2_with (fail)
      go_meet
      case rel => exact ⟨h112, hb⟩
  case rest =>
    obtain ⟨rfl, hbc⟩ := hcut
    have HC : Hid (Below w.heap.size w wc ∧ Box wc w.heap.size vn ∧ TMap wc bm xs) := ⟨HWA.out.1.trans (hbc.mono HWA.out.1.size), HWA.out.2.1.below hbc (lt_of_block HWA.out.2.1), HWA.out.2.2.below (Nat.le_refl _) hbc⟩
    clear hbc HWA HA' q2 q3 q5
    go_wp2_with (fail)
    refine (walk_any A Bp n c np cp vs xs ls _ (HT.out.1.below (Nat.le_refl _) HC.out.1) HR.out (by omega) HT.out.2 (HPT.out.below (Nat.le_refl _) HC.out.1) hnp).mono ?_
    rintro e w7 ⟨rfl, hb7⟩
    have H7 : Hid (Below w.heap.size w w7 ∧ Box w7 w.heap.size vn ∧ TMap w7 bm xs) := ⟨HC.out.1.trans (hb7.mono HC.out.1.size), HC.out.2.1.below hb7 (lt_of_block HC.out.2.1), HC.out.2.2.below (Nat.le_refl _) hb7⟩
    clear hb7 HC
    go_wp2_with (fail)
    refine (refWalk_any bm Bp np cp xs ls _ H7.out.2.2 HT.out.2 (HPT.out.below (Nat.le_refl _) H7.out.1) hnp).mono ?_
    rintro e w8 ⟨rfl, hb8⟩
    have H8 : Hid (Below w.heap.size w w8 ∧ Box w8 w.heap.size vn ∧ TMap w8 bm xs) := ⟨H7.out.1.trans (hb8.mono H7.out.1.size), H7.out.2.1.below hb8 (lt_of_block H7.out.2.1), H7.out.2.2.below (Nat.le_refl _) hb8⟩
    clear hb8 H7
    generalize (M.walkS xs 0 ls).1 = wf
    generalize (M.walkS xs 0 ls).2 = wg
    obtain ⟨rb, HRB⟩ : ∃ rb : Bool, Hid (rb = true ↔ M.Reach xs vn.fid t) := by
      by_cases h : M.Reach xs vn.fid t
      · exact ⟨true, by show _ ↔ _; simp [h]⟩
      · exact ⟨false, by show _ ↔ _; simp [h]⟩
    go_upto_region 10 with (fail)
    go_cut [145] from 125 (fun b W => b = .bool false ∧ Below w8.heap.size w8 W)
    case first =>
      have hbd : ∀ W, Below w8.drew.heap.size w8.drew W → Below w8.heap.size w8 W := fun W hb => (Below.refl _ _).drew.trans hb
      have hbw : ∀ W, Below w8.drew.heap.size w8.drew W → Below w.heap.size w W := fun W hb => H8.out.1.trans ((hbd W hb).mono H8.out.1.size)
      have hbn : ∀ W, Below w8.drew.heap.size w8.drew W → Box W w.heap.size vn := fun W hb => H8.out.2.1.below (hbd W hb) (lt_of_block H8.out.2.1)
      have htm : ∀ W, Below w8.drew.heap.size w8.drew W → TMap W bm xs := fun W hb => H8.out.2.2.below (Nat.le_refl _) (hbd W hb)
      refine wp_region_vals (V10 A n c t wf wg w.heap.size vn bm rb) (by kernel_rfl) (by kernel_rfl) (V10_stays _ _ _ _ _ _ _ _ _ _) ?_ ?_
      · intro i hi
        match i, hi with
        | 0, _ =>
          refine StepAt.by rfl fun a' W hf hb hd => .inl ⟨want_none, ?_⟩
          exact does_move ((hf.keeps 18 (by kernel_rfl)).trans rfl) ⟨Below.refl _ _, rfl⟩
        | 1, _ =>
          refine StepAt.by rfl fun a' W hf hb hd => .inl ⟨want_none, ?_⟩
          exact does_move ((hf.keeps 20 (by kernel_rfl)).trans rfl) ⟨Below.refl _ _, rfl⟩
        | 2, _ =>
          refine StepAt.by rfl fun a' W hf hb hd => .inl ⟨want_none, ?_⟩
          exact does_neqI (hd 0 (by kernel_rfl)) (hd 1 (by kernel_rfl)) ⟨Below.refl _ _, by show _ = _; simp⟩
        | 3, _ =>
          refine StepAt.by rfl fun a' W hf hb hd => .inl ⟨want_none, ?_⟩
          exact does_move (hd 2 (by kernel_rfl)) ⟨Below.refl _ _, rfl⟩
        | 4, _ =>
          refine StepAt.by rfl fun a' W hf hb hd => .inl ⟨want_some (k := 3) (t := 128) rfl (hd 3 (by kernel_rfl)), ?_⟩
          exact does_move ((hf.keeps 19 (by kernel_rfl)).trans rfl) ⟨Below.refl _ _, rfl⟩
        | 5, _ =>
          refine StepAt.by rfl fun a' W hf hb hd => .inl ⟨want_some (k := 3) (t := 128) rfl (hd 3 (by kernel_rfl)), ?_⟩
          exact does_move ((hf.keeps 21 (by kernel_rfl)).trans rfl) ⟨Below.refl _ _, rfl⟩
        | 6, _ =>
          refine StepAt.by rfl fun a' W hf hb hd => .inl ⟨want_some (k := 3) (t := 128) rfl (hd 3 (by kernel_rfl)), ?_⟩
          exact does_neqET (hd 4 (by kernel_rfl)) (hd 5 (by kernel_rfl)) ⟨Below.refl _ _, by show _ = _; simp⟩
        | 7, _ =>
          refine StepAt.by rfl fun a' W hf hb hd => .inl ⟨want_none, ?_⟩
          exact does_pick (b := false) (hd 3 (by kernel_rfl)) (hd 6 (by kernel_rfl)) ⟨Below.refl _ _, rfl⟩
        | 8, _ =>
          refine StepAt.by rfl fun a' W hf hb hd => .inl ⟨want_none, ?_⟩
          exact does_move (hd 7 (by kernel_rfl)) ⟨Below.refl _ _, rfl⟩
        | 9, _ =>
          refine StepAt.by rfl fun a' W hf hb hd => .inl ⟨want_some (k := 8) (t := 133) rfl (hd 8 (by kernel_rfl)), ?_⟩
          exact does_move ((hf.keeps 0 (by kernel_rfl)).trans rfl) ⟨Below.refl _ _, rfl⟩
        | 10, _ =>
          refine StepAt.by rfl fun a' W hf hb hd => .inl ⟨want_some (k := 8) (t := 133) rfl (hd 8 (by kernel_rfl)), ?_⟩
          exact does_move ((hf.keeps 2 (by kernel_rfl)).trans rfl) ⟨Below.refl _ _, rfl⟩
        | 11, _ =>
          refine StepAt.by rfl fun a' W hf hb hd => .inl ⟨want_some (k := 8) (t := 133) rfl (hd 8 (by kernel_rfl)), ?_⟩
          exact does_fieldN ((hf.keeps 9 (by kernel_rfl)).trans rfl) ⟨Below.refl _ _, rfl⟩
        | 12, _ =>
          refine StepAt.by rfl fun a' W hf hb hd => .inl ⟨want_some (k := 8) (t := 133) rfl (hd 8 (by kernel_rfl)), ?_⟩
          exact does_load3T (hd 11 (by kernel_rfl)) (hbn W hb).facts.1 ⟨Below.refl _ _, rfl⟩
        | 13, _ =>
          refine StepAt.by rfl fun a' W hf hb hd => .inl ⟨want_some (k := 8) (t := 133) rfl (hd 8 (by kernel_rfl)), ?_⟩
          exact does_call3 (enters_of Try.func22 (by kernel_rfl) (by kernel_rfl)) (hd 9 (by kernel_rfl)) (hd 10 (by kernel_rfl)) (hd 12 (by kernel_rfl)) ((within_any A n c vs xs t vn.fid W (HT.out.1.below (Nat.le_refl _) (hbw W hb)) HR.out.1 (by omega) HT.out.2).mono fun e W' ⟨b, he, hr, hb'⟩ => ⟨_, he, hb', by show Value.bool b = Value.bool rb; rw [bool_iff hr HRB.out]⟩)
        | 14, _ =>
          refine StepAt.by rfl fun a' W hf hb hd => .inl ⟨want_some (k := 8) (t := 133) rfl (hd 8 (by kernel_rfl)), ?_⟩
          exact does_move ((hf.keeps 13 (by kernel_rfl)).trans rfl) ⟨Below.refl _ _, rfl⟩
        | 15, _ =>
          refine StepAt.by rfl fun a' W hf hb hd => .inl ⟨want_some (k := 8) (t := 133) rfl (hd 8 (by kernel_rfl)), ?_⟩
          exact does_move ((hf.keeps 2 (by kernel_rfl)).trans rfl) ⟨Below.refl _ _, rfl⟩
        | 16, _ =>
          refine StepAt.by rfl fun a' W hf hb hd => .inl ⟨want_some (k := 8) (t := 133) rfl (hd 8 (by kernel_rfl)), ?_⟩
          exact does_fieldN ((hf.keeps 9 (by kernel_rfl)).trans rfl) ⟨Below.refl _ _, rfl⟩
        | 17, _ =>
          refine StepAt.by rfl fun a' W hf hb hd => .inl ⟨want_some (k := 8) (t := 133) rfl (hd 8 (by kernel_rfl)), ?_⟩
          exact does_load3T (hd 16 (by kernel_rfl)) (hbn W hb).facts.1 ⟨Below.refl _ _, rfl⟩
        | 18, _ =>
          refine StepAt.by rfl fun a' W hf hb hd => .inl ⟨want_some (k := 8) (t := 133) rfl (hd 8 (by kernel_rfl)), ?_⟩
          exact does_call3 (enters_of Try.func23 (by kernel_rfl) (by kernel_rfl)) (hd 14 (by kernel_rfl)) (hd 15 (by kernel_rfl)) (hd 17 (by kernel_rfl)) ((refWithin_any bm xs t vn.fid W (htm W hb) HT.out.2 hN).mono fun e W' ⟨b, he, hr, hb'⟩ => ⟨_, he, hb', by show Value.bool b = Value.bool rb; rw [bool_iff hr HRB.out]⟩)
        | 19, _ =>
          refine StepAt.by rfl fun a' W hf hb hd => .inl ⟨want_some (k := 8) (t := 133) rfl (hd 8 (by kernel_rfl)), ?_⟩
          exact does_neqB (hd 13 (by kernel_rfl)) (hd 18 (by kernel_rfl)) ⟨Below.refl _ _, by show _ = _; simp⟩
        | 20, _ =>
          refine StepAt.by rfl fun a' W hf hb hd => .inl ⟨want_none, ?_⟩
          exact does_pick (b := false) (hd 8 (by kernel_rfl)) (hd 19 (by kernel_rfl)) ⟨Below.refl _ _, rfl⟩
        | k + 21, hi => exact absurd hi (Nat.not_lt.2 (Nat.le_add_left _ _))
      · intro a' W hf hb hv
        have hfin : a'.eval (.tmp 145) = .bool false := hv 20 (by decide)
        have hl := hf.lit (fun t => decide (125 ≤ t) && decide (t ≤ 145)) (by kernel_rfl)
        simp only [overL, Nat.reduceAdd, Nat.reduceLeDiff, decide_true, decide_false, Bool.and_true, Bool.and_false] at hl
        rw [hl]
        clear hl
        go_wp2_with (fail)
        go_meet
        case rel => exact ⟨hfin, hb⟩
    case rest =>
      rename World => wd
      obtain ⟨rfl, hbc⟩ := hcut
      have HD : Hid (Below w.heap.size w wd) := H8.out.1.trans (hbc.mono H8.out.1.size)
      clear hbc H8 HRB
      go_wp2_with (fail)
      go_loopw [148] (fun i wr => ∃ k : Nat, k ≤ n ∧ i = .int .i64 k ∧ Below w.heap.size w wr) (fun i _ => n - (intOf i).toNat)
      case atStart => exact ⟨0, Nat.zero_le _, rfl, HD.out⟩
      case round =>
        obtain ⟨k, hk, rfl, hbr⟩ := hrel
        rename World => wr
        by_cases hlt : k < n
        · have htr := HT.out.1.below (Nat.le_refl _) hbr
          obtain ⟨gb, o, v, rfl, hgb, hvk, c0, c1, c2, c3, c4⟩ := htr.1.at hlt
          obtain ⟨x, hx, hcx⟩ := htr.2.at hvk
          have hxm := List.mem_of_getElem? hx
          have HX17 : Hid (Small x ∧ M.RsE x.ents ∧ (x.ents.length + 1) * 24 ≤ 140737488355328) := ⟨HT.out.2 x hxm, HR.out.2 x hxm, HEX.out x hxm⟩
          have HS1 : Hid (Small (withE x (M.putE x.ents (s, t)))) := ⟨HX17.out.1.1, by have h1 := M.put_len (fun e : ByteArray × Int => e.1) x.ents M.ordB (s, t); have h2 := HX17.out.2.2; show (M.putE x.ents (s, t)).length * 24 ≤ _; unfold M.putE; exact Nat.le_trans (Nat.mul_le_mul_right 24 h1) h2⟩
          have HS2 : Hid (Small (withE x (M.dropE x.ents s))) := ⟨HX17.out.1.1, by have h1 : (M.dropE x.ents s).length ≤ x.ents.length := List.length_filter_le _ _; have h2 := HX17.out.1.2; show (M.dropE x.ents s).length * 24 ≤ _; exact Nat.le_trans (Nat.mul_le_mul_right 24 h1) h2⟩
          have hwa : ∀ W, W = wr.alloc (.cells #[.int .i64 v.fid, .bool v.dir, .slice v.dA v.dn v.dc, .slice v.eA v.en v.ec, .int .i64 v.ver] 26) → Below w.heap.size w W ∧ Box W wr.heap.size v ∧ Cont W v x := by
            rintro W rfl
            have hq : Below wr.heap.size wr (wr.alloc (.cells #[.int .i64 v.fid, .bool v.dir, .slice v.dA v.dn v.dc, .slice v.eA v.en v.ec, .int .i64 v.ver] 26)) := (Below.refl _ _).alloc (Nat.le_refl _) _
            exact ⟨hbr.trans (hq.mono hbr.size), Box.new wr v, hcx.below (Nat.le_refl _) hq⟩
          have HWA : Hid _ := hwa
          have hks : (k : Int) < (n : Int) := by omega
          have hk0 : (0 : Int) ≤ (k : Int) := by omega
          clear hwa htr hvk hx hcx hxm hbr
          go_wp2_with (fail)
          obtain ⟨q1, q2, q3⟩ := HWA.out _ rfl
          refine (entry_any v x s _ q3 HX17.out.1).mono ?_
          rintro e w9 ⟨f, b, rfl, hfb, hb9⟩
          obtain ⟨rfl, rfl⟩ := hfb HX17.out.2.1
          have H9 : Hid (Below w.heap.size w w9 ∧ Box w9 wr.heap.size v ∧ Cont w9 v x) := ⟨q1.trans (hb9.mono q1.size), q2.below hb9 (lt_of_block q2), q3.below (Nat.le_refl _) hb9⟩
          clear q1 q2 q3 hfb hb9 HWA c0 c1 c2 c3 c4
          obtain ⟨p0, p1, p2, p3, p4, pf, pz⟩ := H9.out.2.1.facts
          go_wp2_with (fail)
          refine (refEntry_any v x s _ H9.out.2.2 HX17.out.1).mono ?_
          rintro e w10 ⟨rfl, hb10⟩
          have H10 : Hid (Below w.heap.size w w10 ∧ Box w10 wr.heap.size v ∧ Cont w10 v x) := ⟨H9.out.1.trans (hb10.mono H9.out.1.size), H9.out.2.1.below hb10 (lt_of_block H9.out.2.1), H9.out.2.2.below (Nat.le_refl _) hb10⟩
          clear hb10 H9 p0 p1 p2 p3 p4 pf
          generalize ((M.look x.ents s).map (·.2)).getD 0 = f
          generalize (M.look x.ents s).isSome = b
          go_upto_region 17 with (fail)
          go_cut [193] from 164 to 193 (fun b W => b = .bool false ∧ Below w10.heap.size w10 W)
          case first =>
            have hbd : ∀ W, Below w10.drew.heap.size w10.drew W → Below w10.heap.size w10 W := fun W hb => (Below.refl _ _).drew.trans hb
            have HC17 : ∀ W, Below w10.drew.heap.size w10.drew W → Cont W v x := fun W hb => H10.out.2.2.below (Nat.le_refl _) (hbd W hb)
            have hb17 : ∀ W, Below w10.drew.heap.size w10.drew W → Box W wr.heap.size v := fun W hb => H10.out.2.1.below (hbd W hb) (lt_of_block H10.out.2.1)
            refine wp_region_vals (V17 f t b s v x) (by kernel_rfl) (by kernel_rfl) (V17_stays _ _ _ _ _ _) ?_ ?_
            · intro i hi
              match i, hi with
              | 0, _ =>
                refine StepAt.by rfl fun a' W hf hb hd => .inl ⟨want_none, ?_⟩
                exact does_move ((hf.keeps 24 (by kernel_rfl)).trans rfl) ⟨Below.refl _ _, rfl⟩
              | 1, _ =>
                refine StepAt.by rfl fun a' W hf hb hd => .inl ⟨want_none, ?_⟩
                exact does_move ((hf.keeps 26 (by kernel_rfl)).trans rfl) ⟨Below.refl _ _, rfl⟩
              | 2, _ =>
                refine StepAt.by rfl fun a' W hf hb hd => .inl ⟨want_none, ?_⟩
                exact does_neqI (hd 0 (by kernel_rfl)) (hd 1 (by kernel_rfl)) ⟨Below.refl _ _, by show _ = _; simp⟩
              | 3, _ =>
                refine StepAt.by rfl fun a' W hf hb hd => .inl ⟨want_none, ?_⟩
                exact does_move (hd 2 (by kernel_rfl)) ⟨Below.refl _ _, rfl⟩
              | 4, _ =>
                refine StepAt.by rfl fun a' W hf hb hd => .inl ⟨want_some (k := 3) (t := 167) rfl (hd 3 (by kernel_rfl)), ?_⟩
                exact does_move ((hf.keeps 25 (by kernel_rfl)).trans rfl) ⟨Below.refl _ _, rfl⟩
              | 5, _ =>
                refine StepAt.by rfl fun a' W hf hb hd => .inl ⟨want_some (k := 3) (t := 167) rfl (hd 3 (by kernel_rfl)), ?_⟩
                exact does_move ((hf.keeps 27 (by kernel_rfl)).trans rfl) ⟨Below.refl _ _, rfl⟩
              | 6, _ =>
                refine StepAt.by rfl fun a' W hf hb hd => .inl ⟨want_some (k := 3) (t := 167) rfl (hd 3 (by kernel_rfl)), ?_⟩
                exact does_neqB (hd 4 (by kernel_rfl)) (hd 5 (by kernel_rfl)) ⟨Below.refl _ _, by show _ = _; simp⟩
              | 7, _ =>
                refine StepAt.by rfl fun a' W hf hb hd => .inl ⟨want_none, ?_⟩
                exact does_pick (b := false) (hd 3 (by kernel_rfl)) (hd 6 (by kernel_rfl)) ⟨Below.refl _ _, rfl⟩
              | 8, _ =>
                refine StepAt.by rfl fun a' W hf hb hd => .inl ⟨want_none, ?_⟩
                exact does_move (hd 7 (by kernel_rfl)) ⟨Below.refl _ _, rfl⟩
              | 9, _ =>
                refine StepAt.by rfl fun a' W hf hb hd => .inl ⟨want_some (k := 8) (t := 172) rfl (hd 8 (by kernel_rfl)), ?_⟩
                exact does_load26 ((hf.keeps 23 (by kernel_rfl)).trans rfl) (hb17 W hb) ⟨Below.refl _ _, rfl⟩
              | 10, _ =>
                refine StepAt.by rfl fun a' W hf hb hd => .inl ⟨want_some (k := 8) (t := 172) rfl (hd 8 (by kernel_rfl)), ?_⟩
                exact does_move ((hf.keeps 4 (by kernel_rfl)).trans rfl) ⟨Below.refl _ _, rfl⟩
              | 11, _ =>
                refine StepAt.by rfl fun a' W hf hb hd => .inl ⟨want_some (k := 8) (t := 172) rfl (hd 8 (by kernel_rfl)), ?_⟩
                exact does_move ((hf.keeps 2 (by kernel_rfl)).trans rfl) ⟨Below.refl _ _, rfl⟩
              | 12, _ =>
                refine StepAt.by rfl fun a' W hf hb hd => .inl ⟨want_some (k := 8) (t := 172) rfl (hd 8 (by kernel_rfl)), ?_⟩
                exact does_call3 (enters_of Try.func26 (by kernel_rfl) (by kernel_rfl)) (hd 9 (by kernel_rfl)) (hd 10 (by kernel_rfl)) (hd 11 (by kernel_rfl)) ((enter_any v x s t W (HC17 W hb) HX17.out.2.1 HX17.out.1 HX17.out.2.2).mono fun e W' ⟨v', he, ho, hb'⟩ => ⟨_, he, hb', v', rfl, ho.cont⟩)
              | 13, _ =>
                refine StepAt.by rfl fun a' W hf hb hd => .inl ⟨want_some (k := 8) (t := 172) rfl (hd 8 (by kernel_rfl)), ?_⟩
                exact does_load26 ((hf.keeps 23 (by kernel_rfl)).trans rfl) (hb17 W hb) ⟨Below.refl _ _, rfl⟩
              | 14, _ =>
                refine StepAt.by rfl fun a' W hf hb hd => .inl ⟨want_some (k := 8) (t := 172) rfl (hd 8 (by kernel_rfl)), ?_⟩
                exact does_move ((hf.keeps 4 (by kernel_rfl)).trans rfl) ⟨Below.refl _ _, rfl⟩
              | 15, _ =>
                refine StepAt.by rfl fun a' W hf hb hd => .inl ⟨want_some (k := 8) (t := 172) rfl (hd 8 (by kernel_rfl)), ?_⟩
                exact does_move ((hf.keeps 2 (by kernel_rfl)).trans rfl) ⟨Below.refl _ _, rfl⟩
              | 16, _ =>
                refine StepAt.by rfl fun a' W hf hb hd => .inl ⟨want_some (k := 8) (t := 172) rfl (hd 8 (by kernel_rfl)), ?_⟩
                exact does_call3 (enters_of Try.func27 (by kernel_rfl) (by kernel_rfl)) (hd 13 (by kernel_rfl)) (hd 14 (by kernel_rfl)) (hd 15 (by kernel_rfl)) ((refEnter_any v x s t W (HC17 W hb) HX17.out.2.1 HX17.out.1 HX17.out.2.2).mono fun e W' ⟨v', he, ho, hb'⟩ => ⟨_, he, hb', v', rfl, ho⟩)
              | 17, _ =>
                refine StepAt.by rfl fun a' W hf hb hd => .inl ⟨want_some (k := 8) (t := 172) rfl (hd 8 (by kernel_rfl)), ?_⟩
                obtain ⟨v1, e1, ht1⟩ := hd 12 (by kernel_rfl)
                obtain ⟨v2, e2, ht2⟩ := hd 16 (by kernel_rfl)
                exact does_call3 (enters_of Try.func10 (by kernel_rfl) (by kernel_rfl)) e1 e2 rfl ((sameNode_any v1 v2 _ _ true W ht1 ht2 HS1.out HS1.out).mono fun e W' ⟨he, hb'⟩ => ⟨_, he, hb', by show _ = _; rw [same_self]⟩)
              | 18, _ =>
                refine StepAt.by rfl fun a' W hf hb hd => .inl ⟨want_some (k := 8) (t := 172) rfl (hd 8 (by kernel_rfl)), ?_⟩
                exact does_not (hd 17 (by kernel_rfl)) ⟨Below.refl _ _, rfl⟩
              | 19, _ =>
                refine StepAt.by rfl fun a' W hf hb hd => .inl ⟨want_none, ?_⟩
                exact does_pick (b := false) (hd 8 (by kernel_rfl)) (hd 18 (by kernel_rfl)) ⟨Below.refl _ _, rfl⟩
              | 20, _ =>
                refine StepAt.by rfl fun a' W hf hb hd => .inl ⟨want_none, ?_⟩
                exact does_move (hd 19 (by kernel_rfl)) ⟨Below.refl _ _, rfl⟩
              | 21, _ =>
                refine StepAt.by rfl fun a' W hf hb hd => .inl ⟨want_some (k := 20) (t := 184) rfl (hd 20 (by kernel_rfl)), ?_⟩
                exact does_load26 ((hf.keeps 23 (by kernel_rfl)).trans rfl) (hb17 W hb) ⟨Below.refl _ _, rfl⟩
              | 22, _ =>
                refine StepAt.by rfl fun a' W hf hb hd => .inl ⟨want_some (k := 20) (t := 184) rfl (hd 20 (by kernel_rfl)), ?_⟩
                exact does_move ((hf.keeps 4 (by kernel_rfl)).trans rfl) ⟨Below.refl _ _, rfl⟩
              | 23, _ =>
                refine StepAt.by rfl fun a' W hf hb hd => .inl ⟨want_some (k := 20) (t := 184) rfl (hd 20 (by kernel_rfl)), ?_⟩
                exact does_call2 (enters_of Try.func28 (by kernel_rfl) (by kernel_rfl)) (hd 21 (by kernel_rfl)) (hd 22 (by kernel_rfl)) ((leave_any v x s W (HC17 W hb) HX17.out.1).mono fun e W' ⟨v', he, ho, hb'⟩ => ⟨_, he, hb', v', rfl, ho.cont⟩)
              | 24, _ =>
                refine StepAt.by rfl fun a' W hf hb hd => .inl ⟨want_some (k := 20) (t := 184) rfl (hd 20 (by kernel_rfl)), ?_⟩
                exact does_load26 ((hf.keeps 23 (by kernel_rfl)).trans rfl) (hb17 W hb) ⟨Below.refl _ _, rfl⟩
              | 25, _ =>
                refine StepAt.by rfl fun a' W hf hb hd => .inl ⟨want_some (k := 20) (t := 184) rfl (hd 20 (by kernel_rfl)), ?_⟩
                exact does_move ((hf.keeps 4 (by kernel_rfl)).trans rfl) ⟨Below.refl _ _, rfl⟩
              | 26, _ =>
                refine StepAt.by rfl fun a' W hf hb hd => .inl ⟨want_some (k := 20) (t := 184) rfl (hd 20 (by kernel_rfl)), ?_⟩
                exact does_call2 (enters_of Try.func29 (by kernel_rfl) (by kernel_rfl)) (hd 24 (by kernel_rfl)) (hd 25 (by kernel_rfl)) ((refLeave_any v x s W (HC17 W hb) HX17.out.1).mono fun e W' ⟨v', he, ho, hb'⟩ => ⟨_, he, hb', v', rfl, ho⟩)
              | 27, _ =>
                refine StepAt.by rfl fun a' W hf hb hd => .inl ⟨want_some (k := 20) (t := 184) rfl (hd 20 (by kernel_rfl)), ?_⟩
                obtain ⟨v1, e1, ht1⟩ := hd 23 (by kernel_rfl)
                obtain ⟨v2, e2, ht2⟩ := hd 26 (by kernel_rfl)
                exact does_call3 (enters_of Try.func10 (by kernel_rfl) (by kernel_rfl)) e1 e2 rfl ((sameNode_any v1 v2 _ _ true W ht1 ht2 HS2.out HS2.out).mono fun e W' ⟨he, hb'⟩ => ⟨_, he, hb', by show _ = _; rw [same_self]⟩)
              | 28, _ =>
                refine StepAt.by rfl fun a' W hf hb hd => .inl ⟨want_some (k := 20) (t := 184) rfl (hd 20 (by kernel_rfl)), ?_⟩
                exact does_not (hd 27 (by kernel_rfl)) ⟨Below.refl _ _, rfl⟩
              | 29, _ =>
                refine StepAt.by rfl fun a' W hf hb hd => .inl ⟨want_none, ?_⟩
                exact does_pick (b := false) (hd 20 (by kernel_rfl)) (hd 28 (by kernel_rfl)) ⟨Below.refl _ _, rfl⟩
              | k + 30, hi => exact absurd hi (Nat.not_lt.2 (Nat.le_add_left _ _))
            · intro a' W hf hb hv
              have hfin : a'.eval (.tmp 193) = .bool false := hv 29 (by decide)
              have hl := hf.lit (fun t => decide (164 ≤ t) && decide (t ≤ 193)) (by kernel_rfl)
              simp only [overL, Nat.reduceAdd, Nat.reduceLeDiff, decide_true, decide_false, Bool.and_true, Bool.and_false] at hl
              rw [hl]
              clear hl
              go_wp2_with (fail)
              go_meet
              case rel => exact ⟨hfin, hb⟩
          case rest =>
            obtain ⟨rfl, hbc⟩ := hcut
            have H11 : Hid (Below w.heap.size w wc) := H10.out.1.trans (hbc.mono H10.out.1.size)
            clear hbc H10
            go_wp2
            go_roundw
            case rel => exact ⟨k + 1, by omega, by go_num, H11.out⟩
            case measure => simp [intOf]; omega
        · go_wp2
          go_ret
          exact ⟨rfl, hbr⟩
end Go.Proofs.Ytkdpdgbacladhaa
