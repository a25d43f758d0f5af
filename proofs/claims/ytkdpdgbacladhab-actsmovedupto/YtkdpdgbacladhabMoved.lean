/-
  THE LAW ActsMoved, walked: of any tree and act it answers true, and all that was there stays.
-/
import Derived.Test.YtkdpdgbacladhabAlive3
import Derived.Test.YtkdpdgbacladhabMathh
import Derived.Test.YtkdpdgbacladhabRwithin
import Derived.Test.YtkdpdgbacladhabDoesb
import Derived.Test.YtkdpdgbacladhabFrame
import Derived.Deep.Cut
namespace Go.Proofs.Ytkdpdgbacladhab
open Go.RowKit

/-- what the operations of the law's test make -/
def VM (A : Option Addr) (n c : Nat) (xs : List M.Nd) (r : Int) (s : Nat) (a : AV) (b1 ri rb nb : Bool) : Nat → Value → World → Prop
  | 0, v, _ => v = .int .i64 r
  | 1, v, _ => v = .bool b1
  | 2, v, _ => v = .bool b1
  | 3, v, _ => b1 = false → v = .slice A n c
  | 4, v, _ => b1 = false → v = .bool ri
  | 5, v, _ => b1 = false → v = .bool !ri
  | 6, v, _ => v = .bool (b1 || !ri)
  | 7, v, _ => v = .bool (b1 || !ri)
  | 8, v, _ => (b1 || !ri) = false → v = .slice A n c
  | 9, v, W => (b1 || !ri) = false → ∃ bm, v = .map (some bm) ∧ TMap W bm xs
  | 10, v, _ => (b1 || !ri) = false → v = .pointer (some ⟨s, 2, none⟩)
  | 11, v, _ => (b1 || !ri) = false → v = .int .i64 a.dir
  | 12, v, _ => (b1 || !ri) = false → v = .pointer (some ⟨s, 1, none⟩)
  | 13, v, _ => (b1 || !ri) = false → v = .int .i64 a.fid
  | 14, v, _ => (b1 || !ri) = false → v = .bool rb
  | 15, v, _ => v = .bool (b1 || !ri || rb)
  | 16, v, _ => v = .bool (b1 || !ri || rb)
  | 17, v, _ => (b1 || !ri || rb) = false → v = .pointer (some ⟨s, 3, none⟩)
  | 18, v, _ => (b1 || !ri || rb) = false → v = .string a.name
  | 19, v, _ => (b1 || !ri || rb) = false → v = .bool nb
  | 20, v, _ => (b1 || !ri || rb) = false → v = .bool !nb
  | 21, v, _ => v = .bool (b1 || !ri || rb || !nb)
  | _, _, _ => True
theorem vm_stays (A : Option Addr) (n c : Nat) (xs : List M.Nd) (r : Int) (s : Nat) (a : AV) (b1 ri rb nb : Bool) : ∀ i, Stays (VM A n c xs r s a b1 ri rb nb i) := by
  intro i v W W' hb h
  match i, h with
  | 9, h => exact fun hc => by obtain ⟨bm, h1, h2⟩ := h hc; exact ⟨bm, h1, h2.below (Nat.le_refl _) hb⟩
  | 0, h => exact h
  | 1, h => exact h
  | 2, h => exact h
  | 3, h => exact h
  | 4, h => exact h
  | 5, h => exact h
  | 6, h => exact h
  | 7, h => exact h
  | 8, h => exact h
  | 10, h => exact h
  | 11, h => exact h
  | 12, h => exact h
  | 13, h => exact h
  | 14, h => exact h
  | 15, h => exact h
  | 16, h => exact h
  | 17, h => exact h
  | 18, h => exact h
  | 19, h => exact h
  | 20, h => exact h
  | 21, h => exact h
  | k + 22, h => trivial

theorem boxA_kind {w : World} {s : Nat} {a : AV} (h : BoxA w s a) (k : Int) : BoxA (w.setCell ⟨s, 0, none⟩ (.int .i64 k)) s ⟨k, a.fid, a.dir, a.name, a.to, a.toName, a.dA, a.dn, a.dc⟩ := by
  unfold BoxA at h ⊢; rw [heap_setCell_same _ _ _ _ _ _ h]; rfl

set_option maxRecDepth 4000 in
set_option maxHeartbeats 8000000 in
theorem moved_any (A : Option Addr) (n c : Nat) (vs : List NV) (xs : List M.Nd) (a : AV) (ac : M.Act) (w : World) (ht : Tree w A n vs xs) (hn : (n + 4) * 72 ≤ 140737488355328) (hs : ∀ x ∈ xs, Small x) (ha : ContA w a ac) (hsa : SmallA ac) (hN : ((allF xs).length + 2) * 8 ≤ 140737488355328) :
    Calls Try.prog 4 #[.slice A n c, a.val] w fun e w' => e = .returned (.bool true) ∧ Below w.heap.size w w' := by
  have HW : Hid _ := boxA_start w a
  have HT : Hid (Tree w A n vs xs ∧ (∀ x ∈ xs, Small x) ∧ ContA w a ac ∧ SmallA ac) := ⟨ht, hs, ha, hsa⟩
  clear ht hs ha hsa
  go_enter Try.func4, Try.ntmps4
  go_wp2_with (fail)
  obtain ⟨q1, q2, q3⟩ := HW.out _ rfl
  refine (alive3_any _).mono ?_
  rintro e w1 ⟨rfl, hb1⟩
  have hz1 := hb1.size
  rw [q3] at hz1
  have hw1 : Below w.heap.size w w1 := q1.trans (hb1.mono (by rw [q3]; omega))
  have hx1 : BoxA w1 w.heap.size a := q2.below hb1 (by rw [q3]; omega)
  have HB1 : Hid (Below w.heap.size w (w1.setCell ⟨w.heap.size, 0, none⟩ (.int .i64 5)) ∧ BoxA (w1.setCell ⟨w.heap.size, 0, none⟩ (.int .i64 5)) w.heap.size ⟨5, a.fid, a.dir, a.name, a.to, a.toName, a.dA, a.dn, a.dc⟩) := ⟨hw1.setCell (p := ⟨w.heap.size, 0, none⟩) (Nat.le_refl _) _, boxA_kind hx1 5⟩
  obtain ⟨a0, a1, a2, a3, a4, a5, a6, af, az⟩ := hx1.facts
  clear hb1 q1 q2 q3 HW hw1 hx1
  go_wp2_with (fail)
  refine (apply_any A n c vs xs ⟨5, a.fid, a.dir, a.name, a.to, a.toName, a.dA, a.dn, a.dc⟩ { ac with kind := 5 } 7 _ (HT.out.1.below (Nat.le_refl _) HB1.out.1) (by omega) HT.out.2.1 ⟨rfl, HT.out.2.2.1.2.1, HT.out.2.2.1.2.2.1, HT.out.2.2.1.2.2.2.1, HT.out.2.2.1.2.2.2.2.1, HT.out.2.2.1.2.2.2.2.2.1, HT.out.2.2.1.2.2.2.2.2.2.below (Nat.le_refl _) HB1.out.1⟩ HT.out.2.2.2).mono ?_
  rintro e w2 ⟨B2, m2, d2, r, rfl, hap, hb2⟩
  have hz2 := hb2.size
  simp only [World.size_setCell] at hz2
  have HB2 : Hid (Below w.heap.size w w2 ∧ BoxA w2 w.heap.size ⟨5, a.fid, a.dir, a.name, a.to, a.toName, a.dA, a.dn, a.dc⟩) := ⟨HB1.out.1.trans (hb2.mono HB1.out.1.size), HB1.out.2.below hb2 (lt_of_block HB1.out.2)⟩
  have HAP : Hid (M.Rise xs → r = (M.renameS xs { ac with kind := 5 } 7).1 ∧ ∃ us, OwnT w2 w1.heap.size B2 m2 d2 us (M.renameS xs { ac with kind := 5 } 7).2) := by
    have e : M.applyS xs { ac with kind := 5 } 7 = M.renameS xs { ac with kind := 5 } 7 := by unfold M.applyS; rw [if_neg (by simp), if_neg (by simp), if_neg (by simp), if_pos rfl]
    rw [e] at hap
    simp only [World.size_setCell] at hap
    exact hap
  clear hap hb2 a0 a1 a2 a3 a4 a5 a6 af
  obtain ⟨rb, hrb⟩ : ∃ rb : Bool, rb = true ↔ M.Reach xs ac.fid ac.dir := by
    by_cases h : M.Reach xs ac.fid ac.dir
    · exact ⟨true, by simp [h]⟩
    · exact ⟨false, by simp [h]⟩
  go_upto_region 5 with (fail)
  go_cut [40] from 19 (fun b W => ∃ bb : Bool, b = .bool bb ∧ (bb = false → r = 0 ∧ M.Rise xs ∧ rb = false ∧ M.nameB ac.name.data.toList = true) ∧ Below w2.heap.size w2 W)
  case first =>
    obtain ⟨b1, hb1e⟩ : ∃ b1 : Bool, (r != 0) = b1 := ⟨_, rfl⟩
    obtain ⟨ri, hrie⟩ : ∃ ri : Bool, riseB xs = ri := ⟨_, rfl⟩
    obtain ⟨nb, hnbe⟩ : ∃ nb : Bool, M.nameB a.name.data.toList = nb := ⟨_, rfl⟩
    have hRise : (b1 || !ri) = false → M.Rise xs := fun h => riseB_iff.1 (by rw [hrie]; cases ri <;> simp_all)
    have HBX : ∀ W, Below w2.drew.heap.size w2.drew W → BoxA W w.heap.size ⟨5, a.fid, a.dir, a.name, a.to, a.toName, a.dA, a.dn, a.dc⟩ := fun W hb => BoxA.below (w := w2.drew) HB2.out.2 hb (lt_of_block HB2.out.2)
    have HWI : ∀ (a' : Act) (W : World) {d : Option Tmp} {ty : TypeId} {pos : String} {af : Array Edge} {g : Option (Nat × Bool)} {ts : Array TypeId} {R : Value → World → Prop}, Below w.heap.size w W → (∃ bm, a'.eval (.tmp 28) = .map (some bm) ∧ TMap W bm xs) → a'.eval (.tmp 30) = .int .i64 a.dir → a'.eval (.tmp 32) = .int .i64 a.fid → (∀ W', Below W.heap.size W W' → R (.bool rb) W') →
        Does Try.prog ⟨d, .call { callee := .value (.func 10), args := #[.tmp 28, .tmp 30, .tmp 32], argTypes := ts }, ty, pos, af, g⟩ a' W R := by
      rintro a' W d ty pos af g ts R hBW ⟨bm, h1, htm⟩ h2 h3 hR
      refine does_call3 (enters_of Try.func10 (by kernel_rfl) (by kernel_rfl)) h1 h2 h3 ((refWithin_any bm xs a.dir a.fid W htm HT.out.2.1 hN).mono ?_)
      rintro e W' ⟨b, rfl, hwi, hb'⟩
      have hbb : b = rb := by
        rw [HT.out.2.2.1.2.1, HT.out.2.2.1.2.2.1] at hwi
        cases b <;> cases rb <;> simp_all
      subst hbb
      exact ⟨_, rfl, hR W' hb'⟩
    refine wp_region_vals (VM A n c xs r w.heap.size a b1 ri rb nb) (by kernel_rfl) (by kernel_rfl) (vm_stays _ _ _ _ _ _ _ _ _ _ _) ?_ ?_
    · intro i hi
      match i, hi with
      | 0, _ =>
        refine StepAt.by rfl fun a' W hf hb hd => .inl ⟨want_none, ?_⟩
        exact does_move ((hf.keeps 6 (by kernel_rfl)).trans rfl) ⟨Below.refl _ _, rfl⟩
        | 1, _ =>
        refine StepAt.by rfl fun a' W hf hb hd => .inl ⟨want_none, ?_⟩
        exact does_neqE (hd 0 (by kernel_rfl)) rfl ⟨Below.refl _ _, by show _ = _; rw [← hb1e]⟩
        | 2, _ =>
        refine StepAt.by rfl fun a' W hf hb hd => .inl ⟨want_none, ?_⟩
        exact does_move (hd 1 (by kernel_rfl)) ⟨Below.refl _ _, rfl⟩
        | 3, _ =>
        refine StepAt.by rfl fun a' W hf hb hd => ?_
        have hgv : a'.eval (.tmp 21) = .bool b1 := hd 2 (by kernel_rfl)
        have hBW : Below w.heap.size w W := HB2.out.1.drew.trans (hb.mono HB2.out.1.size)
        cases hg : b1
        · rw [hg] at hgv
          exact .inl ⟨want_some (k := 2) (t := 21) rfl hgv, does_move ((hf.keeps 0 (by kernel_rfl)).trans rfl) ⟨Below.refl _ _, fun _ => rfl⟩⟩
        · rw [hg] at hgv
          exact .inr ⟨want_some (k := 2) (t := 21) rfl hgv, fun h => by simp_all⟩
        | 4, _ =>
        refine StepAt.by rfl fun a' W hf hb hd => ?_
        have hgv : a'.eval (.tmp 21) = .bool b1 := hd 2 (by kernel_rfl)
        have hBW : Below w.heap.size w W := HB2.out.1.drew.trans (hb.mono HB2.out.1.size)
        cases hg : b1
        · rw [hg] at hgv
          exact .inl ⟨want_some (k := 2) (t := 21) rfl hgv, does_call1 (enters_of Try.func8 (by kernel_rfl) (by kernel_rfl)) (hd 3 (by kernel_rfl) hg) ((rises_any A n c vs xs W (HT.out.1.below (Nat.le_refl _) hBW) (by omega) HT.out.2.1).mono fun e W' ⟨he, hb'⟩ => ⟨_, he, hb', fun _ => by rw [← hrie]⟩)⟩
        · rw [hg] at hgv
          exact .inr ⟨want_some (k := 2) (t := 21) rfl hgv, fun h => by simp_all⟩
        | 5, _ =>
        refine StepAt.by rfl fun a' W hf hb hd => ?_
        have hgv : a'.eval (.tmp 21) = .bool b1 := hd 2 (by kernel_rfl)
        have hBW : Below w.heap.size w W := HB2.out.1.drew.trans (hb.mono HB2.out.1.size)
        cases hg : b1
        · rw [hg] at hgv
          exact .inl ⟨want_some (k := 2) (t := 21) rfl hgv, does_not (hd 4 (by kernel_rfl) hg) ⟨Below.refl _ _, fun _ => rfl⟩⟩
        · rw [hg] at hgv
          exact .inr ⟨want_some (k := 2) (t := 21) rfl hgv, fun h => by simp_all⟩
        | 6, _ =>
        refine StepAt.by rfl fun a' W hf hb hd => .inl ⟨want_none, ?_⟩
        cases hg : b1
        · exact does_pick (b := false) (by have h : a'.eval (.tmp 21) = .bool b1 := hd 2 (by kernel_rfl); rw [hg] at h; exact h) (hd 5 (by kernel_rfl) hg) ⟨Below.refl _ _, by first | rfl | (rw [hg]; rfl)⟩
        · exact does_pick (b := true) (by have h : a'.eval (.tmp 21) = .bool b1 := hd 2 (by kernel_rfl); rw [hg] at h; exact h) rfl ⟨Below.refl _ _, by first | rfl | (rw [hg]; rfl)⟩
        | 7, _ =>
        refine StepAt.by rfl fun a' W hf hb hd => .inl ⟨want_none, ?_⟩
        exact does_move (hd 6 (by kernel_rfl)) ⟨Below.refl _ _, rfl⟩
        | 8, _ =>
        refine StepAt.by rfl fun a' W hf hb hd => ?_
        have hgv : a'.eval (.tmp 26) = .bool (b1 || !ri) := hd 7 (by kernel_rfl)
        have hBW : Below w.heap.size w W := HB2.out.1.drew.trans (hb.mono HB2.out.1.size)
        cases hg : (b1 || !ri)
        · rw [hg] at hgv
          exact .inl ⟨want_some (k := 7) (t := 26) rfl hgv, does_move ((hf.keeps 0 (by kernel_rfl)).trans rfl) ⟨Below.refl _ _, fun _ => rfl⟩⟩
        · rw [hg] at hgv
          exact .inr ⟨want_some (k := 7) (t := 26) rfl hgv, fun h => by simp_all⟩
        | 9, _ =>
        refine StepAt.by rfl fun a' W hf hb hd => ?_
        have hgv : a'.eval (.tmp 26) = .bool (b1 || !ri) := hd 7 (by kernel_rfl)
        have hBW : Below w.heap.size w W := HB2.out.1.drew.trans (hb.mono HB2.out.1.size)
        cases hg : (b1 || !ri)
        · rw [hg] at hgv
          exact .inl ⟨want_some (k := 7) (t := 26) rfl hgv, does_call1 (enters_of Try.func11 (by kernel_rfl) (by kernel_rfl)) (hd 8 (by kernel_rfl) hg) ((of_any A n c vs xs W (HT.out.1.below (Nat.le_refl _) hBW) (hRise hg).1 (by omega)).mono fun e W' ⟨bm, he, htm, hb'⟩ => ⟨_, he, hb', fun _ => ⟨bm, rfl, htm⟩⟩)⟩
        · rw [hg] at hgv
          exact .inr ⟨want_some (k := 7) (t := 26) rfl hgv, fun h => by simp_all⟩
        | 10, _ =>
        refine StepAt.by rfl fun a' W hf hb hd => ?_
        have hgv : a'.eval (.tmp 26) = .bool (b1 || !ri) := hd 7 (by kernel_rfl)
        have hBW : Below w.heap.size w W := HB2.out.1.drew.trans (hb.mono HB2.out.1.size)
        cases hg : (b1 || !ri)
        · rw [hg] at hgv
          exact .inl ⟨want_some (k := 7) (t := 26) rfl hgv, does_fieldA ((hf.keeps 3 (by kernel_rfl)).trans rfl) (by decide) ⟨Below.refl _ _, fun _ => rfl⟩⟩
        · rw [hg] at hgv
          exact .inr ⟨want_some (k := 7) (t := 26) rfl hgv, fun h => by simp_all⟩
        | 11, _ =>
        refine StepAt.by rfl fun a' W hf hb hd => ?_
        have hgv : a'.eval (.tmp 26) = .bool (b1 || !ri) := hd 7 (by kernel_rfl)
        have hBW : Below w.heap.size w W := HB2.out.1.drew.trans (hb.mono HB2.out.1.size)
        cases hg : (b1 || !ri)
        · rw [hg] at hgv
          exact .inl ⟨want_some (k := 7) (t := 26) rfl hgv, does_load3 (hd 10 (by kernel_rfl) hg) (HBX W hb).facts.2.2.1 ⟨Below.refl _ _, fun _ => rfl⟩⟩
        · rw [hg] at hgv
          exact .inr ⟨want_some (k := 7) (t := 26) rfl hgv, fun h => by simp_all⟩
        | 12, _ =>
        refine StepAt.by rfl fun a' W hf hb hd => ?_
        have hgv : a'.eval (.tmp 26) = .bool (b1 || !ri) := hd 7 (by kernel_rfl)
        have hBW : Below w.heap.size w W := HB2.out.1.drew.trans (hb.mono HB2.out.1.size)
        cases hg : (b1 || !ri)
        · rw [hg] at hgv
          exact .inl ⟨want_some (k := 7) (t := 26) rfl hgv, does_fieldA ((hf.keeps 3 (by kernel_rfl)).trans rfl) (by decide) ⟨Below.refl _ _, fun _ => rfl⟩⟩
        · rw [hg] at hgv
          exact .inr ⟨want_some (k := 7) (t := 26) rfl hgv, fun h => by simp_all⟩
        | 13, _ =>
        refine StepAt.by rfl fun a' W hf hb hd => ?_
        have hgv : a'.eval (.tmp 26) = .bool (b1 || !ri) := hd 7 (by kernel_rfl)
        have hBW : Below w.heap.size w W := HB2.out.1.drew.trans (hb.mono HB2.out.1.size)
        cases hg : (b1 || !ri)
        · rw [hg] at hgv
          exact .inl ⟨want_some (k := 7) (t := 26) rfl hgv, does_load3 (hd 12 (by kernel_rfl) hg) (HBX W hb).facts.2.1 ⟨Below.refl _ _, fun _ => rfl⟩⟩
        · rw [hg] at hgv
          exact .inr ⟨want_some (k := 7) (t := 26) rfl hgv, fun h => by simp_all⟩
        | 14, _ =>
        refine StepAt.by rfl fun a' W hf hb hd => ?_
        have hgv : a'.eval (.tmp 26) = .bool (b1 || !ri) := hd 7 (by kernel_rfl)
        have hBW : Below w.heap.size w W := HB2.out.1.drew.trans (hb.mono HB2.out.1.size)
        cases hg : (b1 || !ri)
        · rw [hg] at hgv
          exact .inl ⟨want_some (k := 7) (t := 26) rfl hgv, HWI a' W hBW (hd 9 (by kernel_rfl) hg) (hd 11 (by kernel_rfl) hg) (hd 13 (by kernel_rfl) hg) fun W' hb' => ⟨hb', fun _ => rfl⟩⟩
        · rw [hg] at hgv
          exact .inr ⟨want_some (k := 7) (t := 26) rfl hgv, fun h => by simp_all⟩
        | 15, _ =>
        refine StepAt.by rfl fun a' W hf hb hd => .inl ⟨want_none, ?_⟩
        cases hg : (b1 || !ri)
        · exact does_pick (b := false) (by have h : a'.eval (.tmp 26) = .bool (b1 || !ri) := hd 7 (by kernel_rfl); rw [hg] at h; exact h) (hd 14 (by kernel_rfl) hg) ⟨Below.refl _ _, by show _ = Value.bool (b1 || !ri || rb); rw [hg]; rfl⟩
        · exact does_pick (b := true) (by have h : a'.eval (.tmp 26) = .bool (b1 || !ri) := hd 7 (by kernel_rfl); rw [hg] at h; exact h) rfl ⟨Below.refl _ _, by show _ = Value.bool (b1 || !ri || rb); rw [hg]; rfl⟩
        | 16, _ =>
        refine StepAt.by rfl fun a' W hf hb hd => .inl ⟨want_none, ?_⟩
        exact does_move (hd 15 (by kernel_rfl)) ⟨Below.refl _ _, rfl⟩
        | 17, _ =>
        refine StepAt.by rfl fun a' W hf hb hd => ?_
        have hgv : a'.eval (.tmp 35) = .bool (b1 || !ri || rb) := hd 16 (by kernel_rfl)
        have hBW : Below w.heap.size w W := HB2.out.1.drew.trans (hb.mono HB2.out.1.size)
        cases hg : (b1 || !ri || rb)
        · rw [hg] at hgv
          exact .inl ⟨want_some (k := 16) (t := 35) rfl hgv, does_fieldA ((hf.keeps 3 (by kernel_rfl)).trans rfl) (by decide) ⟨Below.refl _ _, fun _ => rfl⟩⟩
        · rw [hg] at hgv
          exact .inr ⟨want_some (k := 16) (t := 35) rfl hgv, fun h => by simp_all⟩
        | 18, _ =>
        refine StepAt.by rfl fun a' W hf hb hd => ?_
        have hgv : a'.eval (.tmp 35) = .bool (b1 || !ri || rb) := hd 16 (by kernel_rfl)
        have hBW : Below w.heap.size w W := HB2.out.1.drew.trans (hb.mono HB2.out.1.size)
        cases hg : (b1 || !ri || rb)
        · rw [hg] at hgv
          exact .inl ⟨want_some (k := 16) (t := 35) rfl hgv, does_load9 (hd 17 (by kernel_rfl) hg) (HBX W hb).facts.2.2.2.1 ⟨Below.refl _ _, fun _ => rfl⟩⟩
        · rw [hg] at hgv
          exact .inr ⟨want_some (k := 16) (t := 35) rfl hgv, fun h => by simp_all⟩
        | 19, _ =>
        refine StepAt.by rfl fun a' W hf hb hd => ?_
        have hgv : a'.eval (.tmp 35) = .bool (b1 || !ri || rb) := hd 16 (by kernel_rfl)
        have hBW : Below w.heap.size w W := HB2.out.1.drew.trans (hb.mono HB2.out.1.size)
        cases hg : (b1 || !ri || rb)
        · rw [hg] at hgv
          exact .inl ⟨want_some (k := 16) (t := 35) rfl hgv, does_call1 (enters_of Try.func12 (by kernel_rfl) (by kernel_rfl)) (hd 18 (by kernel_rfl) hg) ((refName_any a.name W (by rw [HT.out.2.2.1.2.2.2.1]; exact HT.out.2.2.2.1)).mono fun e W' ⟨he, hb'⟩ => ⟨_, he, by rw [hb']; exact Below.refl _ _, fun _ => by rw [← hnbe]⟩)⟩
        · rw [hg] at hgv
          exact .inr ⟨want_some (k := 16) (t := 35) rfl hgv, fun h => by simp_all⟩
        | 20, _ =>
        refine StepAt.by rfl fun a' W hf hb hd => ?_
        have hgv : a'.eval (.tmp 35) = .bool (b1 || !ri || rb) := hd 16 (by kernel_rfl)
        have hBW : Below w.heap.size w W := HB2.out.1.drew.trans (hb.mono HB2.out.1.size)
        cases hg : (b1 || !ri || rb)
        · rw [hg] at hgv
          exact .inl ⟨want_some (k := 16) (t := 35) rfl hgv, does_not (hd 19 (by kernel_rfl) hg) ⟨Below.refl _ _, fun _ => rfl⟩⟩
        · rw [hg] at hgv
          exact .inr ⟨want_some (k := 16) (t := 35) rfl hgv, fun h => by simp_all⟩
        | 21, _ =>
        refine StepAt.by rfl fun a' W hf hb hd => .inl ⟨want_none, ?_⟩
        cases hg : (b1 || !ri || rb)
        · exact does_pick (b := false) (by have h : a'.eval (.tmp 35) = .bool (b1 || !ri || rb) := hd 16 (by kernel_rfl); rw [hg] at h; exact h) (hd 20 (by kernel_rfl) hg) ⟨Below.refl _ _, by show _ = Value.bool (b1 || !ri || rb || !nb); rw [hg]; rfl⟩
        · exact does_pick (b := true) (by have h : a'.eval (.tmp 35) = .bool (b1 || !ri || rb) := hd 16 (by kernel_rfl); rw [hg] at h; exact h) rfl ⟨Below.refl _ _, by show _ = Value.bool (b1 || !ri || rb || !nb); rw [hg]; rfl⟩
      | k + 22, hi => exact absurd hi (Nat.not_lt.2 (Nat.le_add_left _ _))
    · intro a' W hf hb hv
      have h40 : a'.eval (.tmp 40) = .bool (b1 || !ri || rb || !nb) := hv 21 (by decide)
      have hl := hf.lit (fun t => decide (19 ≤ t) && decide (t ≤ 40)) (by kernel_rfl)
      simp only [overL, Nat.reduceAdd, Nat.reduceLeDiff, decide_true, decide_false, Bool.and_true, Bool.and_false] at hl
      rw [hl]
      clear hl
      go_wp2_with (fail)
      go_meet
      case rel =>
        refine ⟨_, h40, fun h => ?_, hb⟩
        simp only [Bool.or_eq_false_iff] at h
        refine ⟨?_, hRise (by rw [h.1.1.1, h.1.1.2]; rfl), h.1.2, ?_⟩
        · have h1 := h.1.1.1
          rw [← hb1e] at h1
          simpa using h1
        · have h2 := h.2
          rw [← hnbe, HT.out.2.2.1.2.2.2.1] at h2
          simpa using h2
  case rest =>
    obtain ⟨bb, rfl, hbb, hbc⟩ := hcut
    have HBC : Hid (Below w.heap.size w wc ∧ BoxA wc w.heap.size ⟨5, a.fid, a.dir, a.name, a.to, a.toName, a.dA, a.dn, a.dc⟩ ∧ Below w2.heap.size w2 wc) := ⟨HB2.out.1.trans (hbc.mono HB2.out.1.size), HB2.out.2.below hbc (lt_of_block HB2.out.2), hbc⟩
    cases bb
    case' true =>
      clear hbb hbc
      go_wp2
      go_ret
      exact ⟨rfl, HBC.out.1⟩
    obtain ⟨rfl, hrise, hrb0, hnm⟩ := hbb rfl
    have HR : Hid (M.Rise xs) := hrise
    have HNM : Hid (M.nameB ac.name.data.toList = true ∧ ¬ M.Reach xs ac.fid ac.dir) := ⟨hnm, fun h => by have := hrb.2 h; rw [hrb0] at this; cases this⟩
    obtain ⟨hx0, us2, ho2⟩ := HAP.out hrise
    have HRN : Hid ((M.renameS xs { ac with kind := 5 } 7).1 = 0) := hx0.symm
    have HG : Hid (Good xs) := ⟨hrise, HT.out.2.1, by have h1 := HT.out.1.1.1; have h2 := HT.out.1.2.1; omega⟩
    have HG2 : Hid (Good (M.renameS xs { ac with kind := 5 } 7).2) := good_rename HG.out _ _
    have HYC : Hid (Tree wc B2 m2 us2 (M.renameS xs { ac with kind := 5 } 7).2) := ho2.tree.below (Nat.le_refl _) hbc
    have hwc : w.heap.size < wc.heap.size := lt_of_block HBC.out.2.1
    have HLN : Hid (n = xs.length) := by show n = _; rw [HT.out.1.1.1, HT.out.1.2.1]
    clear hbb hrise hrb0 hnm hx0 ho2 hbc HAP hrb
    go_wp2_with (fail)
    go_loopw [43] (fun i wr => ∃ k : Nat, k ≤ n ∧ i = .int .i64 k ∧ (∀ x ∈ xs.take k, x.ents.length ≤ 6) ∧ Below wc.heap.size wc wr) (fun i _ => n - (intOf i).toNat)
    case atStart => exact ⟨0, Nat.zero_le _, rfl, by simp, Below.refl _ _⟩
    case round =>
      obtain ⟨k, hk, rfl, h6, hbr⟩ := hrel
      have H6 : Hid (∀ x ∈ xs.take k, x.ents.length ≤ 6) := h6
      have HBR : Hid (Below wc.heap.size wc wr) := hbr
      have hwr : Below w.heap.size w wr := HBC.out.1.trans (hbr.mono HBC.out.1.size)
      have HWR : Hid (Below w.heap.size w wr) := hwr
      have hzr := hbr.size
      clear h6
      by_cases hlt : k < n
      · have htr := HT.out.1.below (Nat.le_refl _) hwr
        obtain ⟨gb, o, v, rfl, hgb, hvk, c0, c1, c2, c3, c4⟩ := htr.1.at hlt
        obtain ⟨x, hx, hcx⟩ := htr.2.at hvk
        have HX : Hid (xs[k]? = some x ∧ v.en = x.ents.length) := ⟨hx, hcx.2.2.2.2.1⟩
        have hks : (k : Int) < (n : Int) := by omega
        have hk0 : (0 : Int) ≤ (k : Int) := by omega
        have hal := hwr.size
        clear hbr hwr htr hvk hx hcx
        by_cases hen : 6 < v.en
        · have hen' : (6 : Int) < (v.en : Int) := by omega
          go_wp2
          go_ret
          exact ⟨rfl, HWR.out.alloc hal _⟩
        · have hen' : ¬ (6 : Int) < (v.en : Int) := by omega
          go_wp2
          go_roundw
          case rel => exact ⟨k + 1, by omega, by go_num, (fun y hy => by
            rw [take_step HX.out.1] at hy
            rcases List.mem_append.1 hy with h | h
            · exact H6.out y h
            · rw [List.mem_singleton.1 h, ← HX.out.2]; omega), HBR.out.alloc hzr _⟩
          case measure => simp [intOf]; omega
      · have H6' : Hid (∀ x ∈ xs, x.ents.length ≤ 6) := by
          intro x hx
          refine H6.out x ?_
          rw [List.take_of_length_le (by have := HLN.out; omega)]; exact hx
        have HMV : Hid _ := moved (rc := ⟨5, ac.fid, ac.to, ac.toName, ac.dir, ac.name, []⟩) (u := 8) HR.out HRN.out HNM.out.2 HNM.out.1 H6'.out rfl rfl rfl rfl rfl
        obtain ⟨a0, a1, a2, a3, a4, a5, a6, af, azr⟩ := (HBC.out.2.1.below hbr hwc).facts
        have HYR : Hid (Tree wr B2 m2 us2 (M.renameS xs { ac with kind := 5 } 7).2) := HYC.out.below (Nat.le_refl _) hbr
        have hm2 : (m2 + 2) * 72 ≤ 140737488355328 := by have h1 := HYR.out.1.1; have h2 := HYR.out.2.1; have h3 := HG2.out.2.2; omega
        clear hbr hwr HYC
        generalize hys : (M.renameS xs { ac with kind := 5 } 7).2 = ys at *
        go_wp2_with (fail)
        refine (apply_any B2 m2 d2 us2 ys ⟨5, a.fid, a.to, a.toName, a.dir, a.name, none, 0, 0⟩ ⟨5, ac.fid, ac.to, ac.toName, ac.dir, ac.name, []⟩ 8 _ HYR.out hm2 HG2.out.2.1 ⟨rfl, HT.out.2.2.1.2.1, HT.out.2.2.1.2.2.2.2.1, HT.out.2.2.1.2.2.2.2.2.1, HT.out.2.2.1.2.2.1, HT.out.2.2.1.2.2.2.1, ⟨rfl, .inl rfl⟩⟩ ⟨HT.out.2.2.2.2.1, HT.out.2.2.2.1, by simp⟩).mono ?_
        rintro e w4 ⟨B4, m4, d4, r, rfl, hap, hb4⟩
        have e : M.applyS ys ⟨5, ac.fid, ac.to, ac.toName, ac.dir, ac.name, []⟩ 8 = M.renameS ys ⟨5, ac.fid, ac.to, ac.toName, ac.dir, ac.name, []⟩ 8 := by unfold M.applyS; rw [if_neg (by simp), if_neg (by simp), if_neg (by simp), if_pos rfl]
        rw [e] at hap
        obtain ⟨hr4, us4, ho4⟩ := hap HG2.out.1
        have hr4' : r = 0 := by rw [hr4]; exact HMV.out.1
        have HG4 : Hid (Good (M.renameS ys ⟨5, ac.fid, ac.to, ac.toName, ac.dir, ac.name, []⟩ 8).2) := good_rename HG2.out _ _
        have H4 : Hid (Tree w4 B4 m4 us4 (M.renameS ys ⟨5, ac.fid, ac.to, ac.toName, ac.dir, ac.name, []⟩ 8).2 ∧ Below w.heap.size w w4) := ⟨ho4.tree, HWR.out.trans (hb4.mono HWR.out.size)⟩
        have hm4 : m4 * 72 ≤ 140737488355328 := by have h1 := H4.out.1.1.1; have h2 := H4.out.1.2.1; have h3 := HG4.out.2.2; omega
        clear hap hr4 ho4 hb4 a0 a1 a2 a3 a4 a5 a6 af e
        subst hr4'
        go_wp2_with (fail)
        refine (refSame_any B4 A m4 n d4 c us4 vs _ xs false _ H4.out.1 (HT.out.1.below (Nat.le_refl _) H4.out.2) hm4 (by omega) HG4.out.2.1 HT.out.2.1).mono ?_
        rintro e w5 ⟨rfl, hb5⟩
        rw [HMV.out.2]
        have H5 : Hid (Below w.heap.size w w5) := H4.out.2.trans (hb5.mono H4.out.2.size)
        clear hb5
        go_wp2
        go_ret
        exact ⟨rfl, H5.out⟩
end Go.Proofs.Ytkdpdgbacladhab
