/-
  THE LAST REGION OF THE REFERENCE's List, whatever order it draws.
-/
import Derived.Test.YtkdpdgbacladhaaRegion
namespace Go.Proofs.Ytkdpdgbacladhaa
open Go.RowKit

theorem noRoom_own {w0 w : World} {s : Nat} (h : w.heap[s]? = some (.cells #[] 26 (0, 0))) (hs : w0.heap.size ≤ s) : w.ownsRow w0.heap.size 26 5 (.slice (some ⟨s, 0, none⟩) 0 0) 0 (([] : List NV).flatMap NV.cells) :=
  ⟨rfl, .inr ⟨s, 0, #[], rfl, hs, h, Nat.le_refl _, by unfold maxLen; omega, rfl, rfl⟩⟩
theorem box_row {w : World} {s : Nat} {v : NV} (h : Box w s v) : Nodes w (some ⟨s, 0, none⟩) 1 [v] := by
  obtain ⟨p0, p1, p2, p3, p4, pf, pz⟩ := h.facts
  refine ⟨rfl, .inr ⟨s, 0, rfl, pz, fun j u hu i c hc => ?_⟩⟩
  cases j with
  | succ j => cases hu
  | zero =>
    cases hu
    match i, hc with
    | 0, hc => cases hc; exact p0
    | 1, hc => cases hc; exact p1
    | 2, hc => cases hc; exact p2
    | 3, hc => cases hc; exact p3
    | 4, hc => cases hc; exact p4
    | i + 5, hc => simp [NV.cells] at hc
theorem grown_w0 {w0 w w' : World} {v : Value} {e : TypeId} {k n : Nat} {xs : List Value} (hb : Below w0.heap.size w0 w) (hown : w.ownsRow w0.heap.size e k v n xs) (hg : w.grownBy w' v.ownBlock) : Below w0.heap.size w w' :=
  Below.grown (Below.refl _ _) hg (by exact hb.size) (fun k hk => (hown.lt k hk).1)
theorem does_val {a : Act} {w w' : World} {R : Value → World → Prop} {o : Oper} {v : Value} (h : (execOp a.eval o).run Try.prog w = .ok (.value v) w') (hR : R v w') : Does Try.prog o a w R := .inl ⟨v, w', h, hR⟩

set_option maxHeartbeats 2000000 in
theorem region8 {Q : Exit → Act → World → Prop} {a0 : Act} {w0 : World} {A : Option Addr} {m c j B sb : Nat} {us : List NV} {ve : NV} {id : Nat} (hsz : a0.tmps.size = 42) (h3 : a0.eval (.tmp 3) = .slice A m c) (h6 : a0.eval (.tmp 6) = .int .i64 (j : Int)) (h5 : a0.eval (.tmp 5) = .pointer (some ⟨sb, 0, none⟩))
    (hown : w0.ownsRow B 26 5 (.slice A m c) m (us.flatMap NV.cells)) (hbox : Box w0 sb ve) (hj : j ≤ m) (hm : (m + 1) * 72 ≤ 140737488355328)
    (last : ∀ a w, Framed ops8 a0 a → Below w0.heap.size w0 w → OwnRow w0 (us.take j ++ [ve] ++ us.drop j) (a.eval (.tmp 3)) w → Q .normal a w) : (Code.region id ops8 true).wp Try.prog Q a0 w0 := by
  have hrow : Nodes w0 A m us := Row.ofOwn nod_len (by decide) hown
  have hml : m = us.length := hrow.1
  obtain ⟨A', c', hv', hmc, _⟩ := own_form hown
  cases hv'
  have hnil : A = none → m = 0 ∧ c = 0 := by
    intro h
    rcases hown.2 with ⟨h1, _⟩ | ⟨g, cap, cur, h1, _⟩
    · cases h1; exact ⟨rfl, rfl⟩
    · rw [h] at h1; cases h1
  have hdrew : ∀ w, Below w0.drew.heap.size w0.drew w → Below w0.heap.size w0 w := fun w hb => (Below.refl _ _).drew.trans hb
  have keepV : ∀ w w', Below w0.heap.size w0 w' → ∀ i u, (i = 1 ∨ i = 2 ∨ i = 3 ∨ i = 5 ∨ i = 8 ∨ i = 9 ∨ i = 10) → V8 w0 A m c j us ve i u w → V8 w0 A m c j us ve i u w' := by
    intro w w' hb i u hi h
    rcases hi with rfl | rfl | rfl | rfl | rfl | rfl | rfl
    · exact h
    · exact h
    · obtain ⟨B1, n1, c1, e1, e2, _⟩ := h; exact ⟨B1, n1, c1, e1, e2, hb⟩
    · exact h
    · exact h
    · exact h
    · obtain ⟨B1, n1, c1, e1, e2, _⟩ := h; exact ⟨B1, n1, c1, e1, e2, hb⟩
  have same : ∀ (i : Nat) (w : World) (R : Prop), R → Below w0.drew.heap.size w w ∧ (∀ q, q ≠ i → mustKeep ops8 i q = true → ∀ u, V8 w0 A m c j us ve q u w → V8 w0 A m c j us ve q u w) ∧ R := fun i w R h => ⟨Below.refl _ _, fun _ _ _ _ h => h, h⟩
  have grew : ∀ (i : Nat) (w w' : World) (R : Prop), Below w0.heap.size w0 w → Below w.heap.size w w' → R → Below w0.drew.heap.size w w' ∧ (∀ q, q ≠ i → mustKeep ops8 i q = true → ∀ u, V8 w0 A m c j us ve q u w → V8 w0 A m c j us ve q u w') ∧ R :=
    fun i w w' R hb0 hb h => ⟨hb.mono (by exact hb0.size), fun q _ _ u hu => v8_stays w0 A m c j us ve q u w w' hb hu, h⟩
  refine wp_region_soft (V8 w0 A m c j us ve) (by kernel_rfl) (by rw [hsz]; exact tidy8) ?_ ?_
  · intro i hi
    match i, hi with
    | 0, _ =>
      refine SoftAt.by rfl fun a w hf hb hd => .inl ⟨want_none, does_val run_build0 (grew 0 _ _ _ (hdrew w hb) ((Below.refl _ _).alloc (Nat.le_refl _) _) ⟨w.heap.size, rfl, heap_alloc_new w _, (hdrew w hb).size⟩)⟩
    | 1, _ => exact SoftAt.by rfl fun a w hf hb hd => .inl ⟨want_none, does_move ((hf.keeps 3 (by kernel_rfl)).trans h3) (same 1 _ _ rfl)⟩
    | 2, _ => exact SoftAt.by rfl fun a w hf hb hd => .inl ⟨want_none, does_move ((hf.keeps 6 (by kernel_rfl)).trans h6) (same 2 _ _ rfl)⟩
    | 3, _ =>
      refine SoftAt.by rfl fun a w hf hb hd => .inl ⟨want_none, ?_⟩
      have e1 : a.eval (.tmp 30) = .slice A m c := hd 1 (by kernel_rfl)
      have e2 : a.eval (.tmp 31) = .int .i64 (j : Int) := hd 2 (by kernel_rfl)
      cases A with
      | none =>
        obtain ⟨hm0, hc0⟩ := hnil rfl
        subst hm0 hc0
        have hj0 : j = 0 := by omega
        subst hj0
        refine does_val (run_front_nil e1 e2) (same 3 _ _ ⟨none, 0, 0, rfl, ⟨by simp, .inl (by simp)⟩, hdrew w hb⟩)
      | some p => exact does_val (run_front e1 e2 (by omega)) (same 3 _ _ ⟨some p, j, c, rfl, row_take hrow j hj, hdrew w hb⟩)
    | 4, _ =>
      refine SoftAt.by rfl fun a w hf hb hd => .inl ⟨want_none, ?_⟩
      obtain ⟨s, e1, hs, hsB⟩ := hd 0 (by kernel_rfl)
      obtain ⟨A3, n3, c3, e3, hr3, _⟩ := hd 3 (by kernel_rfl)
      have hown0 := noRoom_own (w0 := w0) hs hsB
      have hn3 : n3 ≤ m := by have := hr3.1; rw [List.length_take] at this; omega
      obtain ⟨v', w', hrun, ho, hg⟩ := run_append26 (d := some 33) (ty := 22) (pos := "ref.go:87") (af := #[⟨0, .data⟩, ⟨3, .data⟩]) (g := none) (us := []) e1 hown0 e3 (hr3.below (Nat.le_refl _) (hdrew w hb)) (by omega) (hdrew w hb).size
      refine does_val hrun ⟨grown_w0 (w0 := w0) (hdrew w hb) hown0 hg, fun q hq hmk u hu => ?_, ?_⟩
      · have hb' : Below w0.heap.size w0 w' := (hdrew w hb).trans (grown_w0 (w0 := w0) (hdrew w hb) hown0 hg)
        match q, hq, hmk, hu with
        | 0, _, hmk, _ => exact absurd hmk (by rw [show mustKeep ops8 4 0 = false from by kernel_rfl]; simp)
        | 6, _, _, hu =>
          obtain ⟨s6, e6, hb6⟩ := hu
          refine ⟨s6, e6, ?_⟩
          unfold Box at hb6 ⊢
          have hne : s6 ≠ s := by
            intro e
            rw [e, hs] at hb6
            simp at hb6
          rw [hg.block s6 (lt_of_block hb6) (by simp only [Value.ownBlock, ne_eq, Option.some.injEq]; exact hne)]
          exact hb6
        | 1, _, _, hu => exact keepV w w' hb' 1 u (by simp) hu
        | 2, _, _, hu => exact keepV w w' hb' 2 u (by simp) hu
        | 3, _, _, hu => exact keepV w w' hb' 3 u (by simp) hu
        | 5, _, _, hu => exact keepV w w' hb' 5 u (by simp) hu
        | 8, _, _, hu => exact keepV w w' hb' 8 u (by simp) hu
        | 9, _, _, hu => exact keepV w w' hb' 9 u (by simp) hu
        | 10, _, _, hu => exact keepV w w' hb' 10 u (by simp) hu
        | 4, hq, _, _ => exact absurd rfl hq
        | 7, _, hmk, _ => exact absurd hmk (by rw [show mustKeep ops8 4 7 = false from by kernel_rfl]; simp)
        | 11, _, hmk, _ => exact absurd hmk (by rw [show mustKeep ops8 4 11 = false from by kernel_rfl]; simp)
        | 12, _, hmk, _ => exact absurd hmk (by rw [show mustKeep ops8 4 12 = false from by kernel_rfl]; simp)
        | q + 13, _, _, hu => trivial
      · have e : (us.take j).length = 0 + n3 := by rw [← hr3.1, Nat.zero_add]
        show w'.ownsRow w0.heap.size 26 5 v' (us.take j).length ((us.take j).flatMap NV.cells)
        rw [e]
        exact ho
    | 5, _ =>
      refine SoftAt.by rfl fun a w hf hb hd => .inl ⟨want_none, does_load26 ((hf.keeps 5 (by kernel_rfl)).trans h5) (hbox.below (hdrew w hb) (lt_of_block hbox)) (same 5 _ _ rfl)⟩
    | 6, _ =>
      refine SoftAt.by rfl fun a w hf hb hd => .inl ⟨want_none, does_val (run_build1 (hd 5 (by kernel_rfl))) (grew 6 _ _ _ (hdrew w hb) ((Below.refl _ _).alloc (Nat.le_refl _) _) ⟨w.heap.size, rfl, Box.new w ve⟩)⟩
    | 7, _ =>
      refine SoftAt.by rfl fun a w hf hb hd => .inl ⟨want_none, ?_⟩
      have ho4 : w.ownsRow w0.heap.size 26 5 (a.eval (.tmp 33)) (us.take j).length ((us.take j).flatMap NV.cells) := hd 4 (by kernel_rfl)
      obtain ⟨s6, e6, hb6⟩ := hd 6 (by kernel_rfl)
      obtain ⟨v', w', hrun, ho, hg⟩ := run_append26 (d := some 36) (ty := 22) (pos := "ref.go:87") (af := #[⟨4, .data⟩, ⟨6, .data⟩, ⟨4, .chain⟩]) (g := none) rfl ho4 e6 (box_row hb6) (by rw [List.length_take]; omega) (hdrew w hb).size
      refine does_val hrun ⟨grown_w0 (w0 := w0) (hdrew w hb) ho4 hg, fun q hq hmk u hu => ?_, ?_⟩
      · have hb' : Below w0.heap.size w0 w' := (hdrew w hb).trans (grown_w0 (w0 := w0) (hdrew w hb) ho4 hg)
        match q, hq, hmk, hu with
        | 0, _, hmk, _ => exact absurd hmk (by rw [show mustKeep ops8 7 0 = false from by kernel_rfl]; simp)
        | 4, _, hmk, _ => exact absurd hmk (by rw [show mustKeep ops8 7 4 = false from by kernel_rfl]; simp)
        | 6, _, hmk, _ => exact absurd hmk (by rw [show mustKeep ops8 7 6 = false from by kernel_rfl]; simp)
        | 1, _, _, hu => exact keepV w w' hb' 1 u (by simp) hu
        | 2, _, _, hu => exact keepV w w' hb' 2 u (by simp) hu
        | 3, _, _, hu => exact keepV w w' hb' 3 u (by simp) hu
        | 5, _, _, hu => exact keepV w w' hb' 5 u (by simp) hu
        | 8, _, _, hu => exact keepV w w' hb' 8 u (by simp) hu
        | 9, _, _, hu => exact keepV w w' hb' 9 u (by simp) hu
        | 10, _, _, hu => exact keepV w w' hb' 10 u (by simp) hu
        | 7, hq, _, _ => exact absurd rfl hq
        | 11, _, hmk, _ => exact absurd hmk (by rw [show mustKeep ops8 7 11 = false from by kernel_rfl]; simp)
        | 12, _, hmk, _ => exact absurd hmk (by rw [show mustKeep ops8 7 12 = false from by kernel_rfl]; simp)
        | q + 13, _, _, hu => trivial
      · show w'.ownsRow w0.heap.size 26 5 v' (us.take j ++ [ve]).length ((us.take j ++ [ve]).flatMap NV.cells)
        rw [List.length_append]
        exact ho
    | 8, _ => exact SoftAt.by rfl fun a w hf hb hd => .inl ⟨want_none, does_move ((hf.keeps 3 (by kernel_rfl)).trans h3) (same 8 _ _ rfl)⟩
    | 9, _ => exact SoftAt.by rfl fun a w hf hb hd => .inl ⟨want_none, does_move ((hf.keeps 6 (by kernel_rfl)).trans h6) (same 9 _ _ rfl)⟩
    | 10, _ =>
      refine SoftAt.by rfl fun a w hf hb hd => .inl ⟨want_none, ?_⟩
      have e1 : a.eval (.tmp 37) = .slice A m c := hd 8 (by kernel_rfl)
      have e2 : a.eval (.tmp 38) = .int .i64 (j : Int) := hd 9 (by kernel_rfl)
      cases A with
      | none =>
        obtain ⟨hm0, hc0⟩ := hnil rfl
        subst hm0 hc0
        have hj0 : j = 0 := by omega
        subst hj0
        have hus : us = [] := List.eq_nil_of_length_eq_zero hml.symm
        subst hus
        refine does_val (run_back_nil e1 e2) (same 10 _ _ ⟨none, 0, 0, rfl, ⟨by simp, .inl (by simp)⟩, hdrew w hb⟩)
      | some p =>
        rcases hrow.2 with he | ⟨b, o, he, hlt, hc⟩
        · have hm0 : m = 0 := by rw [hml, he]; rfl
          have hj0 : j = 0 := by omega
          refine does_val (run_back e1 e2 hj) (same 10 _ _ ⟨_, m - j, c - j, rfl, ⟨by rw [List.length_drop]; omega, .inl (by rw [he]; simp)⟩, hdrew w hb⟩)
        · cases he
          refine does_val (run_back e1 e2 hj) (same 10 _ _ ⟨_, m - j, c - j, rfl, ?_, hdrew w hb⟩)
          by_cases hcj : c = j
          · have hmj : m = j := by omega
            exact ⟨by rw [List.length_drop]; omega, .inl (List.drop_of_length_le (by omega))⟩
          · rw [if_neg hcj, Addr.add_lit]
            exact row_sub hrow j
    | 11, _ =>
      refine SoftAt.by rfl fun a w hf hb hd => .inl ⟨want_none, ?_⟩
      have ho7 : w.ownsRow w0.heap.size 26 5 (a.eval (.tmp 36)) (us.take j ++ [ve]).length ((us.take j ++ [ve]).flatMap NV.cells) := hd 7 (by kernel_rfl)
      obtain ⟨A3, n3, c3, e3, hr3, _⟩ := hd 10 (by kernel_rfl)
      have hn3 : n3 = m - j := by have := hr3.1; rw [List.length_drop] at this; omega
      obtain ⟨v', w', hrun, ho, hg⟩ := run_append26 (d := some 40) (ty := 22) (pos := "ref.go:87") (af := #[⟨7, .data⟩, ⟨10, .data⟩, ⟨7, .chain⟩]) (g := none) rfl ho7 e3 (hr3.below (Nat.le_refl _) (hdrew w hb)) (by simp only [List.length_append, List.length_take, List.length_singleton]; omega) (hdrew w hb).size
      refine does_val hrun ⟨grown_w0 (w0 := w0) (hdrew w hb) ho7 hg, fun q hq hmk u hu => ?_, ?_⟩
      · have hb' : Below w0.heap.size w0 w' := (hdrew w hb).trans (grown_w0 (w0 := w0) (hdrew w hb) ho7 hg)
        match q, hq, hmk, hu with
        | 0, _, hmk, _ => exact absurd hmk (by rw [show mustKeep ops8 11 0 = false from by kernel_rfl]; simp)
        | 4, _, hmk, _ => exact absurd hmk (by rw [show mustKeep ops8 11 4 = false from by kernel_rfl]; simp)
        | 6, _, hmk, _ => exact absurd hmk (by rw [show mustKeep ops8 11 6 = false from by kernel_rfl]; simp)
        | 7, _, hmk, _ => exact absurd hmk (by rw [show mustKeep ops8 11 7 = false from by kernel_rfl]; simp)
        | 1, _, _, hu => exact keepV w w' hb' 1 u (by simp) hu
        | 2, _, _, hu => exact keepV w w' hb' 2 u (by simp) hu
        | 3, _, _, hu => exact keepV w w' hb' 3 u (by simp) hu
        | 5, _, _, hu => exact keepV w w' hb' 5 u (by simp) hu
        | 8, _, _, hu => exact keepV w w' hb' 8 u (by simp) hu
        | 9, _, _, hu => exact keepV w w' hb' 9 u (by simp) hu
        | 10, _, _, hu => exact keepV w w' hb' 10 u (by simp) hu
        | 11, hq, _, _ => exact absurd rfl hq
        | 12, _, hmk, _ => exact absurd hmk (by rw [show mustKeep ops8 11 12 = false from by kernel_rfl]; simp)
        | q + 13, _, _, hu => trivial
      · show w'.ownsRow w0.heap.size 26 5 v' (us.take j ++ [ve] ++ us.drop j).length ((us.take j ++ [ve] ++ us.drop j).flatMap NV.cells)
        rw [List.length_append, List.length_drop, ← hml, ← hn3]
        exact ho
    | 12, _ => exact SoftAt.by rfl fun a w hf hb hd => .inl ⟨want_none, does_assign rfl (same 12 _ _ (hd 11 (by kernel_rfl)))⟩
    | k + 13, hi => exact absurd hi (Nat.not_lt.2 (Nat.le_add_left _ _))
  · intro a w hf hb hv
    exact last a w hf hb (hv 12 (by decide) (fun u o ho => by
      have hu : u < ops8.size := (Array.getElem?_eq_some_iff.1 ho).1
      have hall : (List.range ops8.size).all (fun u => match ops8[u]? with | some o => !usesD o 12 | none => true) = true := by kernel_rfl
      rw [List.all_eq_true] at hall
      have := hall u (List.mem_range.2 hu)
      rw [ho] at this
      simpa using this))
end Go.Proofs.Ytkdpdgbacladhaa
