/-
  slices.Insert of one element, on a row of one's own.
-/
import Derived.Test.YtlegjdlmcphhlabLeave
namespace Go.Proofs.Ytlegjdlmcphhlab
open Go.RowKit

theorem grown_any {w w' : World} {row : Option Nat} (h : w.grownBy w' none) : w.grownBy w' row := ⟨h.os, h.tape, h.output, h.size, fun k hk _ => h.block k hk (by simp)⟩
theorem grown_new {w w1 w2 : World} {row : Option Nat} {s : Nat} (h : w.grownBy w1 row) (h2 : w1.grownBy w2 (some s)) (hs : w.heap.size ≤ s) : w.grownBy w2 row :=
  ⟨h2.os.trans h.os, h2.tape.trans h.tape, h2.output.trans h.output, Nat.le_trans h.size h2.size, fun k hk hr => (h2.block k (Nat.lt_of_lt_of_le hk h.size) (by simp only [ne_eq, Option.some.injEq]; omega)).trans (h.block k hk hr)⟩
theorem Box2.grownO {w w' : World} {s : Nat} {v : ByteArray × Int} {row : Option Nat} (h : Box2 w s v) (hg : w.grownBy w' row) (hr : some s ≠ row) : Box2 w' s v := by
  unfold Box2; rw [hg.block s (lt_of_block h) hr]; exact h
theorem Box5.grownO {w w' : World} {s : Nat} {v : NV} {row : Option Nat} (h : Box5 w s v) (hg : w.grownBy w' row) (hr : some s ≠ row) : Box5 w' s v := Box.grown h hg hr
theorem ins_grow (k i n : Nat) (X Z y D : List Value) (hX : X.length = n * k) (hZ : Z.length = (n + 1 - i) * k) (hy : y.length = k) (hD : D.length = (n - i) * k) (hin : i < n) :
    ((X.take (i * k) ++ Z).take (i * k) ++ (y ++ (X.take (i * k) ++ Z).drop (i * k + y.length))).take ((i + 1) * k) ++ (D ++ ((X.take (i * k) ++ Z).take (i * k) ++ (y ++ (X.take (i * k) ++ Z).drop (i * k + y.length))).drop ((i + 1) * k + D.length)) = X.take (i * k) ++ (y ++ D) := by
  have h1 : i * k ≤ n * k := Nat.mul_le_mul_right _ (by omega)
  have hP : (X.take (i * k)).length = i * k := by rw [List.length_take, hX]; omega
  have e1 : (X.take (i * k) ++ Z).take (i * k) = X.take (i * k) := by conv => lhs; arg 1; rw [← hP]
                                                                      rw [List.take_left]
  have e2 : (i + 1) * k = (X.take (i * k) ++ y).length := by rw [List.length_append, hP, hy, Nat.add_mul]; omega
  have e4 : ∀ R : List Value, (X.take (i * k) ++ (y ++ R)).take ((i + 1) * k) = X.take (i * k) ++ y := fun R => by rw [← List.append_assoc, e2, List.take_left]
  have e5 : ∀ (R : List Value) (d : Nat), (X.take (i * k) ++ (y ++ R)).drop ((i + 1) * k + d) = R.drop d := fun R d => by rw [← List.append_assoc, e2, List.drop_length_add_append]
  have e3 : ((X.take (i * k) ++ Z).drop (i * k + k)).drop D.length = [] := by
    rw [List.drop_drop]
    apply List.drop_of_length_le
    rw [List.length_append, hP, hZ, hD]
    have : (n + 1 - i) * k = (n - i) * k + k := by rw [show n + 1 - i = (n - i) + 1 by omega, Nat.add_mul]; omega
    omega
  rw [e1, e4, e5, hy, e3, List.append_nil, List.append_assoc]
theorem ins_room (k i n : Nat) (X J y D : List Value) (hX : X.length = n * k) (hJ : J.length = k) (hy : y.length = k) (hD : D.length = (n - i) * k) (hin : i < n) :
    ((X ++ J).take ((i + 1) * k) ++ (D ++ (X ++ J).drop ((i + 1) * k + D.length))).take (i * k) ++ (y ++ ((X ++ J).take ((i + 1) * k) ++ (D ++ (X ++ J).drop ((i + 1) * k + D.length))).drop (i * k + y.length)) = X.take (i * k) ++ (y ++ D) := by
  have h1 : (i + 1) * k ≤ n * k := Nat.mul_le_mul_right _ (by omega)
  have h2 : (i + 1) * k = i * k + k := by rw [Nat.add_mul]; omega
  have h3 : (i + 1) * k + (n - i) * k = n * k + k := by rw [← Nat.add_mul, show i + 1 + (n - i) = n + 1 by omega, Nat.add_mul]; omega
  have e0 : (X ++ J).drop ((i + 1) * k + D.length) = [] := by
    apply List.drop_of_length_le
    rw [List.length_append, hX, hJ, hD]; omega
  have hT : ((X ++ J).take ((i + 1) * k)).length = (i + 1) * k := by rw [List.length_take, List.length_append, hX]; omega
  have e1 : ((X ++ J).take ((i + 1) * k) ++ D).take (i * k) = X.take (i * k) := by
    rw [List.take_append_of_le_length (by omega), List.take_take, Nat.min_eq_left (by omega), List.take_append_of_le_length (by omega)]
  have e2 : ((X ++ J).take ((i + 1) * k) ++ D).drop (i * k + y.length) = D := by
    rw [hy, ← h2]
    conv => lhs; arg 1; rw [← hT]
    rw [List.drop_left]
  rw [e0, List.append_nil, e1, e2]

theorem row_of_box2 {w : World} {s : Nat} {v : (ByteArray × Int)} (h : Box2 w s v) : Row 2 entCells w (some ⟨s, 0, none⟩) 1 [v] := by
  obtain ⟨b0, b1, bf, bz⟩ := h.facts
  refine ⟨rfl, .inr ⟨s, 0, rfl, bz, fun j u hu i c hc => ?_⟩⟩
  cases j with
  | succ j => cases hu
  | zero =>
    cases hu
    match i, hc with
    | 0, hc => cases hc; exact b0
    | 1, hc => cases hc; exact b1
    | i + 2, hc => simp [entCells] at hc

theorem box_src2 {w : World} {s : Nat} {v : (ByteArray × Int)} (h : Box2 w s v) : ∀ j u, (entCells v)[j]? = some u → w.cell? ((⟨s, 0, none⟩ : Addr).add j) = some u := by
  intro j u hu
  have h1 := row_of_box2 h
  rcases h1.2 with h' | ⟨b, o, e, _, hc⟩
  · cases h'
  · cases e
    have := hc 0 v rfl j u hu
    rw [Addr.add_lit]
    simpa using this
theorem own_src2 {w : World} {B g n c : Nat} {xs : List (ByteArray × Int)} (h : w.ownsRow B 68 2 (.slice (some ⟨g, 0, none⟩) n c) n (xs.flatMap entCells)) (i : Nat) : ∀ j u, ((xs.drop i).flatMap entCells)[j]? = some u → w.cell? ((⟨g, i * 2, none⟩ : Addr).add j) = some u := by
  intro j u hu
  rw [← fm_drop ent_len, List.getElem?_drop] at hu
  have := h.cells (g := g) rfl _ u hu
  rw [Addr.add_lit] at this ⊢
  simpa using this
theorem fm_ins2 (xs : List (ByteArray × Int)) (i : Nat) (x : (ByteArray × Int)) : (xs.take i ++ x :: xs.drop i).flatMap entCells = (xs.flatMap entCells).take (i * 2) ++ (entCells x ++ (xs.drop i).flatMap entCells) := by
  rw [List.flatMap_append, List.flatMap_cons, fm_take ent_len]
theorem own_cells2 (xs : List (ByteArray × Int)) : ∀ u ∈ xs.flatMap entCells, u.oneCell' = true := by
  intro u hu
  obtain ⟨v, _, hv⟩ := List.mem_flatMap.1 hu
  exact ent_one v u hv

set_option maxHeartbeats 1000000 in
theorem insEEnd_any (A : Option Addr) (B n c gv : Nat) (xs : List (ByteArray × Int)) (x : (ByteArray × Int)) (w : World) (hown : w.ownsRow B 68 2 (.slice A n c) n (xs.flatMap entCells)) (hbig : (n + 1) * 24 ≤ 140737488355328) (hB : B ≤ w.heap.size) (hv : Box2 w gv x) :
    Calls Try.prog 94 #[.slice A n c, .int .i64 n, .slice (some ⟨gv, 0, none⟩) 1 1] w fun e w' => ∃ A' c', e = .returned (.slice A' (n + 1) c') ∧ w'.ownsRow B 68 2 (.slice A' (n + 1) c') (n + 1) ((xs ++ [x]).flatMap entCells) ∧ w.grownBy w' (Value.slice A n c).ownBlock := by
  obtain ⟨i0, hi, hz, hsz, hbz⟩ := info_parts info58
  have HV : Hid (Row 2 entCells w (some ⟨gv, 0, none⟩) 1 [x]) := row_of_box2 hv
  have HO : Hid (w.ownsRow B 68 2 (.slice A n c) n (xs.flatMap entCells)) := hown
  have hform := hown.2
  clear hv hown
  rcases hform with ⟨hA, rfl⟩ | ⟨g, cap, cur, hA, _, _, hnc, hcm, _⟩
  · cases hA
    go_enter Try.func94, Try.ntmps94
    go_wp2_with (at_builtin; refine wpList_append_row _ (by rfl) (.tmp 23) (.tmp 24) 38 (by rfl) B 68 i0 (.agg #[.string ByteArray.empty, .int .i64 0]) 24 Try.underlying38 hi hz hsz hbz rfl (by decide) _ 0 _ (by rfl) HO.out _ 1 1 [x] (by rfl) HV.out ent_len ent_one (by unfold maxLen; omega) (by omega) hB ?_; intro v1 w1 hown1 hg1; obtain ⟨A1, c1, rfl, hA1, hA2⟩ := own_form hown1)
    go_ret
    exact ⟨A1, c1, rfl, by rw [List.flatMap_append]; exact hown1, hg1⟩
  · cases hA
    unfold maxLen at hcm
    rcases Nat.lt_or_eq_of_le hnc with hlt | heq
    · have hne : ¬ c = n := by omega
      go_enter Try.func94, Try.ntmps94
      go_wp2_with (at_builtin; refine wpList_append_row _ (by rfl) (.tmp 23) (.tmp 24) 38 (by rfl) B 68 i0 (.agg #[.string ByteArray.empty, .int .i64 0]) 24 Try.underlying38 hi hz hsz hbz rfl (by decide) _ n _ (by rfl) HO.out _ 1 1 [x] (by rfl) HV.out ent_len ent_one (by unfold maxLen; omega) (by omega) hB ?_; intro v1 w1 hown1 hg1; obtain ⟨A1, c1, rfl, hA1, hA2⟩ := own_form hown1)
      go_ret
      exact ⟨A1, c1, rfl, by rw [List.flatMap_append]; exact hown1, hg1⟩
    · subst heq
      go_enter Try.func94, Try.ntmps94
      go_wp2_with (at_builtin; refine wpList_append_row _ (by rfl) (.tmp 23) (.tmp 24) 38 (by rfl) B 68 i0 (.agg #[.string ByteArray.empty, .int .i64 0]) 24 Try.underlying38 hi hz hsz hbz rfl (by decide) _ n _ (by rfl) HO.out _ 1 1 [x] (by rfl) HV.out ent_len ent_one (by unfold maxLen; omega) (by omega) hB ?_; intro v1 w1 hown1 hg1; obtain ⟨A1, c1, rfl, hA1, hA2⟩ := own_form hown1)
      go_ret
      exact ⟨A1, c1, rfl, by rw [List.flatMap_append]; exact hown1, hg1⟩

set_option maxRecDepth 8000 in
set_option maxHeartbeats 2000000 in
theorem insEGrow_any (g B n i gv : Nat) (xs : List (ByteArray × Int)) (x : (ByteArray × Int)) (w : World) (hown : w.ownsRow B 68 2 (.slice (some ⟨g, 0, none⟩) n n) n (xs.flatMap entCells)) (hin : i < n) (hbig : (n + 1) * 24 ≤ 140737488355328) (hB : B ≤ w.heap.size) (hv : Box2 w gv x) :
    Calls Try.prog 94 #[.slice (some ⟨g, 0, none⟩) n n, .int .i64 i, .slice (some ⟨gv, 0, none⟩) 1 1] w fun e w' => ∃ A' c', e = .returned (.slice A' (n + 1) c') ∧ w'.ownsRow B 68 2 (.slice A' (n + 1) c') (n + 1) ((xs.take i ++ x :: xs.drop i).flatMap entCells) ∧ w.grownBy w' (some g) := by
  obtain ⟨i0, hi, hz, hsz, hbz⟩ := info_parts info58
  have HO : Hid (w.ownsRow B 68 2 (.slice (some ⟨g, 0, none⟩) n n) n (xs.flatMap entCells)) := hown
  have HV : Hid (Box2 w gv x) := hv
  have HLN : Hid (n = xs.length) := own_len ent_len (by decide) hown
  have hgl : g < w.heap.size := (hown.lt g rfl).2
  have hgvl : gv < w.heap.size := lt_of_block hv
  clear hown hv
  have hni : ¬ n = i := by omega
  have hsi : (Try.prog.info? 68).map (·.size) = some 2 := by rw [hi]; simp [hsz]
  go_enter Try.func94, Try.ntmps94
  go_wp2_with (first
    | (at_builtin; refine wpList_append_zeros (by rfl) (.tmp 34) (.tmp 39) 38 3 (by rfl) HO.out i0 (.agg #[.string ByteArray.empty, .int .i64 0]) 24 Try.underlying38 Try.underlying3 hi hz hsz hbz rfl (by decide) i (n + 1 - i) _ (by rfl) (by rfl) (by omega) (by omega) (by omega) (by omega) (by rw [show i + (n + 1 - i) = n + 1 by omega]; exact hbig) (by unfold maxLen; omega) hB ?_; intro c1 w1 hown1 hg1 hc1 hc1m; rw [show i + (n + 1 - i) = n + 1 by omega] at hown1 hc1 ⊢; have HO1 : Hid _ := hown1; have HG1 : Hid _ := hg1; clear hown1 hg1; unfold maxLen at hc1m; have HV1 : Hid (Box2 w1 gv x) := HV.out.below (grown_below HG1.out) hgvl; have hni1 : ¬ c1 = i := (by omega); have hni2 : ¬ c1 = i + 1 := (by omega))
    | (refine wpList_copy_cells (by rfl) (.tmp 43) (.tmp 44) 38 (by rfl) HO1.out Try.underlying38 hsi (i * 2) i (n + 1 - i) (c1 - i) (by rfl) rfl (by omega) ⟨gv, 0, none⟩ 1 1 1 (by rfl) (by simp only [Nat.min_def]; rw [if_pos (by omega)]) (entCells x) (by rfl) (box_src2 HV1.out) (ent_one x) ?_; intro w2 hown2 hg2; have HO2 : Hid _ := hown2; have HG2 : Hid _ := hg2; clear hown2 hg2))
  have hne : g ≠ w.heap.size := by omega
  have HOg : Hid (w2.ownsRow B 68 2 (.slice (some ⟨g, 0, none⟩) n n) n (xs.flatMap entCells)) := (HO.out.kept HG1.out (.inr (by simp [Value.ownBlock]))).kept HG2.out (.inr (by simp only [Value.ownBlock, ne_eq, Option.some.injEq]; exact hne))
  have hw1 : IntKind.i64.wrap ((i : Int) + 1) = (i : Int) + 1 := by rw [IntKind.wrap_i64]; omega
  have hb1 : (0 : Int) ≤ (i : Int) + 1 := by omega
  have hb3 : (i : Int) + 1 ≤ (n : Int) + 1 := by omega
  have htn : ((i : Int) + 1).toNat = i + 1 := by omega
  have hb4 : (i : Int) ≤ (n : Int) := by omega
  go_region_law (refine step_copy_cells (by rfl) (.tmp 50) (.tmp 53) 38 (by rfl) (World.ownsRow.drew HO2.out) Try.underlying38 hsi ((i + 1) * 2) (i + 1) (n - i) (c1 - (i + 1)) (by simp [Act.eval, Act.put]) rfl (by omega) ⟨g, i * 2, none⟩ (n - i) (n - i) (n - i) (by simp [Act.eval, Act.put]) (Nat.min_self _) ((xs.drop i).flatMap entCells) (by rw [fm_len ent_len, List.length_drop, ← HLN.out]) (own_src2 (World.ownsRow.drew HOg.out) i) (own_cells2 _) ?_; intro w3 hown3 hg3; have HO3 : Hid _ := hown3; have HG3 : Hid _ := hg3; clear hown3 hg3)
  go_wp2
  go_ret
  refine ⟨_, c1, rfl, ?_, grown_new (grown_new (grown_any HG1.out) HG2.out (Nat.le_refl _)) ⟨HG3.out.os, HG3.out.tape, HG3.out.output, HG3.out.size, HG3.out.block⟩ (Nat.le_refl _)⟩
  have h3 := HO3.out
  rw [ins_grow 2 i n _ _ _ _ (by rw [fm_len ent_len, ← HLN.out]) (by rw [Array.length_toList, size_zeroCells]; rfl) (ent_len x) (by rw [fm_len ent_len, List.length_drop, ← HLN.out]) hin] at h3
  rw [fm_ins2]
  exact h3

theorem ov2 {w : World} {B g n c gv : Nat} {L : List Value} {x : (ByteArray × Int)} (hown : w.ownsRow B 68 2 (.slice (some ⟨g, 0, none⟩) n c) n L) (hn : 0 < n) (hv : Box2 w gv x) (hne : gv ≠ g) (off lb cb : Nat) :
    (callFunc 102 #[.slice (some ⟨gv, 0, none⟩) 1 1, .slice (some ⟨g, off, none⟩) lb cb]).run Try.prog w = .ok (.value (.bool false)) w := by
  rcases hown.2 with ⟨h', _⟩ | ⟨g', cap, cur, h', hb, hg, hnc, hcm, hcs, htake⟩
  · simp at h'
  · simp only [Value.slice.injEq, Option.some.injEq, Addr.mk.injEq, and_true, true_and] at h'
    obtain ⟨rfl, rfl⟩ := h'
    unfold Box2  at hv
    rw [run_callFunc_extern Try.func102 (by kernel_rfl) (by kernel_rfl) (by kernel_rfl) (e := Extern.SlicesOverlaps.overlaps #[38, 38] #[4]) (by kernel_rfl),
      Lib.run_overlaps_apart w 38 4 68 Try.underlying38 2 Try.sizeOf68 ⟨gv, 0, none⟩ ⟨g, off, none⟩ 1 1 lb cb hne 68 68 2 cur.size (by simp [World.shape?, hv]) (by simp [World.shape?, hg]) (by rw [hcs]; have : 1 * 2 ≤ c * 2 := Nat.mul_le_mul_right _ (by omega); omega) (by simp [World.frozen?, hv]) (by simp [World.frozen?, hv])]
    rfl

set_option maxRecDepth 8000 in
set_option maxHeartbeats 2000000 in
theorem insERoom_any (g B n c i gv : Nat) (xs : List (ByteArray × Int)) (x : (ByteArray × Int)) (w : World) (hown : w.ownsRow B 68 2 (.slice (some ⟨g, 0, none⟩) n c) n (xs.flatMap entCells)) (hin : i < n) (hc : n + 1 ≤ c) (hv : Box2 w gv x) (hne : gv ≠ g) :
    Calls Try.prog 94 #[.slice (some ⟨g, 0, none⟩) n c, .int .i64 i, .slice (some ⟨gv, 0, none⟩) 1 1] w fun e w' => ∃ A' c', e = .returned (.slice A' (n + 1) c') ∧ w'.ownsRow B 68 2 (.slice A' (n + 1) c') (n + 1) ((xs.take i ++ x :: xs.drop i).flatMap entCells) ∧ w.grownBy w' (some g) := by
  obtain ⟨i0, hi, hz, hsz, hbz⟩ := info_parts info58
  have HO : Hid (w.ownsRow B 68 2 (.slice (some ⟨g, 0, none⟩) n c) n (xs.flatMap entCells)) := hown
  have HV : Hid (Box2 w gv x) := hv
  have HLN : Hid (n = xs.length) := own_len ent_len (by decide) hown
  have hcm : c ≤ maxLen := by obtain ⟨A1, c1, e1, _, e2⟩ := own_form hown; cases e1; exact e2
  unfold maxLen at hcm
  obtain ⟨J, hJ, hown1⟩ := own_reslice hown hc
  have HO1 : Hid (w.ownsRow B 68 2 (.slice (some ⟨g, 0, none⟩) (n + 1) c) (n + 1) (xs.flatMap entCells ++ J)) := hown1
  have HJ : Hid (J.length = 2) := hJ
  have hov := ov2 hown (by omega) hv hne
  clear hown hv hown1 hJ
  have hni : ¬ c = i := by omega
  have hni2 : ¬ c = i + 1 := by omega
  have hsi : (Try.prog.info? 68).map (·.size) = some 2 := by rw [hi]; simp [hsz]
  have hw1 : IntKind.i64.wrap ((i : Int) + 1) = (i : Int) + 1 := by rw [IntKind.wrap_i64]; omega
  have hb1 : (0 : Int) ≤ (i : Int) + 1 := by omega
  have hb3 : (i : Int) + 1 ≤ (n : Int) + 1 := by omega
  have htn : ((i : Int) + 1).toNat = i + 1 := by omega
  have hb4 : (i : Int) ≤ (n : Int) + 1 := by omega
  go_enter Try.func94, Try.ntmps94
  go_wp2_with (simp only [hov])
  go_region_law (refine step_copy_cells (by rfl) (.tmp 73) (.tmp 76) 38 (by rfl) (World.ownsRow.drew HO1.out) Try.underlying38 hsi ((i + 1) * 2) (i + 1) (n - i) (c - (i + 1)) (by simp [Act.eval, Act.put]) rfl (by omega) ⟨g, i * 2, none⟩ (n + 1 - i) (c - i) (n - i) (by simp [Act.eval, Act.put]) (by simp only [Nat.min_def]; rw [if_neg (by omega)]) ((xs.drop i).flatMap entCells) (by rw [fm_len ent_len, List.length_drop, ← HLN.out]) (own_src2 (World.ownsRow.drew HO.out) i) (own_cells2 _) ?_; intro w2 hown2 hg2; have HO2 : Hid _ := hown2; have HG2 : Hid (w.grownBy w2 (some g)) := (show w.grownBy w2 (some g) from ⟨hg2.os, hg2.tape, hg2.output, hg2.size, hg2.block⟩); clear hown2 hg2)
  have HV2 : Hid (Box2 w2 gv x) := Box2.grownO HV.out HG2.out (by simp only [ne_eq, Option.some.injEq]; exact hne)
  go_wp2_with (refine wpList_copy_cells (by rfl) (.tmp 80) (.tmp 81) 38 (by rfl) HO2.out Try.underlying38 hsi (i * 2) i (n + 1 - i) (c - i) (by rfl) rfl (by omega) ⟨gv, 0, none⟩ 1 1 1 (by rfl) (by simp only [Nat.min_def]; rw [if_pos (by omega)]) (entCells x) (by rfl) (box_src2 HV2.out) (ent_one x) ?_; intro w3 hown3 hg3; have HO3 : Hid _ := hown3; have HG3 : Hid _ := hg3; clear hown3 hg3)
  go_ret
  refine ⟨_, c, rfl, ?_, grown_trans HG2.out HG3.out⟩
  have h3 := HO3.out
  rw [ins_room 2 i n _ _ _ _ (by rw [fm_len ent_len, ← HLN.out]) HJ.out (ent_len x) (by rw [fm_len ent_len, List.length_drop, ← HLN.out]) hin] at h3
  rw [fm_ins2]
  exact h3

/-- one element, wherever -/
theorem insE_any (A : Option Addr) (B n c i gv : Nat) (xs : List (ByteArray × Int)) (x : (ByteArray × Int)) (w : World) (hown : w.ownsRow B 68 2 (.slice A n c) n (xs.flatMap entCells)) (hin : i ≤ n) (hbig : (n + 1) * 24 ≤ 140737488355328) (hB : B ≤ w.heap.size) (hv : Box2 w gv x) (hgv : (Value.slice A n c).ownBlock ≠ some gv) :
    Calls Try.prog 94 #[.slice A n c, .int .i64 i, .slice (some ⟨gv, 0, none⟩) 1 1] w fun e w' => ∃ A' c', e = .returned (.slice A' (n + 1) c') ∧ w'.ownsRow B 68 2 (.slice A' (n + 1) c') (n + 1) ((xs.take i ++ x :: xs.drop i).flatMap entCells) ∧ w.grownBy w' (Value.slice A n c).ownBlock := by
  rcases Nat.lt_or_eq_of_le hin with hlt | heq
  · obtain ⟨g, rfl, _, _⟩ := own_some hown (by omega)
    have hne : gv ≠ g := fun e => hgv (by rw [e]; rfl)
    have hnc : n ≤ c := by obtain ⟨A1, c1, e1, e2, _⟩ := own_form hown; cases e1; exact e2
    rcases Nat.lt_or_eq_of_le hnc with h1 | h1
    · exact insERoom_any g B n c i gv xs x w hown hlt h1 hv hne
    · subst h1
      exact insEGrow_any g B n i gv xs x w hown hlt hbig hB hv
  · subst heq
    have hl := own_len ent_len (by decide) hown
    have e1 : xs.take i = xs := List.take_of_length_le (by omega)
    have e2 : xs.drop i = [] := List.drop_of_length_le (by omega)
    rw [e1, e2]
    exact insEEnd_any A B i c gv xs x w hown hbig hB hv

theorem row_of_box5 {w : World} {s : Nat} {v : NV} (h : Box5 w s v) : Row 5 NV.cells w (some ⟨s, 0, none⟩) 1 [v] := by
  obtain ⟨b0, b1, b2, b3, b4, bf, bz⟩ := h.facts
  refine ⟨rfl, .inr ⟨s, 0, rfl, bz, fun j u hu i c hc => ?_⟩⟩
  cases j with
  | succ j => cases hu
  | zero =>
    cases hu
    match i, hc with
    | 0, hc => cases hc; exact b0
    | 1, hc => cases hc; exact b1
    | 2, hc => cases hc; exact b2
    | 3, hc => cases hc; exact b3
    | 4, hc => cases hc; exact b4
    | i + 5, hc => simp [NV.cells] at hc

theorem box_src5 {w : World} {s : Nat} {v : NV} (h : Box5 w s v) : ∀ j u, (NV.cells v)[j]? = some u → w.cell? ((⟨s, 0, none⟩ : Addr).add j) = some u := by
  intro j u hu
  have h1 := row_of_box5 h
  rcases h1.2 with h' | ⟨b, o, e, _, hc⟩
  · cases h'
  · cases e
    have := hc 0 v rfl j u hu
    rw [Addr.add_lit]
    simpa using this
theorem own_src5 {w : World} {B g n c : Nat} {xs : List NV} (h : w.ownsRow B 40 5 (.slice (some ⟨g, 0, none⟩) n c) n (xs.flatMap NV.cells)) (i : Nat) : ∀ j u, ((xs.drop i).flatMap NV.cells)[j]? = some u → w.cell? ((⟨g, i * 5, none⟩ : Addr).add j) = some u := by
  intro j u hu
  rw [← fm_drop nod_len, List.getElem?_drop] at hu
  have := h.cells (g := g) rfl _ u hu
  rw [Addr.add_lit] at this ⊢
  simpa using this
theorem fm_ins5 (xs : List NV) (i : Nat) (x : NV) : (xs.take i ++ x :: xs.drop i).flatMap NV.cells = (xs.flatMap NV.cells).take (i * 5) ++ (NV.cells x ++ (xs.drop i).flatMap NV.cells) := by
  rw [List.flatMap_append, List.flatMap_cons, fm_take nod_len]
theorem own_cells5 (xs : List NV) : ∀ u ∈ xs.flatMap NV.cells, u.oneCell' = true := by
  intro u hu
  obtain ⟨v, _, hv⟩ := List.mem_flatMap.1 hu
  exact nod_one v u hv

set_option maxHeartbeats 1000000 in
theorem insNEnd_any (A : Option Addr) (B n c gv : Nat) (xs : List NV) (x : NV) (w : World) (hown : w.ownsRow B 40 5 (.slice A n c) n (xs.flatMap NV.cells)) (hbig : (n + 1) * 72 ≤ 140737488355328) (hB : B ≤ w.heap.size) (hv : Box5 w gv x) :
    Calls Try.prog 100 #[.slice A n c, .int .i64 n, .slice (some ⟨gv, 0, none⟩) 1 1] w fun e w' => ∃ A' c', e = .returned (.slice A' (n + 1) c') ∧ w'.ownsRow B 40 5 (.slice A' (n + 1) c') (n + 1) ((xs ++ [x]).flatMap NV.cells) ∧ w.grownBy w' (Value.slice A n c).ownBlock := by
  obtain ⟨i0, hi, hz, hsz, hbz⟩ := info_parts info26
  have HV : Hid (Row 5 NV.cells w (some ⟨gv, 0, none⟩) 1 [x]) := row_of_box5 hv
  have HO : Hid (w.ownsRow B 40 5 (.slice A n c) n (xs.flatMap NV.cells)) := hown
  have hform := hown.2
  clear hv hown
  rcases hform with ⟨hA, rfl⟩ | ⟨g, cap, cur, hA, _, _, hnc, hcm, _⟩
  · cases hA
    go_enter Try.func100, Try.ntmps100
    go_wp2_with (at_builtin; refine wpList_append_row _ (by rfl) (.tmp 23) (.tmp 24) 22 (by rfl) B 40 i0 (.agg #[.int .i64 0, .bool false, .slice none 0 0, .slice none 0 0, .int .i64 0]) 72 Try.underlying22 hi hz hsz hbz rfl (by decide) _ 0 _ (by rfl) HO.out _ 1 1 [x] (by rfl) HV.out nod_len nod_one (by unfold maxLen; omega) (by omega) hB ?_; intro v1 w1 hown1 hg1; obtain ⟨A1, c1, rfl, hA1, hA2⟩ := own_form hown1)
    go_ret
    exact ⟨A1, c1, rfl, by rw [List.flatMap_append]; exact hown1, hg1⟩
  · cases hA
    unfold maxLen at hcm
    rcases Nat.lt_or_eq_of_le hnc with hlt | heq
    · have hne : ¬ c = n := by omega
      go_enter Try.func100, Try.ntmps100
      go_wp2_with (at_builtin; refine wpList_append_row _ (by rfl) (.tmp 23) (.tmp 24) 22 (by rfl) B 40 i0 (.agg #[.int .i64 0, .bool false, .slice none 0 0, .slice none 0 0, .int .i64 0]) 72 Try.underlying22 hi hz hsz hbz rfl (by decide) _ n _ (by rfl) HO.out _ 1 1 [x] (by rfl) HV.out nod_len nod_one (by unfold maxLen; omega) (by omega) hB ?_; intro v1 w1 hown1 hg1; obtain ⟨A1, c1, rfl, hA1, hA2⟩ := own_form hown1)
      go_ret
      exact ⟨A1, c1, rfl, by rw [List.flatMap_append]; exact hown1, hg1⟩
    · subst heq
      go_enter Try.func100, Try.ntmps100
      go_wp2_with (at_builtin; refine wpList_append_row _ (by rfl) (.tmp 23) (.tmp 24) 22 (by rfl) B 40 i0 (.agg #[.int .i64 0, .bool false, .slice none 0 0, .slice none 0 0, .int .i64 0]) 72 Try.underlying22 hi hz hsz hbz rfl (by decide) _ n _ (by rfl) HO.out _ 1 1 [x] (by rfl) HV.out nod_len nod_one (by unfold maxLen; omega) (by omega) hB ?_; intro v1 w1 hown1 hg1; obtain ⟨A1, c1, rfl, hA1, hA2⟩ := own_form hown1)
      go_ret
      exact ⟨A1, c1, rfl, by rw [List.flatMap_append]; exact hown1, hg1⟩

set_option maxRecDepth 8000 in
set_option maxHeartbeats 2000000 in
theorem insNGrow_any (g B n i gv : Nat) (xs : List NV) (x : NV) (w : World) (hown : w.ownsRow B 40 5 (.slice (some ⟨g, 0, none⟩) n n) n (xs.flatMap NV.cells)) (hin : i < n) (hbig : (n + 1) * 72 ≤ 140737488355328) (hB : B ≤ w.heap.size) (hv : Box5 w gv x) :
    Calls Try.prog 100 #[.slice (some ⟨g, 0, none⟩) n n, .int .i64 i, .slice (some ⟨gv, 0, none⟩) 1 1] w fun e w' => ∃ A' c', e = .returned (.slice A' (n + 1) c') ∧ w'.ownsRow B 40 5 (.slice A' (n + 1) c') (n + 1) ((xs.take i ++ x :: xs.drop i).flatMap NV.cells) ∧ w.grownBy w' (some g) := by
  obtain ⟨i0, hi, hz, hsz, hbz⟩ := info_parts info26
  have HO : Hid (w.ownsRow B 40 5 (.slice (some ⟨g, 0, none⟩) n n) n (xs.flatMap NV.cells)) := hown
  have HV : Hid (Box5 w gv x) := hv
  have HLN : Hid (n = xs.length) := own_len nod_len (by decide) hown
  have hgl : g < w.heap.size := (hown.lt g rfl).2
  have hgvl : gv < w.heap.size := lt_of_block hv
  clear hown hv
  have hni : ¬ n = i := by omega
  have hsi : (Try.prog.info? 40).map (·.size) = some 5 := by rw [hi]; simp [hsz]
  go_enter Try.func100, Try.ntmps100
  go_wp2_with (first
    | (at_builtin; refine wpList_append_zeros (by rfl) (.tmp 34) (.tmp 39) 22 3 (by rfl) HO.out i0 (.agg #[.int .i64 0, .bool false, .slice none 0 0, .slice none 0 0, .int .i64 0]) 72 Try.underlying22 Try.underlying3 hi hz hsz hbz rfl (by decide) i (n + 1 - i) _ (by rfl) (by rfl) (by omega) (by omega) (by omega) (by omega) (by rw [show i + (n + 1 - i) = n + 1 by omega]; exact hbig) (by unfold maxLen; omega) hB ?_; intro c1 w1 hown1 hg1 hc1 hc1m; rw [show i + (n + 1 - i) = n + 1 by omega] at hown1 hc1 ⊢; have HO1 : Hid _ := hown1; have HG1 : Hid _ := hg1; clear hown1 hg1; unfold maxLen at hc1m; have HV1 : Hid (Box5 w1 gv x) := HV.out.below (grown_below HG1.out) hgvl; have hni1 : ¬ c1 = i := (by omega); have hni2 : ¬ c1 = i + 1 := (by omega))
    | (refine wpList_copy_cells (by rfl) (.tmp 43) (.tmp 44) 22 (by rfl) HO1.out Try.underlying22 hsi (i * 5) i (n + 1 - i) (c1 - i) (by rfl) rfl (by omega) ⟨gv, 0, none⟩ 1 1 1 (by rfl) (by simp only [Nat.min_def]; rw [if_pos (by omega)]) (NV.cells x) (by rfl) (box_src5 HV1.out) (nod_one x) ?_; intro w2 hown2 hg2; have HO2 : Hid _ := hown2; have HG2 : Hid _ := hg2; clear hown2 hg2))
  have hne : g ≠ w.heap.size := by omega
  have HOg : Hid (w2.ownsRow B 40 5 (.slice (some ⟨g, 0, none⟩) n n) n (xs.flatMap NV.cells)) := (HO.out.kept HG1.out (.inr (by simp [Value.ownBlock]))).kept HG2.out (.inr (by simp only [Value.ownBlock, ne_eq, Option.some.injEq]; exact hne))
  have hw1 : IntKind.i64.wrap ((i : Int) + 1) = (i : Int) + 1 := by rw [IntKind.wrap_i64]; omega
  have hb1 : (0 : Int) ≤ (i : Int) + 1 := by omega
  have hb3 : (i : Int) + 1 ≤ (n : Int) + 1 := by omega
  have htn : ((i : Int) + 1).toNat = i + 1 := by omega
  have hb4 : (i : Int) ≤ (n : Int) := by omega
  go_region_law (refine step_copy_cells (by rfl) (.tmp 50) (.tmp 53) 22 (by rfl) (World.ownsRow.drew HO2.out) Try.underlying22 hsi ((i + 1) * 5) (i + 1) (n - i) (c1 - (i + 1)) (by simp [Act.eval, Act.put]) rfl (by omega) ⟨g, i * 5, none⟩ (n - i) (n - i) (n - i) (by simp [Act.eval, Act.put]) (Nat.min_self _) ((xs.drop i).flatMap NV.cells) (by rw [fm_len nod_len, List.length_drop, ← HLN.out]) (own_src5 (World.ownsRow.drew HOg.out) i) (own_cells5 _) ?_; intro w3 hown3 hg3; have HO3 : Hid _ := hown3; have HG3 : Hid _ := hg3; clear hown3 hg3)
  go_wp2
  go_ret
  refine ⟨_, c1, rfl, ?_, grown_new (grown_new (grown_any HG1.out) HG2.out (Nat.le_refl _)) ⟨HG3.out.os, HG3.out.tape, HG3.out.output, HG3.out.size, HG3.out.block⟩ (Nat.le_refl _)⟩
  have h3 := HO3.out
  rw [ins_grow 5 i n _ _ _ _ (by rw [fm_len nod_len, ← HLN.out]) (by rw [Array.length_toList, size_zeroCells]; rfl) (nod_len x) (by rw [fm_len nod_len, List.length_drop, ← HLN.out]) hin] at h3
  rw [fm_ins5]
  exact h3

theorem ov5 {w : World} {B g n c gv : Nat} {L : List Value} {x : NV} (hown : w.ownsRow B 40 5 (.slice (some ⟨g, 0, none⟩) n c) n L) (hn : 0 < n) (hv : Box5 w gv x) (hne : gv ≠ g) (off lb cb : Nat) :
    (callFunc 105 #[.slice (some ⟨gv, 0, none⟩) 1 1, .slice (some ⟨g, off, none⟩) lb cb]).run Try.prog w = .ok (.value (.bool false)) w := by
  rcases hown.2 with ⟨h', _⟩ | ⟨g', cap, cur, h', hb, hg, hnc, hcm, hcs, htake⟩
  · simp at h'
  · simp only [Value.slice.injEq, Option.some.injEq, Addr.mk.injEq, and_true, true_and] at h'
    obtain ⟨rfl, rfl⟩ := h'
    unfold Box5 Box at hv
    rw [run_callFunc_extern Try.func105 (by kernel_rfl) (by kernel_rfl) (by kernel_rfl) (e := Extern.SlicesOverlaps.overlaps #[22, 22] #[4]) (by kernel_rfl),
      Lib.run_overlaps_apart w 22 4 40 Try.underlying22 5 Try.sizeOf40 ⟨gv, 0, none⟩ ⟨g, off, none⟩ 1 1 lb cb hne 40 40 5 cur.size (by simp [World.shape?, hv]) (by simp [World.shape?, hg]) (by rw [hcs]; have : 1 * 5 ≤ c * 5 := Nat.mul_le_mul_right _ (by omega); omega) (by simp [World.frozen?, hv]) (by simp [World.frozen?, hv])]
    rfl

set_option maxRecDepth 8000 in
set_option maxHeartbeats 2000000 in
theorem insNRoom_any (g B n c i gv : Nat) (xs : List NV) (x : NV) (w : World) (hown : w.ownsRow B 40 5 (.slice (some ⟨g, 0, none⟩) n c) n (xs.flatMap NV.cells)) (hin : i < n) (hc : n + 1 ≤ c) (hv : Box5 w gv x) (hne : gv ≠ g) :
    Calls Try.prog 100 #[.slice (some ⟨g, 0, none⟩) n c, .int .i64 i, .slice (some ⟨gv, 0, none⟩) 1 1] w fun e w' => ∃ A' c', e = .returned (.slice A' (n + 1) c') ∧ w'.ownsRow B 40 5 (.slice A' (n + 1) c') (n + 1) ((xs.take i ++ x :: xs.drop i).flatMap NV.cells) ∧ w.grownBy w' (some g) := by
  obtain ⟨i0, hi, hz, hsz, hbz⟩ := info_parts info26
  have HO : Hid (w.ownsRow B 40 5 (.slice (some ⟨g, 0, none⟩) n c) n (xs.flatMap NV.cells)) := hown
  have HV : Hid (Box5 w gv x) := hv
  have HLN : Hid (n = xs.length) := own_len nod_len (by decide) hown
  have hcm : c ≤ maxLen := by obtain ⟨A1, c1, e1, _, e2⟩ := own_form hown; cases e1; exact e2
  unfold maxLen at hcm
  obtain ⟨J, hJ, hown1⟩ := own_reslice hown hc
  have HO1 : Hid (w.ownsRow B 40 5 (.slice (some ⟨g, 0, none⟩) (n + 1) c) (n + 1) (xs.flatMap NV.cells ++ J)) := hown1
  have HJ : Hid (J.length = 5) := hJ
  have hov := ov5 hown (by omega) hv hne
  clear hown hv hown1 hJ
  have hni : ¬ c = i := by omega
  have hni2 : ¬ c = i + 1 := by omega
  have hsi : (Try.prog.info? 40).map (·.size) = some 5 := by rw [hi]; simp [hsz]
  have hw1 : IntKind.i64.wrap ((i : Int) + 1) = (i : Int) + 1 := by rw [IntKind.wrap_i64]; omega
  have hb1 : (0 : Int) ≤ (i : Int) + 1 := by omega
  have hb3 : (i : Int) + 1 ≤ (n : Int) + 1 := by omega
  have htn : ((i : Int) + 1).toNat = i + 1 := by omega
  have hb4 : (i : Int) ≤ (n : Int) + 1 := by omega
  go_enter Try.func100, Try.ntmps100
  go_wp2_with (simp only [hov])
  go_region_law (refine step_copy_cells (by rfl) (.tmp 73) (.tmp 76) 22 (by rfl) (World.ownsRow.drew HO1.out) Try.underlying22 hsi ((i + 1) * 5) (i + 1) (n - i) (c - (i + 1)) (by simp [Act.eval, Act.put]) rfl (by omega) ⟨g, i * 5, none⟩ (n + 1 - i) (c - i) (n - i) (by simp [Act.eval, Act.put]) (by simp only [Nat.min_def]; rw [if_neg (by omega)]) ((xs.drop i).flatMap NV.cells) (by rw [fm_len nod_len, List.length_drop, ← HLN.out]) (own_src5 (World.ownsRow.drew HO.out) i) (own_cells5 _) ?_; intro w2 hown2 hg2; have HO2 : Hid _ := hown2; have HG2 : Hid (w.grownBy w2 (some g)) := (show w.grownBy w2 (some g) from ⟨hg2.os, hg2.tape, hg2.output, hg2.size, hg2.block⟩); clear hown2 hg2)
  have HV2 : Hid (Box5 w2 gv x) := Box5.grownO HV.out HG2.out (by simp only [ne_eq, Option.some.injEq]; exact hne)
  go_wp2_with (refine wpList_copy_cells (by rfl) (.tmp 80) (.tmp 81) 22 (by rfl) HO2.out Try.underlying22 hsi (i * 5) i (n + 1 - i) (c - i) (by rfl) rfl (by omega) ⟨gv, 0, none⟩ 1 1 1 (by rfl) (by simp only [Nat.min_def]; rw [if_pos (by omega)]) (NV.cells x) (by rfl) (box_src5 HV2.out) (nod_one x) ?_; intro w3 hown3 hg3; have HO3 : Hid _ := hown3; have HG3 : Hid _ := hg3; clear hown3 hg3)
  go_ret
  refine ⟨_, c, rfl, ?_, grown_trans HG2.out HG3.out⟩
  have h3 := HO3.out
  rw [ins_room 5 i n _ _ _ _ (by rw [fm_len nod_len, ← HLN.out]) HJ.out (nod_len x) (by rw [fm_len nod_len, List.length_drop, ← HLN.out]) hin] at h3
  rw [fm_ins5]
  exact h3

/-- one element, wherever -/
theorem insN_any (A : Option Addr) (B n c i gv : Nat) (xs : List NV) (x : NV) (w : World) (hown : w.ownsRow B 40 5 (.slice A n c) n (xs.flatMap NV.cells)) (hin : i ≤ n) (hbig : (n + 1) * 72 ≤ 140737488355328) (hB : B ≤ w.heap.size) (hv : Box5 w gv x) (hgv : (Value.slice A n c).ownBlock ≠ some gv) :
    Calls Try.prog 100 #[.slice A n c, .int .i64 i, .slice (some ⟨gv, 0, none⟩) 1 1] w fun e w' => ∃ A' c', e = .returned (.slice A' (n + 1) c') ∧ w'.ownsRow B 40 5 (.slice A' (n + 1) c') (n + 1) ((xs.take i ++ x :: xs.drop i).flatMap NV.cells) ∧ w.grownBy w' (Value.slice A n c).ownBlock := by
  rcases Nat.lt_or_eq_of_le hin with hlt | heq
  · obtain ⟨g, rfl, _, _⟩ := own_some hown (by omega)
    have hne : gv ≠ g := fun e => hgv (by rw [e]; rfl)
    have hnc : n ≤ c := by obtain ⟨A1, c1, e1, e2, _⟩ := own_form hown; cases e1; exact e2
    rcases Nat.lt_or_eq_of_le hnc with h1 | h1
    · exact insNRoom_any g B n c i gv xs x w hown hlt h1 hv hne
    · subst h1
      exact insNGrow_any g B n i gv xs x w hown hlt hbig hB hv
  · subst heq
    have hl := own_len nod_len (by decide) hown
    have e1 : xs.take i = xs := List.take_of_length_le (by omega)
    have e2 : xs.drop i = [] := List.drop_of_length_le (by omega)
    rw [e1, e2]
    exact insNEnd_any A B i c gv xs x w hown hbig hB hv
end Go.Proofs.Ytlegjdlmcphhlab
