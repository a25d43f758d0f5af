/- TEXTS LAID TOGETHER: Ins, Put, Readb, Same, Walk, Ref -/
import Derived.Test.YtjpdoblmdchmkadPart2
import Derived.Deep.RegionWith
/-
  slices.Insert of one element, on a row of one's own.
-/
namespace Go.Proofs.Ytjpdoblmdchmkad
open Go.RowKit

theorem grown_any {w w' : World} {row : Option Nat} (h : w.grownBy w' none) : w.grownBy w' row := ⟨h.os, h.tape, h.output, h.size, fun k hk _ => h.block k hk (by simp)⟩
theorem grown_new {w w1 w2 : World} {row : Option Nat} {s : Nat} (h : w.grownBy w1 row) (h2 : w1.grownBy w2 (some s)) (hs : w.heap.size ≤ s) : w.grownBy w2 row :=
  ⟨h2.os.trans h.os, h2.tape.trans h.tape, h2.output.trans h.output, Nat.le_trans h.size h2.size, fun k hk hr => (h2.block k (Nat.lt_of_lt_of_le hk h.size) (by simp only [ne_eq, Option.some.injEq]; omega)).trans (h.block k hk hr)⟩
theorem Box2.grownO {w w' : World} {s : Nat} {v : ByteArray × Int} {row : Option Nat} (h : Box2 w s v) (hg : w.grownBy w' row) (hr : some s ≠ row) : Box2 w' s v := by
  unfold Box2; rw [hg.block s (lt_of_block h) hr]; exact h
theorem Box5.grownO {w w' : World} {s : Nat} {v : NV} {row : Option Nat} (h : Box5 w s v) (hg : w.grownBy w' row) (hr : some s ≠ row) : Box5 w' s v := Box.grown h hg hr
theorem ins_grow (k i n : Nat) (X Z y D : List Value) (hX : X.length = n * k) (hZ : Z.length = (n + 1 - i) * k) (hy : y.length = k) (hD : D.length = (n - i) * k) (hin : i < n) :
    ((X.take (i * k) ++ Z).take (i * k) ++ (y ++ (X.take (i * k) ++ Z).drop (i * k + y.length))).take ((i + 1) * k) ++ (D ++ ((X.take (i * k) ++ Z).take (i * k) ++ (y ++ (X.take (i * k) ++ Z).drop (i * k + y.length))).drop ((i + 1) * k + D.length)) = X.take (i * k) ++ (y ++ D) := by
  have h1 : i * k ≤ n * k := Nat.mul_le_mul_right _ (by omega)
  have hP : (X.take (i * k)).length = i * k := by rw [List.length_take, hX]; omega
  have e1 : (X.take (i * k) ++ Z).take (i * k) = X.take (i * k) := by conv => lhs; arg 1; rw [← hP]
                                                                      rw [List.take_left]
  have e2 : (i + 1) * k = (X.take (i * k) ++ y).length := by rw [List.length_append, hP, hy, Nat.add_mul]; omega
  have e4 : ∀ R : List Value, (X.take (i * k) ++ (y ++ R)).take ((i + 1) * k) = X.take (i * k) ++ y := fun R => by rw [← List.append_assoc, e2, List.take_left]
  have e5 : ∀ (R : List Value) (d : Nat), (X.take (i * k) ++ (y ++ R)).drop ((i + 1) * k + d) = R.drop d := fun R d => by rw [← List.append_assoc, e2, List.drop_length_add_append]
  have e3 : ((X.take (i * k) ++ Z).drop (i * k + k)).drop D.length = [] := by
    rw [List.drop_drop]
    apply List.drop_of_length_le
    rw [List.length_append, hP, hZ, hD]
    have : (n + 1 - i) * k = (n - i) * k + k := by rw [show n + 1 - i = (n - i) + 1 by omega, Nat.add_mul]; omega
    omega
  rw [e1, e4, e5, hy, e3, List.append_nil, List.append_assoc]
theorem ins_room (k i n : Nat) (X J y D : List Value) (hX : X.length = n * k) (hJ : J.length = k) (hy : y.length = k) (hD : D.length = (n - i) * k) (hin : i < n) :
    ((X ++ J).take ((i + 1) * k) ++ (D ++ (X ++ J).drop ((i + 1) * k + D.length))).take (i * k) ++ (y ++ ((X ++ J).take ((i + 1) * k) ++ (D ++ (X ++ J).drop ((i + 1) * k + D.length))).drop (i * k + y.length)) = X.take (i * k) ++ (y ++ D) := by
  have h1 : (i + 1) * k ≤ n * k := Nat.mul_le_mul_right _ (by omega)
  have h2 : (i + 1) * k = i * k + k := by rw [Nat.add_mul]; omega
  have h3 : (i + 1) * k + (n - i) * k = n * k + k := by rw [← Nat.add_mul, show i + 1 + (n - i) = n + 1 by omega, Nat.add_mul]; omega
  have e0 : (X ++ J).drop ((i + 1) * k + D.length) = [] := by
    apply List.drop_of_length_le
    rw [List.length_append, hX, hJ, hD]; omega
  have hT : ((X ++ J).take ((i + 1) * k)).length = (i + 1) * k := by rw [List.length_take, List.length_append, hX]; omega
  have e1 : ((X ++ J).take ((i + 1) * k) ++ D).take (i * k) = X.take (i * k) := by
    rw [List.take_append_of_le_length (by omega), List.take_take, Nat.min_eq_left (by omega), List.take_append_of_le_length (by omega)]
  have e2 : ((X ++ J).take ((i + 1) * k) ++ D).drop (i * k + y.length) = D := by
    rw [hy, ← h2]
    conv => lhs; arg 1; rw [← hT]
    rw [List.drop_left]
  rw [e0, List.append_nil, e1, e2]

theorem row_of_box2 {w : World} {s : Nat} {v : (ByteArray × Int)} (h : Box2 w s v) : Row 2 entCells w (some ⟨s, 0, none⟩) 1 [v] := by
  obtain ⟨b0, b1, bf, bz⟩ := h.facts
  refine ⟨rfl, .inr ⟨s, 0, rfl, bz, fun j u hu i c hc => ?_⟩⟩
  cases j with
  | succ j => cases hu
  | zero =>
    cases hu
    match i, hc with
    | 0, hc => cases hc; exact b0
    | 1, hc => cases hc; exact b1
    | i + 2, hc => simp [entCells] at hc

theorem box_src2 {w : World} {s : Nat} {v : (ByteArray × Int)} (h : Box2 w s v) : ∀ j u, (entCells v)[j]? = some u → w.cell? ((⟨s, 0, none⟩ : Addr).add j) = some u := by
  intro j u hu
  have h1 := row_of_box2 h
  rcases h1.2 with h' | ⟨b, o, e, _, hc⟩
  · cases h'
  · cases e
    have := hc 0 v rfl j u hu
    rw [Addr.add_lit]
    simpa using this
theorem own_src2 {w : World} {B g n c : Nat} {xs : List (ByteArray × Int)} (h : w.ownsRow B 81 2 (.slice (some ⟨g, 0, none⟩) n c) n (xs.flatMap entCells)) (i : Nat) : ∀ j u, ((xs.drop i).flatMap entCells)[j]? = some u → w.cell? ((⟨g, i * 2, none⟩ : Addr).add j) = some u := by
  intro j u hu
  rw [← fm_drop ent_len, List.getElem?_drop] at hu
  have := h.cells (g := g) rfl _ u hu
  rw [Addr.add_lit] at this ⊢
  simpa using this
theorem fm_ins2 (xs : List (ByteArray × Int)) (i : Nat) (x : (ByteArray × Int)) : (xs.take i ++ x :: xs.drop i).flatMap entCells = (xs.flatMap entCells).take (i * 2) ++ (entCells x ++ (xs.drop i).flatMap entCells) := by
  rw [List.flatMap_append, List.flatMap_cons, fm_take ent_len]
theorem own_cells2 (xs : List (ByteArray × Int)) : ∀ u ∈ xs.flatMap entCells, u.oneCell' = true := by
  intro u hu
  obtain ⟨v, _, hv⟩ := List.mem_flatMap.1 hu
  exact ent_one v u hv

set_option maxHeartbeats 1000000 in
theorem insEEnd_any (A : Option Addr) (B n c gv : Nat) (xs : List (ByteArray × Int)) (x : (ByteArray × Int)) (w : World) (hown : w.ownsRow B 81 2 (.slice A n c) n (xs.flatMap entCells)) (hbig : (n + 1) * 24 ≤ 140737488355328) (hB : B ≤ w.heap.size) (hv : Box2 w gv x) :
    Calls Try.prog 112 #[.slice A n c, .int .i64 n, .slice (some ⟨gv, 0, none⟩) 1 1] w fun e w' => ∃ A' c', e = .returned (.slice A' (n + 1) c') ∧ w'.ownsRow B 81 2 (.slice A' (n + 1) c') (n + 1) ((xs ++ [x]).flatMap entCells) ∧ w.grownBy w' (Value.slice A n c).ownBlock := by
  obtain ⟨i0, hi, hz, hsz, hbz⟩ := info_parts info58
  have HV : Hid (Row 2 entCells w (some ⟨gv, 0, none⟩) 1 [x]) := row_of_box2 hv
  have HO : Hid (w.ownsRow B 81 2 (.slice A n c) n (xs.flatMap entCells)) := hown
  have hform := hown.2
  clear hv hown
  rcases hform with ⟨hA, rfl⟩ | ⟨g, cap, cur, hA, _, _, hnc, hcm, _⟩
  · cases hA
    go_enter Try.func112, Try.ntmps112
    go_wp2_with (at_builtin; refine wpList_append_row _ (by rfl) (.tmp 23) (.tmp 24) 39 (by rfl) B 81 i0 (.agg #[.string ByteArray.empty, .int .i64 0]) 24 Try.underlying39 hi hz hsz hbz rfl (by decide) _ 0 _ (by rfl) HO.out _ 1 1 [x] (by rfl) HV.out ent_len ent_one (by unfold maxLen; omega) (by omega) hB ?_; intro v1 w1 hown1 hg1; obtain ⟨A1, c1, rfl, hA1, hA2⟩ := own_form hown1)
    go_ret
    exact ⟨A1, c1, rfl, by rw [List.flatMap_append]; exact hown1, hg1⟩
  · cases hA
    unfold maxLen at hcm
    rcases Nat.lt_or_eq_of_le hnc with hlt | heq
    · have hne : ¬ c = n := by omega
      go_enter Try.func112, Try.ntmps112
      go_wp2_with (at_builtin; refine wpList_append_row _ (by rfl) (.tmp 23) (.tmp 24) 39 (by rfl) B 81 i0 (.agg #[.string ByteArray.empty, .int .i64 0]) 24 Try.underlying39 hi hz hsz hbz rfl (by decide) _ n _ (by rfl) HO.out _ 1 1 [x] (by rfl) HV.out ent_len ent_one (by unfold maxLen; omega) (by omega) hB ?_; intro v1 w1 hown1 hg1; obtain ⟨A1, c1, rfl, hA1, hA2⟩ := own_form hown1)
      go_ret
      exact ⟨A1, c1, rfl, by rw [List.flatMap_append]; exact hown1, hg1⟩
    · subst heq
      go_enter Try.func112, Try.ntmps112
      go_wp2_with (at_builtin; refine wpList_append_row _ (by rfl) (.tmp 23) (.tmp 24) 39 (by rfl) B 81 i0 (.agg #[.string ByteArray.empty, .int .i64 0]) 24 Try.underlying39 hi hz hsz hbz rfl (by decide) _ n _ (by rfl) HO.out _ 1 1 [x] (by rfl) HV.out ent_len ent_one (by unfold maxLen; omega) (by omega) hB ?_; intro v1 w1 hown1 hg1; obtain ⟨A1, c1, rfl, hA1, hA2⟩ := own_form hown1)
      go_ret
      exact ⟨A1, c1, rfl, by rw [List.flatMap_append]; exact hown1, hg1⟩

set_option maxRecDepth 8000 in
set_option maxHeartbeats 2000000 in
theorem insEGrow_any (g B n i gv : Nat) (xs : List (ByteArray × Int)) (x : (ByteArray × Int)) (w : World) (hown : w.ownsRow B 81 2 (.slice (some ⟨g, 0, none⟩) n n) n (xs.flatMap entCells)) (hin : i < n) (hbig : (n + 1) * 24 ≤ 140737488355328) (hB : B ≤ w.heap.size) (hv : Box2 w gv x) :
    Calls Try.prog 112 #[.slice (some ⟨g, 0, none⟩) n n, .int .i64 i, .slice (some ⟨gv, 0, none⟩) 1 1] w fun e w' => ∃ A' c', e = .returned (.slice A' (n + 1) c') ∧ w'.ownsRow B 81 2 (.slice A' (n + 1) c') (n + 1) ((xs.take i ++ x :: xs.drop i).flatMap entCells) ∧ w.grownBy w' (some g) := by
  obtain ⟨i0, hi, hz, hsz, hbz⟩ := info_parts info58
  have HO : Hid (w.ownsRow B 81 2 (.slice (some ⟨g, 0, none⟩) n n) n (xs.flatMap entCells)) := hown
  have HV : Hid (Box2 w gv x) := hv
  have HLN : Hid (n = xs.length) := own_len ent_len (by decide) hown
  have hgl : g < w.heap.size := (hown.lt g rfl).2
  have hgvl : gv < w.heap.size := lt_of_block hv
  clear hown hv
  have hni : ¬ n = i := by omega
  have hsi : (Try.prog.info? 81).map (·.size) = some 2 := by rw [hi]; simp [hsz]
  go_enter Try.func112, Try.ntmps112
  go_wp2_with (first
    | (at_builtin; refine wpList_append_zeros (by rfl) (.tmp 34) (.tmp 39) 39 3 (by rfl) HO.out i0 (.agg #[.string ByteArray.empty, .int .i64 0]) 24 Try.underlying39 Try.underlying3 hi hz hsz hbz rfl (by decide) i (n + 1 - i) _ (by rfl) (by rfl) (by omega) (by omega) (by omega) (by omega) (by rw [show i + (n + 1 - i) = n + 1 by omega]; exact hbig) (by unfold maxLen; omega) hB ?_; intro c1 w1 hown1 hg1 hc1 hc1m; rw [show i + (n + 1 - i) = n + 1 by omega] at hown1 hc1 ⊢; have HO1 : Hid _ := hown1; have HG1 : Hid _ := hg1; clear hown1 hg1; unfold maxLen at hc1m; have HV1 : Hid (Box2 w1 gv x) := HV.out.below (grown_below HG1.out) hgvl; have hni1 : ¬ c1 = i := (by omega); have hni2 : ¬ c1 = i + 1 := (by omega))
    | (refine wpList_copy_cells (by rfl) (.tmp 43) (.tmp 44) 39 (by rfl) HO1.out Try.underlying39 hsi (i * 2) i (n + 1 - i) (c1 - i) (by rfl) rfl (by omega) ⟨gv, 0, none⟩ 1 1 1 (by rfl) (by simp only [Nat.min_def]; rw [if_pos (by omega)]) (entCells x) (by rfl) (box_src2 HV1.out) (ent_one x) ?_; intro w2 hown2 hg2; have HO2 : Hid _ := hown2; have HG2 : Hid _ := hg2; clear hown2 hg2))
  have hne : g ≠ w.heap.size := by omega
  have HOg : Hid (w2.ownsRow B 81 2 (.slice (some ⟨g, 0, none⟩) n n) n (xs.flatMap entCells)) := (HO.out.kept HG1.out (.inr (by simp [Value.ownBlock]))).kept HG2.out (.inr (by simp only [Value.ownBlock, ne_eq, Option.some.injEq]; exact hne))
  have hw1 : IntKind.i64.wrap ((i : Int) + 1) = (i : Int) + 1 := by rw [IntKind.wrap_i64]; omega
  have hb1 : (0 : Int) ≤ (i : Int) + 1 := by omega
  have hb3 : (i : Int) + 1 ≤ (n : Int) + 1 := by omega
  have htn : ((i : Int) + 1).toNat = i + 1 := by omega
  have hb4 : (i : Int) ≤ (n : Int) := by omega
  go_region_law (refine step_copy_cells (by rfl) (.tmp 50) (.tmp 53) 39 (by rfl) (World.ownsRow.drew HO2.out) Try.underlying39 hsi ((i + 1) * 2) (i + 1) (n - i) (c1 - (i + 1)) (by simp [Act.eval, Act.put]) rfl (by omega) ⟨g, i * 2, none⟩ (n - i) (n - i) (n - i) (by simp [Act.eval, Act.put]) (Nat.min_self _) ((xs.drop i).flatMap entCells) (by rw [fm_len ent_len, List.length_drop, ← HLN.out]) (own_src2 (World.ownsRow.drew HOg.out) i) (own_cells2 _) ?_; intro w3 hown3 hg3; have HO3 : Hid _ := hown3; have HG3 : Hid _ := hg3; clear hown3 hg3)
  go_wp2
  go_ret
  refine ⟨_, c1, rfl, ?_, grown_new (grown_new (grown_any HG1.out) HG2.out (Nat.le_refl _)) ⟨HG3.out.os, HG3.out.tape, HG3.out.output, HG3.out.size, HG3.out.block⟩ (Nat.le_refl _)⟩
  have h3 := HO3.out
  rw [ins_grow 2 i n _ _ _ _ (by rw [fm_len ent_len, ← HLN.out]) (by rw [Array.length_toList, size_zeroCells]; rfl) (ent_len x) (by rw [fm_len ent_len, List.length_drop, ← HLN.out]) hin] at h3
  rw [fm_ins2]
  exact h3

theorem ov2 {w : World} {B g n c gv : Nat} {L : List Value} {x : (ByteArray × Int)} (hown : w.ownsRow B 81 2 (.slice (some ⟨g, 0, none⟩) n c) n L) (hn : 0 < n) (hv : Box2 w gv x) (hne : gv ≠ g) (off lb cb : Nat) :
    (callFunc 119 #[.slice (some ⟨gv, 0, none⟩) 1 1, .slice (some ⟨g, off, none⟩) lb cb]).run Try.prog w = .ok (.value (.bool false)) w := by
  rcases hown.2 with ⟨h', _⟩ | ⟨g', cap, cur, h', hb, hg, hnc, hcm, hcs, htake⟩
  · simp at h'
  · simp only [Value.slice.injEq, Option.some.injEq, Addr.mk.injEq, and_true, true_and] at h'
    obtain ⟨rfl, rfl⟩ := h'
    unfold Box2  at hv
    rw [run_callFunc_extern Try.func119 (by kernel_rfl) (by kernel_rfl) (by kernel_rfl) (e := Extern.SlicesOverlaps.overlaps #[39, 39] #[4]) (by kernel_rfl),
      Lib.run_overlaps_apart w 39 4 81 Try.underlying39 2 Try.sizeOf81 ⟨gv, 0, none⟩ ⟨g, off, none⟩ 1 1 lb cb hne 81 81 2 cur.size (by simp [World.shape?, hv]) (by simp [World.shape?, hg]) (by rw [hcs]; have : 1 * 2 ≤ c * 2 := Nat.mul_le_mul_right _ (by omega); omega) (by simp [World.frozen?, hv]) (by simp [World.frozen?, hv])]
    rfl

set_option maxRecDepth 8000 in
set_option maxHeartbeats 2000000 in
theorem insERoom_any (g B n c i gv : Nat) (xs : List (ByteArray × Int)) (x : (ByteArray × Int)) (w : World) (hown : w.ownsRow B 81 2 (.slice (some ⟨g, 0, none⟩) n c) n (xs.flatMap entCells)) (hin : i < n) (hc : n + 1 ≤ c) (hv : Box2 w gv x) (hne : gv ≠ g) :
    Calls Try.prog 112 #[.slice (some ⟨g, 0, none⟩) n c, .int .i64 i, .slice (some ⟨gv, 0, none⟩) 1 1] w fun e w' => ∃ A' c', e = .returned (.slice A' (n + 1) c') ∧ w'.ownsRow B 81 2 (.slice A' (n + 1) c') (n + 1) ((xs.take i ++ x :: xs.drop i).flatMap entCells) ∧ w.grownBy w' (some g) := by
  obtain ⟨i0, hi, hz, hsz, hbz⟩ := info_parts info58
  have HO : Hid (w.ownsRow B 81 2 (.slice (some ⟨g, 0, none⟩) n c) n (xs.flatMap entCells)) := hown
  have HV : Hid (Box2 w gv x) := hv
  have HLN : Hid (n = xs.length) := own_len ent_len (by decide) hown
  have hcm : c ≤ maxLen := by obtain ⟨A1, c1, e1, _, e2⟩ := own_form hown; cases e1; exact e2
  unfold maxLen at hcm
  obtain ⟨J, hJ, hown1⟩ := own_reslice hown hc
  have HO1 : Hid (w.ownsRow B 81 2 (.slice (some ⟨g, 0, none⟩) (n + 1) c) (n + 1) (xs.flatMap entCells ++ J)) := hown1
  have HJ : Hid (J.length = 2) := hJ
  have hov := ov2 hown (by omega) hv hne
  clear hown hv hown1 hJ
  have hni : ¬ c = i := by omega
  have hni2 : ¬ c = i + 1 := by omega
  have hsi : (Try.prog.info? 81).map (·.size) = some 2 := by rw [hi]; simp [hsz]
  have hw1 : IntKind.i64.wrap ((i : Int) + 1) = (i : Int) + 1 := by rw [IntKind.wrap_i64]; omega
  have hb1 : (0 : Int) ≤ (i : Int) + 1 := by omega
  have hb3 : (i : Int) + 1 ≤ (n : Int) + 1 := by omega
  have htn : ((i : Int) + 1).toNat = i + 1 := by omega
  have hb4 : (i : Int) ≤ (n : Int) + 1 := by omega
  go_enter Try.func112, Try.ntmps112
  go_wp2_with (simp only [hov])
  go_region_law (refine step_copy_cells (by rfl) (.tmp 73) (.tmp 76) 39 (by rfl) (World.ownsRow.drew HO1.out) Try.underlying39 hsi ((i + 1) * 2) (i + 1) (n - i) (c - (i + 1)) (by simp [Act.eval, Act.put]) rfl (by omega) ⟨g, i * 2, none⟩ (n + 1 - i) (c - i) (n - i) (by simp [Act.eval, Act.put]) (by simp only [Nat.min_def]; rw [if_neg (by omega)]) ((xs.drop i).flatMap entCells) (by rw [fm_len ent_len, List.length_drop, ← HLN.out]) (own_src2 (World.ownsRow.drew HO.out) i) (own_cells2 _) ?_; intro w2 hown2 hg2; have HO2 : Hid _ := hown2; have HG2 : Hid (w.grownBy w2 (some g)) := (show w.grownBy w2 (some g) from ⟨hg2.os, hg2.tape, hg2.output, hg2.size, hg2.block⟩); clear hown2 hg2)
  have HV2 : Hid (Box2 w2 gv x) := Box2.grownO HV.out HG2.out (by simp only [ne_eq, Option.some.injEq]; exact hne)
  go_wp2_with (refine wpList_copy_cells (by rfl) (.tmp 80) (.tmp 81) 39 (by rfl) HO2.out Try.underlying39 hsi (i * 2) i (n + 1 - i) (c - i) (by rfl) rfl (by omega) ⟨gv, 0, none⟩ 1 1 1 (by rfl) (by simp only [Nat.min_def]; rw [if_pos (by omega)]) (entCells x) (by rfl) (box_src2 HV2.out) (ent_one x) ?_; intro w3 hown3 hg3; have HO3 : Hid _ := hown3; have HG3 : Hid _ := hg3; clear hown3 hg3)
  go_ret
  refine ⟨_, c, rfl, ?_, grown_trans HG2.out HG3.out⟩
  have h3 := HO3.out
  rw [ins_room 2 i n _ _ _ _ (by rw [fm_len ent_len, ← HLN.out]) HJ.out (ent_len x) (by rw [fm_len ent_len, List.length_drop, ← HLN.out]) hin] at h3
  rw [fm_ins2]
  exact h3

/-- one element, wherever -/
theorem insE_any (A : Option Addr) (B n c i gv : Nat) (xs : List (ByteArray × Int)) (x : (ByteArray × Int)) (w : World) (hown : w.ownsRow B 81 2 (.slice A n c) n (xs.flatMap entCells)) (hin : i ≤ n) (hbig : (n + 1) * 24 ≤ 140737488355328) (hB : B ≤ w.heap.size) (hv : Box2 w gv x) (hgv : (Value.slice A n c).ownBlock ≠ some gv) :
    Calls Try.prog 112 #[.slice A n c, .int .i64 i, .slice (some ⟨gv, 0, none⟩) 1 1] w fun e w' => ∃ A' c', e = .returned (.slice A' (n + 1) c') ∧ w'.ownsRow B 81 2 (.slice A' (n + 1) c') (n + 1) ((xs.take i ++ x :: xs.drop i).flatMap entCells) ∧ w.grownBy w' (Value.slice A n c).ownBlock := by
  rcases Nat.lt_or_eq_of_le hin with hlt | heq
  · obtain ⟨g, rfl, _, _⟩ := own_some hown (by omega)
    have hne : gv ≠ g := fun e => hgv (by rw [e]; rfl)
    have hnc : n ≤ c := by obtain ⟨A1, c1, e1, e2, _⟩ := own_form hown; cases e1; exact e2
    rcases Nat.lt_or_eq_of_le hnc with h1 | h1
    · exact insERoom_any g B n c i gv xs x w hown hlt h1 hv hne
    · subst h1
      exact insEGrow_any g B n i gv xs x w hown hlt hbig hB hv
  · subst heq
    have hl := own_len ent_len (by decide) hown
    have e1 : xs.take i = xs := List.take_of_length_le (by omega)
    have e2 : xs.drop i = [] := List.drop_of_length_le (by omega)
    rw [e1, e2]
    exact insEEnd_any A B i c gv xs x w hown hbig hB hv

theorem row_of_box5 {w : World} {s : Nat} {v : NV} (h : Box5 w s v) : Row 5 NV.cells w (some ⟨s, 0, none⟩) 1 [v] := by
  obtain ⟨b0, b1, b2, b3, b4, bf, bz⟩ := h.facts
  refine ⟨rfl, .inr ⟨s, 0, rfl, bz, fun j u hu i c hc => ?_⟩⟩
  cases j with
  | succ j => cases hu
  | zero =>
    cases hu
    match i, hc with
    | 0, hc => cases hc; exact b0
    | 1, hc => cases hc; exact b1
    | 2, hc => cases hc; exact b2
    | 3, hc => cases hc; exact b3
    | 4, hc => cases hc; exact b4
    | i + 5, hc => simp [NV.cells] at hc

theorem box_src5 {w : World} {s : Nat} {v : NV} (h : Box5 w s v) : ∀ j u, (NV.cells v)[j]? = some u → w.cell? ((⟨s, 0, none⟩ : Addr).add j) = some u := by
  intro j u hu
  have h1 := row_of_box5 h
  rcases h1.2 with h' | ⟨b, o, e, _, hc⟩
  · cases h'
  · cases e
    have := hc 0 v rfl j u hu
    rw [Addr.add_lit]
    simpa using this
theorem own_src5 {w : World} {B g n c : Nat} {xs : List NV} (h : w.ownsRow B 41 5 (.slice (some ⟨g, 0, none⟩) n c) n (xs.flatMap NV.cells)) (i : Nat) : ∀ j u, ((xs.drop i).flatMap NV.cells)[j]? = some u → w.cell? ((⟨g, i * 5, none⟩ : Addr).add j) = some u := by
  intro j u hu
  rw [← fm_drop nod_len, List.getElem?_drop] at hu
  have := h.cells (g := g) rfl _ u hu
  rw [Addr.add_lit] at this ⊢
  simpa using this
theorem fm_ins5 (xs : List NV) (i : Nat) (x : NV) : (xs.take i ++ x :: xs.drop i).flatMap NV.cells = (xs.flatMap NV.cells).take (i * 5) ++ (NV.cells x ++ (xs.drop i).flatMap NV.cells) := by
  rw [List.flatMap_append, List.flatMap_cons, fm_take nod_len]
theorem own_cells5 (xs : List NV) : ∀ u ∈ xs.flatMap NV.cells, u.oneCell' = true := by
  intro u hu
  obtain ⟨v, _, hv⟩ := List.mem_flatMap.1 hu
  exact nod_one v u hv

set_option maxHeartbeats 1000000 in
theorem insNEnd_any (A : Option Addr) (B n c gv : Nat) (xs : List NV) (x : NV) (w : World) (hown : w.ownsRow B 41 5 (.slice A n c) n (xs.flatMap NV.cells)) (hbig : (n + 1) * 72 ≤ 140737488355328) (hB : B ≤ w.heap.size) (hv : Box5 w gv x) :
    Calls Try.prog 117 #[.slice A n c, .int .i64 n, .slice (some ⟨gv, 0, none⟩) 1 1] w fun e w' => ∃ A' c', e = .returned (.slice A' (n + 1) c') ∧ w'.ownsRow B 41 5 (.slice A' (n + 1) c') (n + 1) ((xs ++ [x]).flatMap NV.cells) ∧ w.grownBy w' (Value.slice A n c).ownBlock := by
  obtain ⟨i0, hi, hz, hsz, hbz⟩ := info_parts info26
  have HV : Hid (Row 5 NV.cells w (some ⟨gv, 0, none⟩) 1 [x]) := row_of_box5 hv
  have HO : Hid (w.ownsRow B 41 5 (.slice A n c) n (xs.flatMap NV.cells)) := hown
  have hform := hown.2
  clear hv hown
  rcases hform with ⟨hA, rfl⟩ | ⟨g, cap, cur, hA, _, _, hnc, hcm, _⟩
  · cases hA
    go_enter Try.func117, Try.ntmps117
    go_wp2_with (at_builtin; refine wpList_append_row _ (by rfl) (.tmp 23) (.tmp 24) 22 (by rfl) B 41 i0 (.agg #[.int .i64 0, .bool false, .slice none 0 0, .slice none 0 0, .int .i64 0]) 72 Try.underlying22 hi hz hsz hbz rfl (by decide) _ 0 _ (by rfl) HO.out _ 1 1 [x] (by rfl) HV.out nod_len nod_one (by unfold maxLen; omega) (by omega) hB ?_; intro v1 w1 hown1 hg1; obtain ⟨A1, c1, rfl, hA1, hA2⟩ := own_form hown1)
    go_ret
    exact ⟨A1, c1, rfl, by rw [List.flatMap_append]; exact hown1, hg1⟩
  · cases hA
    unfold maxLen at hcm
    rcases Nat.lt_or_eq_of_le hnc with hlt | heq
    · have hne : ¬ c = n := by omega
      go_enter Try.func117, Try.ntmps117
      go_wp2_with (at_builtin; refine wpList_append_row _ (by rfl) (.tmp 23) (.tmp 24) 22 (by rfl) B 41 i0 (.agg #[.int .i64 0, .bool false, .slice none 0 0, .slice none 0 0, .int .i64 0]) 72 Try.underlying22 hi hz hsz hbz rfl (by decide) _ n _ (by rfl) HO.out _ 1 1 [x] (by rfl) HV.out nod_len nod_one (by unfold maxLen; omega) (by omega) hB ?_; intro v1 w1 hown1 hg1; obtain ⟨A1, c1, rfl, hA1, hA2⟩ := own_form hown1)
      go_ret
      exact ⟨A1, c1, rfl, by rw [List.flatMap_append]; exact hown1, hg1⟩
    · subst heq
      go_enter Try.func117, Try.ntmps117
      go_wp2_with (at_builtin; refine wpList_append_row _ (by rfl) (.tmp 23) (.tmp 24) 22 (by rfl) B 41 i0 (.agg #[.int .i64 0, .bool false, .slice none 0 0, .slice none 0 0, .int .i64 0]) 72 Try.underlying22 hi hz hsz hbz rfl (by decide) _ n _ (by rfl) HO.out _ 1 1 [x] (by rfl) HV.out nod_len nod_one (by unfold maxLen; omega) (by omega) hB ?_; intro v1 w1 hown1 hg1; obtain ⟨A1, c1, rfl, hA1, hA2⟩ := own_form hown1)
      go_ret
      exact ⟨A1, c1, rfl, by rw [List.flatMap_append]; exact hown1, hg1⟩

set_option maxRecDepth 8000 in
set_option maxHeartbeats 2000000 in
theorem insNGrow_any (g B n i gv : Nat) (xs : List NV) (x : NV) (w : World) (hown : w.ownsRow B 41 5 (.slice (some ⟨g, 0, none⟩) n n) n (xs.flatMap NV.cells)) (hin : i < n) (hbig : (n + 1) * 72 ≤ 140737488355328) (hB : B ≤ w.heap.size) (hv : Box5 w gv x) :
    Calls Try.prog 117 #[.slice (some ⟨g, 0, none⟩) n n, .int .i64 i, .slice (some ⟨gv, 0, none⟩) 1 1] w fun e w' => ∃ A' c', e = .returned (.slice A' (n + 1) c') ∧ w'.ownsRow B 41 5 (.slice A' (n + 1) c') (n + 1) ((xs.take i ++ x :: xs.drop i).flatMap NV.cells) ∧ w.grownBy w' (some g) := by
  obtain ⟨i0, hi, hz, hsz, hbz⟩ := info_parts info26
  have HO : Hid (w.ownsRow B 41 5 (.slice (some ⟨g, 0, none⟩) n n) n (xs.flatMap NV.cells)) := hown
  have HV : Hid (Box5 w gv x) := hv
  have HLN : Hid (n = xs.length) := own_len nod_len (by decide) hown
  have hgl : g < w.heap.size := (hown.lt g rfl).2
  have hgvl : gv < w.heap.size := lt_of_block hv
  clear hown hv
  have hni : ¬ n = i := by omega
  have hsi : (Try.prog.info? 41).map (·.size) = some 5 := by rw [hi]; simp [hsz]
  go_enter Try.func117, Try.ntmps117
  go_wp2_with (first
    | (at_builtin; refine wpList_append_zeros (by rfl) (.tmp 34) (.tmp 39) 22 3 (by rfl) HO.out i0 (.agg #[.int .i64 0, .bool false, .slice none 0 0, .slice none 0 0, .int .i64 0]) 72 Try.underlying22 Try.underlying3 hi hz hsz hbz rfl (by decide) i (n + 1 - i) _ (by rfl) (by rfl) (by omega) (by omega) (by omega) (by omega) (by rw [show i + (n + 1 - i) = n + 1 by omega]; exact hbig) (by unfold maxLen; omega) hB ?_; intro c1 w1 hown1 hg1 hc1 hc1m; rw [show i + (n + 1 - i) = n + 1 by omega] at hown1 hc1 ⊢; have HO1 : Hid _ := hown1; have HG1 : Hid _ := hg1; clear hown1 hg1; unfold maxLen at hc1m; have HV1 : Hid (Box5 w1 gv x) := HV.out.below (grown_below HG1.out) hgvl; have hni1 : ¬ c1 = i := (by omega); have hni2 : ¬ c1 = i + 1 := (by omega))
    | (refine wpList_copy_cells (by rfl) (.tmp 43) (.tmp 44) 22 (by rfl) HO1.out Try.underlying22 hsi (i * 5) i (n + 1 - i) (c1 - i) (by rfl) rfl (by omega) ⟨gv, 0, none⟩ 1 1 1 (by rfl) (by simp only [Nat.min_def]; rw [if_pos (by omega)]) (NV.cells x) (by rfl) (box_src5 HV1.out) (nod_one x) ?_; intro w2 hown2 hg2; have HO2 : Hid _ := hown2; have HG2 : Hid _ := hg2; clear hown2 hg2))
  have hne : g ≠ w.heap.size := by omega
  have HOg : Hid (w2.ownsRow B 41 5 (.slice (some ⟨g, 0, none⟩) n n) n (xs.flatMap NV.cells)) := (HO.out.kept HG1.out (.inr (by simp [Value.ownBlock]))).kept HG2.out (.inr (by simp only [Value.ownBlock, ne_eq, Option.some.injEq]; exact hne))
  have hw1 : IntKind.i64.wrap ((i : Int) + 1) = (i : Int) + 1 := by rw [IntKind.wrap_i64]; omega
  have hb1 : (0 : Int) ≤ (i : Int) + 1 := by omega
  have hb3 : (i : Int) + 1 ≤ (n : Int) + 1 := by omega
  have htn : ((i : Int) + 1).toNat = i + 1 := by omega
  have hb4 : (i : Int) ≤ (n : Int) := by omega
  go_region_law (refine step_copy_cells (by rfl) (.tmp 50) (.tmp 53) 22 (by rfl) (World.ownsRow.drew HO2.out) Try.underlying22 hsi ((i + 1) * 5) (i + 1) (n - i) (c1 - (i + 1)) (by simp [Act.eval, Act.put]) rfl (by omega) ⟨g, i * 5, none⟩ (n - i) (n - i) (n - i) (by simp [Act.eval, Act.put]) (Nat.min_self _) ((xs.drop i).flatMap NV.cells) (by rw [fm_len nod_len, List.length_drop, ← HLN.out]) (own_src5 (World.ownsRow.drew HOg.out) i) (own_cells5 _) ?_; intro w3 hown3 hg3; have HO3 : Hid _ := hown3; have HG3 : Hid _ := hg3; clear hown3 hg3)
  go_wp2
  go_ret
  refine ⟨_, c1, rfl, ?_, grown_new (grown_new (grown_any HG1.out) HG2.out (Nat.le_refl _)) ⟨HG3.out.os, HG3.out.tape, HG3.out.output, HG3.out.size, HG3.out.block⟩ (Nat.le_refl _)⟩
  have h3 := HO3.out
  rw [ins_grow 5 i n _ _ _ _ (by rw [fm_len nod_len, ← HLN.out]) (by rw [Array.length_toList, size_zeroCells]; rfl) (nod_len x) (by rw [fm_len nod_len, List.length_drop, ← HLN.out]) hin] at h3
  rw [fm_ins5]
  exact h3

theorem ov5 {w : World} {B g n c gv : Nat} {L : List Value} {x : NV} (hown : w.ownsRow B 41 5 (.slice (some ⟨g, 0, none⟩) n c) n L) (hn : 0 < n) (hv : Box5 w gv x) (hne : gv ≠ g) (off lb cb : Nat) :
    (callFunc 121 #[.slice (some ⟨gv, 0, none⟩) 1 1, .slice (some ⟨g, off, none⟩) lb cb]).run Try.prog w = .ok (.value (.bool false)) w := by
  rcases hown.2 with ⟨h', _⟩ | ⟨g', cap, cur, h', hb, hg, hnc, hcm, hcs, htake⟩
  · simp at h'
  · simp only [Value.slice.injEq, Option.some.injEq, Addr.mk.injEq, and_true, true_and] at h'
    obtain ⟨rfl, rfl⟩ := h'
    unfold Box5 Box at hv
    rw [run_callFunc_extern Try.func121 (by kernel_rfl) (by kernel_rfl) (by kernel_rfl) (e := Extern.SlicesOverlaps.overlaps #[22, 22] #[4]) (by kernel_rfl),
      Lib.run_overlaps_apart w 22 4 41 Try.underlying22 5 Try.sizeOf41 ⟨gv, 0, none⟩ ⟨g, off, none⟩ 1 1 lb cb hne 41 41 5 cur.size (by simp [World.shape?, hv]) (by simp [World.shape?, hg]) (by rw [hcs]; have : 1 * 5 ≤ c * 5 := Nat.mul_le_mul_right _ (by omega); omega) (by simp [World.frozen?, hv]) (by simp [World.frozen?, hv])]
    rfl

set_option maxRecDepth 8000 in
set_option maxHeartbeats 2000000 in
theorem insNRoom_any (g B n c i gv : Nat) (xs : List NV) (x : NV) (w : World) (hown : w.ownsRow B 41 5 (.slice (some ⟨g, 0, none⟩) n c) n (xs.flatMap NV.cells)) (hin : i < n) (hc : n + 1 ≤ c) (hv : Box5 w gv x) (hne : gv ≠ g) :
    Calls Try.prog 117 #[.slice (some ⟨g, 0, none⟩) n c, .int .i64 i, .slice (some ⟨gv, 0, none⟩) 1 1] w fun e w' => ∃ A' c', e = .returned (.slice A' (n + 1) c') ∧ w'.ownsRow B 41 5 (.slice A' (n + 1) c') (n + 1) ((xs.take i ++ x :: xs.drop i).flatMap NV.cells) ∧ w.grownBy w' (some g) := by
  obtain ⟨i0, hi, hz, hsz, hbz⟩ := info_parts info26
  have HO : Hid (w.ownsRow B 41 5 (.slice (some ⟨g, 0, none⟩) n c) n (xs.flatMap NV.cells)) := hown
  have HV : Hid (Box5 w gv x) := hv
  have HLN : Hid (n = xs.length) := own_len nod_len (by decide) hown
  have hcm : c ≤ maxLen := by obtain ⟨A1, c1, e1, _, e2⟩ := own_form hown; cases e1; exact e2
  unfold maxLen at hcm
  obtain ⟨J, hJ, hown1⟩ := own_reslice hown hc
  have HO1 : Hid (w.ownsRow B 41 5 (.slice (some ⟨g, 0, none⟩) (n + 1) c) (n + 1) (xs.flatMap NV.cells ++ J)) := hown1
  have HJ : Hid (J.length = 5) := hJ
  have hov := ov5 hown (by omega) hv hne
  clear hown hv hown1 hJ
  have hni : ¬ c = i := by omega
  have hni2 : ¬ c = i + 1 := by omega
  have hsi : (Try.prog.info? 41).map (·.size) = some 5 := by rw [hi]; simp [hsz]
  have hw1 : IntKind.i64.wrap ((i : Int) + 1) = (i : Int) + 1 := by rw [IntKind.wrap_i64]; omega
  have hb1 : (0 : Int) ≤ (i : Int) + 1 := by omega
  have hb3 : (i : Int) + 1 ≤ (n : Int) + 1 := by omega
  have htn : ((i : Int) + 1).toNat = i + 1 := by omega
  have hb4 : (i : Int) ≤ (n : Int) + 1 := by omega
  go_enter Try.func117, Try.ntmps117
  go_wp2_with (simp only [hov])
  go_region_law (refine step_copy_cells (by rfl) (.tmp 73) (.tmp 76) 22 (by rfl) (World.ownsRow.drew HO1.out) Try.underlying22 hsi ((i + 1) * 5) (i + 1) (n - i) (c - (i + 1)) (by simp [Act.eval, Act.put]) rfl (by omega) ⟨g, i * 5, none⟩ (n + 1 - i) (c - i) (n - i) (by simp [Act.eval, Act.put]) (by simp only [Nat.min_def]; rw [if_neg (by omega)]) ((xs.drop i).flatMap NV.cells) (by rw [fm_len nod_len, List.length_drop, ← HLN.out]) (own_src5 (World.ownsRow.drew HO.out) i) (own_cells5 _) ?_; intro w2 hown2 hg2; have HO2 : Hid _ := hown2; have HG2 : Hid (w.grownBy w2 (some g)) := (show w.grownBy w2 (some g) from ⟨hg2.os, hg2.tape, hg2.output, hg2.size, hg2.block⟩); clear hown2 hg2)
  have HV2 : Hid (Box5 w2 gv x) := Box5.grownO HV.out HG2.out (by simp only [ne_eq, Option.some.injEq]; exact hne)
  go_wp2_with (refine wpList_copy_cells (by rfl) (.tmp 80) (.tmp 81) 22 (by rfl) HO2.out Try.underlying22 hsi (i * 5) i (n + 1 - i) (c - i) (by rfl) rfl (by omega) ⟨gv, 0, none⟩ 1 1 1 (by rfl) (by simp only [Nat.min_def]; rw [if_pos (by omega)]) (NV.cells x) (by rfl) (box_src5 HV2.out) (nod_one x) ?_; intro w3 hown3 hg3; have HO3 : Hid _ := hown3; have HG3 : Hid _ := hg3; clear hown3 hg3)
  go_ret
  refine ⟨_, c, rfl, ?_, grown_trans HG2.out HG3.out⟩
  have h3 := HO3.out
  rw [ins_room 5 i n _ _ _ _ (by rw [fm_len nod_len, ← HLN.out]) HJ.out (nod_len x) (by rw [fm_len nod_len, List.length_drop, ← HLN.out]) hin] at h3
  rw [fm_ins5]
  exact h3

/-- one element, wherever -/
theorem insN_any (A : Option Addr) (B n c i gv : Nat) (xs : List NV) (x : NV) (w : World) (hown : w.ownsRow B 41 5 (.slice A n c) n (xs.flatMap NV.cells)) (hin : i ≤ n) (hbig : (n + 1) * 72 ≤ 140737488355328) (hB : B ≤ w.heap.size) (hv : Box5 w gv x) (hgv : (Value.slice A n c).ownBlock ≠ some gv) :
    Calls Try.prog 117 #[.slice A n c, .int .i64 i, .slice (some ⟨gv, 0, none⟩) 1 1] w fun e w' => ∃ A' c', e = .returned (.slice A' (n + 1) c') ∧ w'.ownsRow B 41 5 (.slice A' (n + 1) c') (n + 1) ((xs.take i ++ x :: xs.drop i).flatMap NV.cells) ∧ w.grownBy w' (Value.slice A n c).ownBlock := by
  rcases Nat.lt_or_eq_of_le hin with hlt | heq
  · obtain ⟨g, rfl, _, _⟩ := own_some hown (by omega)
    have hne : gv ≠ g := fun e => hgv (by rw [e]; rfl)
    have hnc : n ≤ c := by obtain ⟨A1, c1, e1, e2, _⟩ := own_form hown; cases e1; exact e2
    rcases Nat.lt_or_eq_of_le hnc with h1 | h1
    · exact insNRoom_any g B n c i gv xs x w hown hlt h1 hv hne
    · subst h1
      exact insNGrow_any g B n i gv xs x w hown hlt hbig hB hv
  · subst heq
    have hl := own_len nod_len (by decide) hown
    have e1 : xs.take i = xs := List.take_of_length_le (by omega)
    have e2 : xs.drop i = [] := List.drop_of_length_le (by omega)
    rw [e1, e2]
    exact insNEnd_any A B i c gv xs x w hown hbig hB hv
end Go.Proofs.Ytjpdoblmdchmkad
/-
  set, Put, Enter.
-/
namespace Go.Proofs.Ytjpdoblmdchmkad
open Go.RowKit

/-- x at i: in the place of what stands there, if that is its own, else ahead of it -/
def setAt {α : Type} (own : Bool) (i : Nat) (x : α) (xs : List α) : List α := if own then xs.set i x else xs.take i ++ x :: xs.drop i

set_option maxHeartbeats 1000000 in
theorem setE_any (A : Option Addr) (B n c i : Nat) (own : Bool) (xs : List (ByteArray × Int)) (x : (ByteArray × Int)) (w : World) (hown : w.ownsRow B 81 2 (.slice A n c) n (xs.flatMap entCells)) (hin : i ≤ n) (ho : own = true → i < n) (hbig : (n + 1) * 24 ≤ 140737488355328) (hB : B ≤ w.heap.size) :
    Calls Try.prog 97 #[.slice A n c, .int .i64 i, .bool own, .agg #[.string x.1, .int .i64 x.2]] w fun e w' => ∃ A' n' c', e = .returned (.slice A' n' c') ∧ n' ≤ n + 1 ∧ w'.ownsRow B 81 2 (.slice A' n' c') n' ((setAt own i x xs).flatMap entCells) ∧ w.grownBy w' (Value.slice A n c).ownBlock := by
  have HO : Hid (w.ownsRow B 81 2 (.slice A n c) n (xs.flatMap entCells)) := hown
  clear hown
  cases own
  · have hbx := (Box2.new w x)
    have hlt : (Value.slice A n c).ownBlock ≠ some (w.heap.size + 1) := fun e => by have := (HO.out.lt _ e).2; omega
    have HLT : Hid ((Value.slice A n c).ownBlock ≠ some (w.heap.size + 1)) := hlt
    clear hbx hlt
    go_enter Try.func97, Try.ntmps97
    go_wp2_with (fail)
    refine (insE_any A B n c i (w.heap.size + 1) xs x _ ((HO.out.alloc _).alloc _) hin hbig (by simp; omega) (by have := Box2.new (w.alloc (.cells #[.string x.1, .int .i64 x.2] 81)) x; simpa using this) HLT.out).mono ?_
    rintro e w1 ⟨A1, c1, rfl, hown1, hg1⟩
    go_wp2
    go_ret
    exact ⟨A1, n + 1, c1, rfl, Nat.le_refl _, hown1, grown_trans (grown_trans (World.grownBy_alloc _ _ _) (World.grownBy_alloc _ _ _)) hg1⟩
  · have hi := ho rfl
    obtain ⟨g, rfl, hBg, hgl⟩ := own_some HO.out (by omega)
    obtain ⟨y, _, c0, c1, hfz, hgz⟩ := own_at2 HO.out hi
    have HP := own_put2 HO.out i hi x
    have HPH : Hid _ := HP
    clear HP
    go_enter Try.func97, Try.ntmps97
    go_wp2
    go_ret
    exact ⟨_, n, c, rfl, by omega, HPH.out.1.alloc _, grown_trans HPH.out.2 (World.grownBy_alloc _ _ _)⟩

set_option maxHeartbeats 1000000 in
theorem setN_any (A : Option Addr) (B n c i : Nat) (own : Bool) (xs : List NV) (x : NV) (w : World) (hown : w.ownsRow B 41 5 (.slice A n c) n (xs.flatMap NV.cells)) (hin : i ≤ n) (ho : own = true → i < n) (hbig : (n + 1) * 72 ≤ 140737488355328) (hB : B ≤ w.heap.size) :
    Calls Try.prog 108 #[.slice A n c, .int .i64 i, .bool own, x.val] w fun e w' => ∃ A' n' c', e = .returned (.slice A' n' c') ∧ n' ≤ n + 1 ∧ w'.ownsRow B 41 5 (.slice A' n' c') n' ((setAt own i x xs).flatMap NV.cells) ∧ w.grownBy w' (Value.slice A n c).ownBlock := by
  have HO : Hid (w.ownsRow B 41 5 (.slice A n c) n (xs.flatMap NV.cells)) := hown
  clear hown
  cases own
  · have hbx := (Box5.new w x)
    have hlt : (Value.slice A n c).ownBlock ≠ some (w.heap.size + 1) := fun e => by have := (HO.out.lt _ e).2; omega
    have HLT : Hid ((Value.slice A n c).ownBlock ≠ some (w.heap.size + 1)) := hlt
    clear hbx hlt
    go_enter Try.func108, Try.ntmps108
    go_wp2_with (fail)
    refine (insN_any A B n c i (w.heap.size + 1) xs x _ ((HO.out.alloc _).alloc _) hin hbig (by simp; omega) (by have := Box5.new (w.alloc (.cells #[.int .i64 x.fid, .bool x.dir, .slice x.dA x.dn x.dc, .slice x.eA x.en x.ec, .int .i64 x.ver] 41)) x; simpa using this) HLT.out).mono ?_
    rintro e w1 ⟨A1, c1, rfl, hown1, hg1⟩
    go_wp2
    go_ret
    exact ⟨A1, n + 1, c1, rfl, Nat.le_refl _, hown1, grown_trans (grown_trans (World.grownBy_alloc _ _ _) (World.grownBy_alloc _ _ _)) hg1⟩
  · have hi := ho rfl
    obtain ⟨g, rfl, hBg, hgl⟩ := own_some HO.out (by omega)
    obtain ⟨y, _, c0, c1, c2, c3, c4, hfz, hgz⟩ := own_at5 HO.out hi
    have HP := own_put5 HO.out i hi x
    have HPH : Hid _ := HP
    clear HP
    go_enter Try.func108, Try.ntmps108
    go_wp2
    go_ret
    exact ⟨_, n, c, rfl, by omega, HPH.out.1.alloc _, grown_trans HPH.out.2 (World.grownBy_alloc _ _ _)⟩

/-- a node, with these entries -/
def withE (x : M.Nd) (es : List (ByteArray × Int)) : M.Nd := { x with ents := es }
theorem setAt_putE {es : List (ByteArray × Int)} {t : ByteArray} {f : Int} {i : Nat} {b : Bool} (hr : M.RsE es) (hm : M.Mid M.ltB (es.map (·.1)) t i i) (hb : b = decide ((es.map (·.1))[i]? = some t)) : setAt b i (t, f) es = M.putE es (t, f) := by
  unfold setAt M.putE M.put
  have hlow := M.mid_low (·.1) es t hr hm
  cases b
  · have hne := of_decide_eq_false hb.symm
    have hhigh := M.mid_high (·.1) es t M.ordB hr hm hne
    simp only [hlow, hhigh]
    rfl
  · have he := of_decide_eq_true hb.symm
    have hhigh := M.mid_high_at (·.1) es t M.ordB hr hm he
    simp only [hlow, hhigh]
    have hi : i < es.length := by
      rcases Nat.lt_or_ge i (es.map (·.1)).length with h1 | h1
      · simpa using h1
      · rw [List.getElem?_eq_none h1] at he; cases he
    rw [if_pos trivial, List.set_eq_take_append_cons_drop, if_pos hi]
theorem setAt_putN {us : List NV} {xs : List M.Nd} {w : World} {B : Nat} {v : NV} {x : M.Nd} {i : Nat} {b : Bool} (ha : All2 (OwnN w B) us xs) (hv : OwnN w B v x) (hr : M.RsN xs) (hm : M.Mid M.ltI (xs.map (·.fid)) x.fid i i) (hb : b = decide ((xs.map (·.fid))[i]? = some x.fid)) : All2 (OwnN w B) (setAt b i v us) (M.putN xs x) := by
  unfold setAt M.putN M.put
  have hlow := M.mid_low (·.fid) xs x.fid hr hm
  cases b
  · have hne := of_decide_eq_false hb.symm
    have hhigh := M.mid_high (·.fid) xs x.fid M.ordI hr hm hne
    simp only [hlow, hhigh]
    exact All2.append (ha.take i) (All2.cons hv (ha.drop i))
  · have he := of_decide_eq_true hb.symm
    have hhigh := M.mid_high_at (·.fid) xs x.fid M.ordI hr hm he
    simp only [hlow, hhigh]
    have hi : i < us.length := by
      rw [ha.1]
      rcases Nat.lt_or_ge i (xs.map (·.fid)).length with h1 | h1
      · simpa using h1
      · rw [List.getElem?_eq_none h1] at he; cases he
    rw [if_pos trivial, List.set_eq_take_append_cons_drop, if_pos hi]
    exact All2.append (ha.take i) (All2.cons hv (ha.drop (i + 1)))

theorem setAt_len {α : Type} (b : Bool) (i : Nat) (x : α) (xs : List α) : (setAt b i x xs).length ≤ xs.length + 1 := by
  unfold setAt
  split
  · rw [List.length_set]; omega
  · rw [List.length_append, List.length_cons, List.length_take, List.length_drop]; omega
theorem setAt_mem {α : Type} {b : Bool} {i : Nat} {x y : α} {xs : List α} (h : y ∈ setAt b i x xs) : y = x ∨ y ∈ xs := by
  unfold setAt at h
  split at h
  · rcases List.mem_or_eq_of_mem_set h with h | h
    · exact .inr h
    · exact .inl h
  · rcases List.mem_append.1 h with h | h
    · exact .inr (List.mem_of_mem_take h)
    · rcases List.mem_cons.1 h with h | h
      · exact .inl h
      · exact .inr (List.mem_of_mem_drop h)
theorem setAt_all2 {α β : Type} {R : α → β → Prop} {us : List α} {xs : List β} {v : α} {x : β} (ha : All2 R us xs) (hv : R v x) (b : Bool) (i : Nat) (hi : b = true → i < us.length) : All2 R (setAt b i v us) (setAt b i x xs) := by
  unfold setAt
  cases b
  · simp only [Bool.false_eq_true, if_false]
    exact All2.append (ha.take i) (All2.cons hv (ha.drop i))
  · simp only [if_true]
    rw [List.set_eq_take_append_cons_drop, if_pos (hi rfl), List.set_eq_take_append_cons_drop, if_pos (by rw [← ha.1]; exact hi rfl)]
    exact All2.append (ha.take i) (All2.cons hv (ha.drop (i + 1)))
theorem setAt_putN' {xs : List M.Nd} {x : M.Nd} {i : Nat} {b : Bool} (hr : M.RsN xs) (hm : M.Mid M.ltI (xs.map (·.fid)) x.fid i i) (hb : b = decide ((xs.map (·.fid))[i]? = some x.fid)) : setAt b i x xs = M.putN xs x := by
  unfold setAt M.putN M.put
  have hlow := M.mid_low (·.fid) xs x.fid hr hm
  cases b
  · have hne := of_decide_eq_false hb.symm
    have hhigh := M.mid_high (·.fid) xs x.fid M.ordI hr hm hne
    simp only [hlow, hhigh]
    rfl
  · have he := of_decide_eq_true hb.symm
    have hhigh := M.mid_high_at (·.fid) xs x.fid M.ordI hr hm he
    simp only [hlow, hhigh]
    have hi : i < xs.length := by
      rcases Nat.lt_or_ge i (xs.map (·.fid)).length with h1 | h1
      · simpa using h1
      · rw [List.getElem?_eq_none h1] at he; cases he
    rw [if_pos trivial, List.set_eq_take_append_cons_drop, if_pos hi]
/-- what comes of a name that is entered; of a list that rises: in its place -/
def Entered (es : List (ByteArray × Int)) (s : ByteArray) (f : Int) (es' : List (ByteArray × Int)) : Prop := es'.length ≤ es.length + 1 ∧ (M.RsE es → es' = M.putE es (s, f))
/-- what comes of a node that is put -/
def Putted (xs : List M.Nd) (x : M.Nd) (ys : List M.Nd) : Prop := (∀ y ∈ ys, y = x ∨ y ∈ xs) ∧ (M.RsN xs → ys = M.putN xs x)

set_option maxHeartbeats 1000000 in
theorem enter_gen (v : NV) (x : M.Nd) (s : ByteArray) (f : Int) (w : World) (hc : Cont w v x) (hs : Small x) (hs1 : (x.ents.length + 1) * 24 ≤ 140737488355328) :
    Calls Try.prog 85 #[v.val, .string s, .int .i64 f] w fun e w' => ∃ (v' : NV) (es : List (ByteArray × Int)), e = .returned v'.val ∧ OwnN w' w.heap.size v' (withE x es) ∧ Entered x.ents s f es ∧ Below w.heap.size w w' := by
  have hB0 : ∀ W : World, W = (w.alloc (.cells #[.int .i64 v.fid, .bool v.dir, .slice v.dA v.dn v.dc, .slice v.eA v.en v.ec, .int .i64 v.ver] 41)).alloc (.cells #[.int .i64 0, .bool false, .slice none 0 0, .slice none 0 0, .int .i64 0] 41) →
      Box W w.heap.size v ∧ Box W (w.heap.size + 1) NV.zero ∧ W.heap.size = w.heap.size + 2 ∧ Below w.heap.size w W := by
    rintro W rfl
    refine ⟨(Box.new w v).alloc _, ?_, by simp, ((Below.refl _ _).alloc (Nat.le_refl _) _).alloc (by simp) _⟩
    have := Box.new0 (w.alloc (.cells #[.int .i64 v.fid, .bool v.dir, .slice v.dA v.dn v.dc, .slice v.eA v.en v.ec, .int .i64 v.ver] 41))
    simpa using this
  have HB0 : Hid _ := hB0
  have HC : Hid (Cont w v x ∧ Small x) := ⟨hc, hs⟩
  have hen : v.en ≤ 140737488355328 := by have := hc.2.2.2.2.1; omega
  clear hB0 hc hs
  go_enter Try.func85, Try.ntmps85
  go_wp2_with (fail)
  obtain ⟨q0, q2, q3, q4⟩ := HB0.out _ rfl
  refine (spot_any v.eA v.en v.ec x.ents s _ (HC.out.1.2.2.2.2.below (Nat.le_refl _) q4) (by omega)).mono ?_
  rintro e w0 ⟨i, b, rfl, hin, hb, hm, hb0⟩
  have hz0 := hb0.size
  rw [q3] at hz0
  have HM : Hid (M.Mid M.ltB (x.ents.map (·.1)) s i i ∧ b = decide ((x.ents.map (·.1))[i]? = some s)) := ⟨hm, hb⟩
  have HX0 : Hid (Box w0 w.heap.size v ∧ Box w0 (w.heap.size + 1) NV.zero ∧ Below w.heap.size w w0) := ⟨q0.below hb0 (by omega), q2.below hb0 (by omega), q4.trans (hb0.mono (by omega))⟩
  clear q0 q2 q3 q4 hb0 HB0 hb hm
  obtain ⟨p0, p1, p2, p3, p4, pf, pz⟩ := HX0.out.1.facts
  go_wp2_with (fail)
  refine (ownNode_any v x _ (HC.out.1.below (Nat.le_refl _) HX0.out.2.2) HC.out.2).mono ?_
  rintro e w1 ⟨v1, rfl, hon, hb1⟩
  have hz1 := hb1.size
  have HX1 : Hid (Box w1 w.heap.size v ∧ Box w1 (w.heap.size + 1) NV.zero ∧ Below w.heap.size w w1) := ⟨HX0.out.1.below hb1 (by omega), HX0.out.2.1.below hb1 (by omega), HX0.out.2.2.trans (hb1.mono (by omega))⟩
  have hon' : OwnN w1 (w.heap.size + 2) v1 x := hon.mono (by omega)
  clear hb1 p0 p1 p2 p3 p4 pf pz hon
  obtain ⟨p0, p1, p2, p3, p4, pf, pz⟩ := HX1.out.1.facts
  have HO2 : Hid (OwnN (put5 w1 w.heap.size 0 v1) (w.heap.size + 2) v1 x) := ⟨hon'.1, hon'.2.1, hon'.2.2.1, put5_own hon'.2.2.2.1 (by omega) _ _, put5_own hon'.2.2.2.2 (by omega) _ _⟩
  have HX2 : Hid (Box (put5 w1 w.heap.size 0 v1) w.heap.size v1 ∧ Box (put5 w1 w.heap.size 0 v1) (w.heap.size + 1) NV.zero ∧ Below w.heap.size w (put5 w1 w.heap.size 0 v1)) :=
    ⟨put5_box HX1.out.1 v1, put5_box_other HX1.out.2.1 (by omega) 0 v1, put5_below HX1.out.2.2 (Nat.le_refl _) _ _⟩
  have hen1 := own_len ent_len (by decide) hon'.2.2.2.2
  have hven := HC.out.1.2.2.2.2.1
  have HI : Hid (i ≤ v1.en ∧ (b = true → i < v1.en) ∧ (v1.en + 1) * 24 ≤ 140737488355328) := by
    refine ⟨by omega, fun hbt => ?_, by omega⟩
    have := HM.out.2
    rw [hbt] at this
    have hk := of_decide_eq_true this.symm
    rw [hen1]
    rcases Nat.lt_or_ge i (x.ents.map (·.1)).length with h1 | h1
    · simpa using h1
    · rw [List.getElem?_eq_none h1] at hk; cases hk
  clear hon' hen1 hven
  go_wp2_with (fail)
  refine (setE_any v1.eA (w.heap.size + 2) v1.en v1.ec i b x.ents (s, f) _ HO2.out.2.2.2.2 HI.out.1 HI.out.2.1 HI.out.2.2 (by simp; omega)).mono ?_
  rintro e w3 ⟨A3, n3, c3, rfl, _, hown3, hg3⟩
  have HE : Hid (Entered x.ents s f (setAt b i (s, f) x.ents)) := ⟨setAt_len _ _ _ _, fun hr => setAt_putE hr HM.out.1 HM.out.2⟩
  have HX3 : Hid (Box w3 w.heap.size v1 ∧ Box w3 (w.heap.size + 1) NV.zero ∧ Below w.heap.size w w3 ∧ w3.ownsRow (w.heap.size + 2) 5 1 (.slice v1.dA v1.dn v1.dc) v1.dn (x.data.flatMap byteCells1)) :=
    ⟨HX2.out.1.grown hg3 (Ne.symm (own_ge HO2.out.2.2.2.2 (by omega))), HX2.out.2.1.grown hg3 (Ne.symm (own_ge HO2.out.2.2.2.2 (by omega))), Below.grown HX2.out.2.2 hg3 HX2.out.2.2.size (fun k hk => by have := (HO2.out.2.2.2.2.lt k hk).1; omega), own_grown HO2.out.2.2.2.1 HO2.out.2.2.2.2 (by decide) hg3⟩
  clear hg3 p0 p1 p2 p3 p4 pf
  obtain ⟨p0, p1, p2, p3, p4, pf, pz3⟩ := HX3.out.1.facts
  obtain ⟨z0, z1, z2, z3, z4, zf, zz3⟩ := HX3.out.2.1.facts
  go_wp2
  have hbr := put5_below (HX3.out.2.2.1.setCell (p := ⟨w.heap.size, 3, none⟩) (Nat.le_refl _) (.slice A3 n3 c3)) (s := w.heap.size + 1) (by omega) 0 ⟨v1.fid, v1.dir, v1.dA, v1.dn, v1.dc, A3, n3, c3, v1.ver⟩
  have hod := put5_own (ownsRow_setCell_below HX3.out.2.2.2 (a := ⟨w.heap.size, 3, none⟩) (by show w.heap.size < _; omega) (.slice A3 n3 c3)) (s := w.heap.size + 1) (by omega) 0 ⟨v1.fid, v1.dir, v1.dA, v1.dn, v1.dc, A3, n3, c3, v1.ver⟩
  have hoe := put5_own (ownsRow_setCell_below hown3 (a := ⟨w.heap.size, 3, none⟩) (by show w.heap.size < _; omega) (.slice A3 n3 c3)) (s := w.heap.size + 1) (by omega) 0 ⟨v1.fid, v1.dir, v1.dA, v1.dn, v1.dc, A3, n3, c3, v1.ver⟩
  exact bodyPost_ret (v := NV.val ⟨v1.fid, v1.dir, v1.dA, v1.dn, v1.dc, A3, n3, c3, v1.ver⟩) (by simp [results, Try.results85, go_sem, z0, z1, z2, z3, z4]) rfl ⟨⟨v1.fid, v1.dir, v1.dA, v1.dn, v1.dc, A3, n3, c3, v1.ver⟩, setAt b i (s, f) x.ents, rfl, ⟨HO2.out.1, HO2.out.2.1, HO2.out.2.2.1, own_mono hod (by omega), own_mono hoe (by omega)⟩, HE.out, hbr⟩

theorem enter_any (v : NV) (x : M.Nd) (s : ByteArray) (f : Int) (w : World) (hc : Cont w v x) (hr : M.RsE x.ents) (hs : Small x) (hs1 : (x.ents.length + 1) * 24 ≤ 140737488355328) :
    Calls Try.prog 85 #[v.val, .string s, .int .i64 f] w fun e w' => ∃ v' : NV, e = .returned v'.val ∧ OwnN w' w.heap.size v' (withE x (M.putE x.ents (s, f))) ∧ Below w.heap.size w w' := by
  refine (enter_gen v x s f w hc hs hs1).mono ?_
  rintro e w1 ⟨v', es, rfl, ho, he, hb⟩
  rw [he.2 hr] at ho
  exact ⟨v', rfl, ho, hb⟩

set_option maxHeartbeats 2000000 in
theorem put_gen (A : Option Addr) (n c : Nat) (vs : List NV) (xs : List M.Nd) (v : NV) (x : M.Nd) (w : World) (ht : Tree w A n vs xs) (hn : (n + 1) * 72 ≤ 140737488355328) (hs : ∀ x ∈ xs, Small x) (hc : Cont w v x) (hsx : Small x) :
    Calls Try.prog 95 #[.slice A n c, v.val] w fun e w' => ∃ (B : Option Addr) (m d : Nat) (us : List NV) (ys : List M.Nd), e = .returned (.slice B m d) ∧ m ≤ n + 1 ∧ OwnT w' w.heap.size B m d us ys ∧ Putted xs x ys ∧ Below w.heap.size w w' := by
  have hwa : ∀ W : World, W = w.alloc (.cells #[.int .i64 v.fid, .bool v.dir, .slice v.dA v.dn v.dc, .slice v.eA v.en v.ec, .int .i64 v.ver] 41) → Below w.heap.size w W ∧ Box W w.heap.size v ∧ W.heap.size = w.heap.size + 1 := by
    rintro W rfl
    exact ⟨(Below.refl _ _).alloc (Nat.le_refl _) _, Box.new _ _, by simp⟩
  have HW : Hid _ := hwa
  have HS : Hid ((∀ x ∈ xs, Small x) ∧ Cont w v x ∧ Small x) := ⟨hs, hc, hsx⟩
  have HT : Hid (Tree w A n vs xs) := ht
  clear hwa hs hc hsx ht
  go_enter Try.func95, Try.ntmps95
  go_wp2_with (fail)
  obtain ⟨q0, q1, q2⟩ := HW.out _ rfl
  refine (place_any A n c vs v.fid _ (HT.out.1.below (Nat.le_refl _) q0) (by omega)).mono ?_
  rintro e w1 ⟨i, b, rfl, hin, hb, hm, hb1⟩
  rw [fids HT.out] at hb hm
  have hz1 := hb1.size
  rw [q2] at hz1
  have HM : Hid (M.Mid M.ltI (xs.map (·.fid)) v.fid i i ∧ b = decide ((xs.map (·.fid))[i]? = some v.fid)) := ⟨hm, hb⟩
  have HB1 : Hid (Box w1 w.heap.size v ∧ Below w.heap.size w w1) := ⟨q1.below hb1 (by omega), q0.trans (hb1.mono (by omega))⟩
  clear q0 q1 q2 hb1 hb hm HW
  obtain ⟨p0, p1, p2, p3, p4, pf, pz⟩ := HB1.out.1.facts
  go_wp2_with (fail)
  have hfx : v.fid = x.fid := HS.out.2.1.1
  have HI : Hid (b = true → i < n) := by
    intro hbt
    have := HM.out.2
    rw [hbt] at this
    have hk := of_decide_eq_true this.symm
    rw [HT.out.1.1, HT.out.2.1]
    rcases Nat.lt_or_ge i (xs.map (·.fid)).length with h1 | h1
    · simpa using h1
    · rw [List.getElem?_eq_none h1] at hk; cases hk
  have HFX : Hid (v.fid = x.fid) := hfx
  clear hfx
  go_region_with (first
    | (go_at_call 74; refine (ownNode_any v x _ (HS.out.2.1.below (Nat.le_refl _) hba.2) HS.out.2.2).mono ?_; rintro e wb ⟨v2, rfl, hon, hb2⟩; have HC : Hid (OwnT wb w1.heap.size (some ⟨g, 0, none⟩) n n us xs ∧ OwnN wb w1.heap.size v2 x ∧ Below w.heap.size w wb ∧ w1.heap.size ≤ wb.heap.size) := ⟨hba.1.out.below (Nat.le_refl _) hb2, hon.mono hza, hba.2.trans (hb2.mono (by omega)), Nat.le_trans hza hb2.size⟩; clear hb2 hon)
    | (go_at_call 55; refine (own_any A n c vs xs _ (HT.out.below (Nat.le_refl _) hbb.2) (by omega) HS.out.1).mono ?_; rintro e wb ⟨g, us, rfl, hot, hb2⟩; have HC : Hid (OwnT wb w1.heap.size (some ⟨g, 0, none⟩) n n us xs ∧ OwnN wb w1.heap.size v2 x ∧ Below w.heap.size w wb ∧ w1.heap.size ≤ wb.heap.size) := ⟨hot.mono hza, hbb.1.out.below (Nat.le_refl _) hb2, hbb.2.trans (hb2.mono (by omega)), Nat.le_trans hza hb2.size⟩; clear hb2 hot)
    | (go_at_call 108; refine (setN_any (some ⟨g, 0, none⟩) w1.heap.size n n i b us v2 _ HC.out.1.1 hin HI.out hn HC.out.2.2.2).mono ?_; rintro e w3 ⟨A3, n3, c3, rfl, hn3, hown3, hg3⟩)
    | (go_at_call 55; refine (own_any A n c vs xs w1.drew (HT.out.below (Nat.le_refl _) HB1.out.2.drew) (by omega) HS.out.1).mono ?_; rintro e wa ⟨g, us, rfl, hot, hb2⟩; have hza : w1.heap.size ≤ wa.heap.size := hb2.size; have hba : Hid (OwnT wa w1.heap.size (some ⟨g, 0, none⟩) n n us xs) ∧ Below w.heap.size w wa := ⟨hot, HB1.out.2.drew.trans (hb2.mono (by show w.heap.size ≤ w1.heap.size; omega))⟩; have HBa : Hid (Box wa w.heap.size v) := Box.below (w := w1.drew) HB1.out.1 hb2 pz; clear hb2 hot p0 p1 p2 p3 p4 pf; obtain ⟨p0, p1, p2, p3, p4, pf, pza⟩ := HBa.out.facts)
    | (go_at_call 74; refine (ownNode_any v x w1.drew (HS.out.2.1.below (Nat.le_refl _) HB1.out.2.drew) HS.out.2.2).mono ?_; rintro e wa ⟨v2, rfl, hon, hb2⟩; have hza : w1.heap.size ≤ wa.heap.size := hb2.size; have hbb : Hid (OwnN wa w1.heap.size v2 x) ∧ Below w.heap.size w wa := ⟨hon, HB1.out.2.drew.trans (hb2.mono (by show w.heap.size ≤ w1.heap.size; omega))⟩; clear hb2 hon))
  all_goals
    have hfin : All2 (OwnN w3 w1.heap.size) (setAt b i v2 us) (setAt b i x xs) ∧ Putted xs x (setAt b i x xs) := by
      have hh := HM.out
      rw [HFX.out] at hh
      exact ⟨setAt_all2 (HC.out.1.2.imp fun _ _ h => h.grown26 HC.out.1.1 hg3) (HC.out.2.1.grown26 HC.out.1.1 hg3) b i (fun hb => by have h0 := HI.out hb; have h1 := HC.out.1.2.1; have h2 := HT.out.1.1; have h3 := HT.out.2.1; omega), fun y hy => setAt_mem hy, fun hr => setAt_putN' hr hh.1 hh.2⟩
    have hbf : Below w.heap.size w w3 := Below.grown HC.out.2.2.1 hg3 HC.out.2.2.1.size (fun k hk => by have := (HC.out.1.1.lt k hk).1; omega)
    clear hg3
    go_wp2
    go_ret
    exact ⟨A3, n3, c3, _, _, rfl, hn3, ⟨own_mono hown3 (by omega), hfin.1.imp fun _ _ h => h.mono (by omega)⟩, hfin.2, hbf⟩
theorem put_any (A : Option Addr) (n c : Nat) (vs : List NV) (xs : List M.Nd) (v : NV) (x : M.Nd) (w : World) (ht : Tree w A n vs xs) (hr : M.RsN xs) (hn : (n + 1) * 72 ≤ 140737488355328) (hs : ∀ x ∈ xs, Small x) (hc : Cont w v x) (hsx : Small x) :
    Calls Try.prog 95 #[.slice A n c, v.val] w fun e w' => ∃ (B : Option Addr) (m d : Nat) (us : List NV), e = .returned (.slice B m d) ∧ m ≤ n + 1 ∧ OwnT w' w.heap.size B m d us (M.putN xs x) ∧ Below w.heap.size w w' := by
  refine (put_gen A n c vs xs v x w ht hn hs hc hsx).mono ?_
  rintro e w1 ⟨B, m, d, us, ys, rfl, hm, ho, hp, hb⟩
  rw [hp.2 hr] at ho
  exact ⟨B, m, d, us, rfl, hm, ho, hb⟩
end Go.Proofs.Ytjpdoblmdchmkad
/-
  EQUAL BYTES, EQUAL ENTRIES: bytes.Equal, slices.Equal.
-/
namespace Go.Proofs.Ytjpdoblmdchmkad
open Go.RowKit

end Go.Proofs.Ytjpdoblmdchmkad
/-
  Same: trees alike in all but their versions.
-/
namespace Go.Proofs.Ytjpdoblmdchmkad
open Go.RowKit

end Go.Proofs.Ytjpdoblmdchmkad
/-
  New, step, Walk.
-/
namespace Go.Proofs.Ytjpdoblmdchmkad
open Go.RowKit

namespace M
def stepS (xs : List Nd) (a : Int) (s : ByteArray) : Int × Int :=
  match find xs a with
  | none => (0, 12)
  | some x => if x.dir then (match look x.ents s with
    | none => (0, 6)
    | some e => (e.2, 0)) else (0, 8)
def walkS (xs : List Nd) : Int → List ByteArray → Int × Int
  | a, [] => (a, 0)
  | a, s :: l => if (stepS xs a s).2 = 0 then walkS xs (stepS xs a s).1 l else (0, (stepS xs a s).2)
theorem step_none {xs : List Nd} {a : Int} {s : ByteArray} (h : find xs a = none) : stepS xs a s = (0, 12) := by unfold stepS; rw [h]
theorem step_file {xs : List Nd} {a : Int} {s : ByteArray} {x : Nd} (h : find xs a = some x) (hd : x.dir = false) : stepS xs a s = (0, 8) := by unfold stepS; rw [h]; simp [hd]
theorem step_no {xs : List Nd} {a : Int} {s : ByteArray} {x : Nd} (h : find xs a = some x) (hd : x.dir = true) (hl : look x.ents s = none) : stepS xs a s = (0, 6) := by unfold stepS; rw [h]; simp [hd, hl]
theorem step_yes {xs : List Nd} {a : Int} {s : ByteArray} {x : Nd} {e : ByteArray × Int} (h : find xs a = some x) (hd : x.dir = true) (hl : look x.ents s = some e) : stepS xs a s = (e.2, 0) := by unfold stepS; rw [h]; simp [hd, hl]
end M


theorem Strs.at {w : World} {A : Option Addr} {n : Nat} {vs : List ByteArray} (h : Strs w A n vs) {j : Nat} (hj : j < n) :
    ∃ b o v, A = some ⟨b, o, none⟩ ∧ b < w.heap.size ∧ vs[j]? = some v ∧ w.cell? ⟨b, o + j, none⟩ = some (.string v) := by
  obtain ⟨b, o, v, e, hlt, hv, hc⟩ := Row.at h hj
  exact ⟨b, o, v, e, hlt, hv, by have := hc 0 _ rfl; simpa using this⟩

/-- the root alone -/
def root0 : List M.Nd := [⟨0, true, [], [], 0⟩]
theorem new_any (w : World) : Calls Try.prog 40 #[] w fun e w' => ∃ (g : Nat) (vs : List NV), e = .returned (.slice (some ⟨g, 0, none⟩) 1 1) ∧ OwnT w' w.heap.size (some ⟨g, 0, none⟩) 1 1 vs root0 ∧ Below w.heap.size w w' := by
  go_enter Try.func40, Try.ntmps40
  go_wp2
  go_ret
  refine ⟨_, [⟨0, true, none, 0, 0, none, 0, 0, 0⟩], rfl, ⟨World.ownsRow_lit w #[.int .i64 0, .bool true, .slice none 0 0, .slice none 0 0, .int .i64 0] 1 (Nat.le_refl _) (by decide) rfl, All2.one ⟨rfl, rfl, rfl, World.ownsRow_nil _ _ _ _, World.ownsRow_nil _ _ _ _⟩⟩, (Below.refl _ _).alloc (Nat.le_refl _) _⟩
end Go.Proofs.Ytjpdoblmdchmkad
/-
  THE REFERENCE's SameNode, Same, Rises.
-/
namespace Go.Proofs.Ytjpdoblmdchmkad
open Go.RowKit

/-- the same, and of the same version, if that is asked -/
def sameNd (vb : Bool) (x y : M.Nd) : Bool := alike x y && (!vb || decide (x.ver = y.ver))
theorem same_self (vb : Bool) (x : M.Nd) : sameNd vb x x = true := by simp [sameNd, alike]

/-- two boxes -/
theorem two_boxes (w : World) (v u : NV) (W : World) (hW : W = (w.alloc (.cells #[.int .i64 v.fid, .bool v.dir, .slice v.dA v.dn v.dc, .slice v.eA v.en v.ec, .int .i64 v.ver] 41)).alloc (.cells #[.int .i64 u.fid, .bool u.dir, .slice u.dA u.dn u.dc, .slice u.eA u.en u.ec, .int .i64 u.ver] 41)) :
    Box W w.heap.size v ∧ Box W (w.heap.size + 1) u ∧ Below w.heap.size w W := by
  subst hW
  refine ⟨(Box.new w v).alloc _, ?_, ((Below.refl _ _).alloc (Nat.le_refl _) _).alloc (by simp) _⟩
  have := Box.new (w.alloc (.cells #[.int .i64 v.fid, .bool v.dir, .slice v.dA v.dn v.dc, .slice v.eA v.en v.ec, .int .i64 v.ver] 41)) u
  simpa using this

set_option maxHeartbeats 2000000 in
theorem sameNode_any (v u : NV) (x y : M.Nd) (vb : Bool) (w : World) (hx : Cont w v x) (hy : Cont w u y) (sx : Small x) (sy : Small y) :
    Calls Try.prog 44 #[v.val, u.val, .bool vb] w fun e w' => e = .returned (.bool (sameNd vb x y)) ∧ Below w.heap.size w w' := by
  have HW : Hid _ := two_boxes w v u
  have hwa : Below w.heap.size w ((w.alloc (.cells #[.int .i64 v.fid, .bool v.dir, .slice v.dA v.dn v.dc, .slice v.eA v.en v.ec, .int .i64 v.ver] 41)).alloc (.cells #[.int .i64 u.fid, .bool u.dir, .slice u.dA u.dn u.dc, .slice u.eA u.en u.ec, .int .i64 u.ver] 41)) := (two_boxes w v u _ rfl).2.2
  have HX : Hid (Cont w v x ∧ Small x) := ⟨hx, sx⟩
  have HY : Hid (Cont w u y ∧ Small y) := ⟨hy, sy⟩
  have d1 := conv_byts (c := v.dc) ((hx.below (Nat.le_refl _) hwa).2.2.2.1)
  have d2 := conv_byts (c := u.dc) ((hy.below (Nat.le_refl _) hwa).2.2.2.1)
  have hvn : v.en ≤ 140737488355328 := by have := sx.2; have := hx.2.2.2.2.1; omega
  have hun : u.en ≤ 140737488355328 := by have := sy.2; have := hy.2.2.2.2.1; omega
  have HF : ∀ b : Bool, Hid ((v.fid = u.fid ∧ v.dir = u.dir ∧ x.data = y.data ∧ x.ents = y.ents ∧ (vb = true → v.ver = u.ver)) ↔ b = true) → Hid (sameNd vb x y = b) := fun b hb => by
    show _ = _
    have hb := hb.out
    rw [hx.1, hx.2.1, hx.2.2.1, hy.1, hy.2.1, hy.2.2.1] at hb
    unfold sameNd alike
    rw [Bool.eq_iff_iff]
    simp only [Bool.and_eq_true, decide_eq_true_eq, Bool.or_eq_true, Bool.not_eq_true']
    rw [← hb]
    constructor
    · rintro ⟨⟨⟨⟨a1, a2⟩, a3⟩, a4⟩, a5⟩
      exact ⟨a1, a2, a3, a4, fun h => a5.elim (fun h' => by rw [h] at h'; cases h') id⟩
    · rintro ⟨a1, a2, a3, a4, a5⟩
      refine ⟨⟨⟨⟨a1, a2⟩, a3⟩, a4⟩, ?_⟩
      cases vb
      · exact .inl rfl
      · exact .inr (a5 rfl)
  have hDT : ((txt x.data).toList == (txt y.data).toList) = decide (x.data = y.data) := by
    rw [raw_eq, decide_eq_decide]; exact txt_inj
  have hlen : v.en = x.ents.length ∧ u.en = y.ents.length := ⟨hx.2.2.2.2.1, hy.2.2.2.2.1⟩
  have HL : Hid (v.en = x.ents.length ∧ u.en = y.ents.length) := hlen
  clear hx hy sx sy hlen
  by_cases h1 : v.fid = u.fid
  case' neg =>
    have q1 : (v.fid == u.fid) = false := by simp [h1]
    have r1 : (v.fid != u.fid) = true := by simp [h1]
    have HR := HF false ⟨fun h => absurd h.1 h1, fun h => by cases h⟩
    clear h1 HF hDT d1 d2
    go_enter Try.func44, Try.ntmps44
    go_wp2
    go_ret
    exact ⟨ret_bool HR.out.symm, hwa⟩
  have q1 : (v.fid == u.fid) = true := by simp [h1]
  have r1 : (v.fid != u.fid) = false := by simp [h1]
  have H1 : Hid (v.fid = u.fid) := h1
  clear h1
  by_cases h2 : v.dir = u.dir
  case' neg =>
    have q2 : (v.dir == u.dir) = false := by simp [h2]
    have r2 : (v.dir != u.dir) = true := by simp [h2]
    have HR := HF false ⟨fun h => absurd h.2.1 h2, fun h => by cases h⟩
    clear h2 HF hDT d1 d2
    go_enter Try.func44, Try.ntmps44
    go_wp2
    go_ret
    exact ⟨ret_bool HR.out.symm, hwa⟩
  have q2 : (v.dir == u.dir) = true := by simp [h2]
  have r2 : (v.dir != u.dir) = false := by simp [h2]
  have H2 : Hid (v.dir = u.dir) := h2
  clear h2
  by_cases h3 : x.data = y.data
  case' neg =>
    have q3 : ((txt x.data).toList == (txt y.data).toList) = false := by rw [hDT]; exact decide_eq_false h3
    have r3 : ((txt x.data).toList != (txt y.data).toList) = true := by rw [bne, q3]; rfl
    have HR := HF false ⟨fun h => absurd h.2.2.1 h3, fun h => by cases h⟩
    clear h3 HF hDT
    go_enter Try.func44, Try.ntmps44
    go_wp2
    go_ret
    exact ⟨ret_bool HR.out.symm, hwa⟩
  have q3 : ((txt x.data).toList == (txt y.data).toList) = true := by rw [hDT]; exact decide_eq_true h3
  have r3 : ((txt x.data).toList != (txt y.data).toList) = false := by rw [bne, q3]; rfl
  have H3 : Hid (x.data = y.data) := h3
  clear h3 hDT
  by_cases h4 : v.en = u.en
  case' neg =>
    have q4 : ((v.en : Int) == (u.en : Int)) = false := by rw [beq_eq_false_iff_ne]; omega
    have r4 : ((v.en : Int) != (u.en : Int)) = true := by rw [bne, q4]; rfl
    have HR := HF false ⟨fun h => absurd (by rw [HL.out.1, HL.out.2, h.2.2.2.1]) h4, fun h => by cases h⟩
    clear h4 HF
    go_enter Try.func44, Try.ntmps44
    go_wp2
    go_ret
    exact ⟨ret_bool HR.out.symm, hwa⟩
  have q4 : ((v.en : Int) == (u.en : Int)) = true := by rw [beq_iff_eq]; omega
  have r4 : ((v.en : Int) != (u.en : Int)) = false := by rw [bne, q4]; rfl
  have H4 : Hid (v.en = u.en) := h4
  clear h4
  by_cases h5 : vb = true → v.ver = u.ver
  case' neg =>
    have hvb : vb = true := by cases vb <;> simp_all
    subst hvb
    have hne : v.ver ≠ u.ver := fun e => h5 fun _ => e
    have q5 : (v.ver == u.ver) = false := by simp [hne]
    have r5 : (v.ver != u.ver) = true := by simp [hne]
    have HR := HF false ⟨fun h => absurd (h.2.2.2.2 rfl) hne, fun h => by cases h⟩
    clear h5 HF hne
    go_enter Try.func44, Try.ntmps44
    go_wp2
    go_ret
    exact ⟨ret_bool HR.out.symm, hwa⟩
  have HR : Hid (sameNd vb x y = decide (x.ents = y.ents)) := HF _ (by
    show _ ↔ _
    rw [decide_eq_true_eq]
    exact ⟨fun h => h.2.2.2.1, fun h => ⟨H1.out, H2.out, H3.out, h, h5⟩⟩)
  have H5 : Hid (vb = true → v.ver = u.ver) := h5
  have hg := guardEnt
  clear h5 HF
  cases vb
  case' true =>
    have q5 : (v.ver == u.ver) = true := by simp [H5.out rfl]
    have r5 : (v.ver != u.ver) = false := by simp [H5.out rfl]
    go_enter Try.func44, Try.ntmps44
    go_wp2
  case' false =>
    go_enter Try.func44, Try.ntmps44
    go_wp2
  all_goals
    go_loopw [51] (fun i wr => ∃ k : Nat, k ≤ v.en ∧ i = .int .i64 k ∧ x.ents.take k = y.ents.take k ∧ Box wr w.heap.size v ∧ Box wr (w.heap.size + 1) u ∧ Below w.heap.size w wr) (fun i _ => v.en - (intOf i).toNat)
    case atStart =>
      have hb := HW.out _ rfl
      exact ⟨0, Nat.zero_le _, rfl, rfl, hb.1, hb.2.1, hb.2.2⟩
    case round =>
      obtain ⟨k, hk, rfl, heq, hbv, hbu, hbw⟩ := hrel
      have HE : Hid (x.ents.take k = y.ents.take k) := heq
      have HB : Hid (Box wr w.heap.size v ∧ Box wr (w.heap.size + 1) u) := ⟨hbv, hbu⟩
      obtain ⟨p0, p1, p2, p3, p4, pf, pz⟩ := hbv.facts
      obtain ⟨z0, z1, z2, z3, z4, zf, zz⟩ := hbu.facts
      clear heq hbv hbu
      by_cases hlt : k < v.en
      · obtain ⟨g1, o1, a, ha, _, hak, a0, a1⟩ := Ents.at (HX.out.1.2.2.2.2.below (Nat.le_refl _) hbw) hlt
        obtain ⟨g2, o2, b, hb, _, hbk, b0, b1⟩ := Ents.at (HY.out.1.2.2.2.2.below (Nat.le_refl _) hbw) (show k < u.en by have := H4.out; omega)
        have hkn : (k : Int) < (v.en : Int) := by omega
        have hku : (k : Int) < (u.en : Int) := by have := H4.out; omega
        have hk0 : (0 : Int) ≤ (k : Int) := by omega
        rw [ha] at p3
        rw [hb] at z3
        have HA : Hid (x.ents[k]? = some a ∧ y.ents[k]? = some b) := ⟨hak, hbk⟩
        have hq := neqEnt a b
        clear hak hbk ha hb p0 p1 p2 p4 z0 z1 z2 z4
        by_cases hab : a = b
        · have hd : decide (a = b) = true := decide_eq_true hab
          rw [hd] at hq
          have HAB : Hid (a = b) := hab
          clear hab hd
          go_wp2
          go_quiet (fail)
          go_wp2
          go_roundw
          case rel => exact ⟨k + 1, by omega, by go_num, by rw [take_step HA.out.1, take_step HA.out.2, HE.out, HAB.out], HB.out.1, HB.out.2, below_drewN hbw _⟩
          case measure => simp [intOf]; omega
        · have hd : decide (a = b) = false := decide_eq_false hab
          rw [hd] at hq
          have HN : Hid (a ≠ b) := hab
          clear hab hd
          go_wp2
          go_quiet (fail)
          go_wp2
          go_ret
          exact ⟨ret_bool (by rw [HR.out, decide_eq_false (ne_of_at HA.out.1 HA.out.2 HN.out)]), below_drewN hbw _⟩
      · have HN : Hid (x.ents.length ≤ k ∧ y.ents.length ≤ k) := by
          have := HL.out
          have := H4.out
          show _ ∧ _
          omega
        go_wp2
        go_ret
        exact ⟨ret_bool (by
          have e := HE.out
          rw [List.take_of_length_le HN.out.1, List.take_of_length_le HN.out.2] at e
          rw [HR.out, decide_eq_true e]), hbw⟩
end Go.Proofs.Ytjpdoblmdchmkad
