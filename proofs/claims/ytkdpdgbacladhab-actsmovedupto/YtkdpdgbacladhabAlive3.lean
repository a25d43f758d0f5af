/-
  alive: the closed fact of chapter 3's laws.
-/
import Derived.Test.YtkdpdgbacladhabActg
import Derived.Lib.SlBytesConst
namespace Go.Proofs.Ytkdpdgbacladhab
open Go.RowKit

def txA : ByteArray := ⟨#[97]⟩
def rootR : List M.Nd := [⟨0, true, [], [], 0⟩]
def actA : M.Act := ⟨1, 1, 0, txA, 0, ⟨#[]⟩, []⟩
def actQ : M.Act := ⟨3, 1, 0, ⟨#[]⟩, 0, ⟨#[]⟩, [113]⟩
theorem apply_one (v : Int) : M.applyS rootR actA v = (0, [⟨0, true, [], [(txA, 1)], v⟩, ⟨1, false, [], [], v⟩]) := by
  have h1 : M.dirS rootR 0 = (0, ⟨0, true, [], [], 0⟩) := rfl
  have h2 : M.freeS ⟨0, true, [], [], 0⟩ txA = 0 := by decide
  unfold M.applyS
  rw [if_pos (.inl rfl)]
  rw [bring_ok (by rfl) (by exact h2) (by decide) (by decide)]
  rfl
theorem apply_two (v : Int) : M.applyS [⟨0, true, [], [(txA, 1)], v⟩, ⟨1, false, [], [], v⟩] actQ v = (0, [⟨0, true, [], [(txA, 1)], v⟩, ⟨1, false, [113], [], v⟩]) := by
  unfold M.applyS
  rw [if_neg (by decide), if_pos (show actQ.kind = 3 from rfl)]
  rfl
theorem all_two (v : Int) : M.allS rootR [actA, actQ] v = (2, 0, [⟨0, true, [], [(txA, 1)], v⟩, ⟨1, false, [113], [], v⟩]) := by
  rw [all_step (by rw [apply_one]), apply_one, all_step (by rw [apply_two]), apply_two]
  rfl
theorem rise_root : M.Rise rootR := ⟨List.pairwise_singleton _ _, fun x hx => by rw [List.mem_singleton.1 hx]; exact List.Pairwise.nil⟩
theorem good_root : Good rootR := ⟨rise_root, fun x hx => by rw [List.mem_singleton.1 hx]; exact ⟨by simp, by simp⟩, by decide⟩
theorem smallA_A : SmallA actA := ⟨by decide, by decide, by decide⟩
theorem smallA_Q : SmallA actQ := ⟨by decide, by decide, by decide⟩
theorem tree_root (w : World) : ∀ W, W = w.alloc (.cells #[.int .i64 0, .bool true, .slice none 0 0, .slice none 0 0, .int .i64 0] 40) → Tree W (some ⟨w.heap.size, 0, none⟩) 1 [⟨0, true, none, 0, 0, none, 0, 0, 0⟩] rootR ∧ Below w.heap.size w W ∧ W.heap.size = w.heap.size + 1 := by
  rintro W rfl
  have ho : OwnT (w.alloc (.cells #[.int .i64 0, .bool true, .slice none 0 0, .slice none 0 0, .int .i64 0] 40)) w.heap.size (some ⟨w.heap.size, 0, none⟩) 1 1 [⟨0, true, none, 0, 0, none, 0, 0, 0⟩] rootR :=
    ⟨World.ownsRow_lit w #[.int .i64 0, .bool true, .slice none 0 0, .slice none 0 0, .int .i64 0] 1 (Nat.le_refl _) (by decide) rfl, All2.one ⟨rfl, rfl, rfl, World.ownsRow_nil _ _ _ _, World.ownsRow_nil _ _ _ _⟩⟩
  exact ⟨ho.tree, (Below.refl _ _).alloc (Nat.le_refl _) _, by simp⟩

theorem byts_lit (w : World) (u : UInt8) : Byts (w.alloc (.cells #[.int .u8 (u.toNat : Int)] 5 (1, 2))) (some ⟨w.heap.size, 0, none⟩) 1 [u] := by
  refine ⟨rfl, .inr ⟨w.heap.size, 0, rfl, by simp, fun j v hv i c hc => ?_⟩⟩
  cases j with
  | succ j => cases hv
  | zero =>
    cases hv
    cases i with
    | succ i => cases hc
    | zero =>
      cases hc
      have h := heap_alloc_new w (.cells #[.int .u8 (u.toNat : Int)] 5 (1, 2))
      show World.cell? _ ⟨w.heap.size, 0, none⟩ = _
      unfold World.cell?
      rw [h]
      rfl
theorem acts_two (w : World) : ∀ W, W = ((w.alloc (.cells #[.int .i64 0, .bool true, .slice none 0 0, .slice none 0 0, .int .i64 0] 40)).alloc (.cells #[.int .u8 113] 5 (1, 2))).alloc (.cells #[.int .i64 1, .int .i64 1, .int .i64 0, .string ⟨#[97]⟩, .int .i64 0, .string ⟨#[]⟩, .slice none 0 0, .int .i64 3, .int .i64 1, .int .i64 0, .string ⟨#[]⟩, .int .i64 0, .string ⟨#[]⟩, .slice (some ⟨w.heap.size + 1, 0, none⟩) 1 1] 26) →
    Tree W (some ⟨w.heap.size, 0, none⟩) 1 [⟨0, true, none, 0, 0, none, 0, 0, 0⟩] rootR ∧ TreeA W (some ⟨w.heap.size + 1 + 1, 0, none⟩) 2 [⟨1, 1, 0, txA, 0, ⟨#[]⟩, none, 0, 0⟩, ⟨3, 1, 0, ⟨#[]⟩, 0, ⟨#[]⟩, some ⟨w.heap.size + 1, 0, none⟩, 1, 1⟩] [actA, actQ] ∧ Below w.heap.size w W ∧ W.heap.size = w.heap.size + 3 := by
  rintro W rfl
  obtain ⟨q1, q2, q3⟩ := tree_root w _ rfl
  have r2 := (Below.refl (w.alloc (.cells #[.int .i64 0, .bool true, .slice none 0 0, .slice none 0 0, .int .i64 0] 40)).heap.size (w.alloc (.cells #[.int .i64 0, .bool true, .slice none 0 0, .slice none 0 0, .int .i64 0] 40))).alloc (Nat.le_refl _) (.cells #[.int .u8 113] 5 (1, 2))
  have b2 := byts_lit (w.alloc (.cells #[.int .i64 0, .bool true, .slice none 0 0, .slice none 0 0, .int .i64 0] 40)) 113
  generalize hW2 : (w.alloc (.cells #[.int .i64 0, .bool true, .slice none 0 0, .slice none 0 0, .int .i64 0] 40)).alloc (.cells #[.int .u8 113] 5 (1, 2)) = W2 at r2
  have hz2 : W2.heap.size = w.heap.size + 2 := by rw [← hW2]; simp
  have b2' : Byts W2 (some ⟨w.heap.size + 1, 0, none⟩) 1 [113] := by rw [← hW2]; rw [World.size_alloc] at b2; exact b2
  have r3 := (Below.refl W2.heap.size W2).alloc (Nat.le_refl _) (.cells #[.int .i64 1, .int .i64 1, .int .i64 0, .string ⟨#[97]⟩, .int .i64 0, .string ⟨#[]⟩, .slice none 0 0, .int .i64 3, .int .i64 1, .int .i64 0, .string ⟨#[]⟩, .int .i64 0, .string ⟨#[]⟩, .slice (some ⟨w.heap.size + 1, 0, none⟩) 1 1] 26)
  have ho := World.ownsRow_lit (e := 26) (size := 7) (base := W2.heap.size) W2 #[.int .i64 1, .int .i64 1, .int .i64 0, .string ⟨#[97]⟩, .int .i64 0, .string ⟨#[]⟩, .slice none 0 0, .int .i64 3, .int .i64 1, .int .i64 0, .string ⟨#[]⟩, .int .i64 0, .string ⟨#[]⟩, .slice (some ⟨w.heap.size + 1, 0, none⟩) 1 1] 2 (Nat.le_refl _) (by decide) rfl
  have hrow := Row.ofOwn (cs := AV.cells) (vs := [⟨1, 1, 0, txA, 0, ⟨#[]⟩, none, 0, 0⟩, ⟨3, 1, 0, ⟨#[]⟩, 0, ⟨#[]⟩, some ⟨w.heap.size + 1, 0, none⟩, 1, 1⟩]) act_len (by decide) ho
  rw [hz2] at hrow
  refine ⟨(q1.below (Nat.le_refl _) r2).below (Nat.le_refl _) r3, ⟨hrow, All2.cons ⟨rfl, rfl, rfl, rfl, rfl, rfl, ⟨rfl, .inl rfl⟩⟩ (All2.one ⟨rfl, rfl, rfl, rfl, rfl, rfl, b2'.below (Nat.le_refl _) r3⟩)⟩, (q2.trans (r2.mono (by simp))).trans (r3.mono (by omega)), by simp [hz2]⟩
theorem small_two : ∀ a ∈ [actA, actQ], SmallA a := by
  intro a ha
  simp at ha
  rcases ha with rfl | rfl
  · exact smallA_A
  · exact smallA_Q
theorem fieldD (a : AV) (w : World) : (Instr.field 26 a.val 6).run Try.prog w = .ok (.slice a.dA a.dn a.dc) w := by kernel_rfl

set_option maxRecDepth 4000 in
set_option maxHeartbeats 4000000 in
theorem alive3_any (w : World) : Calls Try.prog 6 #[] w fun e w' => e = .returned (.bool true) ∧ Below w.heap.size w w' := by
  have hcs := fun (W : World) => Lib.run_convert_bytes_const (P := Try.prog) W 24 5 #[.int .u8 120] 1 1 Try.underlying24 Try.underlying5
  have hcs2 := fun (W : World) => Lib.run_convert_bytes_const (P := Try.prog) W 24 5 #[.int .u8 113] 1 1 Try.underlying24 Try.underlying5
  go_enter Try.func6, Try.ntmps6
  go_wp2_with (fail)
  obtain ⟨q1, q2, q3⟩ := tree_root w _ rfl
  refine (apply_any (some ⟨w.heap.size, 0, none⟩) 1 1 _ rootR ⟨1, 1, 0, txA, 0, ⟨#[]⟩, none, 0, 0⟩ actA 4 _ q1 (by decide) good_root.2.1 ⟨rfl, rfl, rfl, rfl, rfl, rfl, ⟨rfl, .inl rfl⟩⟩ smallA_A).mono ?_
  rintro e w1 ⟨B1, m1, d1, r1, rfl, h1, hb1⟩
  obtain ⟨rfl, us1, ho1⟩ := h1 rise_root
  rw [apply_one] at ho1 ⊢
  have hm1 : m1 = 2 := by rw [ho1.tree.1.1, ho1.tree.2.1]; rfl
  subst hm1
  have H1 : Hid (Tree w1 B1 2 us1 [⟨0, true, [], [(txA, 1)], 4⟩, ⟨1, false, [], [], 4⟩] ∧ Below w.heap.size w w1) := ⟨ho1.tree, q2.trans (hb1.mono (by rw [q3]; omega))⟩
  clear q1 q2 q3 ho1 hb1 h1
  have hcs3 := hcs2 (w1.alloc (.cells #[.int .i64 0, .bool true, .slice none 0 0, .slice none 0 0, .int .i64 0] 40))
  rw [World.size_alloc] at hcs3
  clear hcs2
  go_wp2_with (fail)
  obtain ⟨q1, q2, q3, q4⟩ := acts_two w1 _ rfl
  refine (all_any (some ⟨w1.heap.size, 0, none⟩) (some ⟨w1.heap.size + 1 + 1, 0, none⟩) 1 1 2 2 _ rootR _ [actA, actQ] 1 _ q1 good_root q2 small_two (by decide)).mono ?_
  rintro e w2 ⟨B2, m2, d2, us2, rfl, ho2, hb2⟩
  rw [all_two] at ho2 ⊢
  have hm2 : m2 = 2 := by rw [ho2.tree.1.1, ho2.tree.2.1]; rfl
  subst hm2
  have hbb := q3.trans (hb2.mono (by rw [q4]; omega))
  have H2 : Hid (Tree w2 B1 2 us1 [⟨0, true, [], [(txA, 1)], 4⟩, ⟨1, false, [], [], 4⟩] ∧ Tree w2 B2 2 us2 [⟨0, true, [], [(txA, 1)], 1⟩, ⟨1, false, [113], [], 1⟩] ∧ Below w.heap.size w w2) := ⟨H1.out.1.below (Nat.le_refl _) hbb, ho2.tree, H1.out.2.trans (hbb.mono H1.out.2.size)⟩
  clear q1 q2 q3 q4 ho2 hb2 hbb H1 hcs3
  obtain ⟨ga, oa, va, rfl, hga, hva, a0, a1, a2, a3, a4⟩ := H2.out.1.1.at (j := 1) (by decide)
  have hver : va.ver = 4 := (H2.out.1.2.2 1 va _ hva rfl).2.2.1
  obtain ⟨gb, ob, vb, rfl, hgb, hvb, b0, b1, b2, b3, b4⟩ := H2.out.2.1.1.at (j := 1) (by decide)
  have hdat := (H2.out.2.1.2.2 1 vb _ hvb rfl).2.2.2.1
  have hcv := conv_byts (c := vb.dc) hdat
  have hxt : ((txt [113]).toList == [113]) = true := by rw [ByteArray.toList_eq]; rfl
  rw [hver] at a4
  simp only [Nat.one_mul] at a0 a1 a2 a3 a4 b0 b1 b2 b3 b4
  clear hva hvb hver hdat
  go_wp2_with (fail)
  refine (fids_any ⟨5, 0, 0, ⟨#[]⟩, 0, ⟨#[]⟩, none, 0, 0⟩ ⟨5, 0, 0, ⟨#[]⟩, 0, ⟨#[]⟩, []⟩ _ ⟨rfl, rfl, rfl, rfl, rfl, rfl, ⟨rfl, .inl rfl⟩⟩).mono ?_
  rintro e w3 ⟨A3, c3, rfl, ho3, hb3⟩
  rw [show (M.fidsS ⟨5, 0, 0, ⟨#[]⟩, 0, ⟨#[]⟩, []⟩).length = 3 from rfl]
  have hwa : Below w3.heap.size w3 (w3.alloc (.cells #[.int .u8 120] 5 (1, 2))) := (Below.refl _ _).alloc (Nat.le_refl _) _
  have hb23 := H2.out.2.2.trans (hb3.mono H2.out.2.2.size)
  have H3 : Hid (Below w.heap.size w (w3.alloc (.cells #[.int .u8 120] 5 (1, 2))) ∧ ContA (w3.alloc (.cells #[.int .u8 120] 5 (1, 2))) ⟨0, 0, 0, ⟨#[]⟩, 0, ⟨#[]⟩, some ⟨w3.heap.size, 0, none⟩, 1, 1⟩ ⟨0, 0, 0, ⟨#[]⟩, 0, ⟨#[]⟩, [120]⟩) := ⟨hb23.trans (hwa.mono hb23.size), rfl, rfl, rfl, rfl, rfl, rfl, byts_lit w3 120⟩
  clear ho3 hb3 hb23 hwa H2 a0 a1 a2 a3 a4 b0 b1 b2 b3 b4 hcv hxt
  go_wp2_with (fail)
  refine (ownAct_any ⟨0, 0, 0, ⟨#[]⟩, 0, ⟨#[]⟩, some ⟨w3.heap.size, 0, none⟩, 1, 1⟩ ⟨0, 0, 0, ⟨#[]⟩, 0, ⟨#[]⟩, [120]⟩ _ H3.out.2 (by decide)).mono ?_
  rintro e w4 ⟨a4, rfl, ho4, hb4⟩
  have hdn : a4.dn = 1 := ho4.cont.2.2.2.2.2.2.1
  have hfl := fieldD a4
  rw [hdn] at hfl
  have H4 : Hid (Below w.heap.size w w4) := H3.out.1.trans (hb4.mono H3.out.1.size)
  clear ho4 hb4 H3 hdn
  go_wp2
  go_ret
  exact ⟨rfl, H4.out⟩
end Go.Proofs.Ytkdpdgbacladhab
