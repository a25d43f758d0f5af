/-
  alive: the closed fact of chapter 4's laws.
-/
import Derived.Test.YtlegjdlmcphhlabLogj
namespace Go.Proofs.Ytlegjdlmcphhlab
open Go.RowKit

def tx4 : ByteArray := ⟨#[97]⟩
def rec1 : M.Rec := ⟨⟨1, -1, 0, tx4, 0, ⟨#[]⟩, []⟩, -1, 1⟩
def rec2 : M.Rec := ⟨⟨4, -1, 0, tx4, 0, ⟨#[]⟩, []⟩, -1, 2⟩
theorem add_one : M.addS [] rec1 = (0, [rec1]) := rfl
theorem fids_rec1 : M.fidsS rec1.act = [-1, 0] := by unfold M.fidsS; rfl
theorem add_two : M.addS [rec1] rec2 = (0, []) := by
  have h1 : M.undoB [rec1] rec2.act = true := by decide
  have h2 : M.nameFB rec1.act rec2.act.fid = true := by unfold M.nameFB; rw [fids_rec1]; decide
  unfold M.addS
  rw [h1, if_pos rfl]
  simp [h2]

set_option maxRecDepth 8000 in
set_option maxHeartbeats 4000000 in
theorem alive4_any (w : World) : Calls Try.prog 27 #[] w fun e w' => e = .returned (.bool true) ∧ Below w.heap.size w w' := by
  go_enter Try.func27, Try.ntmps27
  go_wp2_with (fail)
  refine (add_any none 0 0 [] [] ⟨⟨1, -1, 0, tx4, 0, ⟨#[]⟩, none, 0, 0⟩, -1, 1⟩ rec1 _ ⟨⟨rfl, .inl rfl⟩, All2.nil⟩ (by simp) (by decide) (by decide) (by decide) ⟨⟨rfl, rfl, rfl, rfl, rfl, rfl, ⟨rfl, .inl rfl⟩⟩, rfl, rfl⟩ (by decide)).mono ?_
  rintro e w1 ⟨B1, m1, d1, us1, rfl, ho1, hb1⟩
  rw [add_one] at ho1 ⊢
  have hm1 : m1 = 1 := by rw [ho1.tree.len]; rfl
  subst hm1
  obtain ⟨_, _, hf1, hnc1, hcm1⟩ := own_form ho1.1
  cases hf1
  have H1 : Hid (TreeR w1 B1 1 us1 [rec1] ∧ Below w.heap.size w w1) := ⟨ho1.tree, hb1⟩
  clear ho1 hb1
  go_wp2_with (fail)
  refine (add_any B1 1 d1 us1 [rec1] ⟨⟨4, -1, 0, tx4, 0, ⟨#[]⟩, none, 0, 0⟩, -1, 2⟩ rec2 _ H1.out.1 (by simp [rec1]) (by decide) hnc1 hcm1 ⟨⟨rfl, rfl, rfl, rfl, rfl, rfl, ⟨rfl, .inl rfl⟩⟩, rfl, rfl⟩ (by decide)).mono ?_
  rintro e w2 ⟨B2, m2, d2, us2, rfl, ho2, hb2⟩
  rw [add_two] at ho2 ⊢
  have hm2 : m2 = 0 := by rw [ho2.tree.len]; rfl
  subst hm2
  have H2 : Hid (TreeR w2 B1 1 us1 [rec1] ∧ Below w.heap.size w w2) := ⟨H1.out.1.below (Nat.le_refl _) hb2, H1.out.2.trans (hb2.mono H1.out.2.size)⟩
  clear ho2 hb2 H1
  go_wp2_with (fail)
  refine (renameLog_any B1 1 d1 us1 [rec1] (-1) 9 _ H2.out.1 (by simp [rec1]) (by decide)).mono ?_
  rintro e w3 ⟨B3, d3, us3, rfl, ho3, hb3⟩
  have H3 : Hid (TreeR w3 B1 1 us1 [rec1] ∧ Below w.heap.size w w3) := ⟨H2.out.1.below (Nat.le_refl _) hb3, H2.out.2.trans (hb3.mono H2.out.2.size)⟩
  obtain ⟨g, o, v, rfl, hgb, hvk, c0, c1, c2, c3, c4, c5, c6, c7, c8⟩ := ho3.tree.1.at (j := 0) (by decide)
  have hfid : v.a.fid = 9 := by
    have h1 := (ho3.tree.2.2 0 v (turnR (-1) 9 rec1) hvk rfl).1.2.1
    rw [h1]; rfl
  rw [hfid] at c1
  simp only [Nat.zero_mul, Nat.add_zero] at c0 c1
  clear ho3 hb3 H2 hvk hfid
  go_wp2_with (fail)
  refine (acts_any B1 1 d1 us1 [rec1] _ H3.out.1 (by simp [rec1]) (by decide)).mono ?_
  rintro e w4 ⟨B4, m4, d4, us4, rfl, ho4, hb4⟩
  have hm4 : m4 = 1 := by rw [actsLen ho4]; rfl
  subst hm4
  have H4 : Hid (TreeR w4 B1 1 us1 [rec1] ∧ Below w.heap.size w w4) := ⟨H3.out.1.below (Nat.le_refl _) hb4, H3.out.2.trans (hb4.mono H3.out.2.size)⟩
  clear ho4 hb4 H3 c0 c1 c2 c3 c4 c5 c6 c7 c8
  go_wp2_with (fail)
  refine (ownLog_any B1 1 d1 us1 [rec1] _ H4.out.1 (by simp [rec1]) (by decide)).mono ?_
  rintro e w5 ⟨B5, m5, d5, us5, rfl, ho5, hb5⟩
  have hm5 : m5 = 1 := by rw [ho5.tree.len]; rfl
  subst hm5
  have H5 : Hid (TreeR w5 B1 1 us1 [rec1] ∧ Below w.heap.size w w5) := ⟨H4.out.1.below (Nat.le_refl _) hb5, H4.out.2.trans (hb5.mono H4.out.2.size)⟩
  clear ho5 hb5 H4
  obtain ⟨g1, o1, v1, rfl, hgb1, hvk1, c0, c1, c2, c3, c4, c5, c6, c7, c8⟩ := H5.out.1.1.at (j := 0) (by decide)
  have HC : Hid (ContA w5 v1.a rec1.act) := (H5.out.1.2.2 0 v1 rec1 hvk1 rfl).1
  simp only [Nat.zero_mul, Nat.add_zero] at c0 c1 c2 c3 c4 c5 c6
  clear hvk1
  go_wp2_with (fail)
  refine (turn_any v1.a rec1.act (-1) 4 _ HC.out (by decide)).mono ?_
  rintro e w6 ⟨a6, rfl, ho6, hb6⟩
  have hf6 : a6.fid = 4 := by rw [ho6.2.1]; rfl
  have hfl : ∀ W : World, (Instr.field 26 a6.val 1).run Try.prog W = .ok (.int .i64 4) W := fun W => by
    have h : (Instr.field 26 a6.val 1).run Try.prog W = .ok (.int .i64 a6.fid) W := by kernel_rfl
    rw [h, hf6]
  have H6 : Hid (Below w.heap.size w w6) := H5.out.2.trans (hb6.mono H5.out.2.size)
  clear ho6 hb6 H5 hf6 c0 c1 c2 c3 c4 c5 c6 c7 c8 HC
  go_wp2
  go_ret
  exact ⟨rfl, H6.out⟩
end Go.Proofs.Ytlegjdlmcphhlab
