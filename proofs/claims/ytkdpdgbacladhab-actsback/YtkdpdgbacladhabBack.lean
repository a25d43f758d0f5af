/-
  THE LAW ActsBack, walked: of any tree, directory, name and fid it answers true, and all that was there stays.
-/
import Derived.Test.YtkdpdgbacladhabAlive3
import Derived.Test.YtkdpdgbacladhabMathf
namespace Go.Proofs.Ytkdpdgbacladhab
open Go.RowKit

theorem ownN_set {w : World} {B : Nat} {v : NV} {x : M.Nd} (h : OwnN w B v x) {s : Nat} (hs : s < B) (o : Nat) (u : Value) : OwnN (w.setCell ⟨s, o, none⟩ u) B v x :=
  ⟨h.1, h.2.1, h.2.2.1, ownsRow_setCell_below h.2.2.2.1 (a := ⟨s, o, none⟩) hs u, ownsRow_setCell_below h.2.2.2.2 (a := ⟨s, o, none⟩) hs u⟩
theorem ownT_set {w : World} {B : Nat} {A : Option Addr} {n c : Nat} {vs : List NV} {xs : List M.Nd} (h : OwnT w B A n c vs xs) {s : Nat} (hs : s < B) (o : Nat) (u : Value) : OwnT (w.setCell ⟨s, o, none⟩ u) B A n c vs xs :=
  ⟨ownsRow_setCell_below h.1 (a := ⟨s, o, none⟩) hs u, h.2.imp fun _ _ h => ownN_set h hs o u⟩

set_option maxRecDepth 4000 in
set_option maxHeartbeats 4000000 in
theorem back_any (A : Option Addr) (n c : Nat) (vs : List NV) (xs : List M.Nd) (dir fid : Int) (name : ByteArray) (isDir : Bool) (w : World) (ht : Tree w A n vs xs) (hn : (n + 4) * 72 ≤ 140737488355328) (hs : ∀ x ∈ xs, Small x) (hnm : name.size ≤ maxLen) :
    Calls Try.prog 3 #[.slice A n c, .int .i64 dir, .string name, .int .i64 fid, .bool isDir] w fun e w' => e = .returned (.bool true) ∧ Below w.heap.size w w' := by
  have HT : Hid (Tree w A n vs xs ∧ (∀ x ∈ xs, Small x) ∧ name.size ≤ maxLen) := ⟨ht, hs, hnm⟩
  clear ht hs hnm
  cases isDir
  · go_enter Try.func3, Try.ntmps3
    go_wp2_with (fail)
    refine (alive3_any _).mono ?_
    rintro e w1 ⟨rfl, hb1⟩
    have HB1 : Hid (Below w.heap.size w w1) := hb1
    clear hb1
    go_wp2_with (fail)
    obtain ⟨q1, q2, q3⟩ := boxA_start w1 ⟨1, fid, dir, name, 0, ⟨#[]⟩, none, 0, 0⟩ _ rfl
    refine (apply_any A n c vs xs ⟨1, fid, dir, name, 0, ⟨#[]⟩, none, 0, 0⟩ ⟨1, fid, dir, name, 0, ⟨#[]⟩, []⟩ 7 _ (HT.out.1.below (Nat.le_refl _) (HB1.out.trans (q1.mono HB1.out.size))) (by omega) HT.out.2.1 ⟨rfl, rfl, rfl, rfl, rfl, rfl, ⟨rfl, .inl rfl⟩⟩ ⟨HT.out.2.2, Nat.zero_le _, by simp⟩).mono ?_
    rintro e w2 ⟨B2, m2, d2, r, rfl, hap, hb2⟩
    have hz2 := hb2.size
    rw [q3] at hz2
    have hb12 := q1.trans (hb2.mono (by rw [q3]; omega))
    have HB2 : Hid (Below w.heap.size w w2 ∧ BoxA w2 w1.heap.size ⟨1, fid, dir, name, 0, ⟨#[]⟩, none, 0, 0⟩) := ⟨HB1.out.trans (hb12.mono HB1.out.size), q2.below hb2 (by rw [q3]; omega)⟩
    have HAP : Hid (M.Rise xs → r = (M.bringS xs ⟨1, fid, dir, name, 0, ⟨#[]⟩, []⟩ 7).1 ∧ ∃ us, OwnT w2 (w1.heap.size + 1) B2 m2 d2 us (M.bringS xs ⟨1, fid, dir, name, 0, ⟨#[]⟩, []⟩ 7).2) := by rw [q3] at hap; exact hap
    clear q1 q2 q3 hap hb2 hb12
    by_cases hr0 : r = 0
    case' neg =>
      have r0 : (r == 0) = false := by simp [hr0]
      have r1 : (r != 0) = true := by simp [hr0]
      clear hr0
      go_wp2
      go_ret
      exact ⟨rfl, HB2.out.1⟩
    subst hr0
    go_wp2_with (fail)
    refine (rises_any A n c vs xs _ (HT.out.1.below (Nat.le_refl _) HB2.out.1) (by omega) HT.out.2.1).mono ?_
    rintro e w3 ⟨rfl, hb3⟩
    have hz3 := hb3.size
    have HB3 : Hid (Below w.heap.size w w3 ∧ BoxA w3 w1.heap.size ⟨1, fid, dir, name, 0, ⟨#[]⟩, none, 0, 0⟩) := ⟨HB2.out.1.trans (hb3.mono HB2.out.1.size), HB2.out.2.below hb3 (lt_of_block HB2.out.2)⟩
    cases hrb : riseB xs
    case' false =>
      clear hb3
      go_wp2
      go_ret
      exact ⟨rfl, HB3.out.1⟩
    have HR : Hid (M.Rise xs) := riseB_iff.1 hrb
    obtain ⟨e0, us2, ho2⟩ := HAP.out HR.out
    have HG : Hid (Good xs) := ⟨HR.out, HT.out.2.1, by have h1 := HT.out.1.1.1; have h2 := HT.out.1.2.1; omega⟩
    have HG2 : Hid (Good (M.bringS xs ⟨1, fid, dir, name, 0, ⟨#[]⟩, []⟩ 7).2) := good_bring HG.out _ _
    have HBK : Hid _ := back HR.out (ac := ⟨1, fid, dir, name, 0, ⟨#[]⟩, []⟩) (rc := ⟨4, fid, dir, name, 0, ⟨#[]⟩, []⟩) (v := 7) (u := 8) e0.symm rfl rfl rfl
    have ho3 := ho2.below (Nat.le_refl _) hb3
    have hm2 : m2 = (M.bringS xs ⟨1, fid, dir, name, 0, ⟨#[]⟩, []⟩ 7).2.length := by rw [ho2.tree.1.1, ho2.tree.2.1]
    have HO3 : Hid (OwnT (w3.setCell ⟨w1.heap.size, 0, none⟩ (.int .i64 4)) (w1.heap.size + 1) B2 m2 d2 us2 (M.bringS xs ⟨1, fid, dir, name, 0, ⟨#[]⟩, []⟩ 7).2) := ownT_set ho3 (Nat.lt_succ_self _) _ _
    have HM : Hid ((m2 + 2) * 72 ≤ 140737488355328) := by show _ ≤ _; rw [hm2]; exact HG2.out.2.2
    obtain ⟨a0, a1, a2, a3, a4, a5, a6, af, az⟩ := HB3.out.2.facts
    clear hrb e0 ho2 ho3 hm2 hb3
    go_wp2_with (fail)
    have hbw : Below w.heap.size w (w3.setCell ⟨w1.heap.size, 0, none⟩ (.int .i64 4)) := HB3.out.1.setCell (p := ⟨w1.heap.size, 0, none⟩) HB1.out.size _
    refine (apply_any B2 m2 d2 us2 _ ⟨4, fid, dir, name, 0, ⟨#[]⟩, none, 0, 0⟩ ⟨4, fid, dir, name, 0, ⟨#[]⟩, []⟩ 8 _ HO3.out.tree HM.out HG2.out.2.1 ⟨rfl, rfl, rfl, rfl, rfl, rfl, ⟨rfl, .inl rfl⟩⟩ ⟨HT.out.2.2, Nat.zero_le _, by simp⟩).mono ?_
    rintro e w4 ⟨B4, m4, d4, r, rfl, hap, hb4⟩
    obtain ⟨hr4, us4, ho4⟩ := hap HG2.out.1
    have hr4' : r = 0 := by rw [hr4]; exact HBK.out.1
    have HG4 : Hid (Good (M.removeS (M.bringS xs ⟨1, fid, dir, name, 0, ⟨#[]⟩, []⟩ 7).2 ⟨4, fid, dir, name, 0, ⟨#[]⟩, []⟩ 8).2) := good_remove HG2.out _ _
    have H4 : Hid (Tree w4 B4 m4 us4 (M.removeS (M.bringS xs ⟨1, fid, dir, name, 0, ⟨#[]⟩, []⟩ 7).2 ⟨4, fid, dir, name, 0, ⟨#[]⟩, []⟩ 8).2 ∧ Below w.heap.size w w4) := ⟨ho4.tree, hbw.trans (hb4.mono (by have h := hbw.size; exact h))⟩
    have hm4 : m4 * 72 ≤ 140737488355328 := by have h1 := H4.out.1.1.1; have h2 := H4.out.1.2.1; have h3 := HG4.out.2.2; omega
    clear hap hr4 ho4 hb4 hbw a0 a1 a2 a3 a4 a5 a6 af
    subst hr4'
    go_wp2_with (fail)
    refine (refSame_any B4 A m4 n d4 c us4 vs _ xs false _ H4.out.1 (HT.out.1.below (Nat.le_refl _) H4.out.2) hm4 (by omega) HG4.out.2.1 HT.out.2.1).mono ?_
    rintro e w5 ⟨rfl, hb5⟩
    rw [HBK.out.2]
    have H5 : Hid (Below w.heap.size w w5) := H4.out.2.trans (hb5.mono H4.out.2.size)
    clear hb5
    go_wp2
    go_ret
    exact ⟨rfl, H5.out⟩
  · go_enter Try.func3, Try.ntmps3
    go_wp2_with (fail)
    refine (alive3_any _).mono ?_
    rintro e w1 ⟨rfl, hb1⟩
    have HB1 : Hid (Below w.heap.size w w1) := hb1
    clear hb1
    go_wp2_with (fail)
    obtain ⟨q1, q2, q3⟩ := boxA_start w1 ⟨2, fid, dir, name, 0, ⟨#[]⟩, none, 0, 0⟩ _ rfl
    refine (apply_any A n c vs xs ⟨2, fid, dir, name, 0, ⟨#[]⟩, none, 0, 0⟩ ⟨2, fid, dir, name, 0, ⟨#[]⟩, []⟩ 7 _ (HT.out.1.below (Nat.le_refl _) (HB1.out.trans (q1.mono HB1.out.size))) (by omega) HT.out.2.1 ⟨rfl, rfl, rfl, rfl, rfl, rfl, ⟨rfl, .inl rfl⟩⟩ ⟨HT.out.2.2, Nat.zero_le _, by simp⟩).mono ?_
    rintro e w2 ⟨B2, m2, d2, r, rfl, hap, hb2⟩
    have hz2 := hb2.size
    rw [q3] at hz2
    have hb12 := q1.trans (hb2.mono (by rw [q3]; omega))
    have HB2 : Hid (Below w.heap.size w w2 ∧ BoxA w2 w1.heap.size ⟨2, fid, dir, name, 0, ⟨#[]⟩, none, 0, 0⟩) := ⟨HB1.out.trans (hb12.mono HB1.out.size), q2.below hb2 (by rw [q3]; omega)⟩
    have HAP : Hid (M.Rise xs → r = (M.bringS xs ⟨2, fid, dir, name, 0, ⟨#[]⟩, []⟩ 7).1 ∧ ∃ us, OwnT w2 (w1.heap.size + 1) B2 m2 d2 us (M.bringS xs ⟨2, fid, dir, name, 0, ⟨#[]⟩, []⟩ 7).2) := by rw [q3] at hap; exact hap
    clear q1 q2 q3 hap hb2 hb12
    by_cases hr0 : r = 0
    case' neg =>
      have r0 : (r == 0) = false := by simp [hr0]
      have r1 : (r != 0) = true := by simp [hr0]
      clear hr0
      go_wp2
      go_ret
      exact ⟨rfl, HB2.out.1⟩
    subst hr0
    go_wp2_with (fail)
    refine (rises_any A n c vs xs _ (HT.out.1.below (Nat.le_refl _) HB2.out.1) (by omega) HT.out.2.1).mono ?_
    rintro e w3 ⟨rfl, hb3⟩
    have hz3 := hb3.size
    have HB3 : Hid (Below w.heap.size w w3 ∧ BoxA w3 w1.heap.size ⟨2, fid, dir, name, 0, ⟨#[]⟩, none, 0, 0⟩) := ⟨HB2.out.1.trans (hb3.mono HB2.out.1.size), HB2.out.2.below hb3 (lt_of_block HB2.out.2)⟩
    cases hrb : riseB xs
    case' false =>
      clear hb3
      go_wp2
      go_ret
      exact ⟨rfl, HB3.out.1⟩
    have HR : Hid (M.Rise xs) := riseB_iff.1 hrb
    obtain ⟨e0, us2, ho2⟩ := HAP.out HR.out
    have HG : Hid (Good xs) := ⟨HR.out, HT.out.2.1, by have h1 := HT.out.1.1.1; have h2 := HT.out.1.2.1; omega⟩
    have HG2 : Hid (Good (M.bringS xs ⟨2, fid, dir, name, 0, ⟨#[]⟩, []⟩ 7).2) := good_bring HG.out _ _
    have HBK : Hid _ := back HR.out (ac := ⟨2, fid, dir, name, 0, ⟨#[]⟩, []⟩) (rc := ⟨4, fid, dir, name, 0, ⟨#[]⟩, []⟩) (v := 7) (u := 8) e0.symm rfl rfl rfl
    have ho3 := ho2.below (Nat.le_refl _) hb3
    have hm2 : m2 = (M.bringS xs ⟨2, fid, dir, name, 0, ⟨#[]⟩, []⟩ 7).2.length := by rw [ho2.tree.1.1, ho2.tree.2.1]
    have HO3 : Hid (OwnT (w3.setCell ⟨w1.heap.size, 0, none⟩ (.int .i64 4)) (w1.heap.size + 1) B2 m2 d2 us2 (M.bringS xs ⟨2, fid, dir, name, 0, ⟨#[]⟩, []⟩ 7).2) := ownT_set ho3 (Nat.lt_succ_self _) _ _
    have HM : Hid ((m2 + 2) * 72 ≤ 140737488355328) := by show _ ≤ _; rw [hm2]; exact HG2.out.2.2
    obtain ⟨a0, a1, a2, a3, a4, a5, a6, af, az⟩ := HB3.out.2.facts
    clear hrb e0 ho2 ho3 hm2 hb3
    go_wp2_with (fail)
    have hbw : Below w.heap.size w (w3.setCell ⟨w1.heap.size, 0, none⟩ (.int .i64 4)) := HB3.out.1.setCell (p := ⟨w1.heap.size, 0, none⟩) HB1.out.size _
    refine (apply_any B2 m2 d2 us2 _ ⟨4, fid, dir, name, 0, ⟨#[]⟩, none, 0, 0⟩ ⟨4, fid, dir, name, 0, ⟨#[]⟩, []⟩ 8 _ HO3.out.tree HM.out HG2.out.2.1 ⟨rfl, rfl, rfl, rfl, rfl, rfl, ⟨rfl, .inl rfl⟩⟩ ⟨HT.out.2.2, Nat.zero_le _, by simp⟩).mono ?_
    rintro e w4 ⟨B4, m4, d4, r, rfl, hap, hb4⟩
    obtain ⟨hr4, us4, ho4⟩ := hap HG2.out.1
    have hr4' : r = 0 := by rw [hr4]; exact HBK.out.1
    have HG4 : Hid (Good (M.removeS (M.bringS xs ⟨2, fid, dir, name, 0, ⟨#[]⟩, []⟩ 7).2 ⟨4, fid, dir, name, 0, ⟨#[]⟩, []⟩ 8).2) := good_remove HG2.out _ _
    have H4 : Hid (Tree w4 B4 m4 us4 (M.removeS (M.bringS xs ⟨2, fid, dir, name, 0, ⟨#[]⟩, []⟩ 7).2 ⟨4, fid, dir, name, 0, ⟨#[]⟩, []⟩ 8).2 ∧ Below w.heap.size w w4) := ⟨ho4.tree, hbw.trans (hb4.mono (by have h := hbw.size; exact h))⟩
    have hm4 : m4 * 72 ≤ 140737488355328 := by have h1 := H4.out.1.1.1; have h2 := H4.out.1.2.1; have h3 := HG4.out.2.2; omega
    clear hap hr4 ho4 hb4 hbw a0 a1 a2 a3 a4 a5 a6 af
    subst hr4'
    go_wp2_with (fail)
    refine (refSame_any B4 A m4 n d4 c us4 vs _ xs false _ H4.out.1 (HT.out.1.below (Nat.le_refl _) H4.out.2) hm4 (by omega) HG4.out.2.1 HT.out.2.1).mono ?_
    rintro e w5 ⟨rfl, hb5⟩
    rw [HBK.out.2]
    have H5 : Hid (Below w.heap.size w w5) := H4.out.2.trans (hb5.mono H4.out.2.size)
    clear hb5
    go_wp2
    go_ret
    exact ⟨rfl, H5.out⟩
end Go.Proofs.Ytkdpdgbacladhab
