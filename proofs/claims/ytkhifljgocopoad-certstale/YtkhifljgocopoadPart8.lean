/- TEXTS LAID TOGETHER: Actg, Recv, Commonc, Cmath, Ckeep, Certa -/
import Derived.Test.YtkhifljgocopoadPart6
import Derived.Test.YtkhifljgocopoadPart7
/-
  PACKAGE acts: Fids, Own; and the reference's Fids.
-/
namespace Go.Proofs.Ytkhifljgocopoad
open Go.RowKit

/-- what Fids answers -/
def FidsPost (w : World) (ac : M.Act) (e : Ending) (w' : World) : Prop :=
  ∃ (A : Option Addr) (c : Nat), e = .returned (.slice A (M.fidsS ac).length c) ∧ w'.ownsRow w.heap.size 3 1 (.slice A (M.fidsS ac).length c) (M.fidsS ac).length ((M.fidsS ac).map fun f => Value.int .i64 f) ∧ Below w.heap.size w w'
theorem fids_start (w : World) (a : AV) : ∀ W, W = (w.alloc (.cells #[.int .i64 a.kind, .int .i64 a.fid, .int .i64 a.dir, .string a.name, .int .i64 a.to, .string a.toName, .slice a.dA a.dn a.dc] 36)).alloc (.cells #[.int .i64 a.fid] 3) →
    Below w.heap.size w W ∧ BoxA W w.heap.size a ∧ W.ownsRow w.heap.size 3 1 (.slice (some ⟨w.heap.size + 1, 0, none⟩) 1 1) 1 [.int .i64 a.fid] ∧ W.heap.size = w.heap.size + 2 := by
  rintro W rfl
  refine ⟨((Below.refl _ _).alloc (Nat.le_refl _) _).alloc (by simp) _, (BoxA.new w a).alloc _, ?_, by simp⟩
  have h := World.ownsRow_lit (e := 3) (size := 1) (base := w.heap.size) (w.alloc (.cells #[.int .i64 a.kind, .int .i64 a.fid, .int .i64 a.dir, .string a.name, .int .i64 a.to, .string a.toName, .slice a.dA a.dn a.dc] 36)) #[.int .i64 a.fid] 1 (by simp) (by decide) rfl
  simpa using h
theorem fids_grow {w W w2 : World} {a : AV} {O : Obj} {g : Nat} {c : Nat} {B2 : Option Addr} {c2 : Nat} {L : List Value} (q1 : Below w.heap.size w W) (q2 : BoxA W w.heap.size a) (q4 : W.heap.size = w.heap.size + 2)
    (hg : (W.alloc O).grownBy w2 (Value.slice (some ⟨w.heap.size + 1, 0, none⟩) g c).ownBlock) (ho : w2.ownsRow w.heap.size 3 1 (.slice B2 2 c2) 2 L) : Below w.heap.size w w2 ∧ BoxA w2 w.heap.size a ∧ w2.ownsRow w.heap.size 3 1 (.slice B2 2 c2) 2 L := by
  have hk : ∀ k, (Value.slice (some ⟨w.heap.size + 1, 0, none⟩) g c).ownBlock = some k → k = w.heap.size + 1 := fun k hk => by simp [Value.ownBlock] at hk; exact hk.symm
  refine ⟨Below.grown (q1.alloc (by omega) O) hg (by simp; omega) (fun k h => by have := hk k h; omega), ?_, ho⟩
  unfold BoxA at q2 ⊢
  rw [hg.block w.heap.size (by simp; omega) (fun e => by have := hk _ e.symm; omega), Below.heap_alloc _ _ _ (by omega)]
  exact q2

set_option maxHeartbeats 1000000 in
theorem fids_any (a : AV) (ac : M.Act) (w : World) (ha : ContA w a ac) : Calls Try.prog 15 #[a.val] w (FidsPost w ac) := by
  obtain ⟨i0, hi, hz, hsz, hbz⟩ := info_parts info3
  have HW : Hid _ := fids_start w a
  have HK : Hid (a.kind = ac.kind ∧ a.fid = ac.fid ∧ a.dir = ac.dir ∧ a.to = ac.to) := ⟨ha.1, ha.2.1, ha.2.2.1, ha.2.2.2.2.1⟩
  clear ha
  by_cases h3 : a.kind = 3
  · have k3 : (a.kind == 3) = true := by simp [h3]
    have k3' : (a.kind != 3) = false := by simp [h3]
    have k5 : (a.kind == 5) = false := by simp [h3]
    have HS : Hid (M.fidsS ac = [a.fid]) := by show _ = _; unfold M.fidsS; rw [← HK.out.1, if_pos h3, if_neg (by rw [h3]; decide), HK.out.2.1]; rfl
    clear h3
    go_enter Try.func15, Try.ntmps15
    go_wp2_with (fail)
    go_ret
    obtain ⟨q1, q2, q3, q4⟩ := HW.out _ rfl
    exact ⟨_, 1, by rw [HS.out]; rfl, by rw [HS.out]; exact q3, q1⟩
  · have k3 : (a.kind == 3) = false := by simp [h3]
    have k3' : (a.kind != 3) = true := by simp [h3]
    by_cases h5 : a.kind = 5
    · have k5 : (a.kind == 5) = true := by simp [h5]
      have HS : Hid (M.fidsS ac = [a.fid, a.dir, a.to]) := by show _ = _; unfold M.fidsS; rw [← HK.out.1, if_neg h3, if_pos h5, HK.out.2.1, HK.out.2.2.1, HK.out.2.2.2]; rfl
      clear h3 h5
      go_enter Try.func15, Try.ntmps15
      go_wp2_with (first
        | (have HQ := HB2; clear HQ; at_builtin; refine wpList_append_own _ (by rfl) (.tmp 18) (.tmp 21) 46 (by rfl) w.heap.size 3 i0 (.int .i64 0) 1 8 Try.underlying46 hi hz hsz hbz rfl (by decide) _ 2 _ (by rfl) (HB2.out.2.2.alloc _) ⟨w2.heap.size, 0, none⟩ 1 1 [.int .i64 a.to] (by rfl) rfl (cell_new1 _ _ _ _ rfl) (fun u hu => by simp at hu; subst hu; rfl) (by unfold maxLen; omega) (by omega) (by simp; omega) ?_; intro v3 w3 hown3 hg3 _; obtain ⟨B3, c3, rfl, _, _⟩ := own_form hown3; have HP : Hid (FidsPost w ac (.returned (.slice B3 3 c3)) w3) := ⟨B3, c3, by rw [HS.out]; rfl, by rw [HS.out]; exact hown3, Below.grown (HB2.out.1.alloc (by omega) _) hg3 (by simp; omega) (fun k hk => by have := (HB2.out.2.2.lt k hk).1; omega)⟩; clear hown3 hg3)
        | (at_builtin; refine wpList_append_own _ (by rfl) (.tmp 10) (.tmp 13) 46 (by rfl) w.heap.size 3 i0 (.int .i64 0) 1 8 Try.underlying46 hi hz hsz hbz rfl (by decide) _ 1 _ (by rfl) ((HW.out _ rfl).2.2.1.alloc _) ⟨w.heap.size + 1 + 1, 0, none⟩ 1 1 [.int .i64 a.dir] (by rfl) rfl (cell_new1 _ _ _ _ (by simp)) (fun u hu => by simp at hu; subst hu; rfl) (by unfold maxLen; omega) (by omega) (by simp; omega) ?_; intro v2 w2 hown2 hg2 _; obtain ⟨B2, c2, rfl, _, _⟩ := own_form hown2; have HB2 : Hid (Below w.heap.size w w2 ∧ BoxA w2 w.heap.size a ∧ w2.ownsRow w.heap.size 3 1 (.slice B2 2 c2) 2 [.int .i64 a.fid, .int .i64 a.dir]) := fids_grow (HW.out _ rfl).1 (HW.out _ rfl).2.1 (HW.out _ rfl).2.2.2 hg2 hown2; clear hown2 hg2 HW; obtain ⟨a0, a1, a2, a3, a4, a5, a6, af, az⟩ := HB2.out.2.1.facts))
      go_ret
      exact HP.out
    · have k5 : (a.kind == 5) = false := by simp [h5]
      have HS : Hid (M.fidsS ac = [a.fid, a.dir]) := by show _ = _; unfold M.fidsS; rw [← HK.out.1, if_neg h3, if_neg h5, HK.out.2.1, HK.out.2.2.1]; rfl
      clear h3 h5
      go_enter Try.func15, Try.ntmps15
      go_wp2_with (at_builtin; refine wpList_append_own _ (by rfl) (.tmp 10) (.tmp 13) 46 (by rfl) w.heap.size 3 i0 (.int .i64 0) 1 8 Try.underlying46 hi hz hsz hbz rfl (by decide) _ 1 _ (by rfl) ((HW.out _ rfl).2.2.1.alloc _) ⟨w.heap.size + 1 + 1, 0, none⟩ 1 1 [.int .i64 a.dir] (by rfl) rfl (cell_new1 _ _ _ _ (by simp)) (fun u hu => by simp at hu; subst hu; rfl) (by unfold maxLen; omega) (by omega) (by simp; omega) ?_; intro v2 w2 hown2 hg2 _; obtain ⟨B2, c2, rfl, _, _⟩ := own_form hown2; have HB2 : Hid (Below w.heap.size w w2 ∧ BoxA w2 w.heap.size a ∧ w2.ownsRow w.heap.size 3 1 (.slice B2 2 c2) 2 [.int .i64 a.fid, .int .i64 a.dir]) := fids_grow (HW.out _ rfl).1 (HW.out _ rfl).2.1 (HW.out _ rfl).2.2.2 hg2 hown2; clear hown2 hg2 HW; obtain ⟨a0, a1, a2, a3, a4, a5, a6, af, az⟩ := HB2.out.2.1.facts)
      go_ret
      exact ⟨B2, c2, by rw [HS.out]; rfl, by rw [HS.out]; exact HB2.out.2.2, HB2.out.1⟩

set_option maxHeartbeats 1000000 in
theorem refFids_any (a : AV) (ac : M.Act) (w : World) (ha : ContA w a ac) : Calls Try.prog 8 #[a.val] w (FidsPost w ac) := by
  obtain ⟨i0, hi, hz, hsz, hbz⟩ := info_parts info3
  have HW : Hid _ := fids_start w a
  have HK : Hid (a.kind = ac.kind ∧ a.fid = ac.fid ∧ a.dir = ac.dir ∧ a.to = ac.to) := ⟨ha.1, ha.2.1, ha.2.2.1, ha.2.2.2.2.1⟩
  clear ha
  by_cases h3 : a.kind = 3
  · have k3 : (a.kind == 3) = true := by simp [h3]
    have k3' : (a.kind != 3) = false := by simp [h3]
    have k5 : (a.kind == 5) = false := by simp [h3]
    have HS : Hid (M.fidsS ac = [a.fid]) := by show _ = _; unfold M.fidsS; rw [← HK.out.1, if_pos h3, if_neg (by rw [h3]; decide), HK.out.2.1]; rfl
    clear h3
    go_enter Try.func8, Try.ntmps8
    go_wp2_with (fail)
    go_ret
    obtain ⟨q1, q2, q3, q4⟩ := HW.out _ rfl
    exact ⟨_, 1, by rw [HS.out]; rfl, by rw [HS.out]; exact q3, q1⟩
  · have k3 : (a.kind == 3) = false := by simp [h3]
    have k3' : (a.kind != 3) = true := by simp [h3]
    by_cases h5 : a.kind = 5
    · have k5 : (a.kind == 5) = true := by simp [h5]
      have HS : Hid (M.fidsS ac = [a.fid, a.dir, a.to]) := by show _ = _; unfold M.fidsS; rw [← HK.out.1, if_neg h3, if_pos h5, HK.out.2.1, HK.out.2.2.1, HK.out.2.2.2]; rfl
      clear h3 h5
      go_enter Try.func8, Try.ntmps8
      go_wp2_with (first
        | (have HQ := HB2; clear HQ; at_builtin; refine wpList_append_own _ (by rfl) (.tmp 18) (.tmp 21) 46 (by rfl) w.heap.size 3 i0 (.int .i64 0) 1 8 Try.underlying46 hi hz hsz hbz rfl (by decide) _ 2 _ (by rfl) (HB2.out.2.2.alloc _) ⟨w2.heap.size, 0, none⟩ 1 1 [.int .i64 a.to] (by rfl) rfl (cell_new1 _ _ _ _ rfl) (fun u hu => by simp at hu; subst hu; rfl) (by unfold maxLen; omega) (by omega) (by simp; omega) ?_; intro v3 w3 hown3 hg3 _; obtain ⟨B3, c3, rfl, _, _⟩ := own_form hown3; have HP : Hid (FidsPost w ac (.returned (.slice B3 3 c3)) w3) := ⟨B3, c3, by rw [HS.out]; rfl, by rw [HS.out]; exact hown3, Below.grown (HB2.out.1.alloc (by omega) _) hg3 (by simp; omega) (fun k hk => by have := (HB2.out.2.2.lt k hk).1; omega)⟩; clear hown3 hg3)
        | (at_builtin; refine wpList_append_own _ (by rfl) (.tmp 10) (.tmp 13) 46 (by rfl) w.heap.size 3 i0 (.int .i64 0) 1 8 Try.underlying46 hi hz hsz hbz rfl (by decide) _ 1 _ (by rfl) ((HW.out _ rfl).2.2.1.alloc _) ⟨w.heap.size + 1 + 1, 0, none⟩ 1 1 [.int .i64 a.dir] (by rfl) rfl (cell_new1 _ _ _ _ (by simp)) (fun u hu => by simp at hu; subst hu; rfl) (by unfold maxLen; omega) (by omega) (by simp; omega) ?_; intro v2 w2 hown2 hg2 _; obtain ⟨B2, c2, rfl, _, _⟩ := own_form hown2; have HB2 : Hid (Below w.heap.size w w2 ∧ BoxA w2 w.heap.size a ∧ w2.ownsRow w.heap.size 3 1 (.slice B2 2 c2) 2 [.int .i64 a.fid, .int .i64 a.dir]) := fids_grow (HW.out _ rfl).1 (HW.out _ rfl).2.1 (HW.out _ rfl).2.2.2 hg2 hown2; clear hown2 hg2 HW; obtain ⟨a0, a1, a2, a3, a4, a5, a6, af, az⟩ := HB2.out.2.1.facts))
      go_ret
      exact HP.out
    · have k5 : (a.kind == 5) = false := by simp [h5]
      have HS : Hid (M.fidsS ac = [a.fid, a.dir]) := by show _ = _; unfold M.fidsS; rw [← HK.out.1, if_neg h3, if_neg h5, HK.out.2.1, HK.out.2.2.1]; rfl
      clear h3 h5
      go_enter Try.func8, Try.ntmps8
      go_wp2_with (at_builtin; refine wpList_append_own _ (by rfl) (.tmp 10) (.tmp 13) 46 (by rfl) w.heap.size 3 i0 (.int .i64 0) 1 8 Try.underlying46 hi hz hsz hbz rfl (by decide) _ 1 _ (by rfl) ((HW.out _ rfl).2.2.1.alloc _) ⟨w.heap.size + 1 + 1, 0, none⟩ 1 1 [.int .i64 a.dir] (by rfl) rfl (cell_new1 _ _ _ _ (by simp)) (fun u hu => by simp at hu; subst hu; rfl) (by unfold maxLen; omega) (by omega) (by simp; omega) ?_; intro v2 w2 hown2 hg2 _; obtain ⟨B2, c2, rfl, _, _⟩ := own_form hown2; have HB2 : Hid (Below w.heap.size w w2 ∧ BoxA w2 w.heap.size a ∧ w2.ownsRow w.heap.size 3 1 (.slice B2 2 c2) 2 [.int .i64 a.fid, .int .i64 a.dir]) := fids_grow (HW.out _ rfl).1 (HW.out _ rfl).2.1 (HW.out _ rfl).2.2.2 hg2 hown2; clear hown2 hg2 HW; obtain ⟨a0, a1, a2, a3, a4, a5, a6, af, az⟩ := HB2.out.2.1.facts)
      go_ret
      exact ⟨B2, c2, by rw [HS.out]; rfl, by rw [HS.out]; exact HB2.out.2.2, HB2.out.1⟩

/-- an act whose bytes are the call's own -/
def OwnA (w : World) (B : Nat) (a : AV) (x : M.Act) : Prop := a.kind = x.kind ∧ a.fid = x.fid ∧ a.dir = x.dir ∧ a.name = x.name ∧ a.to = x.to ∧ a.toName = x.toName ∧ w.ownsRow B 5 1 (.slice a.dA a.dn a.dc) a.dn (x.data.flatMap byteCells1)
theorem OwnA.cont {w : World} {B : Nat} {a : AV} {x : M.Act} (h : OwnA w B a x) : ContA w a x := ⟨h.1, h.2.1, h.2.2.1, h.2.2.2.1, h.2.2.2.2.1, h.2.2.2.2.2.1, Row.ofOwn byt_len (by decide) h.2.2.2.2.2.2⟩
def AV.zero : AV := ⟨0, 0, 0, ⟨#[]⟩, 0, ⟨#[]⟩, none, 0, 0⟩
set_option maxHeartbeats 1000000 in
theorem ownAct_any (a : AV) (ac : M.Act) (w : World) (ha : ContA w a ac) (hs : ac.data.length ≤ 140737488355328) :
    Calls Try.prog 17 #[a.val] w fun e w' => ∃ a' : AV, e = .returned a'.val ∧ OwnA w' w.heap.size a' ac ∧ Below w.heap.size w w' := by
  obtain ⟨i5, hi5, hz5, hs5, hb5⟩ := info_parts info5
  have hdn := ha.2.2.2.2.2.2.1
  rw [← hdn] at hs
  have HA : Hid (ContA w a ac) := ha
  clear ha hdn
  have HB0 : Hid (∀ W : World, W = (w.alloc (.cells #[.int .i64 a.kind, .int .i64 a.fid, .int .i64 a.dir, .string a.name, .int .i64 a.to, .string a.toName, .slice a.dA a.dn a.dc] 36)).alloc (.cells #[.int .i64 0, .int .i64 0, .int .i64 0, .string ⟨#[]⟩, .int .i64 0, .string ⟨#[]⟩, .slice none 0 0] 36) → BoxA W w.heap.size a ∧ BoxA W (w.heap.size + 1) AV.zero ∧ W.heap.size = w.heap.size + 2 ∧ Below w.heap.size w W) := by
    rintro W rfl
    refine ⟨(BoxA.new w a).alloc _, ?_, by simp, ((Below.refl _ _).alloc (Nat.le_refl _) _).alloc (by simp) _⟩
    have h := heap_alloc_new (w.alloc (.cells #[.int .i64 a.kind, .int .i64 a.fid, .int .i64 a.dir, .string a.name, .int .i64 a.to, .string a.toName, .slice a.dA a.dn a.dc] 36)) (.cells #[.int .i64 0, .int .i64 0, .int .i64 0, .string ⟨#[]⟩, .int .i64 0, .string ⟨#[]⟩, .slice none 0 0] 36)
    unfold BoxA
    simpa [AV.zero] using h
  go_enter Try.func17, Try.ntmps17
  go_wp2_with (at_builtin; refine wpList_append_row _ (by rfl) (.const (.slice none 0 0)) (.tmp 4) 34 (by rfl) (w.heap.size + 2) 5 i5 (.int .u8 0) 1 Try.underlying34 hi5 hz5 hs5 hb5 rfl (by decide) _ 0 [] rfl (World.ownsRow_nil _ _ _ _) a.dA a.dn a.dc ac.data rfl (HA.out.2.2.2.2.2.2.below (Nat.le_refl _) (HB0.out _ rfl).2.2.2) byt_len byt_one (by unfold maxLen; omega) (by omega) (by simp) ?_; intro v1 w1 hown1 hg1; rw [Nat.zero_add, List.nil_append] at hown1; obtain ⟨A1, c1, rfl, hA1, hA2⟩ := own_form hown1; have hb1 := grown_below hg1; clear hg1; obtain ⟨q0, q1, q2, q3⟩ := HB0.out _ rfl; have hbw1 : Below w.heap.size w w1 := q3.trans (hb1.mono (by omega)); have HX1 : Hid (BoxA w1 w.heap.size a ∧ BoxA w1 (w.heap.size + 1) AV.zero ∧ w1.ownsRow (w.heap.size + 2) 5 1 (.slice A1 a.dn c1) a.dn (ac.data.flatMap byteCells1)) := ⟨q0.below hb1 (by omega), q1.below hb1 (by omega), hown1⟩; have hz1 := hb1.size; rw [q2] at hz1; clear hb1 q0 q1 q2 q3 hown1; obtain ⟨a0, a1, a2, a3, a4, a5, a6, af, az⟩ := HX1.out.1.facts; obtain ⟨z0, z1, z2, z3, z4, z5, z6, zf, zz⟩ := HX1.out.2.1.facts)
  have hbl : ∀ (W : World) (s o : Nat) (u : Value), Below w.heap.size w W → w.heap.size ≤ s → Below w.heap.size w (W.setCell ⟨s, o, none⟩ u) := fun W s o u h hs => h.setCell (p := ⟨s, o, none⟩) hs u
  have hol : ∀ (W : World) (s o : Nat) (u : Value), W.ownsRow (w.heap.size + 2) 5 1 (.slice A1 a.dn c1) a.dn (ac.data.flatMap byteCells1) → s < w.heap.size + 2 → (W.setCell ⟨s, o, none⟩ u).ownsRow (w.heap.size + 2) 5 1 (.slice A1 a.dn c1) a.dn (ac.data.flatMap byteCells1) := fun W s o u h hs => ownsRow_setCell_below h (a := ⟨s, o, none⟩) hs u
  refine bodyPost_ret (v := AV.val ⟨a.kind, a.fid, a.dir, a.name, a.to, a.toName, A1, a.dn, c1⟩) (by simp [results, Try.results17, go_sem, z0, z1, z2, z3, z4, z5, z6]) rfl ⟨⟨a.kind, a.fid, a.dir, a.name, a.to, a.toName, A1, a.dn, c1⟩, rfl, ⟨HA.out.1, HA.out.2.1, HA.out.2.2.1, HA.out.2.2.2.1, HA.out.2.2.2.2.1, HA.out.2.2.2.2.2.1, own_mono ?_ (Nat.le_add_right _ 2)⟩, ?_⟩
  · exact hol _ _ _ _ (hol _ _ _ _ (hol _ _ _ _ (hol _ _ _ _ (hol _ _ _ _ (hol _ _ _ _ (hol _ _ _ _ (hol _ _ _ _ HX1.out.2.2 (by omega)) (by omega)) (by omega)) (by omega)) (by omega)) (by omega)) (by omega)) (by omega)
  · exact hbl _ _ _ _ (hbl _ _ _ _ (hbl _ _ _ _ (hbl _ _ _ _ (hbl _ _ _ _ (hbl _ _ _ _ (hbl _ _ _ _ (hbl _ _ _ _ hbw1 (by omega)) (by omega)) (by omega)) (by omega)) (by omega)) (by omega)) (by omega)) (by omega)
end Go.Proofs.Ytkhifljgocopoad
/-
  RECORDS in memory, and lists of acts; acts.Makes.
-/
namespace Go.Proofs.Ytkhifljgocopoad
open Go.RowKit

theorem info48 : (Try.prog.info? 38).map (fun i => (i.zero, i.size, i.bytes)) = some (some (.agg #[.int .i64 0, .int .i64 0, .int .i64 0, .string ByteArray.empty, .int .i64 0, .string ByteArray.empty, .slice none 0 0, .int .i64 0, .int .i64 0]), 9, 104) := by kernel_rfl
/-- a record's value -/
structure RV where
  a : AV
  ver : Int
  id : Int
def RV.cells (r : RV) : List Value := [.int .i64 r.a.kind, .int .i64 r.a.fid, .int .i64 r.a.dir, .string r.a.name, .int .i64 r.a.to, .string r.a.toName, .slice r.a.dA r.a.dn r.a.dc, .int .i64 r.ver, .int .i64 r.id]
@[reducible] def RV.val (r : RV) : Value := .agg #[.int .i64 r.a.kind, .int .i64 r.a.fid, .int .i64 r.a.dir, .string r.a.name, .int .i64 r.a.to, .string r.a.toName, .slice r.a.dA r.a.dn r.a.dc, .int .i64 r.ver, .int .i64 r.id]
@[reducible] def RV.obj (r : RV) : Obj := .cells #[.int .i64 r.a.kind, .int .i64 r.a.fid, .int .i64 r.a.dir, .string r.a.name, .int .i64 r.a.to, .string r.a.toName, .slice r.a.dA r.a.dn r.a.dc, .int .i64 r.ver, .int .i64 r.id] 38
@[reducible] def AV.obj (a : AV) : Obj := .cells #[.int .i64 a.kind, .int .i64 a.fid, .int .i64 a.dir, .string a.name, .int .i64 a.to, .string a.toName, .slice a.dA a.dn a.dc] 36
theorem rec_len (x : RV) : x.cells.length = 9 := rfl
theorem rec_one (x : RV) : ∀ u ∈ x.cells, u.oneCell' = true := by intro u hu; simp [RV.cells] at hu; rcases hu with rfl | rfl | rfl | rfl | rfl | rfl | rfl | rfl | rfl <;> rfl
/-- the value r is the record x -/
def ContR (w : World) (r : RV) (x : M.Rec) : Prop := ContA w r.a x.act ∧ r.ver = x.ver ∧ r.id = x.id
theorem ContR.below {B : Nat} {w w' : World} {r : RV} {x : M.Rec} (h : ContR w r x) (hB : w.heap.size ≤ B) (hb : Below B w w') : ContR w' r x := ⟨h.1.below hB hb, h.2⟩
/-- nothing of it is too long -/
def SmallR (x : M.Rec) : Prop := x.act.name.size ≤ maxLen ∧ x.act.toName.size ≤ maxLen ∧ x.act.data.length ≤ 140737488355328
def BoxR (w : World) (s : Nat) (r : RV) : Prop := w.heap[s]? = some (.cells #[.int .i64 r.a.kind, .int .i64 r.a.fid, .int .i64 r.a.dir, .string r.a.name, .int .i64 r.a.to, .string r.a.toName, .slice r.a.dA r.a.dn r.a.dc, .int .i64 r.ver, .int .i64 r.id] 38 (0, 0))
theorem BoxR.facts {w : World} {s : Nat} {r : RV} (h : BoxR w s r) : w.cell? ⟨s, 0, none⟩ = some (.int .i64 r.a.kind) ∧ w.cell? ⟨s, 1, none⟩ = some (.int .i64 r.a.fid) ∧ w.cell? ⟨s, 2, none⟩ = some (.int .i64 r.a.dir) ∧ w.cell? ⟨s, 3, none⟩ = some (.string r.a.name) ∧
    w.cell? ⟨s, 4, none⟩ = some (.int .i64 r.a.to) ∧ w.cell? ⟨s, 5, none⟩ = some (.string r.a.toName) ∧ w.cell? ⟨s, 6, none⟩ = some (.slice r.a.dA r.a.dn r.a.dc) ∧ w.cell? ⟨s, 7, none⟩ = some (.int .i64 r.ver) ∧ w.cell? ⟨s, 8, none⟩ = some (.int .i64 r.id) ∧ (∀ o, w.frozen? ⟨s, o, none⟩ = false) ∧ s < w.heap.size := by
  unfold BoxR at h
  refine ⟨by simp [World.cell?, h], by simp [World.cell?, h], by simp [World.cell?, h], by simp [World.cell?, h], by simp [World.cell?, h], by simp [World.cell?, h], by simp [World.cell?, h], by simp [World.cell?, h], by simp [World.cell?, h], fun o => by simp [World.frozen?, h], lt_of_block h⟩
theorem BoxR.below {w w' : World} {s B : Nat} {r : RV} (h : BoxR w s r) (hb : Below B w w') (hs : s < B) : BoxR w' s r := by
  unfold BoxR at h ⊢; rw [hb.block s hs]; exact h
theorem BoxR.alloc {w : World} {s : Nat} {r : RV} (h : BoxR w s r) (o : Obj) : BoxR (w.alloc o) s r := by
  unfold BoxR at h ⊢; rw [Below.heap_alloc w o s (lt_of_block h)]; exact h
theorem BoxR.new (w : World) (r : RV) : BoxR (w.alloc r.obj) w.heap.size r := heap_alloc_new w _
abbrev Recs := Row 9 RV.cells
theorem Recs.at {w : World} {A : Option Addr} {n : Nat} {vs : List RV} (h : Recs w A n vs) {j : Nat} (hj : j < n) :
    ∃ b o v, A = some ⟨b, o, none⟩ ∧ b < w.heap.size ∧ vs[j]? = some v ∧ w.cell? ⟨b, o + j * 9, none⟩ = some (.int .i64 v.a.kind) ∧ w.cell? ⟨b, o + j * 9 + 1, none⟩ = some (.int .i64 v.a.fid) ∧
      w.cell? ⟨b, o + j * 9 + 2, none⟩ = some (.int .i64 v.a.dir) ∧ w.cell? ⟨b, o + j * 9 + 3, none⟩ = some (.string v.a.name) ∧ w.cell? ⟨b, o + j * 9 + 4, none⟩ = some (.int .i64 v.a.to) ∧ w.cell? ⟨b, o + j * 9 + 5, none⟩ = some (.string v.a.toName) ∧ w.cell? ⟨b, o + j * 9 + 6, none⟩ = some (.slice v.a.dA v.a.dn v.a.dc) ∧ w.cell? ⟨b, o + j * 9 + 7, none⟩ = some (.int .i64 v.ver) ∧ w.cell? ⟨b, o + j * 9 + 8, none⟩ = some (.int .i64 v.id) := by
  obtain ⟨b, o, v, e, hlt, hv, hc⟩ := Row.at h hj
  exact ⟨b, o, v, e, hlt, hv, hc 0 _ rfl, hc 1 _ rfl, hc 2 _ rfl, hc 3 _ rfl, hc 4 _ rfl, hc 5 _ rfl, hc 6 _ rfl, hc 7 _ rfl, hc 8 _ rfl⟩
/-- a log that came in; a log of one's own -/
def TreeR (w : World) (A : Option Addr) (n : Nat) (vs : List RV) (xs : List M.Rec) : Prop := Recs w A n vs ∧ All2 (ContR w) vs xs
theorem TreeR.below {B : Nat} {w w' : World} {A : Option Addr} {n : Nat} {vs : List RV} {xs : List M.Rec} (h : TreeR w A n vs xs) (hB : w.heap.size ≤ B) (hb : Below B w w') : TreeR w' A n vs xs :=
  ⟨h.1.below hB hb, h.2.imp fun _ _ h => h.below hB hb⟩
theorem TreeR.len {w : World} {A : Option Addr} {n : Nat} {vs : List RV} {xs : List M.Rec} (h : TreeR w A n vs xs) : n = xs.length := by rw [h.1.1, h.2.1]
theorem OwnA.below {B C : Nat} {w w' : World} {v : AV} {x : M.Act} (h : OwnA w B v x) (hC : w.heap.size ≤ C) (hb : Below C w w') : OwnA w' B v x :=
  ⟨h.1, h.2.1, h.2.2.1, h.2.2.2.1, h.2.2.2.2.1, h.2.2.2.2.2.1, own_below h.2.2.2.2.2.2 hb hC⟩
theorem OwnA.mono {B B' : Nat} {w : World} {v : AV} {x : M.Act} (h : OwnA w B v x) (hB : B' ≤ B) : OwnA w B' v x :=
  ⟨h.1, h.2.1, h.2.2.1, h.2.2.2.1, h.2.2.2.2.1, h.2.2.2.2.2.1, own_mono h.2.2.2.2.2.2 hB⟩
theorem OwnA.grown {w w' : World} {B B' : Nat} {v : AV} {x : M.Act} {e' : TypeId} {k' : Nat} {v' : Value} {n' : Nat} {xs' : List Value} (h : OwnA w B v x) (h' : w.ownsRow B' e' k' v' n' xs') (hne : 5 ≠ e') (hg : w.grownBy w' v'.ownBlock) : OwnA w' B v x :=
  ⟨h.1, h.2.1, h.2.2.1, h.2.2.2.1, h.2.2.2.2.1, h.2.2.2.2.2.1, own_grown h.2.2.2.2.2.2 h' hne hg⟩
def OwnR (w : World) (B : Nat) (r : RV) (x : M.Rec) : Prop := OwnA w B r.a x.act ∧ r.ver = x.ver ∧ r.id = x.id
theorem OwnR.cont {w : World} {B : Nat} {r : RV} {x : M.Rec} (h : OwnR w B r x) : ContR w r x := ⟨h.1.cont, h.2⟩
theorem OwnR.below {B C : Nat} {w w' : World} {v : RV} {x : M.Rec} (h : OwnR w B v x) (hC : w.heap.size ≤ C) (hb : Below C w w') : OwnR w' B v x := ⟨h.1.below hC hb, h.2⟩
theorem OwnR.mono {B B' : Nat} {w : World} {v : RV} {x : M.Rec} (h : OwnR w B v x) (hB : B' ≤ B) : OwnR w B' v x := ⟨h.1.mono hB, h.2⟩
def OwnL (w : World) (B : Nat) (A : Option Addr) (n c : Nat) (vs : List RV) (xs : List M.Rec) : Prop := w.ownsRow B 38 9 (.slice A n c) n (vs.flatMap RV.cells) ∧ All2 (OwnR w B) vs xs
theorem OwnL.tree {w : World} {B : Nat} {A : Option Addr} {n c : Nat} {vs : List RV} {xs : List M.Rec} (h : OwnL w B A n c vs xs) : TreeR w A n vs xs :=
  ⟨Row.ofOwn rec_len (by decide) h.1, h.2.imp fun _ _ h => h.cont⟩
theorem OwnL.below {B C : Nat} {w w' : World} {A : Option Addr} {n c : Nat} {vs : List RV} {xs : List M.Rec} (h : OwnL w B A n c vs xs) (hC : w.heap.size ≤ C) (hb : Below C w w') : OwnL w' B A n c vs xs :=
  ⟨own_below h.1 hb hC, h.2.imp fun _ _ h => h.below hC hb⟩
theorem OwnL.mono {B B' : Nat} {w : World} {A : Option Addr} {n c : Nat} {vs : List RV} {xs : List M.Rec} (h : OwnL w B A n c vs xs) (hB : B' ≤ B) : OwnL w B' A n c vs xs :=
  ⟨own_mono h.1 hB, h.2.imp fun _ _ h => h.mono hB⟩
theorem OwnL.nil (w : World) (B : Nat) : OwnL w B none 0 0 [] [] := ⟨World.ownsRow_nil _ _ _ _, All2.nil⟩
/-- one more is behind -/
theorem OwnL.snoc {w w' : World} {B : Nat} {A : Option Addr} {n c : Nat} {A' : Option Addr} {n' c' : Nat} {vs : List RV} {xs : List M.Rec} {r : RV} {x : M.Rec} (h : OwnL w B A n c vs xs) (hr : OwnR w B r x) (ho : w'.ownsRow B 38 9 (.slice A' n' c') n' (vs.flatMap RV.cells ++ r.cells)) (hg : w.grownBy w' (Value.slice A n c).ownBlock) : OwnL w' B A' n' c' (vs ++ [r]) (xs ++ [x]) := by
  refine ⟨?_, All2.append (h.2.imp fun _ _ k => ⟨k.1.grown h.1 (by decide) hg, k.2⟩) (All2.one ⟨hr.1.grown h.1 (by decide) hg, hr.2⟩)⟩
  rw [List.flatMap_append]
  simpa using ho

theorem fm_ints : ∀ fs : List Int, (fs.flatMap fun f : Int => [Value.int .i64 f]) = fs.map fun f => Value.int .i64 f
  | [] => rfl
  | f :: fs => by rw [List.flatMap_cons, fm_ints fs]; rfl
theorem making_any (a : AV) (w : World) : Calls Try.prog 14 #[a.val] w fun e w' => e = .returned (.bool (decide (a.kind = 1) || decide (a.kind = 2))) ∧ Below w.heap.size w w' := by
  have HW : Hid (Below w.heap.size w (w.alloc a.obj)) := (Below.refl _ _).alloc (Nat.le_refl _) _
  by_cases h1 : a.kind = 1
  · have k1 : (a.kind == 1) = true := by simp [h1]
    have HR : Hid ((decide (a.kind = 1) || decide (a.kind = 2)) = true) := by show _ = _; simp [h1]
    clear h1
    go_enter Try.func14, Try.ntmps14
    go_wp2
    go_ret
    exact ⟨ret_bool HR.out.symm, HW.out⟩
  · have k1 : (a.kind == 1) = false := by simp [h1]
    by_cases h2 : a.kind = 2
    · have k2 : (a.kind == 2) = true := by simp [h2]
      have HR : Hid ((decide (a.kind = 1) || decide (a.kind = 2)) = true) := by show _ = _; simp [h2]
      clear h1 h2
      go_enter Try.func14, Try.ntmps14
      go_wp2
      go_ret
      exact ⟨ret_bool HR.out.symm, HW.out⟩
    · have k2 : (a.kind == 2) = false := by simp [h2]
      have HR : Hid ((decide (a.kind = 1) || decide (a.kind = 2)) = false) := by show _ = _; simp [h1, h2]
      clear h1 h2
      go_enter Try.func14, Try.ntmps14
      go_wp2
      go_ret
      exact ⟨ret_bool HR.out.symm, HW.out⟩
theorem infoA : (Try.prog.info? 36).map (fun i => (i.zero, i.size, i.bytes)) = some (some (.agg #[.int .i64 0, .int .i64 0, .int .i64 0, .string ByteArray.empty, .int .i64 0, .string ByteArray.empty, .slice none 0 0]), 7, 88) := by kernel_rfl
theorem rowA_box {w : World} {s : Nat} {r : AV} (h : BoxA w s r) : Row 7 AV.cells w (some ⟨s, 0, none⟩) 1 [r] := by
  refine ⟨rfl, .inr ⟨s, 0, rfl, lt_of_block h, fun j v hv i c hi => ?_⟩⟩
  obtain ⟨b0, b1, b2, b3, b4, b5, b6, bf, bz⟩ := h.facts
  cases j with
  | succ j => cases hv
  | zero =>
    cases hv
    match i, hi with
    | 0, hi => cases hi; exact b0
    | 1, hi => cases hi; exact b1
    | 2, hi => cases hi; exact b2
    | 3, hi => cases hi; exact b3
    | 4, hi => cases hi; exact b4
    | 5, hi => cases hi; exact b5
    | 6, hi => cases hi; exact b6
    | i + 7, hi => cases hi
def OwnAs (w : World) (B : Nat) (A : Option Addr) (n c : Nat) (vs : List AV) (xs : List M.Act) : Prop := w.ownsRow B 36 7 (.slice A n c) n (vs.flatMap AV.cells) ∧ All2 (OwnA w B) vs xs
theorem OwnAs.tree {w : World} {B : Nat} {A : Option Addr} {n c : Nat} {vs : List AV} {xs : List M.Act} (h : OwnAs w B A n c vs xs) : TreeA w A n vs xs :=
  ⟨Row.ofOwn act_len (by decide) h.1, h.2.imp fun _ _ h => h.cont⟩
theorem OwnAs.below {B C : Nat} {w w' : World} {A : Option Addr} {n c : Nat} {vs : List AV} {xs : List M.Act} (h : OwnAs w B A n c vs xs) (hC : w.heap.size ≤ C) (hb : Below C w w') : OwnAs w' B A n c vs xs :=
  ⟨own_below h.1 hb hC, h.2.imp fun _ _ h => h.below hC hb⟩
theorem OwnAs.snoc {w w' : World} {B : Nat} {A : Option Addr} {n c : Nat} {A' : Option Addr} {n' c' : Nat} {vs : List AV} {xs : List M.Act} {r : AV} {x : M.Act} (h : OwnAs w B A n c vs xs) (hr : OwnA w B r x) (ho : w'.ownsRow B 36 7 (.slice A' n' c') n' (vs.flatMap AV.cells ++ r.cells)) (hg : w.grownBy w' (Value.slice A n c).ownBlock) : OwnAs w' B A' n' c' (vs ++ [r]) (xs ++ [x]) := by
  refine ⟨?_, All2.append (h.2.imp fun _ _ k => k.grown h.1 (by decide) hg) (All2.one (hr.grown h.1 (by decide) hg))⟩
  rw [List.flatMap_append]
  simpa using ho
theorem snoc_belowA {w W w2 : World} {A : Option Addr} {m c : Nat} {L : List Value} (hb : Below w.heap.size w W) (ho : W.ownsRow w.heap.size 36 7 (.slice A m c) m L) (hg : W.grownBy w2 (Value.slice A m c).ownBlock) : Below w.heap.size w w2 :=
  Below.grown hb hg hb.size (fun k hk => by
    rcases ho.2 with ⟨e, _⟩ | ⟨g, cap, cur, e, h1, _⟩
    · cases e; cases hk
    · cases e; cases hk; exact h1)
theorem actsLen {w : World} {B : Nat} {A : Option Addr} {n c : Nat} {vs : List AV} {xs : List M.Act} (h : OwnAs w B A n c vs xs) : n = xs.length := by rw [h.tree.1.1, h.2.1]

end Go.Proofs.Ytkhifljgocopoad
/-
  RECORDS AS THEY ARE READ.
-/
namespace Go.Proofs.Ytkhifljgocopoad
open Go.ChangeShapes Go.WideShapes Go.ChangeAt Go.RowKit Go.Deep

theorem cellsR : Try.prog.cellsOf 38 = 9 := by kernel_rfl
theorem bytesR : Try.prog.bytesOf 38 = 104 := by kernel_rfl
section
variable {H : Type} {enc : TypeId × Value → H}
instance : Inhabited RV := ⟨⟨default, 0, 0⟩⟩
instance : Inhabited M.Rec := ⟨⟨default, 0, 0⟩⟩
set_option maxRecDepth 8000 in
/-- a record that came in -/
theorem open_rec {W : World} {sp : Nat → Bool} {held : Bool} {fuel : Nat} {cs : List Value} {x : DataW H × List MemPlace} (h : DataW.trod enc Try.prog W 0 sp held fuel 38 cs = some x) :
    ∃ (v : RV) (y : M.Rec), cs = v.cells ∧ ContR W v y ∧ y.act.name.size ≤ maxLen ∧ y.act.toName.size ≤ maxLen ∧ (Sized 38 x.1 → y.act.data.length ≤ reachBytes) := by
  obtain ⟨ys, m, _, rfl, hl, hys, hf⟩ := DataW.trod_struct Try.underlying38 h
  rw [cellsR] at hl
  obtain ⟨c0, c1, c2, c3, c4, c5, c6, c7, c8, rfl⟩ : ∃ a b c d e f g i j, cs = [a, b, c, d, e, f, g, i, j] := by
    match cs, hl with
    | [a, b, c, d, e, f, g, i, j], _ => exact ⟨a, b, c, d, e, f, g, i, j, rfl⟩
  have f0 : DataW.trod enc Try.prog W 0 sp held m 36 (([c0, c1, c2, c3, c4, c5, c6, c7, c8].drop 0).take (Try.prog.cellsOf 36)) = ys[0]? := hf 0 _ rfl
  rw [cellsA] at f0
  change DataW.trod enc Try.prog W 0 sp held m 36 [c0, c1, c2, c3, c4, c5, c6] = ys[0]? at f0
  have f1 : DataW.trod enc Try.prog W 0 sp held m 3 (([c0, c1, c2, c3, c4, c5, c6, c7, c8].drop 7).take (Try.prog.cellsOf 3)) = ys[1]? := hf 1 _ rfl
  rw [cells3] at f1
  change DataW.trod enc Try.prog W 0 sp held m 3 [c7] = ys[1]? at f1
  have f2 : DataW.trod enc Try.prog W 0 sp held m 3 (([c0, c1, c2, c3, c4, c5, c6, c7, c8].drop 8).take (Try.prog.cellsOf 3)) = ys[2]? := hf 2 _ rfl
  rw [cells3] at f2
  change DataW.trod enc Try.prog W 0 sp held m 3 [c8] = ys[2]? at f2
  have hlen : ys.length = 3 := hys
  have g : ∀ k, k < 3 → ∃ y, ys[k]? = some y := fun k hk => ⟨_, List.getElem?_eq_getElem (by omega)⟩
  obtain ⟨y0, g0⟩ := g 0 (by omega)
  obtain ⟨y1, g1⟩ := g 1 (by omega)
  obtain ⟨y2, g2⟩ := g 2 (by omega)
  rw [g0] at f0
  rw [g1] at f1
  rw [g2] at f2
  obtain ⟨va, a, e0, hc, s1, s2, s3⟩ := open_act f0
  obtain ⟨z1, e1, _, _⟩ := DataW.trod_int Try.underlying3 f1
  obtain ⟨z2, e2, _, _⟩ := DataW.trod_int Try.underlying3 f2
  cases e1; cases e2
  refine ⟨⟨va, z1, z2⟩, ⟨a, z1, z2⟩, ?_, ⟨hc, rfl, rfl⟩, s1, s2, fun hsz => ?_⟩
  · simp only [AV.cells, List.cons.injEq, and_true] at e0
    obtain ⟨rfl, rfl, rfl, rfl, rfl, rfl, rfl⟩ := e0
    rfl
  · exact s3 (sized_field (H := H) (j := 0) Try.underlying38 hsz rfl (by rw [List.getElem?_map, g0]; rfl))
/-- a log that came in -/
theorem open_recs {W : World} {sp : Nat → Bool} {held : Bool} {fuel : Nat} {l : List Value} {x : DataW H × List MemPlace} (h : DataW.trod enc Try.prog W 0 sp held fuel 23 l = some x) :
    ∃ (A : Option Addr) (n c : Nat) (vs : List RV) (xs : List M.Rec), l = [.slice A n c] ∧ n ≤ c ∧ c ≤ maxLen ∧ TreeR W A n vs xs ∧ (Sized 23 x.1 → n * 104 ≤ reachBytes ∧ ∀ y ∈ xs, SmallA y.act) ∧ n ≤ Rows.uptoBulk x.1 := by
  obtain ⟨A, n, c, vs, xs, rfl, h1, h2, h3, h4, h5⟩ := open_rows RV.cells rec_len (by decide) Try.underlying23 cellsR (ContR W) (fun d y => y.act.name.size ≤ maxLen ∧ y.act.toName.size ≤ maxLen ∧ (Sized (H := H) 38 d → y.act.data.length ≤ reachBytes)) (fun h => by obtain ⟨v, y, e, hc, a1, a2, a3⟩ := open_rec h; exact ⟨v, y, e, hc, a1, a2, a3⟩) h
  have hnx : n = xs.length := by rw [h3.1, h4.1]
  refine ⟨A, n, c, vs, xs, rfl, h1, h2, ⟨h3, h4⟩, fun hs => ?_, ?_⟩
  · rcases h5 with ⟨_, h0⟩ | ⟨es, spare, he, hl, hS⟩
    · refine ⟨by rw [h0]; simp, fun y hy => ?_⟩
      rw [h0] at hnx
      rw [List.eq_nil_of_length_eq_zero hnx.symm] at hy
      cases hy
    · rw [he] at hs
      refine ⟨?_, fun y hy => ?_⟩
      · have := sized_len Try.underlying23 hs
        rw [bytesR] at this
        omega
      · obtain ⟨j, hj⟩ := List.getElem?_of_mem hy
        obtain ⟨d, hd, s1, s2, s3⟩ := hS j y hj
        exact smallA_of s1 s2 (s3 (sized_elem Try.underlying23 hs (List.mem_of_getElem? hd)))
  · rcases h5 with ⟨_, h0⟩ | ⟨es, spare, he, hl, hS⟩
    · omega
    · rw [he]
      have h6 := bulk_slice es spare
      have h7 := bulk_len es
      omega
theorem rec_val {v : Value} {x : RV} (h : v.cells.toList = x.cells) : v = x.val := by
  cases v <;> simp [Value.cells, RV.cells] at h
  rename_i xs
  rw [RV.val]
  congr 1
  apply Array.ext'
  exact h
end
end Go.Proofs.Ytkhifljgocopoad
/-
  PLAIN MATHEMATICS of chapter 6: whether records may still be done.
-/
namespace Go.Proofs.Ytkhifljgocopoad
namespace M
/-- how far the judging has come -/
structure St where
  tr : List Nd
  next : Int
  ver : Int
  done : List Act
  made : Int → Option Int
  tch : Int → Bool
  ref : Int → Bool
/-- a fid as it is here -/
def turnS (s : St) (a : Act) (f : Int) : Int := if makeB a && decide (f = a.fid) then s.next else (s.made f).getD f
def hereS (s : St) (a : Act) : Act := { a with fid := turnS s a a.fid, dir := turnS s a a.dir, to := if a.kind = 5 then turnS s a a.to else a.to }
def restS (s : St) (a : Act) : Bool := (fidsS a).any s.ref
def freshS (s : St) (f : Int) : Bool := decide (f < 0) && !(s.made f).isSome
def otherS (xs : List Nd) (f v : Int) : Bool := match find xs f with
  | none => true
  | some x => !decide (x.ver = v)
def staleS (s : St) (a : Act) (v : Int) : Bool := (decide (a.kind = 3) || decide (a.kind = 4)) && decide (0 ≤ v) && !s.tch a.fid && otherS s.tr a.fid v
noncomputable def tryS (s : St) (r : Rec) : Int × List Nd :=
  if restS s r.act = true then (14, [])
  else if (makeB r.act && !freshS s r.act.fid) = true then (2, [])
  else if staleS s (hereS s r.act) r.ver = true then (13, [])
  else applyS s.tr (hereS s r.act) s.ver
def updM (f : Int → Option Int) (k v : Int) : Int → Option Int := fun q => if q = k then some v else f q
def updB (f : Int → Bool) (ks : List Int) : Int → Bool := fun q => f q || decide (q ∈ ks)
/-- refused -/
def noS (s : St) (r : Rec) : St := { s with ref := updB s.ref [r.act.fid] }
/-- done -/
def yesS (s : St) (r : Rec) (ys : List Nd) : St :=
  { tr := ys, next := if makeB r.act then s.next + 1 else s.next, ver := s.ver + 1, done := s.done ++ [hereS s r.act],
    made := if makeB r.act then updM s.made r.act.fid (hereS s r.act).fid else s.made, tch := updB s.tch (fidsS (hereS s r.act)), ref := s.ref }
noncomputable def stepS (s : St) (r : Rec) : St := if (tryS s r).1 = 0 then yesS s r (tryS s r).2 else noS s r
/-- the verdict: what is wrong, and its fid -/
noncomputable def verdS (s : St) (r : Rec) : Int × Int := if (tryS s r).1 = 0 then (0, (hereS s r.act).fid) else ((tryS s r).1, 0)
noncomputable def judS : St → List Rec → St
  | s, [] => s
  | s, r :: l => judS (stepS s r) l
noncomputable def verS : St → List Rec → List (Int × Int)
  | _, [] => []
  | s, r :: l => verdS s r :: verS (stepS s r) l
def begS (xs : List Nd) (next ver : Int) : St := ⟨xs, next, ver, [], fun _ => none, fun _ => false, fun _ => false⟩

theorem jud_append : ∀ (l m : List Rec) (s : St), judS s (l ++ m) = judS (judS s l) m
  | [], _, _ => rfl
  | r :: l, m, s => jud_append l m (stepS s r)
theorem ver_append : ∀ (l m : List Rec) (s : St), verS s (l ++ m) = verS s l ++ verS (judS s l) m
  | [], _, _ => rfl
  | r :: l, m, s => by
    show verdS s r :: verS (stepS s r) (l ++ m) = _
    rw [ver_append l m (stepS s r)]
    rfl
theorem jud_snoc (l : List Rec) (r : Rec) (s : St) : judS s (l ++ [r]) = stepS (judS s l) r := jud_append l [r] s
theorem ver_snoc (l : List Rec) (r : Rec) (s : St) : verS s (l ++ [r]) = verS s l ++ [verdS (judS s l) r] := ver_append l [r] s
theorem ver_len : ∀ (l : List Rec) (s : St), (verS s l).length = l.length
  | [], _ => rfl
  | r :: l, s => by show (verS (stepS s r) l).length + 1 = _; rw [ver_len l]; rfl
theorem ver_at (s : St) (l : List Rec) {i : Nat} {r : Rec} (h : l[i]? = some r) : (verS s l)[i]? = some (verdS (judS s (l.take i)) r) := by
  obtain ⟨h1, h2⟩ := List.getElem?_eq_some_iff.1 h
  have e : l = l.take i ++ r :: l.drop (i + 1) := by rw [← h2, ← List.drop_eq_getElem_cons h1, List.take_append_drop]
  conv => lhs; rw [e]
  rw [ver_append, List.getElem?_append_right (by rw [ver_len, List.length_take]; omega), ver_len, List.length_take, Nat.min_eq_left (Nat.le_of_lt h1), Nat.sub_self]
  rfl
theorem verd_zero {s : St} {r : Rec} : (verdS s r).1 = 0 ↔ (tryS s r).1 = 0 := by
  unfold verdS
  by_cases h : (tryS s r).1 = 0
  · rw [if_pos h]; simp [h]
  · rw [if_neg h]
theorem step_yes {s : St} {r : Rec} (h : (tryS s r).1 = 0) : stepS s r = yesS s r (tryS s r).2 := by unfold stepS; rw [if_pos h]
theorem step_no {s : St} {r : Rec} (h : (tryS s r).1 ≠ 0) : stepS s r = noS s r := by unfold stepS; rw [if_neg h]
theorem verd_yes {s : St} {r : Rec} (h : (tryS s r).1 = 0) : verdS s r = (0, (hereS s r.act).fid) := by unfold verdS; rw [if_pos h]
theorem verd_no {s : St} {r : Rec} (h : (tryS s r).1 ≠ 0) : verdS s r = ((tryS s r).1, 0) := by unfold verdS; rw [if_neg h]
theorem try_ok {s : St} {r : Rec} (h : (tryS s r).1 = 0) : restS s r.act = false ∧ (makeB r.act = true → freshS s r.act.fid = true) ∧ staleS s (hereS s r.act) r.ver = false ∧ tryS s r = applyS s.tr (hereS s r.act) s.ver := by
  unfold tryS at h ⊢
  by_cases h1 : restS s r.act = true
  · rw [if_pos h1] at h; simp at h
  · rw [if_neg h1] at h ⊢
    by_cases h2 : (makeB r.act && !freshS s r.act.fid) = true
    · rw [if_pos h2] at h; simp at h
    · rw [if_neg h2] at h ⊢
      by_cases h3 : staleS s (hereS s r.act) r.ver = true
      · rw [if_pos h3] at h; simp at h
      · rw [if_neg h3]
        refine ⟨by simpa using h1, fun hm => ?_, by simpa using h3, rfl⟩
        rw [hm] at h2
        simpa using h2

/-- WHO RESTS ON WHAT WAS REFUSED -/
theorem ref_step {s : St} {f : Int} (h : s.ref f = true) (r : Rec) : (stepS s r).ref f = true := by
  unfold stepS
  split
  · exact h
  · show updB s.ref _ f = true
    unfold updB
    rw [h]
    rfl
theorem ref_stays : ∀ (l : List Rec) {s : St} {f : Int}, s.ref f = true → (judS s l).ref f = true
  | [], _, _, h => h
  | r :: l, _, _, h => ref_stays l (ref_step h r)
theorem rests_law (s : St) (l : List Rec) {i k : Nat} {a b : Rec} (hk : k < i) (ha : l[k]? = some a) (_ : l[i]? = some b) (hno : (verdS (judS s (l.take k)) a).1 ≠ 0) (hm : a.act.fid ∈ fidsS b.act) :
    (verdS (judS s (l.take i)) b).1 ≠ 0 := by
  have hr : (judS s (l.take (k + 1))).ref a.act.fid = true := by
    obtain ⟨h1, h2⟩ := List.getElem?_eq_some_iff.1 ha
    rw [List.take_succ_eq_append_getElem h1, h2, jud_snoc, step_no (fun h => hno (verd_zero.2 h))]
    simp [noS, updB]
  have e : l.take i = l.take (k + 1) ++ (l.drop (k + 1)).take (i - (k + 1)) := by
    conv => lhs; rw [show i = (k + 1) + (i - (k + 1)) by omega]
    rw [List.take_add]
  have hr2 : (judS s (l.take i)).ref a.act.fid = true := by
    rw [e, jud_append]
    exact ref_stays _ hr
  intro h0
  have h3 := (try_ok (verd_zero.1 h0)).1
  unfold restS at h3
  rw [List.any_eq_false] at h3
  exact h3 _ hm hr2

/-- who is not named stays -/
theorem other_stays {xs : List Nd} {b : Act} {v : Int} (h : (applyS xs b v).1 = 0) {f : Int} (hf : f ∉ fidsS b) : find (applyS xs b v).2 f = find xs f := by
  have hfid : f ≠ b.fid := fun e => hf (by rw [e]; exact List.mem_cons_self)
  rcases apply_cases h with ⟨hmk, h3, h5, e⟩ | ⟨h3, e⟩ | ⟨h4, e⟩ | ⟨h5, e⟩
  · rw [e] at h ⊢
    have hd : f ≠ b.dir := fun e => hf (by unfold fidsS; rw [if_neg h3, e]; simp)
    obtain ⟨h1, h2, h6, h7⟩ := bring_inv h
    rw [bring_ok h1 h2 h6 h7]
    obtain ⟨D, hD0, hD, _, hDf⟩ := dir_at h1
    rw [hD0, findN_if, if_neg hfid, findN_if, if_neg (by show f ≠ D.fid; rw [hDf]; exact hd)]
  · rw [e] at h ⊢
    obtain ⟨x, hx, _, _, e2⟩ := store_inv h
    rw [e2, findN_if, if_neg (by show f ≠ x.fid; rw [(find_mem hx).2]; exact hfid)]
  · rw [e] at h ⊢
    have hd : f ≠ b.dir := fun e => hf (by unfold fidsS; rw [if_neg (by omega), e]; simp)
    obtain ⟨h1, x, hx, he⟩ := remove_inv h
    obtain ⟨D, hD0, hD, _, hDf, _⟩ := hold_at h1
    rw [remove_ok h1 hx he, hD0, findD_if, if_neg hfid, findN_if, if_neg (by show f ≠ D.fid; rw [hDf]; exact hd)]
  · rw [e] at h ⊢
    have hd : f ≠ b.dir := fun e => hf (by unfold fidsS; rw [if_neg (by omega), e]; simp)
    have ht : f ≠ b.to := fun e => hf (by unfold fidsS; rw [if_neg (by omega), if_pos h5, e]; simp)
    obtain ⟨h1, h2, h3, h4, h6⟩ := rename_inv h
    rw [rename_ok h1 h2 h3 h4 h6]
    obtain ⟨D, hD0, hD, _, hDf, _⟩ := hold_at h1
    obtain ⟨T, hT0, hT, _, hTf⟩ := dir_at h2
    have e1 : (fromS xs b).fid = b.dir := by unfold fromS; rw [hD0]; exact hDf
    have e2 : (toS xs b).fid = b.to := by
      unfold toS
      by_cases e : b.to = b.dir
      · rw [if_pos e, e1, e]
      · rw [if_neg e, hT0]; exact hTf
    rw [findN_if, if_neg (by show f ≠ (toS xs b).fid; rw [e2]; exact ht), findN_if, if_neg (by show f ≠ (fromS xs b).fid; rw [e1]; exact hd)]
/-- what is made was not there -/
theorem made_new {xs : List Nd} {b : Act} {v : Int} (h : (applyS xs b v).1 = 0) (hm : makeB b = true) : find xs b.fid = none := by
  rcases apply_cases h with ⟨hmk, h3, h5, e⟩ | ⟨h3, e⟩ | ⟨h4, e⟩ | ⟨h5, e⟩
  · rw [e] at h
    obtain ⟨h1, h2, h6, h7⟩ := bring_inv h
    cases hx : find xs b.fid with
    | none => rfl
    | some x => exact absurd (.inr (by rw [hx]; rfl)) h6
  · unfold makeB at hm; rw [h3] at hm; simp at hm
  · unfold makeB at hm; rw [h4] at hm; simp at hm
  · unfold makeB at hm; rw [h5] at hm; simp at hm
theorem here_make (s : St) (a : Act) : makeB (hereS s a) = makeB a := rfl
theorem here_kind (s : St) (a : Act) : (hereS s a).kind = a.kind := rfl
theorem here_fid_make {s : St} {a : Act} (h : makeB a = true) : (hereS s a).fid = s.next := by
  show turnS s a a.fid = _
  unfold turnS
  rw [h]
  simp
theorem here_fids {s : St} {a : Act} {f : Int} (h : f ∈ fidsS (hereS s a)) : ∃ g ∈ fidsS a, f = turnS s a g := by
  unfold fidsS at h ⊢
  rw [here_kind] at h
  by_cases h3 : a.kind = 3
  · rw [if_pos h3, if_neg (by omega)] at h ⊢
    simp at h ⊢
    exact h
  · rw [if_neg h3] at h ⊢
    by_cases h5 : a.kind = 5
    · rw [if_pos h5] at h ⊢
      simp at h ⊢
      rcases h with h | h | h
      · exact .inl h
      · exact .inr (.inl h)
      · refine .inr (.inr ?_)
        rw [h]; show (if a.kind = 5 then turnS s a a.to else a.to) = _
        rw [if_pos h5]
    · rw [if_neg h5] at h ⊢
      simp at h ⊢
      exact h
/-- WHAT OTHERS CHANGED: what the log has not touched is as it was -/
structure Same0 (xs : List Nd) (T : Int → Prop) (s : St) : Prop where
  made : ∀ g, 0 ≤ g → s.made g = none
  keep : ∀ f x, 0 ≤ f → find xs f = some x → ¬ T f → find s.tr f = some x ∧ s.tch f = false ∧ ∀ g, s.made g ≠ some f
theorem same0_beg (xs : List Nd) (n v : Int) : Same0 xs (fun _ => False) (begS xs n v) := ⟨fun _ _ => rfl, fun _ _ _ h _ => ⟨h, rfl, fun _ => by intro h; cases h⟩⟩
theorem same0_step {xs : List Nd} {T : Int → Prop} {s : St} (h : Same0 xs T s) (r : Rec) : Same0 xs (fun f => T f ∨ f ∈ fidsS r.act) (stepS s r) := by
  by_cases h0 : (tryS s r).1 = 0
  · obtain ⟨_, hfr, _, e⟩ := try_ok h0
    rw [step_yes h0]
    rw [e] at h0
    constructor
    · intro g hg
      show (if makeB r.act then updM s.made r.act.fid (hereS s r.act).fid else s.made) g = none
      by_cases hm : makeB r.act = true
      · rw [if_pos hm]
        have := hfr hm
        unfold freshS at this
        simp at this
        unfold updM
        rw [if_neg (by omega)]
        exact h.made g hg
      · rw [if_neg hm]; exact h.made g hg
    · intro f x hf hx hT
      obtain ⟨k1, k2, k3⟩ := h.keep f x hf hx (fun h => hT (.inl h))
      have hnm : makeB r.act = true → s.next ≠ f := fun hm e => by
        have := made_new h0 (by rw [here_make]; exact hm)
        rw [here_fid_make hm, e, k1] at this
        cases this
      have hno : f ∉ fidsS (hereS s r.act) := by
        intro hin
        obtain ⟨g, hg, e⟩ := here_fids hin
        unfold turnS at e
        by_cases hc : (makeB r.act && decide (g = r.act.fid)) = true
        · rw [if_pos hc] at e
          simp at hc
          exact hnm hc.1 e.symm
        · rw [if_neg hc] at e
          cases hmd : s.made g with
          | none => rw [hmd] at e; exact hT (.inr (by rw [e]; exact hg))
          | some y => rw [hmd] at e; exact k3 g (by rw [hmd, e]; rfl)
      refine ⟨?_, ?_, ?_⟩
      · show find (tryS s r).2 f = _
        rw [e, other_stays h0 hno]
        exact k1
      · show updB s.tch _ f = false
        unfold updB
        rw [k2]
        simp [hno]
      · intro g
        show (if makeB r.act then updM s.made r.act.fid (hereS s r.act).fid else s.made) g ≠ some f
        by_cases hm : makeB r.act = true
        · rw [if_pos hm, here_fid_make hm]
          unfold updM
          by_cases hg : g = r.act.fid
          · rw [if_pos hg]; intro e; injection e with e; exact hnm hm e
          · rw [if_neg hg]; exact k3 g
        · rw [if_neg hm]; exact k3 g
  · rw [step_no h0]
    exact ⟨h.made, fun f x hf hx hT => h.keep f x hf hx (fun h => hT (.inl h))⟩
theorem stale_law {xs : List Nd} {T : Int → Prop} {s : St} (h : Same0 xs T s) {r : Rec} {x : Nd} (hf : 0 ≤ r.act.fid) (hx : find xs r.act.fid = some x) (hT : ¬ T r.act.fid) (hv : 0 ≤ r.ver) (hne : x.ver ≠ r.ver) (hk : r.act.kind = 3 ∨ r.act.kind = 4) :
    (verdS s r).1 ≠ 0 := by
  intro h0
  obtain ⟨_, _, hst, _⟩ := try_ok (verd_zero.1 h0)
  obtain ⟨k1, k2, k3⟩ := h.keep _ x hf hx hT
  have hm : makeB r.act = false := by unfold makeB; rcases hk with hk | hk <;> rw [hk] <;> rfl
  have e : (hereS s r.act).fid = r.act.fid := by
    show turnS s r.act r.act.fid = _
    unfold turnS
    rw [hm, h.made _ hf]
    rfl
  unfold staleS at hst
  rw [e, here_kind, k2] at hst
  unfold otherS at hst
  rw [k1] at hst
  rcases hk with hk | hk <;> rw [hk] at hst <;> simp [hv, hne] at hst

/-- WHAT IS SAID TO BE DONE: acts, one behind the other, of versions that rise -/
noncomputable def appsS : List Nd → List Act → Int → Option (List Nd)
  | xs, [], _ => some xs
  | xs, a :: l, v => if (applyS xs a v).1 = 0 then appsS (applyS xs a v).2 l (v + 1) else none
theorem apps_snoc : ∀ (l : List Act) (a : Act) (xs ys : List Nd) (v : Int), appsS xs l v = some ys → (applyS ys a (v + l.length)).1 = 0 → appsS xs (l ++ [a]) v = some (applyS ys a (v + l.length)).2
  | [], a, xs, ys, v, h, h0 => by
    injection h with h
    subst h
    simp at h0 ⊢
    unfold appsS
    rw [if_pos h0]
    rfl
  | b :: l, a, xs, ys, v, h, h0 => by
    rw [appsS] at h
    split at h
    · rename_i hb
      have e : v + ((b :: l).length : Int) = (v + 1) + (l.length : Int) := by rw [List.length_cons]; omega
      rw [e] at h0 ⊢
      rw [List.cons_append, appsS, if_pos hb]
      exact apps_snoc l a _ ys (v + 1) h h0
    · cases h
def madeN (l : List Act) : Nat := (l.filter makeB).length
def goodN (vs : List (Int × Int)) : Nat := (vs.filter fun v => decide (v.1 = 0)).length
structure Done (xs : List Nd) (n v : Int) (s : St) (vs : List (Int × Int)) : Prop where
  run : appsS xs s.done v = some s.tr
  ver : s.ver = v + s.done.length
  next : s.next = n + madeN s.done
  good : goodN vs = s.done.length
  fid : ∀ q ∈ vs, q.1 ≠ 0 → q.2 = 0
theorem done_beg (xs : List Nd) (n v : Int) : Done xs n v (begS xs n v) [] := ⟨rfl, by simp [begS], by simp [begS, madeN], rfl, by simp⟩
theorem done_step {xs : List Nd} {n v : Int} {s : St} {vs : List (Int × Int)} (h : Done xs n v s vs) (r : Rec) : Done xs n v (stepS s r) (vs ++ [verdS s r]) := by
  by_cases h0 : (tryS s r).1 = 0
  · obtain ⟨_, _, _, e⟩ := try_ok h0
    rw [step_yes h0, verd_yes h0]
    rw [e] at h0
    refine ⟨?_, ?_, ?_, ?_, ?_⟩
    · show appsS xs (s.done ++ [hereS s r.act]) v = some (tryS s r).2
      rw [h.ver] at h0
      rw [apps_snoc _ _ _ _ _ h.run h0, e, h.ver]
    · show s.ver + 1 = v + ((s.done ++ [hereS s r.act]).length : Int)
      rw [h.ver, List.length_append, List.length_singleton]; omega
    · show (if makeB r.act then s.next + 1 else s.next) = n + (madeN (s.done ++ [hereS s r.act]) : Int)
      unfold madeN
      rw [List.filter_append, List.length_append]
      have hn := h.next
      unfold madeN at hn
      by_cases hm : makeB r.act = true
      · rw [if_pos hm, List.filter_cons_of_pos (by rw [here_make]; exact hm)]
        simp
        omega
      · rw [if_neg hm, List.filter_cons_of_neg (by rw [here_make]; exact hm)]
        simp
        omega
    · unfold goodN
      rw [List.filter_append, List.length_append, List.filter_cons_of_pos (by rfl)]
      show _ = (s.done ++ [hereS s r.act]).length
      rw [List.length_append]
      have := h.good
      unfold goodN at this
      rw [this]
      rfl
    · intro q hq hne
      rcases List.mem_append.1 hq with hq | hq
      · exact h.fid q hq hne
      · rw [List.mem_singleton.1 hq] at hne; exact absurd rfl hne
  · rw [step_no h0, verd_no h0]
    refine ⟨h.run, h.ver, h.next, ?_, ?_⟩
    · unfold goodN
      rw [List.filter_append, List.filter_cons_of_neg (by simp [h0])]
      have := h.good
      unfold goodN at this
      rw [List.filter_nil, List.append_nil]
      exact this
    · intro q hq hne
      rcases List.mem_append.1 hq with hq | hq
      · exact h.fid q hq hne
      · rw [List.mem_singleton.1 hq]
theorem done_jud (xs : List Nd) (n v : Int) : ∀ (l : List Rec) {s : St} {vs : List (Int × Int)}, Done xs n v s vs → Done xs n v (judS s l) (vs ++ verS s l)
  | [], _, _, h => by simpa [verS, judS] using h
  | r :: l, s, vs, h => by
    have := done_jud xs n v l (done_step h r)
    rw [List.append_assoc] at this
    exact this
theorem done_all (xs : List Nd) (n v : Int) (l : List Rec) : Done xs n v (judS (begS xs n v) l) (verS (begS xs n v) l) := done_jud xs n v l (done_beg xs n v)
end M
open M
/-- a tree stays as it must be -/
theorem good_step {s : M.St} (h : Good s.tr) (r : Rec) : Good (stepS s r).tr := by
  by_cases h0 : (tryS s r).1 = 0
  · rw [step_yes h0]
    show Good (tryS s r).2
    rw [(try_ok h0).2.2.2]
    exact good_apply h _ _
  · rw [step_no h0]; exact h
theorem good_jud : ∀ (l : List Rec) {s : M.St}, Good s.tr → Good (judS s l).tr
  | [], _, h => h
  | r :: l, _, h => good_jud l (good_step h r)
/-- no number grows by more than one a record -/
structure Near (n v : Int) (k : Nat) (s : M.St) : Prop where
  nlo : n ≤ s.next
  nhi : s.next ≤ n + k
  vlo : v ≤ s.ver
  vhi : s.ver ≤ v + k
  len : s.done.length ≤ k
theorem near_step {n v : Int} {k : Nat} {s : M.St} (h : Near n v k s) (r : Rec) : Near n v (k + 1) (stepS s r) := by
  obtain ⟨h1, h2, h3, h4, h5⟩ := h
  by_cases h0 : (tryS s r).1 = 0
  · rw [step_yes h0]
    unfold yesS
    refine ⟨?_, ?_, ?_, ?_, ?_⟩ <;> simp only [List.length_append, List.length_singleton] <;> (try split) <;> omega
  · rw [step_no h0]
    exact ⟨h1, by show s.next ≤ _; omega, h3, by show s.ver ≤ _; omega, by show s.done.length ≤ _; omega⟩
theorem near_beg (xs : List Nd) (n v : Int) : Near n v 0 (begS xs n v) := ⟨Int.le_refl _, by simp [begS], Int.le_refl _, by simp [begS], Nat.le_refl _⟩
end Go.Proofs.Ytkhifljgocopoad
/-
  WHAT STAYS: blocks of cells of one type, while others are written.
-/
namespace Go.Proofs.Ytkhifljgocopoad
open Go.RowKit
open Go.ChangeMaps (setBlock)

/-- blocks of cells of that type are as they were -/
def KeepE (e : TypeId) (w w' : World) : Prop := ∀ (g : Nat) (cur : Array Value), w.heap[g]? = some (.cells cur e (0, 0)) → w'.heap[g]? = some (.cells cur e (0, 0))
theorem KeepE.refl (e : TypeId) (w : World) : KeepE e w w := fun _ _ h => h
theorem KeepE.trans {e : TypeId} {a b c : World} (h : KeepE e a b) (k : KeepE e b c) : KeepE e a c := fun g cur hg => k g cur (h g cur hg)
theorem KeepE.below {e : TypeId} {C : Nat} {w w' : World} (hb : Below C w w') (hC : w.heap.size ≤ C) : KeepE e w w' := fun g cur hg => by rw [hb.block g (by have := lt_of_block hg; omega)]; exact hg
theorem KeepE.alloc (e : TypeId) (w : World) (o : Obj) : KeepE e w (w.alloc o) := KeepE.below ((Below.refl _ _).alloc (Nat.le_refl _) o) (Nat.le_refl _)
theorem KeepE.setBlock {e : TypeId} {w : World} {b : Nat} {f : Int → Option Value} (h : IMap w b f) (o : Obj) : KeepE e w (setBlock w b o) := fun g cur hg => by
  obtain ⟨es, c, hb, _⟩ := h
  rw [setBlock_other (fun e => by rw [e, hb] at hg; cases hg)]
  exact hg
theorem KeepE.setCell {e t : TypeId} {w : World} {s : Nat} {cs : Array Value} {fz : Nat × Nat} (h : w.heap[s]? = some (.cells cs t fz)) (ht : t ≠ e) (o : Nat) (u : Value) : KeepE e w (w.setCell ⟨s, o, none⟩ u) := fun g cur hg => by
  rw [Below.heap_setCell _ _ _ _ (fun k => by subst k; rw [h] at hg; injection hg with hg; injection hg with _ hg _; exact ht hg)]
  exact hg
theorem KeepE.grown {w w' : World} {e e' : TypeId} {B' k' : Nat} {v' : Value} {n' : Nat} {xs' : List Value} (h' : w.ownsRow B' e' k' v' n' xs') (hne : e ≠ e') (hg : w.grownBy w' v'.ownBlock) : KeepE e w w' := fun g cur hgc => by
  rw [hg.block g (lt_of_block hgc) (fun k => ?_)]
  · exact hgc
  · rcases h'.2 with ⟨rfl, _⟩ | ⟨g', cap, cur', rfl, _, hh, _⟩
    · cases k
    · cases k
      rw [hh] at hgc
      injection hgc with hgc
      injection hgc with _ hgc _
      exact hne hgc.symm
theorem own_keep {w w' : World} {B : Nat} {e : TypeId} {k : Nat} {v : Value} {n : Nat} {xs : List Value} (h : w.ownsRow B e k v n xs) (hk : KeepE e w w') : w'.ownsRow B e k v n xs := by
  refine ⟨h.1, ?_⟩
  rcases h.2 with h2 | ⟨g, cap, cur, e1, h1, hg, r⟩
  · exact .inl h2
  · exact .inr ⟨g, cap, cur, e1, h1, hk g cur hg, r⟩
theorem OwnN.keep {w w' : World} {B : Nat} {v : NV} {x : M.Nd} (h : OwnN w B v x) (h5 : KeepE 5 w w') (hE : KeepE 50 w w') : OwnN w' B v x :=
  ⟨h.1, h.2.1, h.2.2.1, own_keep h.2.2.2.1 h5, own_keep h.2.2.2.2 hE⟩
theorem OwnT.keep {w w' : World} {B : Nat} {A : Option Addr} {n c : Nat} {vs : List NV} {xs : List M.Nd} (h : OwnT w B A n c vs xs) (hN : KeepE 41 w w') (h5 : KeepE 5 w w') (hE : KeepE 50 w w') : OwnT w' B A n c vs xs :=
  ⟨own_keep h.1 hN, h.2.imp fun _ _ h => h.keep h5 hE⟩
theorem OwnA.keep {w w' : World} {B : Nat} {v : AV} {x : M.Act} (h : OwnA w B v x) (h5 : KeepE 5 w w') : OwnA w' B v x :=
  ⟨h.1, h.2.1, h.2.2.1, h.2.2.2.1, h.2.2.2.2.1, h.2.2.2.2.2.1, own_keep h.2.2.2.2.2.2 h5⟩
theorem OwnAs.keep {w w' : World} {B : Nat} {A : Option Addr} {n c : Nat} {vs : List AV} {xs : List M.Act} (h : OwnAs w B A n c vs xs) (hA : KeepE 36 w w') (h5 : KeepE 5 w w') : OwnAs w' B A n c vs xs :=
  ⟨own_keep h.1 hA, h.2.imp fun _ _ h => h.keep h5⟩
/-- all types but one's own -/
def KeepO (t : TypeId) (w w' : World) : Prop := ∀ e, e ≠ t → KeepE e w w'
theorem KeepO.trans {t : TypeId} {a b c : World} (h : KeepO t a b) (k : KeepO t b c) : KeepO t a c := fun e he => (h e he).trans (k e he)
theorem KeepO.below {t : TypeId} {C : Nat} {w w' : World} (hb : Below C w w') (hC : w.heap.size ≤ C) : KeepO t w w' := fun _ _ => KeepE.below hb hC
theorem KeepO.setBlock {t : TypeId} {w : World} {b : Nat} {f : Int → Option Value} (h : IMap w b f) (o : Obj) : KeepO t w (setBlock w b o) := fun _ _ => KeepE.setBlock h o
theorem KeepO.setCell {t : TypeId} {w : World} {s : Nat} {cs : Array Value} {fz : Nat × Nat} (h : w.heap[s]? = some (.cells cs t fz)) (o : Nat) (u : Value) : KeepO t w (w.setCell ⟨s, o, none⟩ u) := fun _ he => KeepE.setCell h (fun k => he k.symm) o u
theorem IMap.setCell {w : World} {b s : Nat} {f : Int → Option Value} {cs : Array Value} {t : TypeId} {fz : Nat × Nat} (h : IMap w b f) (hs : w.heap[s]? = some (.cells cs t fz)) (o : Nat) (u : Value) : IMap (w.setCell ⟨s, o, none⟩ u) b f := by
  refine h.same (Below.heap_setCell _ _ _ _ (fun k => ?_))
  obtain ⟨es, c, hb, _⟩ := h
  subst k
  rw [hs] at hb
  cases hb
theorem IMap.setBlock {w : World} {b s : Nat} {f : Int → Option Value} (h : IMap w b f) (hs : b ≠ s) (o : Obj) : IMap (setBlock w s o) b f := h.same (setBlock_other hs)
theorem IMap.grown {w w' : World} {b : Nat} {f : Int → Option Value} {e' : TypeId} {B' k' : Nat} {v' : Value} {n' : Nat} {xs' : List Value} (h : IMap w b f) (h' : w.ownsRow B' e' k' v' n' xs') (hg : w.grownBy w' v'.ownBlock) : IMap w' b f := by
  refine h.same (hg.block b h.lt (fun k => ?_))
  obtain ⟨es, c, hb, _⟩ := h
  rcases h'.2 with ⟨rfl, _⟩ | ⟨g', cap, cur', rfl, _, hh, _⟩
  · cases k
  · cases k
    rw [hh] at hb
    cases hb
end Go.Proofs.Ytkhifljgocopoad
/-
  PACKAGE cert: the state in memory; what it turns, what rests, what is fresh.
-/
namespace Go.Proofs.Ytkhifljgocopoad
open Go.RowKit
open Go.ChangeMaps (setBlock)

def intF (f : Int → Option Int) : Int → Option Value := fun k => (f k).map fun x => Value.int .i64 x
def setF (f : Int → Bool) : Int → Option Value := fun k => if f k then some (.agg #[]) else none
/-- the state, in memory -/
structure StM (w : World) (B sb : Nat) (s : M.St) (A : Option Addr) (n c : Nat) (us : List NV) (D : Option Addr) (p q : Nat) (avs : List AV) (b1 b2 b3 : Nat) : Prop where
  box : w.heap[sb]? = some (.cells #[.slice A n c, .int .i64 s.next, .int .i64 s.ver, .slice D p q, .map (some b1), .map (some b2), .map (some b3)] 57 (0, 0))
  tree : OwnT w B A n c us s.tr
  acts : OwnAs w B D p q avs s.done
  m1 : IMap w b1 (intF s.made)
  m2 : IMap w b2 (setF s.tch)
  m3 : IMap w b3 (setF s.ref)
  lo : B ≤ sb ∧ B ≤ b1 ∧ B ≤ b2 ∧ B ≤ b3
  ne : b1 ≠ b2 ∧ b1 ≠ b3 ∧ b2 ≠ b3
theorem StM.facts {w : World} {B sb : Nat} {s : M.St} {A : Option Addr} {n c : Nat} {us : List NV} {D : Option Addr} {p q : Nat} {avs : List AV} {b1 b2 b3 : Nat} (h : StM w B sb s A n c us D p q avs b1 b2 b3) :
    w.cell? ⟨sb, 0, none⟩ = some (.slice A n c) ∧ w.cell? ⟨sb, 1, none⟩ = some (.int .i64 s.next) ∧ w.cell? ⟨sb, 2, none⟩ = some (.int .i64 s.ver) ∧ w.cell? ⟨sb, 3, none⟩ = some (.slice D p q) ∧ w.cell? ⟨sb, 4, none⟩ = some (.map (some b1)) ∧
      w.cell? ⟨sb, 5, none⟩ = some (.map (some b2)) ∧ w.cell? ⟨sb, 6, none⟩ = some (.map (some b3)) ∧ (∀ o, w.frozen? ⟨sb, o, none⟩ = false) ∧ sb < w.heap.size := by
  have hb := h.box
  refine ⟨by simp [World.cell?, hb], by simp [World.cell?, hb], by simp [World.cell?, hb], by simp [World.cell?, hb], by simp [World.cell?, hb], by simp [World.cell?, hb], by simp [World.cell?, hb], fun o => by simp [World.frozen?, hb], lt_of_block hb⟩
theorem StM.below {w w' : World} {B C sb : Nat} {s : M.St} {A : Option Addr} {n c : Nat} {us : List NV} {D : Option Addr} {p q : Nat} {avs : List AV} {b1 b2 b3 : Nat} (h : StM w B sb s A n c us D p q avs b1 b2 b3) (hC : w.heap.size ≤ C) (hb : Below C w w') : StM w' B sb s A n c us D p q avs b1 b2 b3 :=
  ⟨by rw [hb.block sb (by have := lt_of_block h.box; omega)]; exact h.box, h.tree.below hC hb, h.acts.below hC hb, h.m1.below hC hb, h.m2.below hC hb, h.m3.below hC hb, h.lo, h.ne⟩

theorem zeroI (w : World) : (zeroValue 3).run Try.prog w = .ok (.int .i64 0) w := by
  obtain ⟨i3, hi3, hz3, hs3, hb3⟩ := info_parts info3
  simp [zeroValue, typeInfo, hi3, hz3]
theorem infoU : (Try.prog.info? 62).map (fun i => (i.zero, i.size, i.bytes)) = some (some (.agg #[]), 0, 0) := by kernel_rfl
theorem zeroU (w : World) : (zeroValue 62).run Try.prog w = .ok (.agg #[]) w := by
  obtain ⟨i3, hi3, hz3, hs3, hb3⟩ := info_parts infoU
  simp [zeroValue, typeInfo, hi3, hz3]
theorem ask_int {w : World} {b : Nat} {f : Int → Option Int} (h : IMap w b (intF f)) (k : Int) :
    (Instr.lookup 54 (.map (some b)) (.int .i64 k) true).run Try.prog w = .ok (.tuple #[.int .i64 ((f k).getD 0), .bool (f k).isSome]) w := by
  rw [run_lookup_map 54 3 Try.underlying54 (zeroI w) h k true]
  unfold intF
  cases f k <;> rfl
theorem ask_set {w : World} {b : Nat} {f : Int → Bool} (h : IMap w b (setF f)) (k : Int) :
    (Instr.lookup 55 (.map (some b)) (.int .i64 k) true).run Try.prog w = .ok (.tuple #[.agg #[], .bool (f k)]) w := by
  rw [run_lookup_map 55 62 Try.underlying55 (zeroU w) h k true]
  unfold setF
  cases f k <;> rfl

/-- what is turned: the closure's variables -/
theorem turned_any (s : M.St) (a : M.Act) (f : Int) (B sb bm bo bs : Nat) (A : Option Addr) (n c : Nat) (us : List NV) (D : Option Addr) (p q : Nat) (avs : List AV) (b1 b2 b3 : Nat) (w : World) (h : StM w B sb s A n c us D p q avs b1 b2 b3)
    (hm : w.cell? ⟨bm, 0, none⟩ = some (.bool (M.makeB a))) (ho : w.cell? ⟨bo, 0, none⟩ = some (.int .i64 a.fid)) (hp : w.cell? ⟨bs, 0, none⟩ = some (.pointer (some ⟨sb, 0, none⟩))) :
    Calls Try.prog 18 #[.int .i64 f, .pointer (some ⟨bm, 0, none⟩), .pointer (some ⟨bo, 0, none⟩), .pointer (some ⟨bs, 0, none⟩)] w fun e w' => e = .returned (.int .i64 (M.turnS s a f)) ∧ w' = w := by
  obtain ⟨f0, f1, f2, f3, f4, f5, f6, ff, fz⟩ := h.facts
  have hl := ask_int h.m1 f
  by_cases hc : M.makeB a = true
  · rw [hc] at hm
    by_cases he : f = a.fid
    · have HR : Hid (M.turnS s a f = s.next) := by show _ = _; unfold M.turnS; rw [hc]; simp [he]
      have he' : (f == a.fid) = true := by simp [he]
      clear he
      go_enter Try.func18, Try.ntmps18
      go_wp2
      go_ret
      exact ⟨ret_int HR.out.symm, rfl⟩
    · have he' : (f == a.fid) = false := by simp [he]
      cases hmd : s.made f with
      | none =>
        have HR : Hid (M.turnS s a f = f) := by show _ = _; unfold M.turnS; rw [hc, hmd]; simp [he]
        rw [hmd] at hl
        clear he hmd
        go_enter Try.func18, Try.ntmps18
        go_wp2
        go_ret
        exact ⟨ret_int HR.out.symm, rfl⟩
      | some y =>
        have HR : Hid (M.turnS s a f = y) := by show _ = _; unfold M.turnS; rw [hc, hmd]; simp [he]
        rw [hmd] at hl
        clear he hmd
        go_enter Try.func18, Try.ntmps18
        go_wp2
        go_ret
        exact ⟨by rw [HR.out]; rfl, rfl⟩
  · rw [Bool.not_eq_true] at hc
    rw [hc] at hm
    cases hmd : s.made f with
    | none =>
      have HR : Hid (M.turnS s a f = f) := by show _ = _; unfold M.turnS; rw [hc, hmd]; simp
      rw [hmd] at hl
      clear hmd
      go_enter Try.func18, Try.ntmps18
      go_wp2
      go_ret
      exact ⟨ret_int HR.out.symm, rfl⟩
    | some y =>
      have HR : Hid (M.turnS s a f = y) := by show _ = _; unfold M.turnS; rw [hc, hmd]; simp
      rw [hmd] at hl
      clear hmd
      go_enter Try.func18, Try.ntmps18
      go_wp2
      go_ret
      exact ⟨by rw [HR.out]; rfl, rfl⟩

theorem fresh_any (s : M.St) (f : Int) (B sb : Nat) (A : Option Addr) (n c : Nat) (us : List NV) (D : Option Addr) (p q : Nat) (avs : List AV) (b1 b2 b3 : Nat) (w : World) (h : StM w B sb s A n c us D p q avs b1 b2 b3) :
    Calls Try.prog 20 #[.pointer (some ⟨sb, 0, none⟩), .int .i64 f] w fun e w' => e = .returned (.bool (M.freshS s f)) ∧ w' = w := by
  obtain ⟨f0, f1, f2, f3, f4, f5, f6, ff, fz⟩ := h.facts
  have hl := ask_int h.m1 f
  by_cases hn : f < 0
  · have HR : Hid (M.freshS s f = !(s.made f).isSome) := by show _ = _; unfold M.freshS; simp [hn]
    cases hmd : (s.made f).isSome
    all_goals
      rw [hmd] at hl
      have HQ := HR
      unfold Hid at HQ
      rw [hmd] at HQ
      have HS : Hid _ := HQ
      clear HQ HR hmd
      go_enter Try.func20, Try.ntmps20
      go_wp2
      go_ret
      exact ⟨by rw [HS.out]; first | rfl | simp, rfl⟩
  · have HR : Hid (M.freshS s f = false) := by show _ = _; unfold M.freshS; simp [hn]
    go_enter Try.func20, Try.ntmps20
    go_wp2
    go_ret
    exact ⟨by rw [HR.out]; first | rfl | simp [hn], rfl⟩
end Go.Proofs.Ytkhifljgocopoad
