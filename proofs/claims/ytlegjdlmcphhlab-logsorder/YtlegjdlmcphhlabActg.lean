/-
  PACKAGE acts: Fids, Own; and the reference's Fids.
-/
import Derived.Test.YtlegjdlmcphhlabActf
import Derived.Test.YtlegjdlmcphhlabQueue
namespace Go.Proofs.Ytlegjdlmcphhlab
open Go.RowKit

/-- what Fids answers -/
def FidsPost (w : World) (ac : M.Act) (e : Ending) (w' : World) : Prop :=
  ∃ (A : Option Addr) (c : Nat), e = .returned (.slice A (M.fidsS ac).length c) ∧ w'.ownsRow w.heap.size 3 1 (.slice A (M.fidsS ac).length c) (M.fidsS ac).length ((M.fidsS ac).map fun f => Value.int .i64 f) ∧ Below w.heap.size w w'
theorem fids_start (w : World) (a : AV) : ∀ W, W = (w.alloc (.cells #[.int .i64 a.kind, .int .i64 a.fid, .int .i64 a.dir, .string a.name, .int .i64 a.to, .string a.toName, .slice a.dA a.dn a.dc] 26)).alloc (.cells #[.int .i64 a.fid] 3) →
    Below w.heap.size w W ∧ BoxA W w.heap.size a ∧ W.ownsRow w.heap.size 3 1 (.slice (some ⟨w.heap.size + 1, 0, none⟩) 1 1) 1 [.int .i64 a.fid] ∧ W.heap.size = w.heap.size + 2 := by
  rintro W rfl
  refine ⟨((Below.refl _ _).alloc (Nat.le_refl _) _).alloc (by simp) _, (BoxA.new w a).alloc _, ?_, by simp⟩
  have h := World.ownsRow_lit (e := 3) (size := 1) (base := w.heap.size) (w.alloc (.cells #[.int .i64 a.kind, .int .i64 a.fid, .int .i64 a.dir, .string a.name, .int .i64 a.to, .string a.toName, .slice a.dA a.dn a.dc] 26)) #[.int .i64 a.fid] 1 (by simp) (by decide) rfl
  simpa using h
theorem fids_grow {w W w2 : World} {a : AV} {O : Obj} {g : Nat} {c : Nat} {B2 : Option Addr} {c2 : Nat} {L : List Value} (q1 : Below w.heap.size w W) (q2 : BoxA W w.heap.size a) (q4 : W.heap.size = w.heap.size + 2)
    (hg : (W.alloc O).grownBy w2 (Value.slice (some ⟨w.heap.size + 1, 0, none⟩) g c).ownBlock) (ho : w2.ownsRow w.heap.size 3 1 (.slice B2 2 c2) 2 L) : Below w.heap.size w w2 ∧ BoxA w2 w.heap.size a ∧ w2.ownsRow w.heap.size 3 1 (.slice B2 2 c2) 2 L := by
  have hk : ∀ k, (Value.slice (some ⟨w.heap.size + 1, 0, none⟩) g c).ownBlock = some k → k = w.heap.size + 1 := fun k hk => by simp [Value.ownBlock] at hk; exact hk.symm
  refine ⟨Below.grown (q1.alloc (by omega) O) hg (by simp; omega) (fun k h => by have := hk k h; omega), ?_, ho⟩
  unfold BoxA at q2 ⊢
  rw [hg.block w.heap.size (by simp; omega) (fun e => by have := hk _ e.symm; omega), Below.heap_alloc _ _ _ (by omega)]
  exact q2

set_option maxHeartbeats 1000000 in
theorem fids_any (a : AV) (ac : M.Act) (w : World) (ha : ContA w a ac) : Calls Try.prog 31 #[a.val] w (FidsPost w ac) := by
  obtain ⟨i0, hi, hz, hsz, hbz⟩ := info_parts info3
  have HW : Hid _ := fids_start w a
  have HK : Hid (a.kind = ac.kind ∧ a.fid = ac.fid ∧ a.dir = ac.dir ∧ a.to = ac.to) := ⟨ha.1, ha.2.1, ha.2.2.1, ha.2.2.2.2.1⟩
  clear ha
  by_cases h3 : a.kind = 3
  · have k3 : (a.kind == 3) = true := by simp [h3]
    have k3' : (a.kind != 3) = false := by simp [h3]
    have k5 : (a.kind == 5) = false := by simp [h3]
    have HS : Hid (M.fidsS ac = [a.fid]) := by show _ = _; unfold M.fidsS; rw [← HK.out.1, if_pos h3, if_neg (by rw [h3]; decide), HK.out.2.1]; rfl
    clear h3
    go_enter Try.func31, Try.ntmps31
    go_wp2_with (fail)
    go_ret
    obtain ⟨q1, q2, q3, q4⟩ := HW.out _ rfl
    exact ⟨_, 1, by rw [HS.out]; rfl, by rw [HS.out]; exact q3, q1⟩
  · have k3 : (a.kind == 3) = false := by simp [h3]
    have k3' : (a.kind != 3) = true := by simp [h3]
    by_cases h5 : a.kind = 5
    · have k5 : (a.kind == 5) = true := by simp [h5]
      have HS : Hid (M.fidsS ac = [a.fid, a.dir, a.to]) := by show _ = _; unfold M.fidsS; rw [← HK.out.1, if_neg h3, if_pos h5, HK.out.2.1, HK.out.2.2.1, HK.out.2.2.2]; rfl
      clear h3 h5
      go_enter Try.func31, Try.ntmps31
      go_wp2_with (first
        | (have HQ := HB2; clear HQ; at_builtin; refine wpList_append_own _ (by rfl) (.tmp 18) (.tmp 21) 44 (by rfl) w.heap.size 3 i0 (.int .i64 0) 1 8 Try.underlying44 hi hz hsz hbz rfl (by decide) _ 2 _ (by rfl) (HB2.out.2.2.alloc _) ⟨w2.heap.size, 0, none⟩ 1 1 [.int .i64 a.to] (by rfl) rfl (cell_new1 _ _ _ _ rfl) (fun u hu => by simp at hu; subst hu; rfl) (by unfold maxLen; omega) (by omega) (by simp; omega) ?_; intro v3 w3 hown3 hg3 _; obtain ⟨B3, c3, rfl, _, _⟩ := own_form hown3; have HP : Hid (FidsPost w ac (.returned (.slice B3 3 c3)) w3) := ⟨B3, c3, by rw [HS.out]; rfl, by rw [HS.out]; exact hown3, Below.grown (HB2.out.1.alloc (by omega) _) hg3 (by simp; omega) (fun k hk => by have := (HB2.out.2.2.lt k hk).1; omega)⟩; clear hown3 hg3)
        | (at_builtin; refine wpList_append_own _ (by rfl) (.tmp 10) (.tmp 13) 44 (by rfl) w.heap.size 3 i0 (.int .i64 0) 1 8 Try.underlying44 hi hz hsz hbz rfl (by decide) _ 1 _ (by rfl) ((HW.out _ rfl).2.2.1.alloc _) ⟨w.heap.size + 1 + 1, 0, none⟩ 1 1 [.int .i64 a.dir] (by rfl) rfl (cell_new1 _ _ _ _ (by simp)) (fun u hu => by simp at hu; subst hu; rfl) (by unfold maxLen; omega) (by omega) (by simp; omega) ?_; intro v2 w2 hown2 hg2 _; obtain ⟨B2, c2, rfl, _, _⟩ := own_form hown2; have HB2 : Hid (Below w.heap.size w w2 ∧ BoxA w2 w.heap.size a ∧ w2.ownsRow w.heap.size 3 1 (.slice B2 2 c2) 2 [.int .i64 a.fid, .int .i64 a.dir]) := fids_grow (HW.out _ rfl).1 (HW.out _ rfl).2.1 (HW.out _ rfl).2.2.2 hg2 hown2; clear hown2 hg2 HW; obtain ⟨a0, a1, a2, a3, a4, a5, a6, af, az⟩ := HB2.out.2.1.facts))
      go_ret
      exact HP.out
    · have k5 : (a.kind == 5) = false := by simp [h5]
      have HS : Hid (M.fidsS ac = [a.fid, a.dir]) := by show _ = _; unfold M.fidsS; rw [← HK.out.1, if_neg h3, if_neg h5, HK.out.2.1, HK.out.2.2.1]; rfl
      clear h3 h5
      go_enter Try.func31, Try.ntmps31
      go_wp2_with (at_builtin; refine wpList_append_own _ (by rfl) (.tmp 10) (.tmp 13) 44 (by rfl) w.heap.size 3 i0 (.int .i64 0) 1 8 Try.underlying44 hi hz hsz hbz rfl (by decide) _ 1 _ (by rfl) ((HW.out _ rfl).2.2.1.alloc _) ⟨w.heap.size + 1 + 1, 0, none⟩ 1 1 [.int .i64 a.dir] (by rfl) rfl (cell_new1 _ _ _ _ (by simp)) (fun u hu => by simp at hu; subst hu; rfl) (by unfold maxLen; omega) (by omega) (by simp; omega) ?_; intro v2 w2 hown2 hg2 _; obtain ⟨B2, c2, rfl, _, _⟩ := own_form hown2; have HB2 : Hid (Below w.heap.size w w2 ∧ BoxA w2 w.heap.size a ∧ w2.ownsRow w.heap.size 3 1 (.slice B2 2 c2) 2 [.int .i64 a.fid, .int .i64 a.dir]) := fids_grow (HW.out _ rfl).1 (HW.out _ rfl).2.1 (HW.out _ rfl).2.2.2 hg2 hown2; clear hown2 hg2 HW; obtain ⟨a0, a1, a2, a3, a4, a5, a6, af, az⟩ := HB2.out.2.1.facts)
      go_ret
      exact ⟨B2, c2, by rw [HS.out]; rfl, by rw [HS.out]; exact HB2.out.2.2, HB2.out.1⟩

set_option maxHeartbeats 1000000 in
theorem refFids_any (a : AV) (ac : M.Act) (w : World) (ha : ContA w a ac) : Calls Try.prog 17 #[a.val] w (FidsPost w ac) := by
  obtain ⟨i0, hi, hz, hsz, hbz⟩ := info_parts info3
  have HW : Hid _ := fids_start w a
  have HK : Hid (a.kind = ac.kind ∧ a.fid = ac.fid ∧ a.dir = ac.dir ∧ a.to = ac.to) := ⟨ha.1, ha.2.1, ha.2.2.1, ha.2.2.2.2.1⟩
  clear ha
  by_cases h3 : a.kind = 3
  · have k3 : (a.kind == 3) = true := by simp [h3]
    have k3' : (a.kind != 3) = false := by simp [h3]
    have k5 : (a.kind == 5) = false := by simp [h3]
    have HS : Hid (M.fidsS ac = [a.fid]) := by show _ = _; unfold M.fidsS; rw [← HK.out.1, if_pos h3, if_neg (by rw [h3]; decide), HK.out.2.1]; rfl
    clear h3
    go_enter Try.func17, Try.ntmps17
    go_wp2_with (fail)
    go_ret
    obtain ⟨q1, q2, q3, q4⟩ := HW.out _ rfl
    exact ⟨_, 1, by rw [HS.out]; rfl, by rw [HS.out]; exact q3, q1⟩
  · have k3 : (a.kind == 3) = false := by simp [h3]
    have k3' : (a.kind != 3) = true := by simp [h3]
    by_cases h5 : a.kind = 5
    · have k5 : (a.kind == 5) = true := by simp [h5]
      have HS : Hid (M.fidsS ac = [a.fid, a.dir, a.to]) := by show _ = _; unfold M.fidsS; rw [← HK.out.1, if_neg h3, if_pos h5, HK.out.2.1, HK.out.2.2.1, HK.out.2.2.2]; rfl
      clear h3 h5
      go_enter Try.func17, Try.ntmps17
      go_wp2_with (first
        | (have HQ := HB2; clear HQ; at_builtin; refine wpList_append_own _ (by rfl) (.tmp 18) (.tmp 21) 44 (by rfl) w.heap.size 3 i0 (.int .i64 0) 1 8 Try.underlying44 hi hz hsz hbz rfl (by decide) _ 2 _ (by rfl) (HB2.out.2.2.alloc _) ⟨w2.heap.size, 0, none⟩ 1 1 [.int .i64 a.to] (by rfl) rfl (cell_new1 _ _ _ _ rfl) (fun u hu => by simp at hu; subst hu; rfl) (by unfold maxLen; omega) (by omega) (by simp; omega) ?_; intro v3 w3 hown3 hg3 _; obtain ⟨B3, c3, rfl, _, _⟩ := own_form hown3; have HP : Hid (FidsPost w ac (.returned (.slice B3 3 c3)) w3) := ⟨B3, c3, by rw [HS.out]; rfl, by rw [HS.out]; exact hown3, Below.grown (HB2.out.1.alloc (by omega) _) hg3 (by simp; omega) (fun k hk => by have := (HB2.out.2.2.lt k hk).1; omega)⟩; clear hown3 hg3)
        | (at_builtin; refine wpList_append_own _ (by rfl) (.tmp 10) (.tmp 13) 44 (by rfl) w.heap.size 3 i0 (.int .i64 0) 1 8 Try.underlying44 hi hz hsz hbz rfl (by decide) _ 1 _ (by rfl) ((HW.out _ rfl).2.2.1.alloc _) ⟨w.heap.size + 1 + 1, 0, none⟩ 1 1 [.int .i64 a.dir] (by rfl) rfl (cell_new1 _ _ _ _ (by simp)) (fun u hu => by simp at hu; subst hu; rfl) (by unfold maxLen; omega) (by omega) (by simp; omega) ?_; intro v2 w2 hown2 hg2 _; obtain ⟨B2, c2, rfl, _, _⟩ := own_form hown2; have HB2 : Hid (Below w.heap.size w w2 ∧ BoxA w2 w.heap.size a ∧ w2.ownsRow w.heap.size 3 1 (.slice B2 2 c2) 2 [.int .i64 a.fid, .int .i64 a.dir]) := fids_grow (HW.out _ rfl).1 (HW.out _ rfl).2.1 (HW.out _ rfl).2.2.2 hg2 hown2; clear hown2 hg2 HW; obtain ⟨a0, a1, a2, a3, a4, a5, a6, af, az⟩ := HB2.out.2.1.facts))
      go_ret
      exact HP.out
    · have k5 : (a.kind == 5) = false := by simp [h5]
      have HS : Hid (M.fidsS ac = [a.fid, a.dir]) := by show _ = _; unfold M.fidsS; rw [← HK.out.1, if_neg h3, if_neg h5, HK.out.2.1, HK.out.2.2.1]; rfl
      clear h3 h5
      go_enter Try.func17, Try.ntmps17
      go_wp2_with (at_builtin; refine wpList_append_own _ (by rfl) (.tmp 10) (.tmp 13) 44 (by rfl) w.heap.size 3 i0 (.int .i64 0) 1 8 Try.underlying44 hi hz hsz hbz rfl (by decide) _ 1 _ (by rfl) ((HW.out _ rfl).2.2.1.alloc _) ⟨w.heap.size + 1 + 1, 0, none⟩ 1 1 [.int .i64 a.dir] (by rfl) rfl (cell_new1 _ _ _ _ (by simp)) (fun u hu => by simp at hu; subst hu; rfl) (by unfold maxLen; omega) (by omega) (by simp; omega) ?_; intro v2 w2 hown2 hg2 _; obtain ⟨B2, c2, rfl, _, _⟩ := own_form hown2; have HB2 : Hid (Below w.heap.size w w2 ∧ BoxA w2 w.heap.size a ∧ w2.ownsRow w.heap.size 3 1 (.slice B2 2 c2) 2 [.int .i64 a.fid, .int .i64 a.dir]) := fids_grow (HW.out _ rfl).1 (HW.out _ rfl).2.1 (HW.out _ rfl).2.2.2 hg2 hown2; clear hown2 hg2 HW; obtain ⟨a0, a1, a2, a3, a4, a5, a6, af, az⟩ := HB2.out.2.1.facts)
      go_ret
      exact ⟨B2, c2, by rw [HS.out]; rfl, by rw [HS.out]; exact HB2.out.2.2, HB2.out.1⟩

/-- an act whose bytes are the call's own -/
def OwnA (w : World) (B : Nat) (a : AV) (x : M.Act) : Prop := a.kind = x.kind ∧ a.fid = x.fid ∧ a.dir = x.dir ∧ a.name = x.name ∧ a.to = x.to ∧ a.toName = x.toName ∧ w.ownsRow B 5 1 (.slice a.dA a.dn a.dc) a.dn (x.data.flatMap byteCells1)
theorem OwnA.cont {w : World} {B : Nat} {a : AV} {x : M.Act} (h : OwnA w B a x) : ContA w a x := ⟨h.1, h.2.1, h.2.2.1, h.2.2.2.1, h.2.2.2.2.1, h.2.2.2.2.2.1, Row.ofOwn byt_len (by decide) h.2.2.2.2.2.2⟩
def AV.zero : AV := ⟨0, 0, 0, ⟨#[]⟩, 0, ⟨#[]⟩, none, 0, 0⟩
set_option maxHeartbeats 1000000 in
theorem ownAct_any (a : AV) (ac : M.Act) (w : World) (ha : ContA w a ac) (hs : ac.data.length ≤ 140737488355328) :
    Calls Try.prog 32 #[a.val] w fun e w' => ∃ a' : AV, e = .returned a'.val ∧ OwnA w' w.heap.size a' ac ∧ Below w.heap.size w w' := by
  obtain ⟨i5, hi5, hz5, hs5, hb5⟩ := info_parts info5
  have hdn := ha.2.2.2.2.2.2.1
  rw [← hdn] at hs
  have HA : Hid (ContA w a ac) := ha
  clear ha hdn
  have HB0 : Hid (∀ W : World, W = (w.alloc (.cells #[.int .i64 a.kind, .int .i64 a.fid, .int .i64 a.dir, .string a.name, .int .i64 a.to, .string a.toName, .slice a.dA a.dn a.dc] 26)).alloc (.cells #[.int .i64 0, .int .i64 0, .int .i64 0, .string ⟨#[]⟩, .int .i64 0, .string ⟨#[]⟩, .slice none 0 0] 26) → BoxA W w.heap.size a ∧ BoxA W (w.heap.size + 1) AV.zero ∧ W.heap.size = w.heap.size + 2 ∧ Below w.heap.size w W) := by
    rintro W rfl
    refine ⟨(BoxA.new w a).alloc _, ?_, by simp, ((Below.refl _ _).alloc (Nat.le_refl _) _).alloc (by simp) _⟩
    have h := heap_alloc_new (w.alloc (.cells #[.int .i64 a.kind, .int .i64 a.fid, .int .i64 a.dir, .string a.name, .int .i64 a.to, .string a.toName, .slice a.dA a.dn a.dc] 26)) (.cells #[.int .i64 0, .int .i64 0, .int .i64 0, .string ⟨#[]⟩, .int .i64 0, .string ⟨#[]⟩, .slice none 0 0] 26)
    unfold BoxA
    simpa [AV.zero] using h
  go_enter Try.func32, Try.ntmps32
  go_wp2_with (at_builtin; refine wpList_append_row _ (by rfl) (.const (.slice none 0 0)) (.tmp 4) 24 (by rfl) (w.heap.size + 2) 5 i5 (.int .u8 0) 1 Try.underlying24 hi5 hz5 hs5 hb5 rfl (by decide) _ 0 [] rfl (World.ownsRow_nil _ _ _ _) a.dA a.dn a.dc ac.data rfl (HA.out.2.2.2.2.2.2.below (Nat.le_refl _) (HB0.out _ rfl).2.2.2) byt_len byt_one (by unfold maxLen; omega) (by omega) (by simp) ?_; intro v1 w1 hown1 hg1; rw [Nat.zero_add, List.nil_append] at hown1; obtain ⟨A1, c1, rfl, hA1, hA2⟩ := own_form hown1; have hb1 := grown_below hg1; clear hg1; obtain ⟨q0, q1, q2, q3⟩ := HB0.out _ rfl; have hbw1 : Below w.heap.size w w1 := q3.trans (hb1.mono (by omega)); have HX1 : Hid (BoxA w1 w.heap.size a ∧ BoxA w1 (w.heap.size + 1) AV.zero ∧ w1.ownsRow (w.heap.size + 2) 5 1 (.slice A1 a.dn c1) a.dn (ac.data.flatMap byteCells1)) := ⟨q0.below hb1 (by omega), q1.below hb1 (by omega), hown1⟩; have hz1 := hb1.size; rw [q2] at hz1; clear hb1 q0 q1 q2 q3 hown1; obtain ⟨a0, a1, a2, a3, a4, a5, a6, af, az⟩ := HX1.out.1.facts; obtain ⟨z0, z1, z2, z3, z4, z5, z6, zf, zz⟩ := HX1.out.2.1.facts)
  have hbl : ∀ (W : World) (s o : Nat) (u : Value), Below w.heap.size w W → w.heap.size ≤ s → Below w.heap.size w (W.setCell ⟨s, o, none⟩ u) := fun W s o u h hs => h.setCell (p := ⟨s, o, none⟩) hs u
  have hol : ∀ (W : World) (s o : Nat) (u : Value), W.ownsRow (w.heap.size + 2) 5 1 (.slice A1 a.dn c1) a.dn (ac.data.flatMap byteCells1) → s < w.heap.size + 2 → (W.setCell ⟨s, o, none⟩ u).ownsRow (w.heap.size + 2) 5 1 (.slice A1 a.dn c1) a.dn (ac.data.flatMap byteCells1) := fun W s o u h hs => ownsRow_setCell_below h (a := ⟨s, o, none⟩) hs u
  refine bodyPost_ret (v := AV.val ⟨a.kind, a.fid, a.dir, a.name, a.to, a.toName, A1, a.dn, c1⟩) (by simp [results, Try.results32, go_sem, z0, z1, z2, z3, z4, z5, z6]) rfl ⟨⟨a.kind, a.fid, a.dir, a.name, a.to, a.toName, A1, a.dn, c1⟩, rfl, ⟨HA.out.1, HA.out.2.1, HA.out.2.2.1, HA.out.2.2.2.1, HA.out.2.2.2.2.1, HA.out.2.2.2.2.2.1, own_mono ?_ (Nat.le_add_right _ 2)⟩, ?_⟩
  · exact hol _ _ _ _ (hol _ _ _ _ (hol _ _ _ _ (hol _ _ _ _ (hol _ _ _ _ (hol _ _ _ _ (hol _ _ _ _ (hol _ _ _ _ HX1.out.2.2 (by omega)) (by omega)) (by omega)) (by omega)) (by omega)) (by omega)) (by omega)) (by omega)
  · exact hbl _ _ _ _ (hbl _ _ _ _ (hbl _ _ _ _ (hbl _ _ _ _ (hbl _ _ _ _ (hbl _ _ _ _ (hbl _ _ _ _ (hbl _ _ _ _ hbw1 (by omega)) (by omega)) (by omega)) (by omega)) (by omega)) (by omega)) (by omega)) (by omega)
end Go.Proofs.Ytlegjdlmcphhlab
