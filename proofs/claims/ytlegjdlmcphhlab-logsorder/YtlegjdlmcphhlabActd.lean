/-
  PACKAGE acts: remove, rename, Apply.
-/
import Derived.Test.YtlegjdlmcphhlabActc
namespace Go.Proofs.Ytlegjdlmcphhlab
open Go.RowKit

theorem remove_hold {xs : List M.Nd} {ac : M.Act} {v : Int} (h : (M.holdS xs ac.dir ac.name ac.fid).1 ≠ 0) : M.removeS xs ac v = ((M.holdS xs ac.dir ac.name ac.fid).1, []) := by unfold M.removeS; rw [if_pos h]
theorem remove_away {xs : List M.Nd} {ac : M.Act} {v : Int} (h : (M.holdS xs ac.dir ac.name ac.fid).1 = 0) (hf : M.find xs ac.fid = none) : M.removeS xs ac v = (12, []) := by unfold M.removeS; rw [if_neg (by simp [h]), hf]
theorem remove_full {xs : List M.Nd} {ac : M.Act} {v : Int} {x : M.Nd} (h : (M.holdS xs ac.dir ac.name ac.fid).1 = 0) (hf : M.find xs ac.fid = some x) (he : 0 < x.ents.length) : M.removeS xs ac v = (10, []) := by unfold M.removeS; rw [if_neg (by simp [h]), hf]; simp only; rw [if_pos he]
theorem remove_ok {xs : List M.Nd} {ac : M.Act} {v : Int} {x : M.Nd} (h : (M.holdS xs ac.dir ac.name ac.fid).1 = 0) (hf : M.find xs ac.fid = some x) (he : ¬ 0 < x.ents.length) : M.removeS xs ac v = (0, M.dropN (M.putN xs (M.withV (withE (M.holdS xs ac.dir ac.name ac.fid).2 (M.dropE (M.holdS xs ac.dir ac.name ac.fid).2.ents ac.name)) v)) ac.fid) := by
  unfold M.removeS; rw [if_neg (by simp [h]), hf]; simp only; rw [if_neg he]; rfl
theorem drop_le (es : List (ByteArray × Int)) (s : ByteArray) : (M.dropE es s).length ≤ es.length := List.length_filter_le _ _
/-- without a name -/
def lvS (x : M.Nd) (s : ByteArray) : M.Nd := { x with ents := M.dropE x.ents s }
theorem small_leave {x : M.Nd} (h : Small x) (s : ByteArray) : Small (lvS x s) := ⟨h.1, by have := drop_le x.ents s; have := h.2; show (M.dropE x.ents s).length * 24 ≤ _; omega⟩

set_option maxHeartbeats 2000000 in
theorem remove_any (A : Option Addr) (n c : Nat) (vs : List NV) (xs : List M.Nd) (a : AV) (ac : M.Act) (ver : Int) (w : World) (ht : Tree w A n vs xs) (hn : (n + 1) * 72 ≤ 140737488355328) (hs : ∀ x ∈ xs, Small x) (ha : ContA w a ac) :
    Calls Try.prog 35 #[.slice A n c, a.val, .int .i64 ver] w (Applied xs (M.removeS xs ac ver) w) := by
  have HW : Hid _ := boxA_start w a
  have HT : Hid (Tree w A n vs xs ∧ (∀ x ∈ xs, Small x) ∧ ContA w a ac) := ⟨ht, hs, ha⟩
  clear ht hs ha
  go_enter Try.func35, Try.ntmps35
  go_wp2_with (fail)
  obtain ⟨q1, q2, q3⟩ := HW.out _ rfl
  refine (holder_any A n c vs xs a _ (HT.out.1.below (Nat.le_refl _) q1) (by omega) HT.out.2.1).mono ?_
  rintro e w1 ⟨v, x, r, rfl, ho, hsx, hf, hb1⟩
  have hz1 := hb1.size
  rw [q3] at hz1
  have HB1 : Hid (Below w.heap.size w w1 ∧ BoxA w1 w.heap.size a) := ⟨q1.trans (hb1.mono (by omega)), q2.below hb1 (by omega)⟩
  have HO : Hid (OwnN w1 (w.heap.size + 1) v x ∧ Small x) := by rw [q3] at ho; exact ⟨ho, hsx⟩
  have HF : Hid (M.Rise xs → r = (M.holdS xs ac.dir ac.name ac.fid).1 ∧ x = (M.holdS xs ac.dir ac.name ac.fid).2) := by rw [HT.out.2.2.2.1, HT.out.2.2.2.2.1, HT.out.2.2.2.2.2.1] at hf; exact hf
  clear q1 q2 q3 hb1 ho hf HW hsx
  by_cases hr0 : r = 0
  case' neg =>
    have r0 : (r == 0) = false := by simp [hr0]
    have r1 : (r != 0) = true := by simp [hr0]
    have HR : Hid (M.Rise xs → M.removeS xs ac ver = (r, [])) := fun hr => by have h := HF.out hr; rw [remove_hold (by rw [← h.1]; exact hr0), ← h.1]
    clear hr0
    go_wp2
    go_ret2
    exact Applied.err HR.out (HB1.out.1.alloc (by omega) _)
  subst hr0
  obtain ⟨a0, a1, a2, a3, a4, a5, a6, af, az⟩ := HB1.out.2.facts
  have HV : Hid _ := box_start w1 v
  go_wp2_with (fail)
  obtain ⟨p1, p2, p3⟩ := HV.out _ rfl
  refine (find_gen A n c vs xs a.fid _ (HT.out.1.below (Nat.le_refl _) (HB1.out.1.trans (p1.mono (by omega)))) (by omega) HT.out.2.1).mono ?_
  rintro e w2 ⟨v2, x2, b, rfl, ho2, hf2, hb2⟩
  have hz2 := hb2.size
  rw [p3] at hz2
  have hb12 := p1.trans (hb2.mono (by omega))
  have HB2 : Hid (Below w.heap.size w w2 ∧ BoxA w2 w.heap.size a ∧ Box w2 w1.heap.size v ∧ OwnN w2 (w.heap.size + 1) v x) := ⟨HB1.out.1.trans (hb12.mono (by omega)), HB1.out.2.below hb12 (by omega), p2.below hb2 (by omega), HO.out.1.below (Nat.le_refl _) hb12⟩
  have HO2 : Hid (v2.en = x2.ents.length) := by show v2.en = _; exact own_len ent_len (by decide) ho2.2.2.2.2
  have HF2 : Hid (Found xs ac.fid x2 b) := by rw [HT.out.2.2.2.1] at hf2; exact hf2
  clear p1 p2 p3 hb2 hb12 hf2 ho2 a0 a1 a2 a3 a4 a5 a6 af HV
  obtain ⟨a0, a1, a2, a3, a4, a5, a6, af, az2⟩ := HB2.out.2.1.facts
  obtain ⟨y0, y1, y2, y3, y4, yf, yz⟩ := HB2.out.2.2.1.facts
  cases b
  case' false =>
    have HR : Hid (M.Rise xs → M.removeS xs ac ver = (12, [])) := fun hr => remove_away (HF.out hr).1.symm (by
      have h := (HF2.out.2.2 hr.1).1
      cases hx : M.find xs ac.fid with
      | none => rfl
      | some y => rw [hx] at h; cases h)
    go_wp2
    go_ret2
    exact Applied.err HR.out (HB2.out.1.alloc (by omega) _)
  have HY : Hid (M.Rise xs → M.find xs ac.fid = some x2) := fun hr => by
    have h := HF2.out.2.2 hr.1
    cases hx : M.find xs ac.fid with
    | none => rw [hx] at h; cases h.1
    | some y => rw [hx] at h; rw [h.2]; rfl
  by_cases h0 : 0 < v2.en
  case' pos =>
    have HR : Hid (M.Rise xs → M.removeS xs ac ver = (10, [])) := fun hr => remove_full (HF.out hr).1.symm (HY.out hr) (by rw [← HO2.out]; exact h0)
    have h0' : (0 : Int) < (v2.en : Int) := by omega
    go_wp2
    go_ret2
    exact Applied.err HR.out (HB2.out.1.alloc (by omega) _)
  have HOK : Hid (M.Rise xs → M.removeS xs ac ver = _) := fun hr => remove_ok (HF.out hr).1.symm (HY.out hr) (by rw [← HO2.out]; exact h0)
  have h0' : ¬ (0 : Int) < (v2.en : Int) := by omega
  have h00 : v2.en = 0 := by omega
  have HV : Hid _ := box_start w2 ⟨v2.fid, v2.dir, v2.dA, v2.dn, v2.dc, v2.eA, 0, v2.ec, v2.ver⟩
  go_wp2_with (fail)
  obtain ⟨p1, _, p3⟩ := HV.out _ rfl
  refine (leave_any v x a.name _ (HB2.out.2.2.2.cont.below (Nat.le_refl _) p1) HO.out.2).mono ?_
  rintro e w3 ⟨v3, rfl, ho3, hb3⟩
  have hz3 := hb3.size
  rw [p3] at hz3
  have hb13 := p1.trans (hb3.mono (by omega))
  have HB3 : Hid (Below w.heap.size w w3 ∧ BoxA w3 w.heap.size a) := ⟨HB2.out.1.trans (hb13.mono (by omega)), HB2.out.2.1.below hb13 (by omega)⟩
  have HO3 : Hid (OwnN w3 (w.heap.size + 1) v3 { x with ents := M.dropE x.ents ac.name }) := by rw [HT.out.2.2.2.2.2.1] at ho3; exact ho3.mono (by omega)
  clear p1 p3 hb3 hb13 ho3 HV a0 a1 a2 a3 a4 a5 a6 af y0 y1 y2 y3 y4 yf
  obtain ⟨a0, a1, a2, a3, a4, a5, a6, af, az3⟩ := HB3.out.2.facts
  go_wp2_with (fail)
  refine (vput_any A n c vs xs v3 _ ver _ (HT.out.1.below (Nat.le_refl _) HB3.out.1) hn HT.out.2.1 HO3.out.cont (small_leave HO.out.2 _)).mono ?_
  rintro e w5 ⟨B5, m5, d5, us5, ys5, rfl, hm5, ho5, hp5, hb5⟩
  have hz5 := hb5.size
  have HB5 : Hid (Below w.heap.size w w5 ∧ BoxA w5 w.heap.size a) := ⟨HB3.out.1.trans (hb5.mono (by omega)), HB3.out.2.below hb5 (by omega)⟩
  have HP5 : Hid (OwnT w5 w3.heap.size B5 m5 d5 us5 ys5 ∧ Putted xs (M.withV { x with ents := M.dropE x.ents ac.name } ver) ys5 ∧ m5 ≤ n + 1) := ⟨ho5, hp5, hm5⟩
  clear ho5 hp5 hm5 hb5 a0 a1 a2 a3 a4 a5 a6 af
  obtain ⟨a0, a1, a2, a3, a4, a5, a6, af, az5⟩ := HB5.out.2.facts
  go_wp2_with (fail)
  refine (drop_any B5 m5 d5 us5 ys5 a.fid _ HP5.out.1.tree (by have := HP5.out.2.2; omega) (putted_small HP5.out.2.1 HT.out.2.1 (small_leave HO.out.2 _))).mono ?_
  rintro e w6 ⟨B, m, d, us, rfl, hm, hot, hb6⟩
  have HP : Hid (Applied xs (M.removeS xs ac ver) w (.returned (.tuple #[.slice B m d, .int .i64 0])) w6) := Applied.ok (us := us) (fun hr => by
    rw [HOK.out hr, HP5.out.2.1.2 hr.1, ← (HF.out hr).2, HT.out.2.2.2.1]
    rfl) (hot.mono (by omega)) (HB5.out.1.trans (hb6.mono (by omega)))
  clear hm hot hb6
  go_wp2
  go_ret2
  exact HP.out

theorem rename_hold {xs : List M.Nd} {ac : M.Act} {v : Int} (h : (M.holdS xs ac.dir ac.name ac.fid).1 ≠ 0) : M.renameS xs ac v = ((M.holdS xs ac.dir ac.name ac.fid).1, []) := by unfold M.renameS; rw [if_pos h]
theorem rename_dir {xs : List M.Nd} {ac : M.Act} {v : Int} (h : (M.holdS xs ac.dir ac.name ac.fid).1 = 0) (h2 : (M.dirS xs ac.to).1 ≠ 0) : M.renameS xs ac v = ((M.dirS xs ac.to).1, []) := by unfold M.renameS; rw [if_neg (by simp [h]), if_pos h2]
theorem rename_free {xs : List M.Nd} {ac : M.Act} {v : Int} (h : (M.holdS xs ac.dir ac.name ac.fid).1 = 0) (h2 : (M.dirS xs ac.to).1 = 0) (h3 : M.freeS (M.toS xs ac) ac.toName ≠ 0) : M.renameS xs ac v = (M.freeS (M.toS xs ac) ac.toName, []) := by unfold M.renameS; rw [if_neg (by simp [h]), if_neg (by simp [h2]), if_pos h3]
theorem rename_away {xs : List M.Nd} {ac : M.Act} {v : Int} (h : (M.holdS xs ac.dir ac.name ac.fid).1 = 0) (h2 : (M.dirS xs ac.to).1 = 0) (h3 : M.freeS (M.toS xs ac) ac.toName = 0) (h4 : M.find xs ac.fid = none) : M.renameS xs ac v = (12, []) := by unfold M.renameS; rw [if_neg (by simp [h]), if_neg (by simp [h2]), if_neg (by simp [h3]), if_pos (by simp [h4])]
theorem rename_loop {xs : List M.Nd} {ac : M.Act} {v : Int} (h : (M.holdS xs ac.dir ac.name ac.fid).1 = 0) (h2 : (M.dirS xs ac.to).1 = 0) (h3 : M.freeS (M.toS xs ac) ac.toName = 0) (h4 : M.find xs ac.fid ≠ none) (h5 : M.Reach xs ac.fid ac.to) : M.renameS xs ac v = (11, []) := by
  unfold M.renameS; rw [if_neg (by simp [h]), if_neg (by simp [h2]), if_neg (by simp [h3]), if_neg (by simpa using h4), if_pos h5]
theorem rename_ok {xs : List M.Nd} {ac : M.Act} {v : Int} (h : (M.holdS xs ac.dir ac.name ac.fid).1 = 0) (h2 : (M.dirS xs ac.to).1 = 0) (h3 : M.freeS (M.toS xs ac) ac.toName = 0) (h4 : M.find xs ac.fid ≠ none) (h5 : ¬ M.Reach xs ac.fid ac.to) :
    M.renameS xs ac v = (0, M.putN (M.putN xs (M.withV (M.fromS xs ac) v)) (M.withV (withE (M.toS xs ac) (M.putE (M.toS xs ac).ents (ac.toName, ac.fid))) v)) := by
  unfold M.renameS; rw [if_neg (by simp [h]), if_neg (by simp [h2]), if_neg (by simp [h3]), if_neg (by simpa using h4), if_neg h5]; rfl
theorem drop_rise {es : List (ByteArray × Int)} {s : ByteArray} (h : M.RsE es) : M.RsE (M.dropE es s) := M.rs_sub h (List.filter_sublist.map _)
theorem hold_ok {xs : List M.Nd} {d : Int} {s : ByteArray} {f : Int} (h : (M.holdS xs d s f).1 = 0) : M.dirS xs d = (0, (M.holdS xs d s f).2) ∧ M.look (M.holdS xs d s f).2.ents s = some (s, f) := by
  unfold M.holdS at h ⊢
  by_cases h0 : (M.dirS xs d).1 = 0
  · rw [if_pos h0] at h ⊢
    cases hl : M.look (M.dirS xs d).2.ents s with
    | none => rw [hl] at h; simp at h
    | some e =>
      rw [hl] at h
      simp only at h ⊢
      by_cases hf : e.2 = f
      · rw [if_pos hf]
        refine ⟨Prod.ext h0 rfl, ?_⟩
        rw [hl]
        have := List.find?_some hl
        simp at this
        rw [← hf, ← this]
      · rw [if_neg hf] at h; simp at h
  · rw [if_neg h0] at h; exact absurd h h0

set_option maxHeartbeats 2000000 in
theorem rename_any (A : Option Addr) (n c : Nat) (vs : List NV) (xs : List M.Nd) (a : AV) (ac : M.Act) (ver : Int) (w : World) (ht : Tree w A n vs xs) (hn : (n + 2) * 72 ≤ 140737488355328) (hs : ∀ x ∈ xs, Small x) (ha : ContA w a ac) (hsa : SmallA ac) :
    Calls Try.prog 36 #[.slice A n c, a.val, .int .i64 ver] w (Applied xs (M.renameS xs ac ver) w) := by
  have HW : Hid _ := boxA_start w a
  have HT : Hid (Tree w A n vs xs ∧ (∀ x ∈ xs, Small x) ∧ ContA w a ac ∧ SmallA ac) := ⟨ht, hs, ha, hsa⟩
  clear ht hs ha hsa
  go_enter Try.func36, Try.ntmps36
  go_wp2_with (fail)
  obtain ⟨q1, q2, q3⟩ := HW.out _ rfl
  refine (holder_any A n c vs xs a _ (HT.out.1.below (Nat.le_refl _) q1) (by omega) HT.out.2.1).mono ?_
  rintro e w1 ⟨v, x, r, rfl, ho, hsx, hf, hb1⟩
  have hz1 := hb1.size
  rw [q3] at hz1
  have HB1 : Hid (Below w.heap.size w w1 ∧ BoxA w1 w.heap.size a) := ⟨q1.trans (hb1.mono (by omega)), q2.below hb1 (by omega)⟩
  have HO : Hid (OwnN w1 (w.heap.size + 1) v x ∧ Small x) := by rw [q3] at ho; exact ⟨ho, hsx⟩
  have HF : Hid (M.Rise xs → r = (M.holdS xs ac.dir ac.name ac.fid).1 ∧ x = (M.holdS xs ac.dir ac.name ac.fid).2) := by rw [HT.out.2.2.1.2.1, HT.out.2.2.1.2.2.1, HT.out.2.2.1.2.2.2.1] at hf; exact hf
  clear q1 q2 q3 hb1 ho hf HW hsx
  by_cases hr0 : r = 0
  case' neg =>
    have r0 : (r == 0) = false := by simp [hr0]
    have r1 : (r != 0) = true := by simp [hr0]
    have HR : Hid (M.Rise xs → M.renameS xs ac ver = (r, [])) := fun hr => by have h := HF.out hr; rw [rename_hold (by rw [← h.1]; exact hr0), ← h.1]
    clear hr0
    go_wp2
    go_ret2
    exact Applied.err HR.out (HB1.out.1.alloc (by omega) _)
  subst hr0
  have HXE : Hid (M.Rise xs → M.RsE x.ents) := fun hr => by have h := HF.out hr; rw [h.2]; exact dir_rise hr (hold_ok h.1.symm).1
  obtain ⟨a0, a1, a2, a3, a4, a5, a6, af, az⟩ := HB1.out.2.facts
  have HV : Hid _ := box_start w1 v
  go_wp2_with (fail)
  obtain ⟨p1, p2, p3⟩ := HV.out _ rfl
  refine (dir_any A n c vs xs a.to _ (HT.out.1.below (Nat.le_refl _) (HB1.out.1.trans (p1.mono (by omega)))) (by omega) HT.out.2.1).mono ?_
  rintro e w2 ⟨u, y, r, rfl, ho2, hsy, hf2, hb2⟩
  have hz2 := hb2.size
  rw [p3] at hz2
  have hb12 := p1.trans (hb2.mono (by omega))
  have HB2 : Hid (Below w.heap.size w w2 ∧ BoxA w2 w.heap.size a ∧ Box w2 w1.heap.size v ∧ OwnN w2 (w.heap.size + 1) v x) := ⟨HB1.out.1.trans (hb12.mono (by omega)), HB1.out.2.below hb12 (by omega), p2.below hb2 (by omega), HO.out.1.below (Nat.le_refl _) hb12⟩
  have HO2 : Hid (OwnN w2 (w1.heap.size + 1) u y ∧ Small y) := by rw [p3] at ho2; exact ⟨ho2, hsy⟩
  have HF2 : Hid (M.Rise xs → r = (M.dirS xs ac.to).1 ∧ y = (M.dirS xs ac.to).2) := by rw [HT.out.2.2.1.2.2.2.2.1] at hf2; exact fun hr => hf2 hr.1
  clear p1 p2 p3 hb2 hb12 hf2 ho2 hsy a0 a1 a2 a3 a4 a5 a6 af HV
  by_cases hr0 : r = 0
  case' neg =>
    have r0 : (r == 0) = false := by simp [hr0]
    have r1 : (r != 0) = true := by simp [hr0]
    have HR : Hid (M.Rise xs → M.renameS xs ac ver = (r, [])) := fun hr => by have h := HF2.out hr; rw [rename_dir (HF.out hr).1.symm (by rw [← h.1]; exact hr0), ← h.1]
    clear hr0
    go_wp2
    go_ret2
    exact Applied.err HR.out (HB2.out.1.alloc (by omega) _)
  subst hr0
  have HYE : Hid (M.Rise xs → M.RsE y.ents) := fun hr => dir_rise hr (show M.dirS xs ac.to = (0, y) by have h := HF2.out hr; rw [h.1, h.2])
  obtain ⟨a0, a1, a2, a3, a4, a5, a6, af, az2⟩ := HB2.out.2.1.facts
  obtain ⟨y0, y1, y2, y3, y4, yf, yz⟩ := HB2.out.2.2.1.facts
  have HV : Hid _ := box_start w2 u
  go_wp2_with (fail)
  obtain ⟨p1, p2, p3⟩ := HV.out _ rfl
  refine (leave_any v x a.name _ (HB2.out.2.2.2.cont.below (Nat.le_refl _) p1) HO.out.2).mono ?_
  rintro e w3 ⟨v3, rfl, ho3, hb3⟩
  have hz3 := hb3.size
  rw [p3] at hz3
  have hb13 := p1.trans (hb3.mono (by omega))
  have HB3 : Hid (Below w.heap.size w w3 ∧ BoxA w3 w.heap.size a ∧ Box w3 w1.heap.size v ∧ Box w3 w2.heap.size u ∧ OwnN w3 (w1.heap.size + 1) u y) := ⟨HB2.out.1.trans (hb13.mono (by omega)), HB2.out.2.1.below hb13 (by omega), HB2.out.2.2.1.below hb13 (by omega), p2.below hb3 (by omega), HO2.out.1.below (Nat.le_refl _) hb13⟩
  have HO3 : Hid (OwnN w3 (w2.heap.size + 1) v3 (lvS x ac.name)) := by rw [HT.out.2.2.1.2.2.2.1] at ho3; exact ho3.mono (by omega)
  clear p1 p2 p3 hb3 hb13 ho3 HV a0 a1 a2 a3 a4 a5 a6 af y0 y1 y2 y3 y4 yf
  obtain ⟨a0, a1, a2, a3, a4, a5, a6, af, az3⟩ := HB3.out.2.1.facts
  obtain ⟨y0, y1, y2, y3, y4, yf, yz3⟩ := HB3.out.2.2.1.facts
  obtain ⟨z0, z1, z2, z3, z4, zf, zz3⟩ := HB3.out.2.2.2.1.facts
  by_cases htd : a.to = a.dir
  · have rt : (a.to == a.dir) = true := by simp [htd]
    have HTD : Hid (a.to = a.dir) := htd
    clear htd
    have HB4 : Hid (∀ W, W = put5 (put5 w3 w1.heap.size 0 v3) w2.heap.size 0 v3 → Below w.heap.size w W ∧ BoxA W w.heap.size a ∧ Box W w1.heap.size v3 ∧ Box W w2.heap.size v3 ∧ OwnN W (w.heap.size + 1) v3 (lvS x ac.name) ∧ OwnN W (w.heap.size + 1) v3 (lvS x ac.name) ∧ W.heap.size = w3.heap.size) := by
      rintro W rfl
      exact ⟨put5_below (put5_below HB3.out.1 (by omega) _ _) (by omega) _ _, put5_boxA (put5_boxA HB3.out.2.1 (by omega) _ _) (by omega) _ _, put5_box_other (put5_box HB3.out.2.2.1 v3) (by omega) _ _, put5_box (put5_box_other HB3.out.2.2.2.1 (by omega) _ _) v3, ((HO3.out.put5 (by omega) _ _).put5 (by omega) _ _).mono (by omega), ((HO3.out.put5 (by omega) _ _).put5 (by omega) _ _).mono (by omega), by simp⟩
    have HTO : Hid (M.Rise xs → (lvS x ac.name) = M.toS xs ac) := fun hr => by unfold M.toS; rw [if_pos (by rw [← HT.out.2.2.1.2.2.2.2.1, ← HT.out.2.2.1.2.2.1]; exact HTD.out)]; unfold M.fromS; rw [← (HF.out hr).2]; rfl
    have HSY : Hid (Small (lvS x ac.name)) := small_leave HO.out.2 _
    have HYR : Hid (M.Rise xs → M.RsE (M.dropE x.ents ac.name)) := fun hr => drop_rise (HXE.out hr)
    go_wp2_with (fail)
    obtain ⟨p1, p2, p3, p4, p5, p6, p7⟩ := HB4.out _ rfl
    refine (free_any v3 (lvS x ac.name) a.toName _ p6.cont HSY.out (by rw [HT.out.2.2.1.2.2.2.2.2.1]; exact HT.out.2.2.2.2.1)).mono ?_
    rintro e w5 ⟨r, rfl, hfr, hb5⟩
    have hz5 := hb5.size
    rw [p7] at hz5
    have hb5' := hb5
    rw [p7] at hb5'
    have HB5 : Hid (Below w.heap.size w w5 ∧ BoxA w5 w.heap.size a ∧ Box w5 w1.heap.size v3 ∧ Box w5 w2.heap.size v3 ∧ OwnN w5 (w.heap.size + 1) v3 (lvS x ac.name) ∧ OwnN w5 (w.heap.size + 1) v3 (lvS x ac.name)) := ⟨p1.trans (hb5'.mono (by omega)), p2.below hb5' (by omega), p3.below hb5' (by omega), p4.below hb5' (by omega), p5.below (Nat.le_refl _) hb5, p6.below (Nat.le_refl _) hb5⟩
    have HFR : Hid (Freed (lvS x ac.name) ac.toName r) := by rw [HT.out.2.2.1.2.2.2.2.2.1] at hfr; exact hfr
    clear p1 p2 p3 p4 p5 p6 p7 hb5 hb5' hfr HB4 a0 a1 a2 a3 a4 a5 a6 af y0 y1 y2 y3 y4 yf z0 z1 z2 z3 z4 zf
    by_cases hr0 : r = 0
    case' neg =>
      have r0 : (r == 0) = false := by simp [hr0]
      have r1 : (r != 0) = true := by simp [hr0]
      have HR : Hid (M.Rise xs → M.renameS xs ac ver = (r, [])) := fun hr => by
        have h := HFR.out.2 (HYR.out hr)
        rw [HTO.out hr] at h
        rw [rename_free (HF.out hr).1.symm (HF2.out hr).1.symm (by rw [← h]; exact hr0), ← h]
      clear hr0
      go_wp2
      go_ret2
      exact Applied.err HR.out HB5.out.1
    subst hr0
    have HR3 : Hid (M.Rise xs → M.freeS (M.toS xs ac) ac.toName = 0) := fun hr => by
      have h := HFR.out.2 (HYR.out hr)
      rw [HTO.out hr] at h
      exact h.symm
    obtain ⟨a0, a1, a2, a3, a4, a5, a6, af, az5⟩ := HB5.out.2.1.facts
    go_wp2_with (fail)
    refine (has_any A n c vs xs a.fid _ (HT.out.1.below (Nat.le_refl _) HB5.out.1) (by omega) HT.out.2.1).mono ?_
    rintro e w6 ⟨b, rfl, hfb, hb6⟩
    have hz6 := hb6.size
    have HB6 : Hid (Below w.heap.size w w6 ∧ BoxA w6 w.heap.size a ∧ Box w6 w1.heap.size v3 ∧ Box w6 w2.heap.size v3 ∧ OwnN w6 (w.heap.size + 1) v3 (lvS x ac.name) ∧ OwnN w6 (w.heap.size + 1) v3 (lvS x ac.name)) := ⟨HB5.out.1.trans (hb6.mono (by omega)), HB5.out.2.1.below hb6 (by omega), HB5.out.2.2.1.below hb6 (by omega), HB5.out.2.2.2.1.below hb6 (by omega), HB5.out.2.2.2.2.1.below (Nat.le_refl _) hb6, HB5.out.2.2.2.2.2.below (Nat.le_refl _) hb6⟩
    have HFB : Hid (M.Rise xs → b = (M.find xs ac.fid).isSome) := by rw [HT.out.2.2.1.2.1] at hfb; exact fun hr => hfb hr.1
    clear hb6 hfb a0 a1 a2 a3 a4 a5 a6 af
    cases b
    case' false =>
      have HR : Hid (M.Rise xs → M.renameS xs ac ver = (12, [])) := fun hr => rename_away (HF.out hr).1.symm (HF2.out hr).1.symm (HR3.out hr) (by
        have h := HFB.out hr
        cases hx : M.find xs ac.fid with
        | none => rfl
        | some y => rw [hx] at h; cases h)
      go_wp2
      go_ret2
      exact Applied.err HR.out HB6.out.1
    have HNN : Hid (M.Rise xs → M.find xs ac.fid ≠ none) := fun hr h => by have h2 := HFB.out hr; rw [h] at h2; cases h2
    obtain ⟨a0, a1, a2, a3, a4, a5, a6, af, az6⟩ := HB6.out.2.1.facts
    go_wp2_with (fail)
    refine (within_gen A n c vs xs a.to a.fid _ (HT.out.1.below (Nat.le_refl _) HB6.out.1) (by omega) HT.out.2.1).mono ?_
    rintro e w7 ⟨b, rfl, hwi, hb7⟩
    have hz7 := hb7.size
    have HB7 : Hid (Below w.heap.size w w7 ∧ BoxA w7 w.heap.size a ∧ Box w7 w1.heap.size v3 ∧ Box w7 w2.heap.size v3 ∧ OwnN w7 (w.heap.size + 1) v3 (lvS x ac.name) ∧ OwnN w7 (w.heap.size + 1) v3 (lvS x ac.name)) := ⟨HB6.out.1.trans (hb7.mono (by omega)), HB6.out.2.1.below hb7 (by omega), HB6.out.2.2.1.below hb7 (by omega), HB6.out.2.2.2.1.below hb7 (by omega), HB6.out.2.2.2.2.1.below (Nat.le_refl _) hb7, HB6.out.2.2.2.2.2.below (Nat.le_refl _) hb7⟩
    have HWI : Hid (M.Rise xs → (b = true ↔ M.Reach xs ac.fid ac.to)) := by rw [HT.out.2.2.1.2.1, HT.out.2.2.1.2.2.2.2.1] at hwi; exact fun hr => hwi hr.1
    clear hb7 hwi a0 a1 a2 a3 a4 a5 a6 af
    cases b
    case' true =>
      have HR : Hid (M.Rise xs → M.renameS xs ac ver = (11, [])) := fun hr => rename_loop (HF.out hr).1.symm (HF2.out hr).1.symm (HR3.out hr) (HNN.out hr) ((HWI.out hr).1 rfl)
      go_wp2
      go_ret2
      exact Applied.err HR.out HB7.out.1
    have HOK : Hid (M.Rise xs → M.renameS xs ac ver = _) := fun hr => rename_ok (HF.out hr).1.symm (HF2.out hr).1.symm (HR3.out hr) (HNN.out hr) (fun h => by have := (HWI.out hr).2 h; cases this)
    obtain ⟨y0, y1, y2, y3, y4, yf, yz7⟩ := HB7.out.2.2.1.facts
    go_wp2_with (fail)
    refine (vput_any A n c vs xs v3 (lvS x ac.name) ver _ (HT.out.1.below (Nat.le_refl _) HB7.out.1) (by omega) HT.out.2.1 HB7.out.2.2.2.2.1.cont (small_leave HO.out.2 _)).mono ?_
    rintro e w8 ⟨B8, m8, d8, us8, ys8, rfl, hm8, ho8, hp8, hb8⟩
    have hz8 := hb8.size
    have HB8 : Hid (Below w.heap.size w w8 ∧ BoxA w8 w.heap.size a ∧ Box w8 w2.heap.size v3 ∧ OwnN w8 (w.heap.size + 1) v3 (lvS x ac.name)) := ⟨HB7.out.1.trans (hb8.mono (by omega)), HB7.out.2.1.below hb8 (by omega), HB7.out.2.2.2.1.below hb8 (by omega), HB7.out.2.2.2.2.2.below (Nat.le_refl _) hb8⟩
    have HP8 : Hid (OwnT w8 (w.heap.size + 1) B8 m8 d8 us8 ys8 ∧ Putted xs (M.withV (lvS x ac.name) ver) ys8 ∧ m8 ≤ n + 1) := ⟨ho8.mono (by omega), hp8, hm8⟩
    clear ho8 hp8 hm8 hb8 y0 y1 y2 y3 y4 yf
    obtain ⟨a0, a1, a2, a3, a4, a5, a6, af, az8⟩ := HB8.out.2.1.facts
    obtain ⟨z0, z1, z2, z3, z4, zf, zz8⟩ := HB8.out.2.2.1.facts
    have h6 : Hid ((M.dropE x.ents ac.name).length < 6) := HFR.out.1 rfl
    go_wp2_with (fail)
    refine (enter_gen v3 (lvS x ac.name) a.toName a.fid _ HB8.out.2.2.2.cont HSY.out (by have h := h6.out; show ((M.dropE x.ents ac.name).length + 1) * 24 ≤ _; omega)).mono ?_
    rintro e w9 ⟨v9, es, rfl, ho9, hen, hb9⟩
    have hz9 := hb9.size
    have HB9 : Hid (Below w.heap.size w w9 ∧ BoxA w9 w.heap.size a ∧ OwnT w9 (w.heap.size + 1) B8 m8 d8 us8 ys8) := ⟨HB8.out.1.trans (hb9.mono (by omega)), HB8.out.2.1.below hb9 (by omega), HP8.out.1.below (Nat.le_refl _) hb9⟩
    have HE : Hid (OwnN w9 (w.heap.size + 1) v9 (withE (lvS x ac.name) es) ∧ Small (withE (lvS x ac.name) es) ∧ Entered (M.dropE x.ents ac.name) ac.toName ac.fid es) := by
      refine ⟨ho9.mono (by omega), ⟨HSY.out.1, ?_⟩, ?_⟩
      · show es.length * 24 ≤ _
        have h1 : es.length ≤ (M.dropE x.ents ac.name).length + 1 := hen.1
        have h2 := h6.out
        omega
      · rw [HT.out.2.2.1.2.1, HT.out.2.2.1.2.2.2.2.2.1] at hen; exact hen
    clear ho9 hen hb9 a0 a1 a2 a3 a4 a5 a6 af z0 z1 z2 z3 z4 zf
    go_wp2_with (fail)
    refine (vput_any B8 m8 d8 us8 ys8 v9 (withE (lvS x ac.name) es) ver _ HB9.out.2.2.tree (by have := HP8.out.2.2; omega) (putted_small HP8.out.2.1 HT.out.2.1 (small_leave HO.out.2 _)) HE.out.1.cont HE.out.2.1).mono ?_
    rintro e w10 ⟨B, m, d, us, ys, rfl, hm, hot, hp, hb10⟩
    have HP : Hid (Applied xs (M.renameS xs ac ver) w (.returned (.tuple #[.slice B m d, .int .i64 0])) w10) := Applied.ok (us := us) (fun hr => by
      have h5 := HP8.out.2.1.2 hr.1
      have h7 := hp.2 (by rw [h5]; exact M.put_rs (·.fid) xs M.ordI _ hr.1)
      rw [HOK.out hr, h7, h5, HE.out.2.2.2 (HYR.out hr), ← HTO.out hr, (HF.out hr).2]
      rfl) (hot.mono (by omega)) (HB9.out.1.trans (hb10.mono (by omega)))
    clear hm hot hp hb10
    go_wp2
    go_ret2
    exact HP.out
  · have rt : (a.to == a.dir) = false := by simp [htd]
    have HB4 : Hid (∀ W, W = put5 w3 w1.heap.size 0 v3 → Below w.heap.size w W ∧ BoxA W w.heap.size a ∧ Box W w1.heap.size v3 ∧ Box W w2.heap.size u ∧ OwnN W (w.heap.size + 1) v3 (lvS x ac.name) ∧ OwnN W (w.heap.size + 1) u y ∧ W.heap.size = w3.heap.size) := by
      rintro W rfl
      exact ⟨put5_below HB3.out.1 (by omega) _ _, put5_boxA HB3.out.2.1 (by omega) _ _, put5_box HB3.out.2.2.1 v3, put5_box_other HB3.out.2.2.2.1 (by omega) _ _, (HO3.out.put5 (by omega) _ _).mono (by omega), (HB3.out.2.2.2.2.put5 (by omega) _ _).mono (by omega), by simp⟩
    have HTO : Hid (M.Rise xs → y = M.toS xs ac) := fun hr => by unfold M.toS; rw [if_neg (by rw [← HT.out.2.2.1.2.2.2.2.1, ← HT.out.2.2.1.2.2.1]; exact htd), ← (HF2.out hr).2]
    have HSY : Hid (Small y) := HO2.out.2
    have HYR : Hid (M.Rise xs → M.RsE y.ents) := HYE.out
    go_wp2_with (fail)
    obtain ⟨p1, p2, p3, p4, p5, p6, p7⟩ := HB4.out _ rfl
    refine (free_any u y a.toName _ p6.cont HSY.out (by rw [HT.out.2.2.1.2.2.2.2.2.1]; exact HT.out.2.2.2.2.1)).mono ?_
    rintro e w5 ⟨r, rfl, hfr, hb5⟩
    have hz5 := hb5.size
    rw [p7] at hz5
    have hb5' := hb5
    rw [p7] at hb5'
    have HB5 : Hid (Below w.heap.size w w5 ∧ BoxA w5 w.heap.size a ∧ Box w5 w1.heap.size v3 ∧ Box w5 w2.heap.size u ∧ OwnN w5 (w.heap.size + 1) v3 (lvS x ac.name) ∧ OwnN w5 (w.heap.size + 1) u y) := ⟨p1.trans (hb5'.mono (by omega)), p2.below hb5' (by omega), p3.below hb5' (by omega), p4.below hb5' (by omega), p5.below (Nat.le_refl _) hb5, p6.below (Nat.le_refl _) hb5⟩
    have HFR : Hid (Freed y ac.toName r) := by rw [HT.out.2.2.1.2.2.2.2.2.1] at hfr; exact hfr
    clear p1 p2 p3 p4 p5 p6 p7 hb5 hb5' hfr HB4 a0 a1 a2 a3 a4 a5 a6 af y0 y1 y2 y3 y4 yf z0 z1 z2 z3 z4 zf
    by_cases hr0 : r = 0
    case' neg =>
      have r0 : (r == 0) = false := by simp [hr0]
      have r1 : (r != 0) = true := by simp [hr0]
      have HR : Hid (M.Rise xs → M.renameS xs ac ver = (r, [])) := fun hr => by
        have h := HFR.out.2 (HYR.out hr)
        rw [HTO.out hr] at h
        rw [rename_free (HF.out hr).1.symm (HF2.out hr).1.symm (by rw [← h]; exact hr0), ← h]
      clear hr0
      go_wp2
      go_ret2
      exact Applied.err HR.out HB5.out.1
    subst hr0
    have HR3 : Hid (M.Rise xs → M.freeS (M.toS xs ac) ac.toName = 0) := fun hr => by
      have h := HFR.out.2 (HYR.out hr)
      rw [HTO.out hr] at h
      exact h.symm
    obtain ⟨a0, a1, a2, a3, a4, a5, a6, af, az5⟩ := HB5.out.2.1.facts
    go_wp2_with (fail)
    refine (has_any A n c vs xs a.fid _ (HT.out.1.below (Nat.le_refl _) HB5.out.1) (by omega) HT.out.2.1).mono ?_
    rintro e w6 ⟨b, rfl, hfb, hb6⟩
    have hz6 := hb6.size
    have HB6 : Hid (Below w.heap.size w w6 ∧ BoxA w6 w.heap.size a ∧ Box w6 w1.heap.size v3 ∧ Box w6 w2.heap.size u ∧ OwnN w6 (w.heap.size + 1) v3 (lvS x ac.name) ∧ OwnN w6 (w.heap.size + 1) u y) := ⟨HB5.out.1.trans (hb6.mono (by omega)), HB5.out.2.1.below hb6 (by omega), HB5.out.2.2.1.below hb6 (by omega), HB5.out.2.2.2.1.below hb6 (by omega), HB5.out.2.2.2.2.1.below (Nat.le_refl _) hb6, HB5.out.2.2.2.2.2.below (Nat.le_refl _) hb6⟩
    have HFB : Hid (M.Rise xs → b = (M.find xs ac.fid).isSome) := by rw [HT.out.2.2.1.2.1] at hfb; exact fun hr => hfb hr.1
    clear hb6 hfb a0 a1 a2 a3 a4 a5 a6 af
    cases b
    case' false =>
      have HR : Hid (M.Rise xs → M.renameS xs ac ver = (12, [])) := fun hr => rename_away (HF.out hr).1.symm (HF2.out hr).1.symm (HR3.out hr) (by
        have h := HFB.out hr
        cases hx : M.find xs ac.fid with
        | none => rfl
        | some y => rw [hx] at h; cases h)
      go_wp2
      go_ret2
      exact Applied.err HR.out HB6.out.1
    have HNN : Hid (M.Rise xs → M.find xs ac.fid ≠ none) := fun hr h => by have h2 := HFB.out hr; rw [h] at h2; cases h2
    obtain ⟨a0, a1, a2, a3, a4, a5, a6, af, az6⟩ := HB6.out.2.1.facts
    go_wp2_with (fail)
    refine (within_gen A n c vs xs a.to a.fid _ (HT.out.1.below (Nat.le_refl _) HB6.out.1) (by omega) HT.out.2.1).mono ?_
    rintro e w7 ⟨b, rfl, hwi, hb7⟩
    have hz7 := hb7.size
    have HB7 : Hid (Below w.heap.size w w7 ∧ BoxA w7 w.heap.size a ∧ Box w7 w1.heap.size v3 ∧ Box w7 w2.heap.size u ∧ OwnN w7 (w.heap.size + 1) v3 (lvS x ac.name) ∧ OwnN w7 (w.heap.size + 1) u y) := ⟨HB6.out.1.trans (hb7.mono (by omega)), HB6.out.2.1.below hb7 (by omega), HB6.out.2.2.1.below hb7 (by omega), HB6.out.2.2.2.1.below hb7 (by omega), HB6.out.2.2.2.2.1.below (Nat.le_refl _) hb7, HB6.out.2.2.2.2.2.below (Nat.le_refl _) hb7⟩
    have HWI : Hid (M.Rise xs → (b = true ↔ M.Reach xs ac.fid ac.to)) := by rw [HT.out.2.2.1.2.1, HT.out.2.2.1.2.2.2.2.1] at hwi; exact fun hr => hwi hr.1
    clear hb7 hwi a0 a1 a2 a3 a4 a5 a6 af
    cases b
    case' true =>
      have HR : Hid (M.Rise xs → M.renameS xs ac ver = (11, [])) := fun hr => rename_loop (HF.out hr).1.symm (HF2.out hr).1.symm (HR3.out hr) (HNN.out hr) ((HWI.out hr).1 rfl)
      go_wp2
      go_ret2
      exact Applied.err HR.out HB7.out.1
    have HOK : Hid (M.Rise xs → M.renameS xs ac ver = _) := fun hr => rename_ok (HF.out hr).1.symm (HF2.out hr).1.symm (HR3.out hr) (HNN.out hr) (fun h => by have := (HWI.out hr).2 h; cases this)
    obtain ⟨y0, y1, y2, y3, y4, yf, yz7⟩ := HB7.out.2.2.1.facts
    go_wp2_with (fail)
    refine (vput_any A n c vs xs v3 (lvS x ac.name) ver _ (HT.out.1.below (Nat.le_refl _) HB7.out.1) (by omega) HT.out.2.1 HB7.out.2.2.2.2.1.cont (small_leave HO.out.2 _)).mono ?_
    rintro e w8 ⟨B8, m8, d8, us8, ys8, rfl, hm8, ho8, hp8, hb8⟩
    have hz8 := hb8.size
    have HB8 : Hid (Below w.heap.size w w8 ∧ BoxA w8 w.heap.size a ∧ Box w8 w2.heap.size u ∧ OwnN w8 (w.heap.size + 1) u y) := ⟨HB7.out.1.trans (hb8.mono (by omega)), HB7.out.2.1.below hb8 (by omega), HB7.out.2.2.2.1.below hb8 (by omega), HB7.out.2.2.2.2.2.below (Nat.le_refl _) hb8⟩
    have HP8 : Hid (OwnT w8 (w.heap.size + 1) B8 m8 d8 us8 ys8 ∧ Putted xs (M.withV (lvS x ac.name) ver) ys8 ∧ m8 ≤ n + 1) := ⟨ho8.mono (by omega), hp8, hm8⟩
    clear ho8 hp8 hm8 hb8 y0 y1 y2 y3 y4 yf
    obtain ⟨a0, a1, a2, a3, a4, a5, a6, af, az8⟩ := HB8.out.2.1.facts
    obtain ⟨z0, z1, z2, z3, z4, zf, zz8⟩ := HB8.out.2.2.1.facts
    have h6 : Hid ((y.ents).length < 6) := HFR.out.1 rfl
    go_wp2_with (fail)
    refine (enter_gen u y a.toName a.fid _ HB8.out.2.2.2.cont HSY.out (by have h := h6.out; show ((y.ents).length + 1) * 24 ≤ _; omega)).mono ?_
    rintro e w9 ⟨v9, es, rfl, ho9, hen, hb9⟩
    have hz9 := hb9.size
    have HB9 : Hid (Below w.heap.size w w9 ∧ BoxA w9 w.heap.size a ∧ OwnT w9 (w.heap.size + 1) B8 m8 d8 us8 ys8) := ⟨HB8.out.1.trans (hb9.mono (by omega)), HB8.out.2.1.below hb9 (by omega), HP8.out.1.below (Nat.le_refl _) hb9⟩
    have HE : Hid (OwnN w9 (w.heap.size + 1) v9 (withE y es) ∧ Small (withE y es) ∧ Entered (y.ents) ac.toName ac.fid es) := by
      refine ⟨ho9.mono (by omega), ⟨HSY.out.1, ?_⟩, ?_⟩
      · show es.length * 24 ≤ _
        have h1 : es.length ≤ (y.ents).length + 1 := hen.1
        have h2 := h6.out
        omega
      · rw [HT.out.2.2.1.2.1, HT.out.2.2.1.2.2.2.2.2.1] at hen; exact hen
    clear ho9 hen hb9 a0 a1 a2 a3 a4 a5 a6 af z0 z1 z2 z3 z4 zf
    go_wp2_with (fail)
    refine (vput_any B8 m8 d8 us8 ys8 v9 (withE y es) ver _ HB9.out.2.2.tree (by have := HP8.out.2.2; omega) (putted_small HP8.out.2.1 HT.out.2.1 (small_leave HO.out.2 _)) HE.out.1.cont HE.out.2.1).mono ?_
    rintro e w10 ⟨B, m, d, us, ys, rfl, hm, hot, hp, hb10⟩
    have HP : Hid (Applied xs (M.renameS xs ac ver) w (.returned (.tuple #[.slice B m d, .int .i64 0])) w10) := Applied.ok (us := us) (fun hr => by
      have h5 := HP8.out.2.1.2 hr.1
      have h7 := hp.2 (by rw [h5]; exact M.put_rs (·.fid) xs M.ordI _ hr.1)
      rw [HOK.out hr, h7, h5, HE.out.2.2.2 (HYR.out hr), ← HTO.out hr, (HF.out hr).2]
      rfl) (hot.mono (by omega)) (HB9.out.1.trans (hb10.mono (by omega)))
    clear hm hot hp hb10
    go_wp2
    go_ret2
    exact HP.out
end Go.Proofs.Ytlegjdlmcphhlab
