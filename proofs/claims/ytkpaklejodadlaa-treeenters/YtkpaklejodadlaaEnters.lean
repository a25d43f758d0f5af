/-
  THE LAW TreeEnters, walked: of any node, name and fid it answers true, and all that was there stays.
-/
import Derived.Test.YtkpaklejodadlaaAlive
namespace Go.Proofs.Ytkpaklejodadlaa
open Go.RowKit

theorem tree_one (w : World) (v : NV) (x : M.Nd) (hc : Cont w v x) (W : World) (hW : W = w.alloc (.cells #[.int .i64 v.fid, .bool v.dir, .slice v.dA v.dn v.dc, .slice v.eA v.en v.ec, .int .i64 v.ver] 26)) : Tree W (some ⟨w.heap.size, 0, none⟩) 1 [v] [x] ∧ Below w.heap.size w W := by
  subst hW
  have hb : Below w.heap.size w (w.alloc (.cells #[.int .i64 v.fid, .bool v.dir, .slice v.dA v.dn v.dc, .slice v.eA v.en v.ec, .int .i64 v.ver] 26)) := (Below.refl _ _).alloc (Nat.le_refl _) _
  exact ⟨⟨row_of_box5 (Box5.new w v), All2.one (hc.below (Nat.le_refl _) hb)⟩, hb⟩

theorem rise_one {x : M.Nd} : riseB [x] = true ↔ M.RsE x.ents := by
  rw [riseB_iff]
  constructor
  · intro h; exact h.2 x (List.mem_singleton.2 rfl)
  · intro h; exact ⟨List.pairwise_singleton _ _, fun y hy => by rw [List.mem_singleton.1 hy]; exact h⟩
theorem look_put (es : List (ByteArray × Int)) (s : ByteArray) (f : Int) : M.look (M.putE es (s, f)) s = some (s, f) := M.put_find (fun e : ByteArray × Int => e.1) es M.ordB (s, f)
theorem look_no {es : List (ByteArray × Int)} {s : ByteArray} (h : M.look es s = none) : ∀ y ∈ es, y.1 ≠ s := by
  intro y hy
  have := (List.find?_eq_none.1 h) y hy
  simpa using this
theorem drop_put {es : List (ByteArray × Int)} {s : ByteArray} (f : Int) (hr : M.RsE es) (h : M.look es s = none) : M.dropE (M.putE es (s, f)) s = es := M.put_drop (fun e : ByteArray × Int => e.1) es M.ordB (s, f) hr (look_no h)
theorem putE_small {x : M.Nd} {e : ByteArray × Int} (hs : Small x) (h : (x.ents.length + 1) * 24 ≤ 140737488355328) : Small (withE x (M.putE x.ents e)) := by
  refine ⟨hs.1, ?_⟩
  have : (M.putE x.ents e).length ≤ x.ents.length + 1 := M.put_len (fun e : ByteArray × Int => e.1) x.ents M.ordB e
  show (M.putE x.ents e).length * 24 ≤ _
  omega

set_option maxHeartbeats 4000000 in
theorem enters_any (v : NV) (x : M.Nd) (s : ByteArray) (f : Int) (w : World) (hc : Cont w v x) (hs : Small x) (hs1 : (x.ents.length + 1) * 24 ≤ 140737488355328) :
    Calls Try.prog 5 #[v.val, .string s, .int .i64 f] w fun e w' => e = .returned (.bool true) ∧ Below w.heap.size w w' := by
  have HC : Hid (Cont w v x ∧ Small x) := ⟨hc, hs⟩
  have hwa : Below w.heap.size w (w.alloc (.cells #[.int .i64 v.fid, .bool v.dir, .slice v.dA v.dn v.dc, .slice v.eA v.en v.ec, .int .i64 v.ver] 26)) := (Below.refl _ _).alloc (Nat.le_refl _) _
  have HB : Hid (Box (w.alloc (.cells #[.int .i64 v.fid, .bool v.dir, .slice v.dA v.dn v.dc, .slice v.eA v.en v.ec, .int .i64 v.ver] 26)) w.heap.size v) := Box.new w v
  clear hc hs
  go_enter Try.func5, Try.ntmps5
  go_wp2_with (fail)
  refine (alive_any _).mono ?_
  rintro e w1 ⟨rfl, hb1⟩
  have hz1 := hb1.size
  simp at hz1
  have H1 : Hid (Below w.heap.size w w1 ∧ Box w1 w.heap.size v) := ⟨hwa.trans (hb1.mono (by simp)), HB.out.below hb1 (by simp)⟩
  clear hb1 hwa HB
  obtain ⟨p0, p1, p2, p3, p4, pf, pz⟩ := H1.out.2.facts
  go_wp2_with (fail)
  refine (entry_any v x s _ (HC.out.1.below (Nat.le_refl _) H1.out.1) HC.out.2).mono ?_
  rintro e w2 ⟨f2, b2, rfl, hfb, hb2⟩
  have HFB : Hid (M.RsE x.ents → f2 = ((M.look x.ents s).map (·.2)).getD 0 ∧ b2 = (M.look x.ents s).isSome) := hfb
  have H2 : Hid (Below w.heap.size w w2 ∧ Box w2 w.heap.size v) := ⟨H1.out.1.trans (hb2.mono H1.out.1.size), H1.out.2.below hb2 pz⟩
  clear hfb hb2 H1 p0 p1 p2 p3 p4 pf pz
  obtain ⟨p0, p1, p2, p3, p4, pf, pz⟩ := H2.out.2.facts
  cases b2
  case' true =>
    go_wp2
    go_ret
    exact ⟨rfl, H2.out.1⟩
  have HT : Hid _ := tree_one w2 v x (HC.out.1.below (Nat.le_refl _) H2.out.1) _ rfl
  go_wp2_with (fail)
  refine (rises_any (some ⟨w2.heap.size, 0, none⟩) 1 1 [v] [x] _ HT.out.1 (by decide) (fun y hy => by rw [List.mem_singleton.1 hy]; exact HC.out.2)).mono ?_
  rintro e w3 ⟨rfl, hb3⟩
  have hz3 := hb3.size
  simp at hz3
  have H3 : Hid (Below w.heap.size w w3 ∧ Box w3 w.heap.size v) := ⟨(H2.out.1.trans (HT.out.2.mono H2.out.1.size)).trans (hb3.mono (by simp; have := H2.out.1.size; omega)), (H2.out.2.below HT.out.2 pz).below hb3 (by simp; omega)⟩
  clear hb3 H2 HT p0 p1 p2 p3 p4 pf pz
  obtain ⟨p0, p1, p2, p3, p4, pf, pz⟩ := H3.out.2.facts
  cases hrb : riseB [x]
  case' false =>
    go_wp2
    go_ret
    exact ⟨rfl, H3.out.1⟩
  have hre := rise_one.1 hrb
  have hlk : M.look x.ents s = none := by
    have := (HFB.out hre).2
    cases h : M.look x.ents s
    · rfl
    · rw [h] at this; cases this
  have HR : Hid (M.RsE x.ents ∧ M.look x.ents s = none) := ⟨hre, hlk⟩
  clear hre hlk HFB hrb
  go_wp2_with (fail)
  refine (enter_any v x s f _ (HC.out.1.below (Nat.le_refl _) H3.out.1) HR.out.1 HC.out.2 hs1).mono ?_
  rintro e w4 ⟨v4, rfl, hon4, hb4⟩
  have hz4 := hb4.size
  have hwd : Below w4.heap.size w4 (w4.alloc (.cells #[.int .i64 v4.fid, .bool v4.dir, .slice v4.dA v4.dn v4.dc, .slice v4.eA v4.en v4.ec, .int .i64 v4.ver] 26)) := (Below.refl _ _).alloc (Nat.le_refl _) _
  have hbw4 : Below w.heap.size w w4 := H3.out.1.trans (hb4.mono H3.out.1.size)
  have H4 : Hid (Below w.heap.size w (w4.alloc (.cells #[.int .i64 v4.fid, .bool v4.dir, .slice v4.dA v4.dn v4.dc, .slice v4.eA v4.en v4.ec, .int .i64 v4.ver] 26)) ∧ Box (w4.alloc (.cells #[.int .i64 v4.fid, .bool v4.dir, .slice v4.dA v4.dn v4.dc, .slice v4.eA v4.en v4.ec, .int .i64 v4.ver] 26)) w.heap.size v ∧ Box (w4.alloc (.cells #[.int .i64 v4.fid, .bool v4.dir, .slice v4.dA v4.dn v4.dc, .slice v4.eA v4.en v4.ec, .int .i64 v4.ver] 26)) w4.heap.size v4 ∧ Cont (w4.alloc (.cells #[.int .i64 v4.fid, .bool v4.dir, .slice v4.dA v4.dn v4.dc, .slice v4.eA v4.en v4.ec, .int .i64 v4.ver] 26)) v4 (withE x (M.putE x.ents (s, f)))) :=
    ⟨hbw4.trans (hwd.mono hbw4.size), (H3.out.2.below hb4 pz).alloc _, Box.new w4 v4, hon4.cont.below (Nat.le_refl _) hwd⟩
  have HS4 : Hid (Small (withE x (M.putE x.ents (s, f)))) := putE_small HC.out.2 hs1
  clear hon4 hb4 hwd hbw4 H3 p0 p1 p2 p3 p4 pf
  go_wp2_with (fail)
  refine (entry_any v4 (withE x (M.putE x.ents (s, f))) s _ H4.out.2.2.2 HS4.out).mono ?_
  rintro e w5 ⟨f5, b5, rfl, hfb5, hb5⟩
  obtain ⟨hf5, hb5'⟩ := hfb5 (M.put_rs (·.1) x.ents M.ordB (s, f) HR.out.1)
  have hl5 : M.look (withE x (M.putE x.ents (s, f))).ents s = some (s, f) := look_put x.ents s f
  rw [hl5] at hf5 hb5'
  simp at hf5 hb5'
  subst hf5 hb5'
  have hz5 := hb5.size
  simp at hz5
  have H5 : Hid (Below w.heap.size w w5 ∧ Box w5 w.heap.size v ∧ Box w5 w4.heap.size v4 ∧ Cont w5 v4 (withE x (M.putE x.ents (s, f5)))) := ⟨H4.out.1.trans (hb5.mono H4.out.1.size), H4.out.2.1.below hb5 (by simp; omega), H4.out.2.2.1.below hb5 (by simp), H4.out.2.2.2.below (Nat.le_refl _) hb5⟩
  clear hfb5 hb5 hl5 H4
  obtain ⟨p0, p1, p2, p3, p4, pf, pz5⟩ := H5.out.2.1.facts
  obtain ⟨z0, z1, z2, z3, z4, zf, zz⟩ := H5.out.2.2.1.facts
  go_wp2_with (fail)
  go_region_with (first
    | (go_at_call 27; refine (leave_any v4 (withE x (M.putE x.ents (s, f5))) s _ (H5.out.2.2.2.below (Nat.le_refl _) ((Below.refl _ _).drew)) HS4.out).mono ?_; rintro e w6 ⟨v6, rfl, hon6, hb6⟩; have H6 : Hid (Below w.heap.size w w6 ∧ Box w6 w.heap.size v ∧ Cont w6 v6 x) := ⟨(H5.out.1.drew).trans (hb6.mono (by show _ ≤ w5.heap.size; have := H5.out.1.size; omega)), Box.below (w := w5.drew) H5.out.2.1 hb6 pz5, (by have := hon6.cont; rw [show M.dropE (withE x (M.putE x.ents (s, f5))).ents s = x.ents from drop_put f5 HR.out.1 HR.out.2] at this; exact this)⟩; clear hon6 hb6 p0 p1 p2 p3 p4 pf; obtain ⟨p0, p1, p2, p3, p4, pf, pz6⟩ := H6.out.2.1.facts)
    | (go_at_call 9; refine (sameNode_any v6 v x x true _ H6.out.2.2 (HC.out.1.below (Nat.le_refl _) H6.out.1) HC.out.2 HC.out.2).mono ?_; rintro e w7 ⟨rfl, hb7⟩; rw [same_self]))
  all_goals
    go_wp2
    go_ret
    exact ⟨rfl, H6.out.1.trans (hb7.mono H6.out.1.size)⟩
end Go.Proofs.Ytkpaklejodadlaa
