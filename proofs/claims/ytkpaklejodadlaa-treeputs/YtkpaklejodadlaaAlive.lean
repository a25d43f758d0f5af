/-
  alive: the closed fact that both outright laws ask first.
-/
import Derived.Test.YtkpaklejodadlaaRises
import Derived.Lib.SlBytesConst
namespace Go.Proofs.Ytkpaklejodadlaa
open Go.RowKit

def txA : ByteArray := ⟨#[97]⟩
def nd3 : M.Nd := ⟨3, false, [120], [], 0⟩
def rt1 : M.Nd := ⟨0, true, [], [(txA, 3)], 0⟩
def tr1 : List M.Nd := [⟨0, true, [], [], 0⟩, nd3]
def tr2 : List M.Nd := [rt1, nd3]
theorem put_one : M.putN root0 nd3 = tr1 := rfl
theorem enter_one : withE ⟨0, true, [], [], 0⟩ (M.putE [] (txA, 3)) = rt1 := rfl
theorem put_two : M.putN tr1 rt1 = tr2 := rfl
theorem rs0 : M.RsN root0 := by simp [root0, M.Rs]
theorem rs1 : M.RsN tr1 := by simp [tr1, nd3, M.Rs, M.ltI]
theorem rs2 : M.RsN tr2 := by simp [tr2, rt1, nd3, M.Rs, M.ltI]
theorem rise2 : M.Rise tr2 := ⟨rs2, by intro x hx; simp [tr2] at hx; rcases hx with rfl | rfl <;> simp [rt1, nd3, M.Rs]⟩
theorem small_any {x : M.Nd} (h1 : x.data.length ≤ 100) (h2 : x.ents.length ≤ 100) : Small x := ⟨by omega, by omega⟩
theorem small0 : ∀ x ∈ root0, Small x := by intro x hx; simp [root0] at hx; subst hx; exact small_any (by simp) (by simp)
theorem small1 : ∀ x ∈ tr1, Small x := by intro x hx; simp [tr1] at hx; rcases hx with rfl | rfl <;> exact small_any (by simp [nd3]) (by simp [nd3])
theorem small2 : ∀ x ∈ tr2, Small x := by intro x hx; simp [tr2] at hx; rcases hx with rfl | rfl <;> exact small_any (by simp [nd3, rt1]) (by simp [nd3, rt1])
theorem small3 : Small nd3 := small_any (by simp [nd3]) (by simp [nd3])
theorem smallr : Small rt1 := small_any (by simp [rt1]) (by simp [rt1])
theorem find3 : M.find tr2 3 = some nd3 := rfl
theorem walk1 : M.walkS tr2 0 [txA] = (3, 0) := by
  have h : M.stepS tr2 0 txA = (3, 0) := M.step_yes (x := rt1) (e := (txA, 3)) rfl rfl (by simp [M.look, rt1])
  simp [M.walkS, h]
theorem lookA : M.look rt1.ents txA = some (txA, 3) := by simp [M.look, rt1]
theorem reach1 : M.Reach tr2 0 3 := .step (y := 0) (x := rt1) (e := (txA, 3)) .refl rfl (by simp [rt1])
theorem reach2 : ¬ M.Reach tr2 3 0 := by
  have key : ∀ y, M.Reach tr2 3 y → y = 3 := by
    intro y hy
    induction hy with
    | refl => rfl
    | step _ hf he ih => subst ih; rw [find3] at hf; cases hf; simp [nd3] at he
  intro h
  have := key 0 h
  omega
theorem drop3 : M.dropN tr2 3 = [rt1] := rfl
theorem leaveA : M.dropE rt1.ents txA = [] := by simp [M.dropE, rt1]
theorem same2 : allB alike tr2 tr2 = true := by simp [allB, tr2, alike]
theorem rise_ents {x : M.Nd} (h : x.ents.length ≤ 1) : M.RsE x.ents := by
  cases hx : x.ents with
  | nil => exact List.Pairwise.nil
  | cons a l =>
    rw [hx] at h
    have : l = [] := List.eq_nil_of_length_eq_zero (by simpa using h)
    subst this
    exact List.pairwise_singleton _ _

/-- the bytes of a literal -/
theorem byts_new (w : World) : Byts (w.alloc (.cells #[.int .u8 120] 5 (1, 2))) (some ⟨w.heap.size, 0, none⟩) 1 [120] := by
  refine ⟨rfl, .inr ⟨w.heap.size, 0, rfl, by simp, fun j v hv i c hc => ?_⟩⟩
  cases j with
  | succ j => cases hv
  | zero =>
    cases hv
    cases i with
    | succ i => cases hc
    | zero =>
      cases hc
      have h := heap_alloc_new w (.cells #[.int .u8 120] 5 (1, 2))
      show World.cell? _ ⟨w.heap.size, 0, none⟩ = _
      unfold World.cell?
      rw [h]
      rfl
theorem strs_new (w : World) : Strs (w.alloc (.cells #[.string txA] 9)) (some ⟨w.heap.size, 0, none⟩) 1 [txA] := by
  refine ⟨rfl, .inr ⟨w.heap.size, 0, rfl, by simp, fun j v hv i c hc => ?_⟩⟩
  cases j with
  | succ j => cases hv
  | zero =>
    cases hv
    cases i with
    | succ i => cases hc
    | zero =>
      cases hc
      simp

theorem field3 (v : NV) (w : World) : (Instr.field 26 v.val 3).run Try.prog w = .ok (.slice v.eA v.en v.ec) w := by
  kernel_rfl

set_option maxHeartbeats 4000000 in
theorem alive_any (w : World) : Calls Try.prog 29 #[] w fun e w' => e = .returned (.bool true) ∧ Below w.heap.size w w' := by
  have hcs := fun (W : World) => Lib.run_convert_bytes_const (P := Try.prog) W 23 5 #[.int .u8 120] 1 1 Try.underlying23 Try.underlying5
  have H97 : Hid ((⟨#[97]⟩ : ByteArray) = txA) := rfl
  go_enter Try.func29, Try.ntmps29
  go_wp2_with (fail)
  -- New
  refine (new_any _).mono ?_
  rintro e w1 ⟨g0, us0, rfl, hot0, hb1⟩
  have hwa : Below w1.heap.size w1 (w1.alloc (.cells #[.int .u8 120] 5 (1, 2))) := (Below.refl _ _).alloc (Nat.le_refl _) _
  have H1 : Hid (Tree (w1.alloc (.cells #[.int .u8 120] 5 (1, 2))) (some ⟨g0, 0, none⟩) 1 us0 root0 ∧ Below w.heap.size w (w1.alloc (.cells #[.int .u8 120] 5 (1, 2))) ∧ Cont (w1.alloc (.cells #[.int .u8 120] 5 (1, 2))) ⟨3, false, some ⟨w1.heap.size, 0, none⟩, 1, 1, none, 0, 0, 0⟩ nd3) :=
    ⟨hot0.tree.below (Nat.le_refl _) hwa, hb1.trans (hwa.mono hb1.size), ⟨rfl, rfl, rfl, byts_new w1, ⟨rfl, .inl rfl⟩⟩⟩
  clear hot0 hb1 hwa
  go_wp2_with (fail)
  -- Put
  refine (put_any (some ⟨g0, 0, none⟩) 1 1 us0 root0 ⟨3, false, some ⟨w1.heap.size, 0, none⟩, 1, 1, none, 0, 0, 0⟩ nd3 _ H1.out.1 rs0 (by decide) small0 H1.out.2.2 small3).mono ?_
  rintro e w2 ⟨B1, m1, d1, us1, rfl, _, hot1, hb2⟩
  rw [put_one] at hot1
  have hm1 : m1 = 2 := by rw [hot1.tree.1.1, hot1.tree.2.1]; rfl
  subst hm1
  have H2 : Hid (Tree w2 B1 2 us1 tr1 ∧ Below w.heap.size w w2) := ⟨hot1.tree, H1.out.2.1.trans (hb2.mono H1.out.2.1.size)⟩
  clear hot1 hb2 H1
  obtain ⟨ga, oa, va, rfl, hga, hva, a0, a1, a2, a3, a4⟩ := H2.out.1.1.at (j := 0) (by decide)
  simp only [Nat.zero_mul, Nat.add_zero] at a0 a1 a2 a3 a4
  have HA : Hid (Cont w2 va ⟨0, true, [], [], 0⟩) := H2.out.1.2.2 0 va _ hva rfl
  clear hva
  go_wp2_with (fail)
  -- Enter
  refine (enter_any va ⟨0, true, [], [], 0⟩ txA 3 _ HA.out (rise_ents (by simp)) (small_any (by simp) (by simp)) (by simp)).mono ?_
  rintro e w3 ⟨v3, rfl, hon3, hb3⟩
  rw [enter_one] at hon3
  have H3 : Hid (Tree w3 (some ⟨ga, oa, none⟩) 2 us1 tr1 ∧ Below w.heap.size w w3 ∧ Cont w3 v3 rt1) := ⟨H2.out.1.below (Nat.le_refl _) hb3, H2.out.2.trans (hb3.mono H2.out.2.size), hon3.cont⟩
  clear hon3 hb3 H2 HA a0 a1 a2 a3 a4
  go_wp2_with (fail)
  -- Put
  refine (put_any (some ⟨ga, oa, none⟩) 2 d1 us1 tr1 v3 rt1 _ H3.out.1 rs1 (by decide) small1 H3.out.2.2 smallr).mono ?_
  rintro e w4 ⟨B2, m2, d2, us2, rfl, _, hot2, hb4⟩
  rw [put_two] at hot2
  have hm2 : m2 = 2 := by rw [hot2.tree.1.1, hot2.tree.2.1]; rfl
  subst hm2
  have H4 : Hid (Tree w4 B2 2 us2 tr2 ∧ Below w.heap.size w w4) := ⟨hot2.tree, H3.out.2.1.trans (hb4.mono H3.out.2.1.size)⟩
  clear hot2 hb4 H3
  go_wp2_with (fail)
  -- Find
  refine (find_any B2 2 d2 us2 tr2 3 _ H4.out.1 rs2 (by decide) small2).mono ?_
  rintro e w5 ⟨v5, rfl, hon5, hb5⟩
  rw [find3] at hon5 ⊢
  simp only [Option.isSome_some]
  have hwb : Below w5.heap.size w5 (w5.alloc (.cells #[.int .i64 v5.fid, .bool v5.dir, .slice v5.dA v5.dn v5.dc, .slice v5.eA v5.en v5.ec, .int .i64 v5.ver] 26)) := (Below.refl _ _).alloc (Nat.le_refl _) _
  have hwc : Below (w5.heap.size + 1) (w5.alloc (.cells #[.int .i64 v5.fid, .bool v5.dir, .slice v5.dA v5.dn v5.dc, .slice v5.eA v5.en v5.ec, .int .i64 v5.ver] 26)) ((w5.alloc (.cells #[.int .i64 v5.fid, .bool v5.dir, .slice v5.dA v5.dn v5.dc, .slice v5.eA v5.en v5.ec, .int .i64 v5.ver] 26)).alloc (.cells #[.string txA] 9)) := (Below.refl _ _).alloc (by simp) _
  have hbd := hwb.trans (hwc.mono (by omega))
  have hs54 := hb5.size
  have H5 : Hid (Tree ((w5.alloc (.cells #[.int .i64 v5.fid, .bool v5.dir, .slice v5.dA v5.dn v5.dc, .slice v5.eA v5.en v5.ec, .int .i64 v5.ver] 26)).alloc (.cells #[.string txA] 9)) B2 2 us2 tr2 ∧ Below w.heap.size w ((w5.alloc (.cells #[.int .i64 v5.fid, .bool v5.dir, .slice v5.dA v5.dn v5.dc, .slice v5.eA v5.en v5.ec, .int .i64 v5.ver] 26)).alloc (.cells #[.string txA] 9)) ∧
      Cont ((w5.alloc (.cells #[.int .i64 v5.fid, .bool v5.dir, .slice v5.dA v5.dn v5.dc, .slice v5.eA v5.en v5.ec, .int .i64 v5.ver] 26)).alloc (.cells #[.string txA] 9)) v5 nd3 ∧ Box ((w5.alloc (.cells #[.int .i64 v5.fid, .bool v5.dir, .slice v5.dA v5.dn v5.dc, .slice v5.eA v5.en v5.ec, .int .i64 v5.ver] 26)).alloc (.cells #[.string txA] 9)) w5.heap.size v5 ∧ Strs ((w5.alloc (.cells #[.int .i64 v5.fid, .bool v5.dir, .slice v5.dA v5.dn v5.dc, .slice v5.eA v5.en v5.ec, .int .i64 v5.ver] 26)).alloc (.cells #[.string txA] 9)) (some ⟨w5.heap.size + 1, 0, none⟩) 1 [txA]) :=
    ⟨(H4.out.1.below (Nat.le_refl _) hb5).below (Nat.le_refl _) hbd, (H4.out.2.trans (hb5.mono H4.out.2.size)).trans (hbd.mono (by have := H4.out.2.size; omega)), hon5.cont.below (Nat.le_refl _) hbd, (Box.new w5 v5).alloc _, by have := strs_new (w5.alloc (.cells #[.int .i64 v5.fid, .bool v5.dir, .slice v5.dA v5.dn v5.dc, .slice v5.eA v5.en v5.ec, .int .i64 v5.ver] 26)); simpa using this⟩
  clear hon5 hb5 H4 hwb hwc hbd
  go_wp2_with (fail)
  -- Walk
  refine (walk_any B2 (some ⟨w5.heap.size + 1, 0, none⟩) 2 d2 1 1 us2 tr2 [txA] _ H5.out.1 rise2 (by decide) small2 H5.out.2.2.2.2 (by decide)).mono ?_
  rintro e w6 ⟨rfl, hb6⟩
  rw [walk1]
  have hs65 := hb6.size
  simp at hs65
  have H6 : Hid (Tree w6 B2 2 us2 tr2 ∧ Below w.heap.size w w6 ∧ Cont w6 v5 nd3 ∧ Box w6 w5.heap.size v5) := ⟨H5.out.1.below (Nat.le_refl _) hb6, H5.out.2.1.trans (hb6.mono H5.out.2.1.size), H5.out.2.2.1.below (Nat.le_refl _) hb6, H5.out.2.2.2.1.below hb6 (by simp; omega)⟩
  clear hb6 H5
  obtain ⟨gc, oc, vc, rfl, hgc, hvc, a0, a1, a2, a3, a4⟩ := H6.out.1.1.at (j := 0) (by decide)
  simp only [Nat.zero_mul, Nat.add_zero] at a0 a1 a2 a3 a4
  have HC : Hid (us2[0]? = some vc) := hvc
  have HCC : Hid (Cont w6 vc rt1) := H6.out.1.2.2 0 vc _ hvc rfl
  clear hvc
  go_wp2_with (fail)
  -- Entry
  refine (entry_any vc rt1 txA _ HCC.out smallr).mono ?_
  rintro e w7 ⟨f7, b7, rfl, hfb, hb7⟩
  obtain ⟨hf7, hb7'⟩ := hfb (rise_ents (by simp [rt1]))
  rw [lookA] at hf7 hb7'
  simp at hf7 hb7'
  subst hf7 hb7'
  have hs76 := hb7.size
  have H7 : Hid (Tree w7 (some ⟨gc, oc, none⟩) 2 us2 tr2 ∧ Below w.heap.size w w7 ∧ Cont w7 v5 nd3 ∧ Box w7 w5.heap.size v5) := ⟨H6.out.1.below (Nat.le_refl _) hb7, H6.out.2.1.trans (hb7.mono H6.out.2.1.size), H6.out.2.2.1.below (Nat.le_refl _) hb7, H6.out.2.2.2.below hb7 (lt_of_block H6.out.2.2.2)⟩
  clear hb7 hfb H6 HCC a0 a1 a2 a3 a4
  have hcv := conv_byts (c := v5.dc) H7.out.2.2.1.2.2.2.1
  obtain ⟨p0, p1, p2, p3, p4, pf, pz⟩ := H7.out.2.2.2.facts
  have hxt : ((txt nd3.data).toList == [120]) = true := by rw [ByteArray.toList_eq]; rfl
  go_wp2_with (fail)
  -- Within, twice
  refine (within_any (some ⟨gc, oc, none⟩) 2 d2 us2 tr2 3 0 _ H7.out.1 rs2 (by decide) small2).mono ?_
  rintro e w8 ⟨b8, rfl, hr8, hb8⟩
  have hb8t : b8 = true := hr8.2 reach1
  subst hb8t
  have H8 : Hid (Tree w8 (some ⟨gc, oc, none⟩) 2 us2 tr2 ∧ Below w.heap.size w w8) := ⟨H7.out.1.below (Nat.le_refl _) hb8, H7.out.2.1.trans (hb8.mono H7.out.2.1.size)⟩
  clear hr8 hb8 H7 hcv p0 p1 p2 p3 p4 pf
  go_wp2_with (fail)
  refine (within_any (some ⟨gc, oc, none⟩) 2 d2 us2 tr2 0 3 _ H8.out.1 rs2 (by decide) small2).mono ?_
  rintro e w9 ⟨b9, rfl, hr9, hb9⟩
  have hb9f : b9 = false := by
    cases b9
    · rfl
    · exact absurd (hr9.1 rfl) reach2
  subst hb9f
  have H9 : Hid (Tree w9 (some ⟨gc, oc, none⟩) 2 us2 tr2 ∧ Below w.heap.size w w9) := ⟨H8.out.1.below (Nat.le_refl _) hb9, H8.out.2.trans (hb9.mono H8.out.2.size)⟩
  clear hr9 hb9 H8
  go_wp2_with (fail)
  -- Drop
  refine (drop_any (some ⟨gc, oc, none⟩) 2 d2 us2 tr2 3 _ H9.out.1 (by decide) small2).mono ?_
  rintro e w10 ⟨B3, m3, d3, us3, rfl, _, hot3, hb10⟩
  rw [drop3] at hot3
  have hm3 : m3 = 1 := by rw [hot3.tree.1.1, hot3.tree.2.1]; rfl
  subst hm3
  have H10 : Hid (Tree w10 (some ⟨gc, oc, none⟩) 2 us2 tr2 ∧ Below w.heap.size w w10) := ⟨H9.out.1.below (Nat.le_refl _) hb10, H9.out.2.trans (hb10.mono H9.out.2.size)⟩
  clear hot3 hb10 H9
  obtain ⟨ge, oe, ve, hAe, hge, hve, a0, a1, a2, a3, a4⟩ := H10.out.1.1.at (j := 0) (by decide)
  cases hAe
  have e1 : ve = vc := by have := HC.out; rw [this] at hve; exact (Option.some.inj hve).symm
  subst e1
  simp only [Nat.zero_mul, Nat.add_zero] at a0 a1 a2 a3 a4
  have HE : Hid (Cont w10 ve rt1) := H10.out.1.2.2 0 ve _ hve rfl
  clear hve
  go_wp2_with (fail)
  -- Leave
  refine (leave_any ve rt1 txA _ HE.out smallr).mono ?_
  rintro e w11 ⟨v11, rfl, hon11, hb11⟩
  have hen11 : v11.en = 0 := by
    have := hon11.cont.2.2.2.2.1
    rw [this]
    show (M.dropE rt1.ents txA).length = 0
    rw [leaveA]; rfl
  have H11 : Hid (Tree w11 (some ⟨gc, oc, none⟩) 2 us2 tr2 ∧ Below w.heap.size w w11) := ⟨H10.out.1.below (Nat.le_refl _) hb11, H10.out.2.trans (hb11.mono H10.out.2.size)⟩
  have hfl := field3 v11
  rw [hen11] at hfl
  clear hon11 hb11 H10 HE a0 a1 a2 a3 a4
  go_wp2_with (fail)
  -- Own, Same
  refine (own_any (some ⟨gc, oc, none⟩) 2 d2 us2 tr2 _ H11.out.1 (by decide) small2).mono ?_
  rintro e w12 ⟨g12, us12, rfl, hot12, hb12⟩
  have H12 : Hid (Tree w12 (some ⟨gc, oc, none⟩) 2 us2 tr2 ∧ Below w.heap.size w w12 ∧ Tree w12 (some ⟨g12, 0, none⟩) 2 us12 tr2) := ⟨H11.out.1.below (Nat.le_refl _) hb12, H11.out.2.trans (hb12.mono H11.out.2.size), hot12.tree⟩
  clear hot12 hb12 H11
  go_wp2_with (fail)
  refine (same_any (some ⟨gc, oc, none⟩) (some ⟨g12, 0, none⟩) 2 2 d2 2 us2 us12 tr2 tr2 _ H12.out.1 H12.out.2.2 (by decide) (by decide) small2 small2).mono ?_
  rintro e w13 ⟨rfl, hb13⟩
  rw [same2]
  go_wp2
  go_ret
  exact ⟨rfl, H12.out.2.1.trans (hb13.mono H12.out.2.1.size)⟩
end Go.Proofs.Ytkpaklejodadlaa
