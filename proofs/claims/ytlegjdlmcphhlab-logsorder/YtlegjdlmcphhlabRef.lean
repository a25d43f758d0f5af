/-
  THE REFERENCE's SameNode, Same, Rises.
-/
import Derived.Test.YtlegjdlmcphhlabIn
namespace Go.Proofs.Ytlegjdlmcphhlab
open Go.RowKit

/-- the same, and of the same version, if that is asked -/
def sameNd (vb : Bool) (x y : M.Nd) : Bool := alike x y && (!vb || decide (x.ver = y.ver))
theorem same_self (vb : Bool) (x : M.Nd) : sameNd vb x x = true := by simp [sameNd, alike]

/-- two boxes -/
theorem two_boxes (w : World) (v u : NV) (W : World) (hW : W = (w.alloc (.cells #[.int .i64 v.fid, .bool v.dir, .slice v.dA v.dn v.dc, .slice v.eA v.en v.ec, .int .i64 v.ver] 40)).alloc (.cells #[.int .i64 u.fid, .bool u.dir, .slice u.dA u.dn u.dc, .slice u.eA u.en u.ec, .int .i64 u.ver] 40)) :
    Box W w.heap.size v ∧ Box W (w.heap.size + 1) u ∧ Below w.heap.size w W := by
  subst hW
  refine ⟨(Box.new w v).alloc _, ?_, ((Below.refl _ _).alloc (Nat.le_refl _) _).alloc (by simp) _⟩
  have := Box.new (w.alloc (.cells #[.int .i64 v.fid, .bool v.dir, .slice v.dA v.dn v.dc, .slice v.eA v.en v.ec, .int .i64 v.ver] 40)) u
  simpa using this

set_option maxHeartbeats 2000000 in
theorem sameNode_any (v u : NV) (x y : M.Nd) (vb : Bool) (w : World) (hx : Cont w v x) (hy : Cont w u y) (sx : Small x) (sy : Small y) :
    Calls Try.prog 16 #[v.val, u.val, .bool vb] w fun e w' => e = .returned (.bool (sameNd vb x y)) ∧ Below w.heap.size w w' := by
  have HW : Hid _ := two_boxes w v u
  have hwa : Below w.heap.size w ((w.alloc (.cells #[.int .i64 v.fid, .bool v.dir, .slice v.dA v.dn v.dc, .slice v.eA v.en v.ec, .int .i64 v.ver] 40)).alloc (.cells #[.int .i64 u.fid, .bool u.dir, .slice u.dA u.dn u.dc, .slice u.eA u.en u.ec, .int .i64 u.ver] 40)) := (two_boxes w v u _ rfl).2.2
  have HX : Hid (Cont w v x ∧ Small x) := ⟨hx, sx⟩
  have HY : Hid (Cont w u y ∧ Small y) := ⟨hy, sy⟩
  have d1 := conv_byts (c := v.dc) ((hx.below (Nat.le_refl _) hwa).2.2.2.1)
  have d2 := conv_byts (c := u.dc) ((hy.below (Nat.le_refl _) hwa).2.2.2.1)
  have hvn : v.en ≤ 140737488355328 := by have := sx.2; have := hx.2.2.2.2.1; omega
  have hun : u.en ≤ 140737488355328 := by have := sy.2; have := hy.2.2.2.2.1; omega
  have HF : ∀ b : Bool, Hid ((v.fid = u.fid ∧ v.dir = u.dir ∧ x.data = y.data ∧ x.ents = y.ents ∧ (vb = true → v.ver = u.ver)) ↔ b = true) → Hid (sameNd vb x y = b) := fun b hb => by
    show _ = _
    have hb := hb.out
    rw [hx.1, hx.2.1, hx.2.2.1, hy.1, hy.2.1, hy.2.2.1] at hb
    unfold sameNd alike
    rw [Bool.eq_iff_iff]
    simp only [Bool.and_eq_true, decide_eq_true_eq, Bool.or_eq_true, Bool.not_eq_true']
    rw [← hb]
    constructor
    · rintro ⟨⟨⟨⟨a1, a2⟩, a3⟩, a4⟩, a5⟩
      exact ⟨a1, a2, a3, a4, fun h => a5.elim (fun h' => by rw [h] at h'; cases h') id⟩
    · rintro ⟨a1, a2, a3, a4, a5⟩
      refine ⟨⟨⟨⟨a1, a2⟩, a3⟩, a4⟩, ?_⟩
      cases vb
      · exact .inl rfl
      · exact .inr (a5 rfl)
  have hDT : ((txt x.data).toList == (txt y.data).toList) = decide (x.data = y.data) := by
    rw [raw_eq, decide_eq_decide]; exact txt_inj
  have hlen : v.en = x.ents.length ∧ u.en = y.ents.length := ⟨hx.2.2.2.2.1, hy.2.2.2.2.1⟩
  have HL : Hid (v.en = x.ents.length ∧ u.en = y.ents.length) := hlen
  clear hx hy sx sy hlen
  by_cases h1 : v.fid = u.fid
  case' neg =>
    have q1 : (v.fid == u.fid) = false := by simp [h1]
    have r1 : (v.fid != u.fid) = true := by simp [h1]
    have HR := HF false ⟨fun h => absurd h.1 h1, fun h => by cases h⟩
    clear h1 HF hDT d1 d2
    go_enter Try.func16, Try.ntmps16
    go_wp2
    go_ret
    exact ⟨ret_bool HR.out.symm, hwa⟩
  have q1 : (v.fid == u.fid) = true := by simp [h1]
  have r1 : (v.fid != u.fid) = false := by simp [h1]
  have H1 : Hid (v.fid = u.fid) := h1
  clear h1
  by_cases h2 : v.dir = u.dir
  case' neg =>
    have q2 : (v.dir == u.dir) = false := by simp [h2]
    have r2 : (v.dir != u.dir) = true := by simp [h2]
    have HR := HF false ⟨fun h => absurd h.2.1 h2, fun h => by cases h⟩
    clear h2 HF hDT d1 d2
    go_enter Try.func16, Try.ntmps16
    go_wp2
    go_ret
    exact ⟨ret_bool HR.out.symm, hwa⟩
  have q2 : (v.dir == u.dir) = true := by simp [h2]
  have r2 : (v.dir != u.dir) = false := by simp [h2]
  have H2 : Hid (v.dir = u.dir) := h2
  clear h2
  by_cases h3 : x.data = y.data
  case' neg =>
    have q3 : ((txt x.data).toList == (txt y.data).toList) = false := by rw [hDT]; exact decide_eq_false h3
    have r3 : ((txt x.data).toList != (txt y.data).toList) = true := by rw [bne, q3]; rfl
    have HR := HF false ⟨fun h => absurd h.2.2.1 h3, fun h => by cases h⟩
    clear h3 HF hDT
    go_enter Try.func16, Try.ntmps16
    go_wp2
    go_ret
    exact ⟨ret_bool HR.out.symm, hwa⟩
  have q3 : ((txt x.data).toList == (txt y.data).toList) = true := by rw [hDT]; exact decide_eq_true h3
  have r3 : ((txt x.data).toList != (txt y.data).toList) = false := by rw [bne, q3]; rfl
  have H3 : Hid (x.data = y.data) := h3
  clear h3 hDT
  by_cases h4 : v.en = u.en
  case' neg =>
    have q4 : ((v.en : Int) == (u.en : Int)) = false := by rw [beq_eq_false_iff_ne]; omega
    have r4 : ((v.en : Int) != (u.en : Int)) = true := by rw [bne, q4]; rfl
    have HR := HF false ⟨fun h => absurd (by rw [HL.out.1, HL.out.2, h.2.2.2.1]) h4, fun h => by cases h⟩
    clear h4 HF
    go_enter Try.func16, Try.ntmps16
    go_wp2
    go_ret
    exact ⟨ret_bool HR.out.symm, hwa⟩
  have q4 : ((v.en : Int) == (u.en : Int)) = true := by rw [beq_iff_eq]; omega
  have r4 : ((v.en : Int) != (u.en : Int)) = false := by rw [bne, q4]; rfl
  have H4 : Hid (v.en = u.en) := h4
  clear h4
  by_cases h5 : vb = true → v.ver = u.ver
  case' neg =>
    have hvb : vb = true := by cases vb <;> simp_all
    subst hvb
    have hne : v.ver ≠ u.ver := fun e => h5 fun _ => e
    have q5 : (v.ver == u.ver) = false := by simp [hne]
    have r5 : (v.ver != u.ver) = true := by simp [hne]
    have HR := HF false ⟨fun h => absurd (h.2.2.2.2 rfl) hne, fun h => by cases h⟩
    clear h5 HF hne
    go_enter Try.func16, Try.ntmps16
    go_wp2
    go_ret
    exact ⟨ret_bool HR.out.symm, hwa⟩
  have HR : Hid (sameNd vb x y = decide (x.ents = y.ents)) := HF _ (by
    show _ ↔ _
    rw [decide_eq_true_eq]
    exact ⟨fun h => h.2.2.2.1, fun h => ⟨H1.out, H2.out, H3.out, h, h5⟩⟩)
  have H5 : Hid (vb = true → v.ver = u.ver) := h5
  have hg := guardEnt
  clear h5 HF
  cases vb
  case' true =>
    have q5 : (v.ver == u.ver) = true := by simp [H5.out rfl]
    have r5 : (v.ver != u.ver) = false := by simp [H5.out rfl]
    go_enter Try.func16, Try.ntmps16
    go_wp2
  case' false =>
    go_enter Try.func16, Try.ntmps16
    go_wp2
  all_goals
    go_loopw [51] (fun i wr => ∃ k : Nat, k ≤ v.en ∧ i = .int .i64 k ∧ x.ents.take k = y.ents.take k ∧ Box wr w.heap.size v ∧ Box wr (w.heap.size + 1) u ∧ Below w.heap.size w wr) (fun i _ => v.en - (intOf i).toNat)
    case atStart =>
      have hb := HW.out _ rfl
      exact ⟨0, Nat.zero_le _, rfl, rfl, hb.1, hb.2.1, hb.2.2⟩
    case round =>
      obtain ⟨k, hk, rfl, heq, hbv, hbu, hbw⟩ := hrel
      have HE : Hid (x.ents.take k = y.ents.take k) := heq
      have HB : Hid (Box wr w.heap.size v ∧ Box wr (w.heap.size + 1) u) := ⟨hbv, hbu⟩
      obtain ⟨p0, p1, p2, p3, p4, pf, pz⟩ := hbv.facts
      obtain ⟨z0, z1, z2, z3, z4, zf, zz⟩ := hbu.facts
      clear heq hbv hbu
      by_cases hlt : k < v.en
      · obtain ⟨g1, o1, a, ha, _, hak, a0, a1⟩ := Ents.at (HX.out.1.2.2.2.2.below (Nat.le_refl _) hbw) hlt
        obtain ⟨g2, o2, b, hb, _, hbk, b0, b1⟩ := Ents.at (HY.out.1.2.2.2.2.below (Nat.le_refl _) hbw) (show k < u.en by have := H4.out; omega)
        have hkn : (k : Int) < (v.en : Int) := by omega
        have hku : (k : Int) < (u.en : Int) := by have := H4.out; omega
        have hk0 : (0 : Int) ≤ (k : Int) := by omega
        rw [ha] at p3
        rw [hb] at z3
        have HA : Hid (x.ents[k]? = some a ∧ y.ents[k]? = some b) := ⟨hak, hbk⟩
        have hq := neqEnt a b
        clear hak hbk ha hb p0 p1 p2 p4 z0 z1 z2 z4
        by_cases hab : a = b
        · have hd : decide (a = b) = true := decide_eq_true hab
          rw [hd] at hq
          have HAB : Hid (a = b) := hab
          clear hab hd
          go_wp2
          go_quiet (fail)
          go_wp2
          go_roundw
          case rel => exact ⟨k + 1, by omega, by go_num, by rw [take_step HA.out.1, take_step HA.out.2, HE.out, HAB.out], HB.out.1, HB.out.2, below_drewN hbw _⟩
          case measure => simp [intOf]; omega
        · have hd : decide (a = b) = false := decide_eq_false hab
          rw [hd] at hq
          have HN : Hid (a ≠ b) := hab
          clear hab hd
          go_wp2
          go_quiet (fail)
          go_wp2
          go_ret
          exact ⟨ret_bool (by rw [HR.out, decide_eq_false (ne_of_at HA.out.1 HA.out.2 HN.out)]), below_drewN hbw _⟩
      · have HN : Hid (x.ents.length ≤ k ∧ y.ents.length ≤ k) := by
          have := HL.out
          have := H4.out
          show _ ∧ _
          omega
        go_wp2
        go_ret
        exact ⟨ret_bool (by
          have e := HE.out
          rw [List.take_of_length_le HN.out.1, List.take_of_length_le HN.out.2] at e
          rw [HR.out, decide_eq_true e]), hbw⟩
end Go.Proofs.Ytlegjdlmcphhlab
