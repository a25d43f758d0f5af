/-
  THE REFERENCE's Rises.
-/
import Derived.Test.YtlegjdlmcphhlabRef
namespace Go.Proofs.Ytlegjdlmcphhlab
open Go.RowKit

namespace M
theorem rs_snoc {K : Type} {lt : K → K → Bool} (o : Ordr lt) (l : List K) (y x : K) (h : Rs lt (l ++ [y])) (hy : lt y x = true) : Rs lt (l ++ [y] ++ [x]) := by
  unfold Rs at *
  rw [List.pairwise_append]
  refine ⟨h, List.pairwise_singleton _ _, fun a ha b hb => ?_⟩
  rw [List.mem_singleton.1 hb]
  rcases List.mem_append.1 ha with h1 | h1
  · exact o.tra _ _ _ ((List.pairwise_append.1 h).2.2 a h1 y (List.mem_singleton.2 rfl)) hy
  · rw [List.mem_singleton.1 h1]; exact hy
theorem rs_one {K : Type} {lt : K → K → Bool} (x : K) : Rs lt [x] := List.pairwise_singleton _ _
theorem rs_step {K : Type} {lt : K → K → Bool} (o : Ordr lt) {l : List K} {j : Nat} {y x : K} (hy : l[j]? = some y) (hx : l[j + 1]? = some x) (h : Rs lt (l.take (j + 1))) (hlt : lt y x = true) : Rs lt (l.take (j + 1 + 1)) := by
  have e1 : l.take (j + 1) = l.take j ++ [y] := by rw [List.take_add_one, hy]; rfl
  have e2 : l.take (j + 1 + 1) = l.take (j + 1) ++ [x] := by rw [List.take_add_one, hx]; rfl
  rw [e2, e1]
  rw [e1] at h
  exact rs_snoc o _ y x h hlt
theorem rs_no {K : Type} {lt : K → K → Bool} {l : List K} {j : Nat} {y x : K} (hy : l[j]? = some y) (hx : l[j + 1]? = some x) (hlt : lt y x = false) : ¬ Rs lt l := by
  intro h
  rw [rs_at h (Nat.lt_succ_self j) hy hx] at hlt; cases hlt
theorem rs_first {K : Type} {lt : K → K → Bool} {l : List K} {x : K} (hx : l[0]? = some x) : Rs lt (l.take 1) := by
  have : l.take 1 = [x] := by
    cases l with
    | nil => cases hx
    | cons a l => cases hx; rfl
  rw [this]; exact rs_one x
end M
open Classical in
noncomputable def riseB (xs : List M.Nd) : Bool := decide (M.Rise xs)
theorem riseB_yes {xs : List M.Nd} (h : M.Rise xs) : riseB xs = true := by unfold riseB; simp [h]
theorem riseB_no {xs : List M.Nd} (h : ¬ M.Rise xs) : riseB xs = false := by unfold riseB; simp [h]
theorem riseB_iff {xs : List M.Nd} : riseB xs = true ↔ M.Rise xs := by unfold riseB; simp

theorem rise_next {xs : List M.Nd} {k : Nat} {x : M.Nd} (hx : xs[k]? = some x) (h : M.Rise (xs.take k)) (hn : M.RsN (xs.take (k + 1))) (he : M.RsE x.ents) : M.Rise (xs.take (k + 1)) := by
  refine ⟨hn, fun y hy => ?_⟩
  rw [take_step hx] at hy
  rcases List.mem_append.1 hy with h1 | h1
  · exact h.2 y h1
  · rw [List.mem_singleton.1 h1]; exact he

set_option maxHeartbeats 4000000 in
theorem rises_any (A : Option Addr) (n c : Nat) (vs : List NV) (xs : List M.Nd) (w : World) (ht : Tree w A n vs xs) (hn : n * 72 ≤ 140737488355328) (hs : ∀ x ∈ xs, Small x) :
    Calls Try.prog 11 #[.slice A n c] w fun e w' => e = .returned (.bool (riseB xs)) ∧ Below w.heap.size w w' := by
  have HT : Hid (Tree w A n vs xs ∧ ∀ x ∈ xs, Small x) := ⟨ht, hs⟩
  clear ht hs
  go_enter Try.func11, Try.ntmps11
  go_wp2
  go_loopw [8] (fun i wr => ∃ k : Nat, k ≤ n ∧ i = .int .i64 k ∧ M.Rise (xs.take k) ∧ Below w.heap.size w wr) (fun i _ => n - (intOf i).toNat)
  case atStart => exact ⟨0, Nat.zero_le _, rfl, ⟨List.Pairwise.nil, fun x hx => by simp at hx⟩, Below.refl _ _⟩
  case round =>
    obtain ⟨k, hk, rfl, hrise, hbw⟩ := hrel
    rename World => w5
    have HRI : Hid (M.Rise (xs.take k)) := hrise
    clear hrise
    by_cases hlt : k < n
    · have htr := HT.out.1.below (Nat.le_refl _) hbw
      obtain ⟨gb, o, v, rfl, hgbl, hvk, c0, c1, c2, c3, c4⟩ := htr.1.at hlt
      obtain ⟨x, hx, hcx⟩ := htr.2.at hvk
      have HX : Hid (xs[k]? = some x ∧ Small x ∧ Cont w v x ∧ vs[k]? = some v) := ⟨hx, HT.out.2 x (List.mem_of_getElem? hx), HT.out.1.2.2 k v x hvk hx, hvk⟩
      have hen : v.en ≤ 140737488355328 := by have := HX.out.2.1.2; have := HX.out.2.2.1.2.2.2.2.1; omega
      have hsz := hbw.size
      have HBX : Hid (Box (w5.alloc (.cells #[.int .i64 v.fid, .bool v.dir, .slice v.dA v.dn v.dc, .slice v.eA v.en v.ec, .int .i64 v.ver] 40)) w5.heap.size v) := Box.new w5 v
      have HTR : Hid (Tree w5 (some ⟨gb, o, none⟩) n vs xs) := htr
      clear hvk hx hcx htr
      by_cases hk0 : k ≤ 0
      case' pos =>
        have HRN : Hid (M.RsN (xs.take (k + 1))) := by
          show M.Rs M.ltI ((xs.take (k + 1)).map _)
          rw [List.map_take, show k + 1 = 1 by omega]
          have := HX.out.1
          rw [show k = 0 by omega] at this
          exact M.rs_first (M.at_key this)
        have hd2 : decide (0 < k) = false := by rw [decide_eq_false_iff_not]; omega
        go_wp2
        go_quiet (fail)
        go_wp2
        clear hd2
      case' neg =>
        obtain ⟨j, hj⟩ : ∃ j, k = j + 1 := ⟨k - 1, by omega⟩
        have hkj : (k : Int) - 1 = (j : Int) := by omega
        have hj0 : (0 : Int) ≤ (j : Int) := by omega
        have hjn : (j : Int) < (n : Int) := by omega
        have HJ : Hid (k = j + 1) := hj
        have hd2 : decide (0 < k) = true := by rw [decide_eq_true_eq]; omega
        obtain ⟨gb', o', u, hA', _, huk, d0, d1, d2, d3, d4⟩ := HTR.out.1.at (j := j) (by omega)
        cases hA'
        have HU : Hid (vs[j]? = some u) := huk
        have HUX : Hid (∃ y, xs[j]? = some y ∧ y.fid = u.fid) := by
          obtain ⟨y, hy, hcy⟩ := HTR.out.2.at huk
          exact ⟨y, hy, hcy.1.symm⟩
        have hvx : v.fid = x.fid := HX.out.2.2.1.1
        have HVX : Hid (v.fid = x.fid) := hvx
        clear hj huk hvx
        by_cases hf : u.fid < v.fid
        case' neg =>
          have hg2 : decide (v.fid ≤ u.fid) = true := by rw [decide_eq_true_eq]; omega
          have HNR : Hid (¬ M.Rise xs) := by
            intro hR
            obtain ⟨y, hy, hyu⟩ := HUX.out
            have hxk := HX.out.1
            rw [HJ.out] at hxk
            refine M.rs_no (M.at_key (f := fun x : M.Nd => x.fid) hy) (M.at_key hxk) ?_ hR.1
            show M.ltI y.fid x.fid = false
            rw [hyu, ← HVX.out]
            unfold M.ltI
            rw [decide_eq_false_iff_not]; exact hf
          clear hf
          go_wp2
          go_quiet (fail)
          go_wp2
          go_ret
          exact ⟨ret_bool (riseB_no HNR.out).symm, below_drewN (hbw.alloc hsz _) _⟩
        case' pos =>
          have hg2 : decide (v.fid ≤ u.fid) = false := by rw [decide_eq_false_iff_not]; omega
          have HRN : Hid (M.RsN (xs.take (k + 1))) := by
            obtain ⟨y, hy, hyu⟩ := HUX.out
            have hxk := HX.out.1
            have h1 := HRI.out.1
            rw [HJ.out] at hxk h1 ⊢
            show M.Rs M.ltI ((xs.take (j + 1 + 1)).map _)
            rw [List.map_take]
            refine M.rs_step M.ordI (M.at_key (f := fun x : M.Nd => x.fid) hy) (M.at_key hxk) ?_ ?_
            · rw [← List.map_take]; exact h1
            · show M.ltI y.fid x.fid = true
              rw [hyu, ← HVX.out]
              unfold M.ltI
              rw [decide_eq_true_eq]; exact hf
          clear hf
          go_wp2
          go_quiet (fail)
          go_wp2
          clear hg2 hd2 hkj hj0 hjn d0 d1 d2 d3 d4 HU HUX HVX HJ
      all_goals
        clear c0 c1 c2 c3 c4
        go_loopw [29] (fun i wr => ∃ q : Nat, q ≤ v.en ∧ i = .int .i64 q ∧ M.RsE (x.ents.take q) ∧ Box wr w5.heap.size v ∧ Below w.heap.size w wr) (fun i _ => v.en - (intOf i).toNat)
        case atStart => exact ⟨0, Nat.zero_le _, rfl, List.Pairwise.nil, HBX.out, below_drewN (hbw.alloc hsz _) _⟩
        case round =>
          obtain ⟨q, hq, rfl, hre, hbx, hbq⟩ := hrel
          have HRE : Hid (M.RsE (x.ents.take q)) := hre
          have HBQ : Hid (Box wr w5.heap.size v) := hbx
          obtain ⟨p0, p1, p2, p3, p4, pf, pz⟩ := hbx.facts
          clear hre hbx p0 p1 p2 p4
          by_cases hqe : q < v.en
          · obtain ⟨g1, o1, a, ha, _, hak, a0, a1⟩ := Ents.at (HX.out.2.2.1.2.2.2.2.below (Nat.le_refl _) hbq) hqe
            rw [ha] at p3
            have HA : Hid (x.ents[q]? = some a) := hak
            by_cases hq0 : q ≤ 0
            · have HNX : Hid (M.RsE (x.ents.take (q + 1))) := by
                show M.Rs M.ltB ((x.ents.take (q + 1)).map _)
                rw [List.map_take, show q + 1 = 1 by omega]
                rw [show q = 0 by omega] at hak
                exact M.rs_first (M.at_key hak)
              clear hak ha
              have hd2 : decide (0 < q) = false := by rw [decide_eq_false_iff_not]; omega
              go_wp2
              go_quiet (fail)
              go_wp2
              go_roundw
              case rel => exact ⟨q + 1, by omega, by go_num, HNX.out, HBQ.out, below_drewN hbq _⟩
              case measure => simp [intOf]; omega
            · obtain ⟨p, hp⟩ : ∃ p, q = p + 1 := ⟨q - 1, by omega⟩
              have hqp : (q : Int) - 1 = (p : Int) := by omega
              have hp0 : (0 : Int) ≤ (p : Int) := by omega
              have hpn : (p : Int) < (v.en : Int) := by omega
              have hqn : (q : Int) < (v.en : Int) := by omega
              have hq00 : (0 : Int) ≤ (q : Int) := by omega
              have HP : Hid (q = p + 1) := hp
              have hd2 : decide (0 < q) = true := by rw [decide_eq_true_eq]; omega
              obtain ⟨g2, o2, b, hb, _, hbk, b0, b1⟩ := Ents.at (HX.out.2.2.1.2.2.2.2.below (Nat.le_refl _) hbq) (show p < v.en by omega)
              rw [ha] at hb
              cases hb
              have HB : Hid (x.ents[p]? = some b) := hbk
              clear hak ha hbk hp
              cases hl : M.ltB b.1 a.1
              · have hbl : Op.bytesLess b.1.toList a.1.toList = false := hl
                have HNR : Hid (¬ M.Rise xs) := by
                  intro hR
                  have h1 := HA.out
                  rw [HP.out] at h1
                  exact M.rs_no (M.at_key (f := fun e : ByteArray × Int => e.1) HB.out) (M.at_key h1) hl (hR.2 x (List.mem_of_getElem? HX.out.1))
                clear hl
                go_wp2
                go_quiet (fail)
                go_wp2
                go_ret
                exact ⟨ret_bool (riseB_no HNR.out).symm, below_drewN hbq _⟩
              · have hbl : Op.bytesLess b.1.toList a.1.toList = true := hl
                have HNX : Hid (M.RsE (x.ents.take (q + 1))) := by
                  have h1 := HA.out
                  have h2 := HRE.out
                  rw [HP.out] at h1 h2 ⊢
                  show M.Rs M.ltB ((x.ents.take (p + 1 + 1)).map _)
                  rw [List.map_take]
                  refine M.rs_step M.ordB (M.at_key (f := fun e : ByteArray × Int => e.1) HB.out) (M.at_key h1) ?_ hl
                  rw [← List.map_take]; exact h2
                clear hl
                go_wp2
                go_quiet (fail)
                go_wp2
                go_roundw
                case rel => exact ⟨q + 1, by omega, by go_num, HNX.out, HBQ.out, below_drewN hbq _⟩
                case measure => simp [intOf]; omega
          · have HRX : Hid (M.RsE x.ents) := by
              have h1 := HRE.out
              rw [List.take_of_length_le (by have := HX.out.2.2.1.2.2.2.2.1; omega)] at h1
              exact h1
            go_wp2
            go_roundw
            case rel => exact ⟨k + 1, by omega, by go_num, rise_next HX.out.1 HRI.out HRN.out HRX.out, hbq⟩
            case measure => simp [intOf]; omega
    · have HN : Hid (xs.take k = xs) := by show _ = _; rw [List.take_of_length_le (by rw [← HT.out.1.2.1, ← HT.out.1.1.1]; omega)]
      go_wp2
      go_ret
      exact ⟨ret_bool (riseB_yes (by rw [← HN.out]; exact HRI.out)).symm, hbw⟩
end Go.Proofs.Ytlegjdlmcphhlab
