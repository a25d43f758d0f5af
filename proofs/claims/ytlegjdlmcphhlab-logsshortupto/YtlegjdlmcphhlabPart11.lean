/- TEXTS LAID TOGETHER: Refd, Vals, Does, Doesb, Frame, Refa, Refas, Doese -/
import Derived.Test.YtlegjdlmcphhlabPart10
import Derived.Deep.Cut
import Derived.Test.YtlegjdlmcphhlabPart1
import Derived.RegionTactic
import Derived.Test.YtlegjdlmcphhlabPart7
import Derived.Test.YtlegjdlmcphhlabPart5
import Derived.Test.YtlegjdlmcphhlabPart9
import Derived.Test.YtlegjdlmcphhlabPart8
import Derived.Test.YtlegjdlmcphhlabPart6
import Derived.Deep.CutRange
/-
  THE REFERENCE's Enter.
-/
namespace Go.Proofs.Ytlegjdlmcphhlab
open Go.RowKit

/-- has the new entry its place already? what is there so far -/
def isIn (s : ByteArray) (l : List (ByteArray × Int)) : Bool := l.any fun e => M.ltB s e.1
def sofar (e0 : ByteArray × Int) (l : List (ByteArray × Int)) : List (ByteArray × Int) := if isIn e0.1 l then M.putE l e0 else l
theorem isIn_no {s : ByteArray} {l : List (ByteArray × Int)} (h : isIn s l = false) : ∀ e ∈ l, M.ltB s e.1 = false := by
  unfold isIn at h
  rw [List.any_eq_false] at h
  intro e he
  simpa using h e he
theorem low_all {s : ByteArray} {l : List (ByteArray × Int)} (h : isIn s l = false) (hne : ∀ e ∈ l, e.1 ≠ s) : ∀ e ∈ l, M.ltB e.1 s = true := by
  intro e he
  cases hl : M.ltB e.1 s
  · exact absurd (M.ordB.tri _ _ hl (isIn_no h e he)) (hne e he)
  · rfl
theorem putE_low {e0 : ByteArray × Int} {l : List (ByteArray × Int)} (h : isIn e0.1 l = false) (hne : ∀ e ∈ l, e.1 ≠ e0.1) : M.putE l e0 = l ++ [e0] := by
  unfold M.putE M.put
  rw [List.filter_eq_self.2 (low_all h hne), List.filter_eq_nil_iff.2 (fun e he => by rw [isIn_no h e he]; simp)]
theorem isIn_snoc (s : ByteArray) (l : List (ByteArray × Int)) (e : ByteArray × Int) : isIn s (l ++ [e]) = (isIn s l || M.ltB s e.1) := by
  unfold isIn; rw [List.any_append]; simp
theorem rs_last {l : List (ByteArray × Int)} {e : ByteArray × Int} (hr : M.RsE (l ++ [e])) {s : ByteArray} (h : isIn s l = true) : M.ltB s e.1 = true := by
  unfold isIn at h
  rw [List.any_eq_true] at h
  obtain ⟨y, hy, hsy⟩ := h
  have hp : M.Rs M.ltB ((l ++ [e]).map (·.1)) := hr
  unfold M.Rs at hp
  rw [List.map_append, List.pairwise_append] at hp
  exact M.ordB.tra _ _ _ hsy (hp.2.2 y.1 (List.mem_map.2 ⟨y, hy, rfl⟩) e.1 (by simp))
theorem sofar_first {e0 e : ByteArray × Int} {l : List (ByteArray × Int)} (h : isIn e0.1 l = false) (hne : ∀ e ∈ l, e.1 ≠ e0.1) (hl : M.ltB e0.1 e.1 = true) : sofar e0 (l ++ [e]) = l ++ [e0] ++ [e] := by
  unfold sofar
  rw [isIn_snoc, h, hl]
  simp only [Bool.false_or, if_true]
  unfold M.putE M.put
  have hel : M.ltB e.1 e0.1 = false := by
    cases hx : M.ltB e.1 e0.1
    · rfl
    · have := M.ordB.tra _ _ _ hx hl; rw [M.ordB.irr] at this; cases this
  have hL : l.filter (fun y => M.ltB y.1 e0.1) = l := List.filter_eq_self.2 (low_all h hne)
  have hR : l.filter (fun y => M.ltB e0.1 y.1) = [] := List.filter_eq_nil_iff.2 (fun e he => by rw [isIn_no h e he]; simp)
  rw [List.filter_append, List.filter_append, hL, hR]
  simp [hel, hl]
theorem sofar_low {e0 e : ByteArray × Int} {l : List (ByteArray × Int)} (h : isIn e0.1 l = false) (hl : M.ltB e0.1 e.1 = false) : sofar e0 (l ++ [e]) = l ++ [e] := by
  unfold sofar
  rw [isIn_snoc, h, hl]
  rfl
theorem sofar_then {e0 e : ByteArray × Int} {l : List (ByteArray × Int)} (h : isIn e0.1 l = true) (hr : M.RsE (l ++ [e])) : sofar e0 (l ++ [e]) = sofar e0 l ++ [e] := by
  have hl := rs_last hr h
  have hel : M.ltB e.1 e0.1 = false := by
    cases hx : M.ltB e.1 e0.1
    · rfl
    · have := M.ordB.tra _ _ _ hx hl; rw [M.ordB.irr] at this; cases this
  unfold sofar
  rw [isIn_snoc, h]
  simp only [Bool.true_or, if_true]
  unfold M.putE M.put
  rw [List.filter_append, List.filter_append]
  simp [hel, hl]
theorem putE_drop (es : List (ByteArray × Int)) (e0 : ByteArray × Int) : M.putE (M.dropE es e0.1) e0 = M.putE es e0 := by
  unfold M.putE M.put M.dropE
  rw [List.filter_filter, List.filter_filter]
  have h1 : ∀ y : ByteArray × Int, (M.ltB y.1 e0.1 && !decide (y.1 = e0.1)) = M.ltB y.1 e0.1 := fun y => by
    by_cases h : y.1 = e0.1
    · rw [h, M.ordB.irr]; rfl
    · simp [h]
  have h2 : ∀ y : ByteArray × Int, (M.ltB e0.1 y.1 && !decide (y.1 = e0.1)) = M.ltB e0.1 y.1 := fun y => by
    by_cases h : y.1 = e0.1
    · rw [h, M.ordB.irr]; rfl
    · simp [h]
  simp only [h1, h2]
theorem drop_ne (es : List (ByteArray × Int)) (s : ByteArray) : ∀ e ∈ M.dropE es s, e.1 ≠ s := by
  intro e he
  have := (List.mem_filter.1 he).2
  simpa using this
theorem rs_dropE {es : List (ByteArray × Int)} (s : ByteArray) (h : M.RsE es) : M.RsE (M.dropE es s) := M.rs_sub h (List.filter_sublist.map _)
theorem rs_takeE {es : List (ByteArray × Int)} (k : Nat) (h : M.RsE es) : M.RsE (es.take k) := M.rs_sub h ((List.take_sublist k es).map _)

/-- the entry at hand stays where it is -/
theorem box2_kept {w0 : World} {es : List (ByteArray × Int)} {A : Option Addr} {m c : Nat} {wr w4 : World} {e : ByteArray × Int} {o : Obj} (h : Keep w0 es A m c wr)
    (hg : ((wr.alloc (.cells #[.string e.1, .int .i64 e.2] 68)).alloc o).grownBy w4 (Value.slice A m c).ownBlock) : Box2 w4 wr.heap.size e := by
  have h0 : Box2 (wr.alloc (.cells #[.string e.1, .int .i64 e.2] 68)) wr.heap.size e := Box2.new wr e
  have h1 : Box2 ((wr.alloc (.cells #[.string e.1, .int .i64 e.2] 68)).alloc o) wr.heap.size e := by
    unfold Box2 at h0 ⊢
    rw [Below.heap_alloc _ _ _ (lt_of_block h0)]
    exact h0
  refine h1.grownO hg fun hx => ?_
  have := (h.1.lt wr.heap.size hx.symm).2
  omega

set_option maxHeartbeats 1000000 in
theorem refEnter_any (v : NV) (x : M.Nd) (s : ByteArray) (f : Int) (w : World) (hc : Cont w v x) (hr : M.RsE x.ents) (hs : Small x) (hs1 : (x.ents.length + 1) * 24 ≤ 140737488355328) :
    Calls Try.prog 51 #[v.val, .string s, .int .i64 f] w fun e w' => ∃ v' : NV, e = .returned v'.val ∧ Cont w' v' (withE x (M.putE x.ents (s, f))) ∧ Below w.heap.size w w' := by
  have hB0 : ∀ W : World, W = (w.alloc (.cells #[.int .i64 v.fid, .bool v.dir, .slice v.dA v.dn v.dc, .slice v.eA v.en v.ec, .int .i64 v.ver] 40)).alloc (.cells #[.int .i64 0, .bool false, .slice none 0 0, .slice none 0 0, .int .i64 0] 40) → Box W w.heap.size v ∧ Box W (w.heap.size + 1) NV.zero ∧ W.heap.size = w.heap.size + 2 ∧ Below w.heap.size w W := by
    rintro W rfl
    exact ⟨(Box.new w v).alloc _, by have := Box.new0 (w.alloc (.cells #[.int .i64 v.fid, .bool v.dir, .slice v.dA v.dn v.dc, .slice v.eA v.en v.ec, .int .i64 v.ver] 40)); simpa using this, by simp, ((Below.refl _ _).alloc (Nat.le_refl _) _).alloc (by simp) _⟩
  have HB0 : Hid _ := hB0
  have HC : Hid (Cont w v x ∧ Small x) := ⟨hc, hs⟩
  have HR : Hid (M.RsE (M.dropE x.ents s)) := rs_dropE s hr
  have hlen : (M.dropE x.ents s).length ≤ x.ents.length := List.length_filter_le _ _
  obtain ⟨i58, hi58, hz58, hs58, hb58⟩ := info_parts info58
  clear hB0 hc hs hr
  go_enter Try.func51, Try.ntmps51
  go_wp2_with (fail)
  obtain ⟨q0, q1, q2, q3⟩ := HB0.out _ rfl
  refine (refLeave_own v x s _ (HC.out.1.below (Nat.le_refl _) q3) HC.out.2).mono ?_
  rintro e w1 ⟨A1, m1, c1, rfl, ho1, hb1⟩
  have hz1 := hb1.size
  rw [q2] at hz1 hb1 ho1
  have HX1 : Hid (Box w1 w.heap.size v) := q0.below hb1 (by omega)
  have HX2 : Hid (Box w1 (w.heap.size + 1) NV.zero ∧ Below w.heap.size w w1 ∧ w1.ownsRow (w.heap.size + 2) 68 2 (.slice A1 m1 c1) m1 ((M.dropE x.ents s).flatMap entCells)) := ⟨q1.below hb1 (by omega), q3.trans (hb1.mono (by omega)), ho1⟩
  have HL : Hid (m1 = (M.dropE x.ents s).length) := own_len ent_len (by decide) ho1
  have hen : (m1 + 1) * 24 ≤ 140737488355328 := by have := HL.out; omega
  clear q0 q1 q2 q3 HB0 hb1 ho1 hlen
  obtain ⟨p0, p1, p2, p3, p4, pf, pz⟩ := HX1.out.facts
  go_upto_region 2 with (fail)
  have H0 : ∀ W : World, W = put5 w1 w.heap.size 0 ⟨v.fid, v.dir, v.dA, v.dn, v.dc, A1, m1, c1, v.ver⟩ → Hid (Box W w.heap.size ⟨v.fid, v.dir, v.dA, v.dn, v.dc, A1, m1, c1, v.ver⟩ ∧ Box W (w.heap.size + 1) NV.zero ∧ Below w.heap.size w W ∧ Ents W A1 m1 (M.dropE x.ents s) ∧ w.heap.size + 2 ≤ W.heap.size) := by
    rintro W rfl
    exact ⟨put5_box HX1.out _, put5_box_other HX2.out.1 (by omega) 0 _, put5_below HX2.out.2.1 (Nat.le_refl _) _ _, Row.ofOwn ent_len (by decide) (put5_own HX2.out.2.2 (by omega) _ _), by simp [put5, World.setCell]; omega⟩
  obtain ⟨W1, hW1⟩ : ∃ W, W = put5 w1 w.heap.size 0 ⟨v.fid, v.dir, v.dA, v.dn, v.dc, A1, m1, c1, v.ver⟩ := ⟨_, rfl⟩
  have HW := H0 W1 hW1
  rw [show ((((w1.setCell ⟨w.heap.size, 0, none⟩ (.int .i64 v.fid)).setCell ⟨w.heap.size, 1, none⟩ (.bool v.dir)).setCell ⟨w.heap.size, 2, none⟩ (.slice v.dA v.dn v.dc)).setCell ⟨w.heap.size, 3, none⟩ (.slice A1 m1 c1)).setCell ⟨w.heap.size, 4, none⟩ (.int .i64 v.ver) = W1 from hW1.symm]
  clear H0 hW1 HX1 HX2 p0 p1 p2 p3 p4 pf pz hz1
  obtain ⟨p0, p1, p2, p3, p4, pf, pz⟩ := HW.out.1.facts
  go_wp2
  go_loopw [7, 8, 17] (fun l d i wr => ∃ (k m c : Nat) (A : Option Addr), k ≤ m1 ∧ i = .int .i64 k ∧ l = .slice A m c ∧ d = .bool (isIn s ((M.dropE x.ents s).take k)) ∧ m ≤ k + (isIn s ((M.dropE x.ents s).take k)).toNat ∧ Keep W1 (sofar (s, f) ((M.dropE x.ents s).take k)) A m c wr) (fun _ _ i _ => m1 - (intOf i).toNat)
  case atStart => exact ⟨0, 0, 0, none, Nat.zero_le _, rfl, rfl, rfl, Nat.le_refl _, by rw [List.take_zero]; exact Keep.start W1⟩
  case round =>
    obtain ⟨k, m, c, A, hk, rfl, rfl, rfl, hmk, hkp⟩ := hrel
    have HK : Hid (Keep W1 (sofar (s, f) ((M.dropE x.ents s).take k)) A m c wr) := hkp
    have HBX : Hid (Box wr w.heap.size ⟨v.fid, v.dir, v.dA, v.dn, v.dc, A1, m1, c1, v.ver⟩ ∧ Box wr (w.heap.size + 1) NV.zero ∧ Below w.heap.size w wr ∧ Ents wr A1 m1 (M.dropE x.ents s)) := ⟨HW.out.1.below hkp.2 (by have := HW.out.2.2.2.2; omega), HW.out.2.1.below hkp.2 (by have := HW.out.2.2.2.2; omega), HW.out.2.2.1.trans (hkp.2.mono (by have := HW.out.2.2.2.2; omega)), HW.out.2.2.2.1.below (Nat.le_refl _) hkp.2⟩
    clear hkp p0 p1 p2 p3 p4 pf pz
    obtain ⟨p0, p1, p2, p3, p4, pf, pz⟩ := HBX.out.1.facts
    obtain ⟨z0, z1, z2, z3, z4, zf, zz⟩ := HBX.out.2.1.facts
    by_cases hlt : k < m1
    · obtain ⟨g, o, ⟨nm, fd⟩, ha, _, hak, a0, a1⟩ := Ents.at HBX.out.2.2.2 hlt
      have HA : Hid ((M.dropE x.ents s)[k]? = some (nm, fd)) := hak
      have HNE : Hid (∀ e ∈ (M.dropE x.ents s).take k, e.1 ≠ s) := fun e he => drop_ne _ s e (List.mem_of_mem_take he)
      have HRK : Hid (M.RsE ((M.dropE x.ents s).take k ++ [(nm, fd)])) := by have := rs_takeE (k + 1) HR.out; rw [take_step hak] at this; exact this
      subst ha
      dsimp only at a0 a1
      have hkn : (k : Int) < (m1 : Int) := by omega
      have hk0 : (0 : Int) ≤ (k : Int) := by omega
      clear hak p0 p1 p2 p3 p4 z0 z1 z2 z3 z4
      cases hd : isIn s ((M.dropE x.ents s).take k)
      · rw [hd] at hmk
        simp only [Bool.toNat_false, Nat.add_zero] at hmk
        have HD : Hid (isIn s ((M.dropE x.ents s).take k) = false) := hd
        have HK0 : Hid (Keep W1 ((M.dropE x.ents s).take k) A m c wr) := by have := HK.out; unfold sofar at this; rw [show ((s, f) : ByteArray × Int).1 = s from rfl, hd] at this; exact this
        clear hd HK
        have hnm : nm ≠ s := drop_ne _ s (nm, fd) (List.mem_of_getElem? HA.out)
        have q2 : (nm.toList == s.toList) = false := by rw [raw_eq]; exact decide_eq_false hnm
        cases hlb : M.ltB s nm
        · have q : Op.bytesLess nm.toList s.toList = true := by
            cases hx : M.ltB nm s
            · exact absurd (M.ordB.tri _ _ hx hlb) hnm
            · exact hx
          have HLB : Hid (M.ltB s nm = false) := hlb
          clear hlb hnm
          go_wp2_with (at_builtin; refine wpList_append_row _ (by rfl) (.tmp 35) (.tmp 37) 38 (by rfl) W1.heap.size 68 i58 (.agg #[.string ByteArray.empty, .int .i64 0]) 24 Try.underlying38 hi58 hz58 hs58 hb58 rfl (by decide) _ m _ (by rfl) ((HK0.out.alloc _).alloc _).1 _ 1 1 [(nm, fd)] (by rfl) (row_new2 wr _ (nm, fd)) ent_len ent_one (by unfold maxLen; omega) (by omega) ((HK0.out.alloc _).alloc _).2.size ?_; intro v5 w5 hown5 hg5; obtain ⟨A5, c5, rfl, _, _⟩ := own_form hown5; have HK5 : Hid (Keep W1 (((M.dropE x.ents s).take k) ++ [(nm, fd)]) A5 (m + 1) c5 w5) := ((HK0.out.alloc _).alloc _).app hg5 hown5; clear hown5 hg5)
          go_roundw
          case rel => exact ⟨k + 1, m + 1, c5, A5, by omega, by go_num, rfl, by rw [take_step HA.out, isIn_snoc, HD.out, HLB.out]; rfl, by omega, by rw [take_step HA.out, sofar_low HD.out HLB.out]; exact HK5.out⟩
          case measure => simp [intOf]; omega
        · have q : Op.bytesLess nm.toList s.toList = false := by
            cases hx : M.ltB nm s
            · exact hx
            · have := M.ordB.tra _ _ _ hx hlb; rw [M.ordB.irr] at this; cases this
          have HLB : Hid (M.ltB s nm = true) := hlb
          have HM2 : Hid (m + 1 + 1 ≤ maxLen ∧ (m + 1 + 1) * 24 ≤ 140737488355328) := ⟨by unfold maxLen; omega, Nat.le_trans (Nat.mul_le_mul_right 24 (show m + 1 + 1 ≤ m1 + 1 by omega)) hen⟩
          clear hlb hnm
          go_wp2_with (first
            | (at_builtin; have hk4 := HK4.out; clear hk4; refine wpList_append_row _ (by rfl) (.tmp 35) (.tmp 37) 38 (by rfl) W1.heap.size 68 i58 (.agg #[.string ByteArray.empty, .int .i64 0]) 24 Try.underlying38 hi58 hz58 hs58 hb58 rfl (by decide) _ (m + 1) _ (by rfl) (HK4.out.alloc _).1 _ 1 1 [(nm, fd)] (by rfl) (row_new1 w4 (nm, fd)) ent_len ent_one HM2.out.1 HM2.out.2 (HK4.out.alloc _).2.size ?_; intro v5 w5 hown5 hg5; obtain ⟨A5, c5, rfl, _, _⟩ := own_form hown5; have HK5 : Hid (Keep W1 (((M.dropE x.ents s).take k) ++ [(s, f)] ++ [(nm, fd)]) A5 (m + 1 + 1) c5 w5) := (HK4.out.alloc _).app hg5 hown5; clear hown5 hg5)
            | (at_builtin; refine wpList_append_row _ (by rfl) (.tmp 29) (.tmp 33) 38 (by rfl) W1.heap.size 68 i58 (.agg #[.string ByteArray.empty, .int .i64 0]) 24 Try.underlying38 hi58 hz58 hs58 hb58 rfl (by decide) _ m _ (by rfl) ((HK0.out.alloc _).alloc _).1 _ 1 1 [(s, f)] (by rfl) (row_new2 wr _ (s, f)) ent_len ent_one (by unfold maxLen; omega) (by omega) ((HK0.out.alloc _).alloc _).2.size ?_; intro v4 w4 hown4 hg4; obtain ⟨A4, c4, rfl, -, -⟩ := own_form hown4; have HB4 : Hid (Box2 w4 wr.heap.size (nm, fd)) := box2_kept HK0.out hg4; have HK4 : Hid (Keep W1 (((M.dropE x.ents s).take k) ++ [(s, f)]) A4 (m + 1) c4 w4) := ((HK0.out.alloc _).alloc _).app hg4 hown4; clear hown4 hg4; obtain ⟨e0, e1, ef, ez⟩ := HB4.out.facts; dsimp only at e0 e1))
          go_roundw
          case rel => exact ⟨k + 1, m + 1 + 1, c5, A5, by omega, by go_num, rfl, by rw [take_step HA.out, isIn_snoc, HD.out, HLB.out]; rfl, by rw [take_step HA.out, isIn_snoc, HD.out, HLB.out]; simp; omega, by rw [take_step HA.out, sofar_first HD.out HNE.out HLB.out]; exact HK5.out⟩
          case measure => simp [intOf]; omega
      · rw [hd] at hmk
        simp only [Bool.toNat_true] at hmk
        have HD : Hid (isIn s ((M.dropE x.ents s).take k) = true) := hd
        clear hd
        go_wp2_with (at_builtin; refine wpList_append_row _ (by rfl) (.tmp 35) (.tmp 37) 38 (by rfl) W1.heap.size 68 i58 (.agg #[.string ByteArray.empty, .int .i64 0]) 24 Try.underlying38 hi58 hz58 hs58 hb58 rfl (by decide) _ m _ (by rfl) ((HK.out.alloc _).alloc _).1 _ 1 1 [(nm, fd)] (by rfl) (row_new2 wr _ (nm, fd)) ent_len ent_one (by unfold maxLen; omega) (by omega) ((HK.out.alloc _).alloc _).2.size ?_; intro v5 w5 hown5 hg5; obtain ⟨A5, c5, rfl, _, _⟩ := own_form hown5; have HK5 : Hid (Keep W1 (sofar (s, f) ((M.dropE x.ents s).take k) ++ [(nm, fd)]) A5 (m + 1) c5 w5) := ((HK.out.alloc _).alloc _).app hg5 hown5; clear hown5 hg5)
        go_roundw
        case rel => exact ⟨k + 1, m + 1, c5, A5, by omega, by go_num, rfl, by rw [take_step HA.out, isIn_snoc, HD.out]; rfl, by rw [take_step HA.out, isIn_snoc, HD.out]; simp; omega, by rw [take_step HA.out, sofar_then HD.out HRK.out]; exact HK5.out⟩
        case measure => simp [intOf]; omega
    · have HN : Hid ((M.dropE x.ents s).take k = M.dropE x.ents s) := by have := HL.out; show _ = _; exact List.take_of_length_le (by omega)
      cases hd : isIn s ((M.dropE x.ents s).take k)
      · rw [hd] at hmk
        have HD : Hid (isIn s (M.dropE x.ents s) = false) := by have := HN.out; rw [this] at hd; exact hd
        simp only [Bool.toNat_false, Nat.add_zero] at hmk
        have HK0 : Hid (Keep W1 (M.dropE x.ents s) A m c wr) := by have := HK.out; unfold sofar at this; rw [show ((s, f) : ByteArray × Int).1 = s from rfl, hd, HN.out] at this; exact this
        clear hd HK
        go_wp2_with (at_builtin; refine wpList_append_row _ (by rfl) (.tmp 42) (.tmp 46) 38 (by rfl) W1.heap.size 68 i58 (.agg #[.string ByteArray.empty, .int .i64 0]) 24 Try.underlying38 hi58 hz58 hs58 hb58 rfl (by decide) _ m _ (by rfl) (HK0.out.alloc _).1 _ 1 1 [(s, f)] (by rfl) (row_new1 wr (s, f)) ent_len ent_one (by unfold maxLen; omega) (by omega) (HK0.out.alloc _).2.size ?_; intro v5 w5 hown5 hg5; obtain ⟨A5, c5, rfl, _, _⟩ := own_form hown5; have HK5 : Hid (Keep W1 (M.dropE x.ents s ++ [(s, f)]) A5 (m + 1) c5 w5) := (HK0.out.alloc _).app hg5 hown5; clear hown5 hg5; have HBZ : Hid (Box w5 w.heap.size ⟨v.fid, v.dir, v.dA, v.dn, v.dc, A1, m1, c1, v.ver⟩ ∧ Box w5 (w.heap.size + 1) NV.zero ∧ Below w.heap.size w w5) := ⟨HW.out.1.below HK5.out.2 (by have := HW.out.2.2.2.2; omega), HW.out.2.1.below HK5.out.2 (by have := HW.out.2.2.2.2; omega), HW.out.2.2.1.trans (HK5.out.2.mono (by have := HW.out.2.2.2.2; omega))⟩; clear p0 p1 p2 p3 p4 pf pz z0 z1 z2 z3 z4 zf zz; obtain ⟨p0, p1, p2, p3, p4, pf, pz⟩ := HBZ.out.1.facts; obtain ⟨z0, z1, z2, z3, z4, zf, zz⟩ := HBZ.out.2.1.facts)
        have hkk := HK5.out
        rw [← putE_low (e0 := (s, f)) HD.out (drop_ne _ s), show M.putE (M.dropE x.ents s) (s, f) = M.putE x.ents (s, f) from putE_drop x.ents (s, f)] at hkk
        have hbr := put5_below (HBZ.out.2.2.setCell (p := ⟨w.heap.size, 3, none⟩) (Nat.le_refl _) (.slice A5 (m + 1) c5)) (s := w.heap.size + 1) (by omega) 0 ⟨v.fid, v.dir, v.dA, v.dn, v.dc, A5, m + 1, c5, v.ver⟩
        have hoe := put5_own (ownsRow_setCell_below hkk.1 (a := ⟨w.heap.size, 3, none⟩) (by show w.heap.size < _; have := HW.out.2.2.2.2; omega) (.slice A5 (m + 1) c5)) (s := w.heap.size + 1) (by have := HW.out.2.2.2.2; omega) 0 ⟨v.fid, v.dir, v.dA, v.dn, v.dc, A5, m + 1, c5, v.ver⟩
        exact bodyPost_ret (v := NV.val ⟨v.fid, v.dir, v.dA, v.dn, v.dc, A5, m + 1, c5, v.ver⟩) (by simp [results, Try.results51, go_sem, z0, z1, z2, z3, z4]) rfl ⟨⟨v.fid, v.dir, v.dA, v.dn, v.dc, A5, m + 1, c5, v.ver⟩, rfl, ⟨HC.out.1.1, HC.out.1.2.1, HC.out.1.2.2.1, HC.out.1.2.2.2.1.below (Nat.le_refl _) hbr, Row.ofOwn ent_len (by decide) hoe⟩, hbr⟩
      · have HKF : Hid (Keep W1 (M.putE x.ents (s, f)) A m c wr) := by have := HK.out; unfold sofar at this; rw [show ((s, f) : ByteArray × Int).1 = s from rfl, hd, HN.out, if_pos rfl] at this; rw [← putE_drop]; exact this
        clear hd HK
        go_wp2
        have hkk := HKF.out
        have hbr := put5_below (HBX.out.2.2.1.setCell (p := ⟨w.heap.size, 3, none⟩) (Nat.le_refl _) (.slice A m c)) (s := w.heap.size + 1) (by omega) 0 ⟨v.fid, v.dir, v.dA, v.dn, v.dc, A, m, c, v.ver⟩
        have hoe := put5_own (ownsRow_setCell_below hkk.1 (a := ⟨w.heap.size, 3, none⟩) (by show w.heap.size < _; have := HW.out.2.2.2.2; omega) (.slice A m c)) (s := w.heap.size + 1) (by have := HW.out.2.2.2.2; omega) 0 ⟨v.fid, v.dir, v.dA, v.dn, v.dc, A, m, c, v.ver⟩
        exact bodyPost_ret (v := NV.val ⟨v.fid, v.dir, v.dA, v.dn, v.dc, A, m, c, v.ver⟩) (by simp [results, Try.results51, go_sem, z0, z1, z2, z3, z4]) rfl ⟨⟨v.fid, v.dir, v.dA, v.dn, v.dc, A, m, c, v.ver⟩, rfl, ⟨HC.out.1.1, HC.out.1.2.1, HC.out.1.2.2.1, HC.out.1.2.2.2.1.below (Nat.le_refl _) hbr, Row.ofOwn ent_len (by decide) hoe⟩, hbr⟩
end Go.Proofs.Ytlegjdlmcphhlab
/-
  A REGION THAT DRAWS THE ORDER OF MANY OPERATIONS: of each operation it is said what its value is, in words that last while memory below is as it was;
  each operation is looked at once, whatever came up before it.
-/
namespace Go.Proofs.Ytlegjdlmcphhlab
open Go.RowKit

/-- the slot of operation j -/
def slotAt (ops : Array Oper) (j : Nat) : Nat := ((ops[j]?).bind (·.dst)).getD 0
/-- each operation has a slot of its own in the frame, and waits for earlier ones alone -/
def tidy (ops : Array Oper) (size : Nat) : Bool :=
  (List.range ops.size).all fun i => match ops[i]? with
    | some o => (o.after.all fun e => decide (e.on < i)) && (match o.dst with
        | some d => decide (d < size) && ((List.range i).all fun j => ((ops[j]?).bind (·.dst)) != some d)
        | none => false)
    | none => true
/-- operation i waits for operation j -/
def waits (o : Oper) (j : Nat) : Bool := o.after.any fun e => Region.binds .any e && e.on == j
/-- slot t is no operation's -/
def apart (ops : Array Oper) (t : Nat) : Bool := ops.all fun o => o.dst != some t

theorem tidy_at {ops : Array Oper} {size i : Nat} {o : Oper} (h : tidy ops size = true) (hi : ops[i]? = some o) :
    (∀ e ∈ o.after, e.on < i) ∧ ∃ d, o.dst = some d ∧ d < size ∧ slotAt ops i = d ∧ ∀ j, j < i → ((ops[j]?).bind (·.dst)) ≠ some d := by
  unfold tidy at h
  rw [List.all_eq_true] at h
  have hlt : i < ops.size := (Array.getElem?_eq_some_iff.1 hi).1
  have h1 := h i (List.mem_range.2 hlt)
  rw [hi] at h1
  simp only [Bool.and_eq_true] at h1
  obtain ⟨h2, h3⟩ := h1
  refine ⟨fun e he => ?_, ?_⟩
  · have := Array.all_eq_true_iff_forall_mem.1 h2 e he
    simpa using this
  · cases hd : o.dst with
    | none => rw [hd] at h3; cases h3
    | some d =>
      rw [hd] at h3
      simp only [Bool.and_eq_true, decide_eq_true_eq, List.all_eq_true, List.mem_range] at h3
      refine ⟨d, rfl, h3.1, by simp [slotAt, hi, hd], fun j hj => ?_⟩
      have := h3.2 j hj
      simpa using this

theorem tidy_ne {ops : Array Oper} {size i j : Nat} {o u : Oper} (h : tidy ops size = true) (hi : ops[i]? = some o) (hj : ops[j]? = some u) (hne : i ≠ j) : slotAt ops i ≠ slotAt ops j := by
  obtain ⟨_, d, hd, _, hs, hall⟩ := tidy_at h hi
  obtain ⟨_, e, he, _, ht, hall'⟩ := tidy_at h hj
  rw [hs, ht]
  intro hde
  subst hde
  rcases Nat.lt_or_gt_of_ne hne with hl | hl
  · exact hall' i hl (by rw [hi]; exact hd)
  · exact hall j hl (by rw [hj]; exact he)

/-- what lasts while memory below is as it was -/
def Stays (p : Value → World → Prop) : Prop := ∀ v w w', Below w.heap.size w w' → p v w → p v w'

/-- the frame behind some operations of the region -/
structure Framed (ops : Array Oper) (a0 a : Act) : Prop where
  size : a.tmps.size = a0.tmps.size
  defers : a.defers = a0.defers
  keeps : ∀ t, apart ops t = true → a.eval (.tmp t) = a0.eval (.tmp t)

/-- slot t holds, when operation i comes up, what it held when the region began: whoever writes it waits for i -/
def freeFor (ops : Array Oper) (i t : Nat) : Bool := (List.range ops.size).all fun j => match ops[j]? with
  | some o => j == i || o.dst != some t || waits o i
  | none => true
structure FramedAt (ops : Array Oper) (i : Nat) (a0 a : Act) : Prop where
  size : a.tmps.size = a0.tmps.size
  defers : a.defers = a0.defers
  keeps : ∀ t, freeFor ops i t = true → a.eval (.tmp t) = a0.eval (.tmp t)
/-- the frame behind the operations that are listed; what is listed waits for nothing more -/
structure FramedBy (ops : Array Oper) (listed : Array Bool) (a0 a : Act) : Prop where
  size : a.tmps.size = a0.tmps.size
  defers : a.defers = a0.defers
  keeps : ∀ t, (∀ j o, ops[j]? = some o → listed.getD j true = true → o.dst ≠ some t) → a.eval (.tmp t) = a0.eval (.tmp t)
  closed : ∀ j o, ops[j]? = some o → listed.getD j true = true → ∀ i, waits o i = true → listed.getD i true = true
theorem FramedBy.at_ {ops : Array Oper} {listed : Array Bool} {a0 a : Act} (h : FramedBy ops listed a0 a) {i : Nat} (hi : listed.getD i true = false) : FramedAt ops i a0 a := by
  refine ⟨h.size, h.defers, fun t ht => h.keeps t fun j o hj hl hd => ?_⟩
  unfold freeFor at ht
  rw [List.all_eq_true] at ht
  have h1 := ht j (List.mem_range.2 (Array.getElem?_eq_some_iff.1 hj).1)
  simp only [hj, hd, bne_self_eq_false, Bool.or_false, Bool.or_eq_true, beq_iff_eq] at h1
  rcases h1 with h1 | h1
  · subst h1; rw [hl] at hi; cases hi
  · have := h.closed j o hj hl i h1; rw [this] at hi; cases hi
theorem FramedBy.all {ops : Array Oper} {listed : Array Bool} {a0 a : Act} (h : FramedBy ops listed a0 a) : Framed ops a0 a := by
  refine ⟨h.size, h.defers, fun t ht => h.keeps t fun j o hj _ hd => ?_⟩
  have := Array.all_eq_true_iff_forall_mem.1 ht o (Array.mem_of_getElem? hj)
  simp [hd] at this
theorem FramedBy.put {ops : Array Oper} {listed : Array Bool} {a0 a : Act} (h : FramedBy ops listed a0 a) {i : Nat} {o : Oper} (hi : ops[i]? = some o) (hsz : listed.size = ops.size)
    (hw : ∀ j, waits o j = true → listed.getD j true = true) (v : Value) : FramedBy ops (listed.setIfInBounds i true) a0 (a.put o.dst v) := by
  have hil : i < listed.size := by rw [hsz]; exact (Array.getElem?_eq_some_iff.1 hi).1
  have hself : (listed.setIfInBounds i true).getD i true = true := by simp [hil]
  have hup : ∀ j, listed.getD j true = true → (listed.setIfInBounds i true).getD j true = true := by
    intro j hj
    by_cases hji : j = i
    · rw [hji]; exact hself
    · rw [getD_set_ne true (Ne.symm hji)]; exact hj
  refine ⟨?_, ?_, fun t ht => ?_, fun j u hj hl q hq => ?_⟩
  · cases hd : o.dst <;> simp [Act.put, h.size]
  · cases hd : o.dst <;> simp [Act.put, h.defers]
  · rw [Act.eval_put, h.keeps t fun j u hj hl => ht j u hj (hup j hl)]
    intro d hd e
    injection e with e
    exact ht i o hi hself (by rw [hd, e])
  · by_cases hji : j = i
    · subst hji
      rw [hi] at hj
      injection hj with hj
      subst hj
      exact hup q (hw q hq)
    · rw [getD_set_ne true (Ne.symm hji)] at hl
      exact hup q (h.closed j u hj hl q hq)

/-- What is asked of operation i: whatever came up before it, its value is as it is said. -/
def StepAt (P : Program) (ops : Array Oper) (Q : Exit → Act → World → Prop) (a0 : Act) (w0 : World) (V : Nat → Value → World → Prop) (i : Nat) : Prop :=
  ∀ o, ops[i]? = some o → ∀ a w, FramedAt ops i a0 a → Below w0.heap.size w0 w → (∀ j, waits o j = true → V j (a.eval (.tmp (slotAt ops j))) w) →
    ∀ K : Act → World → Prop, Hid (∀ v w', Below w.heap.size w w' → V i v w' → K (a.put o.dst v) w') →
      if Region.wanted o (yielded ops a.tmps) = true then Oper.wp P o a w K Q else K (a.put o.dst undef) w

def unlisted (listed : Array Bool) : Nat := (listed.toList.filter (fun b => !b)).length

theorem unlisted_set {listed : Array Bool} {i : Nat} (h : listed.getD i true = false) : unlisted (listed.setIfInBounds i true) + 1 = unlisted listed := by
  obtain ⟨l⟩ := listed
  simp only [unlisted, Array.getD_eq_getD_getElem?, List.getElem?_toArray, List.setIfInBounds_toArray] at h ⊢
  induction l generalizing i with
  | nil => simp at h
  | cons b l ih =>
    cases i with
    | zero => simp at h; subst h; simp
    | succ i =>
      simp only [List.getElem?_cons_succ] at h
      have := ih (i := i) (by simpa using h)
      cases b <;> simp [List.set_cons_succ] at this ⊢ <;> omega

theorem wpAny_vals {P : Program} {ops : Array Oper} {Q : Exit → Act → World → Prop} {a0 : Act} {w0 : World} {V : Nat → Value → World → Prop} (ht : tidy ops a0.tmps.size = true) (hst : ∀ i, Stays (V i))
    (steps : ∀ i, i < ops.size → StepAt P ops Q a0 w0 V i)
    (last : ∀ a w, Framed ops a0 a → Below w0.heap.size w0 w → (∀ j, j < ops.size → V j (a.eval (.tmp (slotAt ops j))) w) → Q .normal a w) :
    ∀ (fuel : Nat) (listed : Array Bool) (a : Act) (w : World), listed.size = ops.size → unlisted listed ≤ fuel → FramedBy ops listed a0 a → Below w0.heap.size w0 w →
      (∀ j, j < ops.size → listed.getD j true = true → V j (a.eval (.tmp (slotAt ops j))) w) → wpAny P .any ops Q fuel listed a w := by
  have hdone : ∀ (listed : Array Bool), listed.size = ops.size → Region.ready .any ops listed = [] → ∀ j, j < ops.size → listed.getD j true = true := by
    intro listed hsz hr j
    induction j using Nat.strongRecOn with
    | ind j ih =>
      intro hj
      cases hb : listed.getD j true with
      | true => rfl
      | false =>
        have ho : ops[j]? = some ops[j] := Array.getElem?_eq_getElem hj
        have hm : j ∈ Region.ready .any ops listed := by
          rw [mem_ready]
          refine ⟨hb, _, ho, fun e he _ => ?_⟩
          have hlt := (tidy_at ht ho).1 e he
          have h1 := ih e.on hlt (by omega)
          have h2 : e.on < listed.size := by omega
          simp only [Array.getD_eq_getD_getElem?, Array.getElem?_eq_getElem h2, Option.getD_some] at h1 ⊢
          exact h1
        rw [hr] at hm
        cases hm
  intro fuel
  induction fuel with
  | zero =>
    intro listed a w hsz hu hf hb hV
    have hall : ∀ j, listed.getD j true = true := by
      intro j
      have h0 : listed.toList.filter (fun b => !b) = [] := List.eq_nil_of_length_eq_zero (by simpa [unlisted] using hu)
      rw [List.filter_eq_nil_iff] at h0
      rcases Nat.lt_or_ge j listed.size with h | h
      · have := h0 listed[j] (by simp)
        simp [h] at this ⊢
        exact this
      · simp [h]
    refine ⟨?_, last a w hf.all hb fun j hj => hV j hj (hall j)⟩
    unfold Region.ready
    rw [List.filter_eq_nil_iff]
    intro j _
    rw [hall j]
    simp
  | succ fuel ih =>
    intro listed a w hsz hu hf hb hV
    refine ⟨fun hr => last a w hf.all hb fun j hj => hV j hj (hdone listed hsz hr j hj), fun i hi => ?_⟩
    obtain ⟨hun, o, ho, hall⟩ := mem_ready.1 hi
    have hilt : i < ops.size := (Array.getElem?_eq_some_iff.1 ho).1
    obtain ⟨hback, d, hd, hdlt, hslot, _⟩ := tidy_at ht ho
    refine wpOp_step ho fun K' hK => ?_
    have hlw : ∀ j, waits o j = true → listed.getD j true = true := by
      intro j hj
      obtain ⟨e, he, hbe⟩ := Array.any_eq_true'.1 hj
      simp only [Bool.and_eq_true, beq_iff_eq] at hbe
      have h1 := hall e he hbe.1
      have h2 := hback e he
      rw [← hbe.2]
      have h3 : e.on < listed.size := by omega
      simp only [Array.getD_eq_getD_getElem?, Array.getElem?_eq_getElem h3, Option.getD_some] at h1 ⊢
      exact h1
    refine steps i hilt o ho a w (hf.at_ hun) hb ?_ K' ?_
    · intro j hj
      obtain ⟨e, he, hbe⟩ := Array.any_eq_true'.1 hj
      simp only [Bool.and_eq_true, beq_iff_eq] at hbe
      have h1 := hall e he hbe.1
      have h2 := hback e he
      rw [← hbe.2]
      refine hV e.on (by omega) ?_
      have h3 : e.on < listed.size := by omega
      simp only [Array.getD_eq_getD_getElem?, Array.getElem?_eq_getElem h3, Option.getD_some] at h1 ⊢
      exact h1
    · intro v w' hw hv
      refine hK _ _ (ih _ _ _ (by simp [hsz]) (by have := unlisted_set hun; omega) (hf.put ho hsz hlw v) (hb.trans (hw.mono hb.size)) fun j hj hl => ?_)
      by_cases hji : j = i
      · subst hji
        have : (a.put o.dst v).eval (.tmp (slotAt ops j)) = v := by
          rw [hslot, hd]
          have hlt : d < a.tmps.size := by rw [hf.size]; exact hdlt
          simp [Act.eval, Act.put, hlt]
        rw [this]
        exact hv
      · have hoj : ops[j]? = some ops[j] := Array.getElem?_eq_getElem hj
        have hne := tidy_ne ht hoj ho hji
        rw [Act.eval_put (by intro d' hd' e; injection e with e; rw [hd] at hd'; injection hd' with hd'; rw [hslot] at hne; exact hne (e.trans hd'.symm))]
        rw [getD_set_ne true (Ne.symm hji)] at hl
        exact hst j _ _ _ hw (hV j hj hl)

/-- THE RULE. -/
theorem wp_region_vals {P : Program} {ops : Array Oper} {Q : Exit → Act → World → Prop} {a0 : Act} {w0 : World} (V : Nat → Value → World → Prop) {id : Nat} (hm : P.follows .mixedOrders = true)
    (ht : tidy ops a0.tmps.size = true) (hst : ∀ i, Stays (V i)) (steps : ∀ i, i < ops.size → StepAt P ops Q a0 w0.drew V i)
    (last : ∀ a w, Framed ops a0 a → Below w0.heap.size w0 w → (∀ j, j < ops.size → V j (a.eval (.tmp (slotAt ops j))) w) → Q .normal a w) :
    (Code.region id ops true).wp P Q a0 w0 := by
  refine wp_region_any hm ?_
  refine wpAny_vals (w0 := w0.drew) ht hst steps (fun a w hf hb hv => last a w hf ((Below.refl _ _).drew.trans hb) hv) _ _ _ _ (by simp) ?_ ?_ (Below.refl _ _) ?_
  · simp [unlisted]
  · refine ⟨rfl, rfl, fun _ _ => rfl, fun j o hj hl => ?_⟩
    have hlt := (Array.getElem?_eq_some_iff.1 hj).1
    simp [hlt] at hl
  · intro j hj hl
    simp [hj] at hl
end Go.Proofs.Ytlegjdlmcphhlab
/-
  WHAT SINGLE OPERATIONS DO, for regions that draw their order (text Vals).
-/
namespace Go.Proofs.Ytlegjdlmcphhlab
open Go.RowKit

/-- the operation makes a value and a world of which R is true, by itself or by a call -/
def Does (P : Program) (o : Oper) (a : Act) (w : World) (R : Value → World → Prop) : Prop :=
  (∃ v w', (execOp a.eval o).run P w = .ok (.value v) w' ∧ R v w') ∨
  ∃ f args w', (execOp a.eval o).run P w = .ok (.enter f args) w' ∧ Calls P f args w' fun e w'' => ∃ r, e = .returned r ∧ R r w''

theorem StepAt.by {P : Program} {ops : Array Oper} {Q : Exit → Act → World → Prop} {a0 : Act} {w0 : World} {V : Nat → Value → World → Prop} {i : Nat} {o : Oper} (ho : ops[i]? = some o)
    (h : ∀ a w, FramedAt ops i a0 a → Below w0.heap.size w0 w → (∀ j, waits o j = true → V j (a.eval (.tmp (slotAt ops j))) w) →
      (Region.wanted o (yielded ops a.tmps) = true ∧ Does P o a w (fun v w' => Below w.heap.size w w' ∧ V i v w')) ∨ (Region.wanted o (yielded ops a.tmps) = false ∧ V i undef w)) : StepAt P ops Q a0 w0 V i := by
  intro o' ho' a w hf hb hd K hK
  have e : o = o' := Option.some.inj (ho.symm.trans ho')
  subst e
  rcases h a w hf hb hd with ⟨hw, hr⟩ | ⟨hw, hv⟩
  · rw [if_pos hw]
    unfold Oper.wp
    rcases hr with ⟨v, w', hr, hb', hv⟩ | ⟨f, args, w', hr, hc⟩
    · rw [hr]
      exact hK.out v w' hb' hv
    · rw [hr]
      refine Calls.mono hc ?_
      rintro e w'' ⟨r, rfl, hb', hv⟩
      exact hK.out r w'' hb' hv
  · rw [hw]
    exact hK.out undef w (Below.refl _ _) hv

/-- function f is the program's own -/
def Enters (P : Program) (f : FuncId) : Prop := ∀ args w, (callFunc f args).run P w = .ok (.enter f args) w
theorem Enters.out {P : Program} {f : FuncId} (h : Enters P f) (args : Array Value) (w : World) : (callFunc f args).run P w = .ok (.enter f args) w := h args w
theorem eval_func (a : Act) (f : FuncId) : a.eval (.func f) = .func (.func f) #[] #[] := rfl
theorem eval_const (a : Act) (v : Value) : a.eval (.const v) = v := rfl
theorem enters_of {P : Program} {f : FuncId} {fn : Func} (hf : P.funcs[f]? = some fn) (hn : (fn.name == "runtime.NumGoroutine") = false) (hb : fn.body.isNone = false) : Enters P f := by
  intro args w
  unfold callFunc
  simp only [Sem.run_bind, run_program, Result.andThen_ok, hf, hn, hb, Bool.false_eq_true, if_false]
  rfl
theorem run_call {P : Program} {ρ : Operand → Value} {w : World} {d : Option Tmp} {ty : TypeId} {pos : String} {af : Array Edge} {g : Option (Nat × Bool)} {f : FuncId} {xs : Array Operand} {us : Array Value} {ts : Array TypeId} (hcf : Enters P f) (hfn : ρ (.func f) = .func (.func f) #[] #[]) (hx : xs.map ρ = us) :
    (execOp ρ ⟨d, .call { callee := .value (.func f), args := xs, argTypes := ts }, ty, pos, af, g⟩).run P w = .ok (.enter f us) w := by
  simp [execOp, resolve, invoke, hcf.out, hfn, hx, go_sem]
theorem run_not {P : Program} {ρ : Operand → Value} {w : World} {d : Option Tmp} {ty : TypeId} {pos : String} {af : Array Edge} {g : Option (Nat × Bool)} {x : Operand} {b : Bool} {t : TypeId} (hx : ρ x = .bool b) : (execOp ρ ⟨d, .unOp .not t x, ty, pos, af, g⟩).run P w = .ok (.value (.bool !b)) w := by
  simp [execOp, hx, go_sem]
theorem run_pick {P : Program} {ρ : Operand → Value} {w : World} {d : Option Tmp} {ty : TypeId} {pos : String} {af : Array Edge} {g : Option (Nat × Bool)} {c x y : Operand} {b : Bool} (hc : ρ c = .bool b) : (execOp ρ ⟨d, .pick c x y, ty, pos, af, g⟩).run P w = .ok (.value (if b then ρ x else ρ y)) w := by
  cases b <;> simp [execOp, hc, go_sem]
theorem run_neqB {ρ : Operand → Value} {w : World} {d : Option Tmp} {ty : TypeId} {pos : String} {af : Array Edge} {g : Option (Nat × Bool)} {x y : Operand} {b c : Bool} (hx : ρ x = .bool b) (hy : ρ y = .bool c) : (execOp ρ ⟨d, .binOp .neq 4 x y 4, ty, pos, af, g⟩).run Try.prog w = .ok (.value (.bool (b != c))) w := by
  simp [execOp, hx, hy, go_sem, bne]
theorem run_neqI {ρ : Operand → Value} {w : World} {d : Option Tmp} {ty : TypeId} {pos : String} {af : Array Edge} {g : Option (Nat × Bool)} {x y : Operand} {b c : Int} (hx : ρ x = .int .i64 b) (hy : ρ y = .int .i64 c) : (execOp ρ ⟨d, .binOp .neq 3 x y 3, ty, pos, af, g⟩).run Try.prog w = .ok (.value (.bool (b != c))) w := by
  simp [execOp, hx, hy, go_sem, bne]
theorem run_load26 {ρ : Operand → Value} {w : World} {d : Option Tmp} {ty : TypeId} {pos : String} {af : Array Edge} {g : Option (Nat × Bool)} {x : Operand} {s : Nat} {v : NV} (hx : ρ x = .pointer (some ⟨s, 0, none⟩)) (hb : Box w s v) : (execOp ρ ⟨d, .load 40 x, ty, pos, af, g⟩).run Try.prog w = .ok (.value v.val) w := by
  obtain ⟨p0, p1, p2, p3, p4, pf, pz⟩ := hb.facts
  simp [execOp, hx, go_sem, p0, p1, p2, p3, p4]
section
variable {P : Program} {ops : Array Oper} {a : Act} {w : World} {R : Value → World → Prop} {d : Option Tmp} {ty : TypeId} {pos : String} {af : Array Edge} {g : Option (Nat × Bool)} {op : Op}
theorem want_none : Region.wanted ⟨d, op, ty, pos, af, none⟩ (yielded ops a.tmps) = true := rfl
theorem want_some {k t : Nat} {b want : Bool} (hk : (ops[k]?).bind (·.dst) = some t) (h : a.eval (.tmp t) = .bool b) : Region.wanted ⟨d, op, ty, pos, af, some (k, want)⟩ (yielded ops a.tmps) = (b == want) := by
  have ht : a.tmps[t]? = some (.bool b) := by
    have h : a.tmps.getD t undef = .bool b := h
    rw [Array.getD_eq_getD_getElem?] at h
    cases hx : a.tmps[t]? with
    | none => rw [hx] at h; cases h
    | some v => rw [hx] at h; exact congrArg some h
  unfold Region.wanted yielded
  simp only [hk, Option.bind_some, ht]
  cases b <;> cases want <;> rfl

theorem does_move {x : Operand} {v : Value} (hx : a.eval x = v) (h : R v w) : Does P ⟨d, .move x, ty, pos, af, g⟩ a w R := .inl ⟨_, _, rfl, by rw [hx]; exact h⟩
theorem does_assign {x : Operand} {v : Value} (hx : a.eval x = v) (h : R v w) : Does P ⟨d, .assign x, ty, pos, af, g⟩ a w R := .inl ⟨_, _, rfl, by rw [hx]; exact h⟩
theorem does_call0 {f : FuncId} {ts : Array TypeId} (hcf : Enters P f) (h : Calls P f #[] w fun e w'' => ∃ r, e = .returned r ∧ R r w'') :
    Does P ⟨d, .call { callee := .value (.func f), args := #[], argTypes := ts }, ty, pos, af, g⟩ a w R := .inr ⟨f, #[], w, run_call hcf rfl (by simp), h⟩
theorem does_call1 {f : FuncId} {x : Operand} {u : Value} {ts : Array TypeId} (hcf : Enters P f) (hx : a.eval x = u) (h : Calls P f #[u] w fun e w'' => ∃ r, e = .returned r ∧ R r w'') :
    Does P ⟨d, .call { callee := .value (.func f), args := #[x], argTypes := ts }, ty, pos, af, g⟩ a w R := .inr ⟨f, #[u], w, run_call hcf rfl (by simp [hx]), h⟩
theorem does_call2 {f : FuncId} {x y : Operand} {u v : Value} {ts : Array TypeId} (hcf : Enters P f) (hx : a.eval x = u) (hy : a.eval y = v) (h : Calls P f #[u, v] w fun e w'' => ∃ r, e = .returned r ∧ R r w'') :
    Does P ⟨d, .call { callee := .value (.func f), args := #[x, y], argTypes := ts }, ty, pos, af, g⟩ a w R := .inr ⟨f, #[u, v], w, run_call hcf rfl (by simp [hx, hy]), h⟩
theorem does_call3 {f : FuncId} {x y z : Operand} {u v t : Value} {ts : Array TypeId} (hcf : Enters P f) (hx : a.eval x = u) (hy : a.eval y = v) (hz : a.eval z = t) (h : Calls P f #[u, v, t] w fun e w'' => ∃ r, e = .returned r ∧ R r w'') :
    Does P ⟨d, .call { callee := .value (.func f), args := #[x, y, z], argTypes := ts }, ty, pos, af, g⟩ a w R := .inr ⟨f, #[u, v, t], w, run_call hcf rfl (by simp [hx, hy, hz]), h⟩
theorem does_not {x : Operand} {b : Bool} {t : TypeId} (hx : a.eval x = .bool b) (h : R (.bool !b) w) : Does P ⟨d, .unOp .not t x, ty, pos, af, g⟩ a w R := .inl ⟨_, _, run_not hx, h⟩
theorem does_pick {c x y : Operand} {b : Bool} {v : Value} (hc : a.eval c = .bool b) (hv : (if b then a.eval x else a.eval y) = v) (h : R v w) : Does P ⟨d, .pick c x y, ty, pos, af, g⟩ a w R := .inl ⟨_, _, run_pick hc, by rw [hv]; exact h⟩
end
theorem does_neqB {a : Act} {w : World} {R : Value → World → Prop} {d : Option Tmp} {ty : TypeId} {pos : String} {af : Array Edge} {g : Option (Nat × Bool)} {x y : Operand} {b c : Bool} (hx : a.eval x = .bool b) (hy : a.eval y = .bool c) (h : R (.bool (b != c)) w) : Does Try.prog ⟨d, .binOp .neq 4 x y 4, ty, pos, af, g⟩ a w R := .inl ⟨_, _, run_neqB hx hy, h⟩
theorem does_neqI {a : Act} {w : World} {R : Value → World → Prop} {d : Option Tmp} {ty : TypeId} {pos : String} {af : Array Edge} {g : Option (Nat × Bool)} {x y : Operand} {b c : Int} (hx : a.eval x = .int .i64 b) (hy : a.eval y = .int .i64 c) (h : R (.bool (b != c)) w) : Does Try.prog ⟨d, .binOp .neq 3 x y 3, ty, pos, af, g⟩ a w R := .inl ⟨_, _, run_neqI hx hy, h⟩
theorem does_load26 {a : Act} {w : World} {R : Value → World → Prop} {d : Option Tmp} {ty : TypeId} {pos : String} {af : Array Edge} {g : Option (Nat × Bool)} {x : Operand} {s : Nat} {v : NV} (hx : a.eval x = .pointer (some ⟨s, 0, none⟩)) (hb : Box w s v) (h : R v.val w) : Does Try.prog ⟨d, .load 40 x, ty, pos, af, g⟩ a w R := .inl ⟨_, _, run_load26 hx hb, h⟩
end Go.Proofs.Ytlegjdlmcphhlab
/-
  WHAT SINGLE OPERATIONS DO, further: fields of an act.
-/
namespace Go.Proofs.Ytlegjdlmcphhlab
open Go.RowKit

section
variable {a : Act} {w : World} {R : Value → World → Prop} {d : Option Tmp} {ty : TypeId} {pos : String} {af : Array Edge} {g : Option (Nat × Bool)}
theorem run_neqE {ρ : Operand → Value} {x y : Operand} {b c : Int} (hx : ρ x = .int .i64 b) (hy : ρ y = .int .i64 c) : (execOp ρ ⟨d, .binOp .neq 27 x y 27, ty, pos, af, g⟩).run Try.prog w = .ok (.value (.bool (b != c))) w := by
  simp [execOp, hx, hy, go_sem, bne]
theorem run_eqE {ρ : Operand → Value} {x y : Operand} {b c : Int} (hx : ρ x = .int .i64 b) (hy : ρ y = .int .i64 c) : (execOp ρ ⟨d, .binOp .eql 27 x y 27, ty, pos, af, g⟩).run Try.prog w = .ok (.value (.bool (b == c))) w := by
  simp [execOp, hx, hy, go_sem]
theorem run_fieldA {ρ : Operand → Value} {x : Operand} {s k : Nat} (hx : ρ x = .pointer (some ⟨s, 0, none⟩)) (hk : k < 7) : (execOp ρ ⟨d, .fieldAddr 26 x k, ty, pos, af, g⟩).run Try.prog w = .ok (.value (.pointer (some ⟨s, k, none⟩))) w := by
  match k, hk with
  | 0, _ => simp [execOp, hx, go_sem]
  | 1, _ => simp [execOp, hx, go_sem]
  | 2, _ => simp [execOp, hx, go_sem]
  | 3, _ => simp [execOp, hx, go_sem]
  | 4, _ => simp [execOp, hx, go_sem]
  | 5, _ => simp [execOp, hx, go_sem]
  | 6, _ => simp [execOp, hx, go_sem]
theorem run_load3 {ρ : Operand → Value} {x : Operand} {p : Addr} {i : Int} (hx : ρ x = .pointer (some p)) (hc : w.cell? p = some (.int .i64 i)) : (execOp ρ ⟨d, .load 3 x, ty, pos, af, g⟩).run Try.prog w = .ok (.value (.int .i64 i)) w := by
  simp [execOp, hx, go_sem, hc]
theorem run_load9 {ρ : Operand → Value} {x : Operand} {p : Addr} {s : ByteArray} (hx : ρ x = .pointer (some p)) (hc : w.cell? p = some (.string s)) : (execOp ρ ⟨d, .load 9 x, ty, pos, af, g⟩).run Try.prog w = .ok (.value (.string s)) w := by
  simp [execOp, hx, go_sem, hc]
theorem does_neqE {x y : Operand} {b c : Int} (hx : a.eval x = .int .i64 b) (hy : a.eval y = .int .i64 c) (h : R (.bool (b != c)) w) : Does Try.prog ⟨d, .binOp .neq 27 x y 27, ty, pos, af, g⟩ a w R := .inl ⟨_, _, run_neqE hx hy, h⟩
theorem does_fieldA {x : Operand} {s k : Nat} (hx : a.eval x = .pointer (some ⟨s, 0, none⟩)) (hk : k < 7) (h : R (.pointer (some ⟨s, k, none⟩)) w) : Does Try.prog ⟨d, .fieldAddr 26 x k, ty, pos, af, g⟩ a w R := .inl ⟨_, _, run_fieldA hx hk, h⟩
theorem does_load3 {x : Operand} {p : Addr} {i : Int} (hx : a.eval x = .pointer (some p)) (hc : w.cell? p = some (.int .i64 i)) (h : R (.int .i64 i) w) : Does Try.prog ⟨d, .load 3 x, ty, pos, af, g⟩ a w R := .inl ⟨_, _, run_load3 hx hc, h⟩
theorem does_load9 {x : Operand} {p : Addr} {s : ByteArray} (hx : a.eval x = .pointer (some p)) (hc : w.cell? p = some (.string s)) (h : R (.string s) w) : Does Try.prog ⟨d, .load 9 x, ty, pos, af, g⟩ a w R := .inl ⟨_, _, run_load9 hx hc, h⟩
end
end Go.Proofs.Ytlegjdlmcphhlab
/-
  THE FRAME behind a region that draws its order, written out.
-/
namespace Go.Proofs.Ytlegjdlmcphhlab
open Go.RowKit

/-- the frame behind a region: slots for which wr is true hold something -/
def overL (wr : Nat → Bool) (a : Act) : Nat → List Value → List Value
  | _, [] => []
  | t, v :: vs => (match wr t with | true => a.eval (.tmp t) | false => v) :: overL wr a (t + 1) vs
theorem overL_len (wr : Nat → Bool) (a : Act) : ∀ (l : List Value) (t : Nat), (overL wr a t l).length = l.length
  | [], _ => rfl
  | _ :: l, t => by simp [overL, overL_len wr a l (t + 1)]
theorem overL_get (wr : Nat → Bool) (a : Act) : ∀ (l : List Value) (t i : Nat) (v : Value), l[i]? = some v → (overL wr a t l)[i]? = some (match wr (t + i) with | true => a.eval (.tmp (t + i)) | false => v)
  | [], _, _, _, h => by cases h
  | x :: l, t, 0, v, h => by
    simp at h
    subst h
    simp [overL]
  | x :: l, t, i + 1, v, h => by
    simp only [List.getElem?_cons_succ] at h
    have := overL_get wr a l (t + 1) i v h
    simp only [overL, List.getElem?_cons_succ]
    rw [this, show t + 1 + i = t + (i + 1) by omega]
theorem Framed.lit {ops : Array Oper} {a0 a : Act} (hf : Framed ops a0 a) (wr : Nat → Bool) (hw : (ops.all fun o => match o.dst with | some d => wr d | none => true) = true) : a = ⟨(overL wr a 0 a0.tmps.toList).toArray, a0.defers⟩ := by
  have hs : a.tmps = (overL wr a 0 a0.tmps.toList).toArray := by
    apply Array.ext_getElem?
    intro i
    have hr : (overL wr a 0 a0.tmps.toList).toArray[i]? = (overL wr a 0 a0.tmps.toList)[i]? := by simp
    rw [hr]
    rcases Nat.lt_or_ge i a0.tmps.size with hi | hi
    · have h0 : a0.tmps.toList[i]? = some a0.tmps[i] := by rw [Array.getElem?_toList]; exact Array.getElem?_eq_getElem hi
      rw [overL_get wr a _ 0 i _ h0, Nat.zero_add]
      have hi' : i < a.tmps.size := by rw [hf.size]; exact hi
      have hev : a.eval (.tmp i) = a.tmps[i] := by simp [Act.eval, hi']
      rw [Array.getElem?_eq_getElem hi']
      cases hwi : wr i with
      | true => rw [← hev]
      | false =>
        have hap : apart ops i = true := by
          unfold apart
          rw [Array.all_eq_true_iff_forall_mem] at hw ⊢
          intro o ho
          have := hw o ho
          cases hd : o.dst with
          | none => rfl
          | some d =>
            rw [hd] at this
            simp only at this
            simp only [bne_iff_ne, ne_eq, Option.some.injEq]
            intro e
            subst e
            rw [hwi] at this
            cases this
        have := hf.keeps i hap
        rw [hev] at this
        rw [this]
        simp [Act.eval, hi]
    · rw [Array.getElem?_eq_none (by rw [hf.size]; exact hi), List.getElem?_eq_none (by rw [overL_len]; simpa using hi)]
  have hd := hf.defers
  cases a
  simp only at hs hd
  subst hd
  rw [Act.mk.injEq]
  exact ⟨hs, rfl⟩

end Go.Proofs.Ytlegjdlmcphhlab
/-
  THE REFERENCE's Apply: a tree's map as it is counted; what is asked, and answered.
-/
namespace Go.Proofs.Ytlegjdlmcphhlab
open Go.RowKit

theorem nodup_le {α : Type} [DecidableEq α] : ∀ {l m : List α}, l.Nodup → (∀ a ∈ l, a ∈ m) → l.length ≤ m.length
  | [], _, _, _ => Nat.zero_le _
  | a :: l, m, hn, hs => by
    rw [List.nodup_cons] at hn
    have ha : a ∈ m := hs a List.mem_cons_self
    have h1 : l.length ≤ (m.erase a).length := nodup_le hn.2 fun b hb => by
      rw [List.mem_erase_of_ne (fun e => hn.1 (by rw [← e]; exact hb))]
      exact hs b (List.mem_cons_of_mem _ hb)
    rw [List.length_erase_of_mem ha] at h1
    have := List.length_pos_of_mem ha
    simp only [List.length_cons]
    omega
/-- the keys of entries that hold numbers alone -/
def keyI (e : MapEntry) : Int := match e.key with | .int _ k => k | _ => 0
theorem rs_nodup {xs : List M.Nd} (h : M.RsN xs) : (xs.map (·.fid)).Nodup := List.Pairwise.imp (fun {a b} hab e => by subst e; simp [M.ltI] at hab) h
/-- a map counts as many as the tree has -/
theorem TMap.count {w : World} {bm : Nat} {xs : List M.Nd} (h : TMap w bm xs) (hr : M.RsN xs) : ∃ (es : Array MapEntry) (clock : Nat), w.heap[bm]? = some (.map es clock) ∧ es.size = xs.length := by
  obtain ⟨f, ⟨es, clock, hb, hh, hn, hcl⟩, ha⟩ := h
  refine ⟨es, clock, hb, ?_⟩
  have hk : ∀ e ∈ es.toList, e.key = .int .i64 (keyI e) ∧ f (keyI e) = some e.val := fun e he => by
    obtain ⟨k, h1, h2⟩ := hh.key e he
    have : keyI e = k := by unfold keyI; rw [h1]
    rw [this]; exact ⟨h1, h2⟩
  have hnd : (es.toList.map keyI).Nodup := by
    rw [List.nodup_iff_pairwise_ne, List.pairwise_map]
    refine List.Pairwise.imp_of_mem ?_ hh.one
    intro a b ha2 hb2 hab e
    apply hab
    rw [(hk a ha2).1, (hk b hb2).1, e]
  have h1 : (es.toList.map keyI).length ≤ (xs.map (·.fid)).length := nodup_le hnd fun k hkm => by
    obtain ⟨e, he, rfl⟩ := List.mem_map.1 hkm
    rcases ha (keyI e) with ⟨q1, _⟩ | ⟨v, x, _, q2, _⟩
    · rw [(hk e he).2] at q1; cases q1
    · have := M.find_mem q2
      exact List.mem_map.2 ⟨x, this.1, this.2⟩
  have h2 : (xs.map (·.fid)).length ≤ (es.toList.map keyI).length := nodup_le (rs_nodup hr) fun k hkm => by
    obtain ⟨x, hx, rfl⟩ := List.mem_map.1 hkm
    rcases ha x.fid with ⟨_, q2⟩ | ⟨v, y, q1, _, _⟩
    · exact absurd q2 (by
        intro hf
        unfold M.find at hf
        rw [List.find?_eq_none] at hf
        exact hf x hx (by simp))
    · obtain ⟨e, he, h3, h4⟩ := hh.all _ _ q1
      refine List.mem_map.2 ⟨e, he, ?_⟩
      unfold keyI; rw [h3]
  simp only [List.length_map] at h1 h2
  simp at h1 h2
  omega
/-- a node's map; a map of a tree; a node -/
def IsMp (xs : List M.Nd) : Value → World → Prop := fun v W => ∃ b, v = .map (some b) ∧ TMap W b xs
theorem isMp_below {xs : List M.Nd} {v : Value} {W W' : World} (hb : Below W.heap.size W W') (h : IsMp xs v W) : IsMp xs v W' := by
  obtain ⟨b, e, ht⟩ := h
  exact ⟨b, e, ht.below (Nat.le_refl _) hb⟩
def IsNd (x : M.Nd) : Value → World → Prop := fun v W => ∃ v' : NV, v = v'.val ∧ Cont W v' x
theorem isNd_below {x : M.Nd} {v : Value} {W W' : World} (hb : Below W.heap.size W W') (h : IsNd x v W) : IsNd x v W' := by
  obtain ⟨v', e, hc⟩ := h
  exact ⟨v', e, hc.below (Nat.le_refl _) hb⟩
/-- what the reference's Apply answers -/
def AppliedM (w : World) (spec : Int × List M.Nd) (e : Ending) (w' : World) : Prop :=
  Below w.heap.size w w' ∧ ∃ m, e = .returned (.tuple #[.map m, .int .i64 spec.1]) ∧ ((spec.1 = 0 ∧ ∃ bm, m = some bm ∧ TMap w' bm spec.2) ∨ (spec.1 ≠ 0 ∧ m = none))
theorem AppliedM.no {w w' : World} {s : Int × List M.Nd} {k : Int} (h : s.1 = k) (hk : k ≠ 0) (hb : Below w.heap.size w w') : AppliedM w s (.returned (.tuple #[.map none, .int .i64 k])) w' := by
  subst h; exact ⟨hb, none, rfl, .inr ⟨hk, rfl⟩⟩
theorem AppliedM.yes {w w' : World} {s : Int × List M.Nd} {ys : List M.Nd} {bm : Nat} (h : s = (0, ys)) (ht : TMap w' bm ys) (hb : Below w.heap.size w w') : AppliedM w s (.returned (.tuple #[.map (some bm), .int .i64 0])) w' := by
  subst h; exact ⟨hb, some bm, rfl, .inl ⟨rfl, bm, rfl, ht⟩⟩
/-- an act in a box, and a version -/
def ApW (w : World) (a : AV) (ver : Int) (W : World) : Prop := Below w.heap.size w W ∧ BoxA W w.heap.size a ∧ W.heap[w.heap.size + 1]? = some (.cells #[.int .i64 ver] 3 (0, 0))
theorem apw_start (w : World) (a : AV) (ver : Int) : ∀ W, W = (w.alloc (.cells #[.int .i64 a.kind, .int .i64 a.fid, .int .i64 a.dir, .string a.name, .int .i64 a.to, .string a.toName, .slice a.dA a.dn a.dc] 26)).alloc (.cells #[.int .i64 ver] 3) → ApW w a ver W := by
  rintro W rfl
  refine ⟨((Below.refl _ _).alloc (Nat.le_refl _) _).alloc (by simp) _, (BoxA.new w a).alloc _, ?_⟩
  have := heap_alloc_new (w.alloc (.cells #[.int .i64 a.kind, .int .i64 a.fid, .int .i64 a.dir, .string a.name, .int .i64 a.to, .string a.toName, .slice a.dA a.dn a.dc] 26)) (.cells #[.int .i64 ver] 3)
  simpa using this
theorem ApW.next {w W W' : World} {a : AV} {ver : Int} (h : ApW w a ver W) (hb : Below W.heap.size W W') : ApW w a ver W' := by
  have hz : w.heap.size + 1 < W.heap.size := lt_of_block h.2.2
  exact ⟨h.1.trans (hb.mono h.1.size), h.2.1.below hb (lt_of_block h.2.1), by rw [hb.block _ hz]; exact h.2.2⟩
theorem ApW.ver {w W : World} {a : AV} {ver : Int} (h : ApW w a ver W) : W.cell? ⟨w.heap.size + 1, 0, none⟩ = some (.int .i64 ver) := by simp [World.cell?, h.2.2]
end Go.Proofs.Ytlegjdlmcphhlab
/-
  THE REFERENCE's Apply: acts that store, and those of no kind.
-/
namespace Go.Proofs.Ytlegjdlmcphhlab
open Go.RowKit

set_option maxRecDepth 8000 in
set_option maxHeartbeats 4000000 in
theorem refNone_any (bm : Nat) (xs : List M.Nd) (a : AV) (ac : M.Act) (ver : Int) (w : World) (ht : TMap w bm xs) (ha : ContA w a ac) (h1 : a.kind ≠ 1) (h2 : a.kind ≠ 2) (h3 : a.kind ≠ 3) (h4 : a.kind ≠ 4) (h5 : a.kind ≠ 5) :
    Calls Try.prog 28 #[.map (some bm), a.val, .int .i64 ver] w (AppliedM w (1, [])) := by
  have HT : Hid (TMap w bm xs ∧ ContA w a ac) := ⟨ht, ha⟩
  have HW : Hid _ := apw_start w a ver
  have k1 : (a.kind == 1) = false := by simp [h1]
  have k2 : (a.kind == 2) = false := by simp [h2]
  have k3 : (a.kind == 3) = false := by simp [h3]
  have k4 : (a.kind == 4) = false := by simp [h4]
  have k5 : (a.kind == 5) = false := by simp [h5]
  clear ht ha h1 h2 h3 h4 h5
  go_enter Try.func28, Try.ntmps28
  go_upto_region 1 with (fail)
  go_cut [8] from 24 to 24 (fun v W => v = .func (.func 47) #[] #[.pointer (some ⟨w.heap.size + 1, 0, none⟩)] ∧ ApW w a ver W)
  case first =>
    go_wp2_with (fail)
    go_meet
    case rel => exact ⟨rfl, HW.out _ rfl⟩
  obtain ⟨rfl, hw1⟩ := hcut
  rename World => w1
  obtain ⟨a0, a1, a2, a3, a4, a5, a6, af, az⟩ := hw1.2.1.facts
  have H1 : Hid (ApW w a ver w1 ∧ True) := ⟨hw1, trivial⟩
  clear hw1 HW
  go_wp2_with (fail)
  go_ret2
  exact AppliedM.no rfl (by decide) H1.out.1.1

set_option maxRecDepth 8000 in
set_option maxHeartbeats 8000000 in
theorem refStore_any (bm : Nat) (xs : List M.Nd) (a : AV) (ac : M.Act) (ver : Int) (w : World) (ht : TMap w bm xs) (ha : ContA w a ac) (hk : a.kind = 3) :
    Calls Try.prog 28 #[.map (some bm), a.val, .int .i64 ver] w (AppliedM w (M.storeS xs ac ver)) := by
  have HT : Hid (TMap w bm xs ∧ ContA w a ac ∧ True) := ⟨ht, ha, trivial⟩
  have HK : Hid (a.fid = ac.fid ∧ a.dn = ac.data.length) := ⟨ha.2.1, ha.2.2.2.2.2.2.1⟩
  have HW : Hid _ := apw_start w a ver
  have k1 : (a.kind == 1) = false := by simp [hk]
  have k2 : (a.kind == 2) = false := by simp [hk]
  have k3 : (a.kind == 3) = true := by simp [hk]
  have k4 : (a.kind == 4) = false := by simp [hk]
  have k5 : (a.kind == 5) = false := by simp [hk]
  clear ht ha hk
  go_enter Try.func28, Try.ntmps28
  go_upto_region 1 with (fail)
  go_cut [8] from 24 to 24 (fun v W => v = .func (.func 47) #[] #[.pointer (some ⟨w.heap.size + 1, 0, none⟩)] ∧ ApW w a ver W)
  case first =>
    go_wp2_with (fail)
    go_meet
    case rel => exact ⟨rfl, HW.out _ rfl⟩
  obtain ⟨rfl, hw1⟩ := hcut
  rename World => w1
  obtain ⟨a0, a1, a2, a3, a4, a5, a6, af, az⟩ := hw1.2.1.facts
  have H1 : Hid (ApW w a ver w1 ∧ TMap w1 bm xs ∧ ContA w1 a ac) := ⟨hw1, HT.out.1.below (Nat.le_refl _) hw1.1, HT.out.2.1.below (Nat.le_refl _) hw1.1⟩
  clear hw1 HW
  rcases IMap.ask H1.out.2.1 a.fid with ⟨hf, hl⟩ | ⟨v, x, hf, hc, hl⟩
  · have hl1 := hl true
    simp only [if_true] at hl1
    have HS : Hid ((M.storeS xs ac ver).1 = 12) := by show _ = _; unfold M.storeS; rw [← HK.out.1, hf]
    clear hl hf
    have HB : Hid (∀ W, Below w1.heap.size w1 W → Below w.heap.size w W) := fun W hb => H1.out.1.1.trans (hb.mono H1.out.1.1.size)
    go_wp2_with (fail)
    go_ret2
    exact AppliedM.no HS.out (by decide) (HB.out _ ((Below.refl _ _).alloc (Nat.le_refl _) _))
  · have hl1 := hl true
    simp only [if_true] at hl1
    have HB : Hid (∀ W, Below w1.heap.size w1 W → Below w.heap.size w W) := fun W hb => H1.out.1.1.trans (hb.mono H1.out.1.1.size)
    obtain ⟨fi, di, dA, dn, dc, eA, en, ec, ve⟩ := v
    have HC : Hid (Cont w1 ⟨fi, di, dA, dn, dc, eA, en, ec, ve⟩ x) := hc
    have hdi : di = x.dir := hc.2.1
    cases di
    case' true =>
      have HS : Hid ((M.storeS xs ac ver).1 = 9) := by show _ = _; unfold M.storeS; rw [← HK.out.1, hf]; simp [← hdi]
      clear hl hf hc hdi
      go_wp2_with (fail)
      go_ret2
      exact AppliedM.no HS.out (by decide) (HB.out _ ((Below.refl _ _).alloc (Nat.le_refl _) _))
    by_cases h20 : 20 < a.dn
    · have h20' : (20 : Int) < (a.dn : Int) := by omega
      have HS : Hid ((M.storeS xs ac ver).1 = 4) := by show _ = _; unfold M.storeS; rw [← HK.out.1, hf]; simp [← hdi, ← HK.out.2, h20]
      clear hl hf hc hdi h20
      go_wp2_with (fail)
      go_ret2
      exact AppliedM.no HS.out (by decide) (HB.out _ ((Below.refl _ _).alloc (Nat.le_refl _) _))
    · have h20' : ¬ (20 : Int) < (a.dn : Int) := by omega
      have HS : Hid (M.storeS xs ac ver = (0, M.putN xs (M.withV { x with data := ac.data } ver))) := by show _ = _; unfold M.storeS; rw [← HK.out.1, hf]; simp [← hdi, ← HK.out.2, h20]
      clear hl hf hc hdi h20
      go_wp2_with (fail)
      have hn2 : Below w1.heap.size w1 (w1.alloc (.cells #[.int .i64 fi, .bool false, .slice a.dA a.dn a.dc, .slice eA en ec, .int .i64 ve] 40)) := (Below.refl _ _).alloc (Nat.le_refl _) _
      refine (refVer_any ⟨fi, false, a.dA, a.dn, a.dc, eA, en, ec, ve⟩ (w.heap.size + 1) ver _ (H1.out.1.next hn2).ver).mono ?_
      rintro e w2 ⟨rfl, hb2⟩
      have hn3 : Below w1.heap.size w1 w2 := hn2.trans (hb2.mono hn2.size)
      have H2 : Hid (Below w1.heap.size w1 w2 ∧ Cont w2 ⟨fi, false, a.dA, a.dn, a.dc, eA, en, ec, ver⟩ (M.withV { x with data := ac.data } ver)) := by
        have h3 := HC.out.below (Nat.le_refl _) hn3
        exact ⟨hn3, h3.1, h3.2.1, rfl, (H1.out.2.2.below (Nat.le_refl _) hn3).2.2.2.2.2.2, h3.2.2.2.2⟩
      clear hn2 hb2 hn3
      go_wp2_with (fail)
      refine (with_any bm xs ⟨fi, false, a.dA, a.dn, a.dc, eA, en, ec, ver⟩ _ w2 (H1.out.2.1.below (Nat.le_refl _) H2.out.1) H2.out.2).mono ?_
      rintro e w3 ⟨b3, rfl, ht3, hb3⟩
      have H3 : Hid (Below w.heap.size w w3 ∧ TMap w3 b3 (M.putN xs (M.withV { x with data := ac.data } ver))) := ⟨HB.out _ (H2.out.1.trans (hb3.mono H2.out.1.size)), ht3⟩
      clear ht3 hb3
      go_wp2_with (fail)
      go_ret2
      exact AppliedM.yes HS.out H3.out.2 H3.out.1
end Go.Proofs.Ytlegjdlmcphhlab
/-
  WHAT SINGLE OPERATIONS DO, further: calls through a slot, nodes that are built (for regions that draw their order).
-/
namespace Go.Proofs.Ytlegjdlmcphhlab
open Go.RowKit

theorem does_rn {a : Act} {w w' : World} {R : Value → World → Prop} {o : Oper} {v : Value} (h : (execOp a.eval o).run Try.prog w = .ok (.value v) w') (hR : R v w') : Does Try.prog o a w R := .inl ⟨v, w', h, hR⟩
/-- the value is this -/
def IsU (c : Value) : Value → World → Prop := fun v _ => v = c
section
variable {w : World} {d : Option Tmp} {ty : TypeId} {pos : String} {af : Array Edge} {g : Option (Nat × Bool)} {x y : Operand}
theorem run_callC {P : Program} {ρ : Operand → Value} {f : FuncId} {c : Operand} {caps : Array Value} {u : Value} {ts : Array TypeId} (hcf : Enters P f) (hfn : ρ c = .func (.func f) #[] caps) (hx : ρ x = u) :
    (execOp ρ ⟨d, .call { callee := .value c, args := #[x], argTypes := ts }, ty, pos, af, g⟩).run P w = .ok (.enter f (#[u] ++ caps)) w := by
  simp [execOp, resolve, invoke, hcf.out, hfn, hx, go_sem]
theorem does_callC {P : Program} {a : Act} {R : Value → World → Prop} {f : FuncId} {c : Operand} {caps : Array Value} {u : Value} {ts : Array TypeId} (hcf : Enters P f) (hfn : a.eval c = .func (.func f) #[] caps) (hx : a.eval x = u) (h : Calls P f (#[u] ++ caps) w fun e w'' => ∃ r, e = .returned r ∧ R r w'') :
    Does P ⟨d, .call { callee := .value c, args := #[x], argTypes := ts }, ty, pos, af, g⟩ a w R := .inr ⟨f, _, w, run_callC hcf hfn hx, h⟩
theorem run_eqN {ρ : Operand → Value} {b c : Int} (hx : ρ x = .int .i64 b) (hy : ρ y = .int .i64 c) : (execOp ρ ⟨d, .binOp .eql 3 x y 3, ty, pos, af, g⟩).run Try.prog w = .ok (.value (.bool (b == c))) w := by
  simp [execOp, hx, hy, go_sem]
theorem run_buildN {ρ : Operand → Value} {b : Int} {c : Bool} (hx : ρ x = .int .i64 b) (hy : ρ y = .bool c) : (execOp ρ ⟨d, .build 40 #[(0, x), (1, y)], ty, pos, af, g⟩).run Try.prog w = .ok (.value (NV.val ⟨b, c, none, 0, 0, none, 0, 0, 0⟩)) w := by
  simp [execOp, hx, hy, go_sem]
end
end Go.Proofs.Ytlegjdlmcphhlab
