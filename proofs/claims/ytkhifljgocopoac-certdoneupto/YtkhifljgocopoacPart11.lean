/- TEXTS LAID TOGETHER: Refd, Rwithin, Refa, Doesg, Put7 -/
import Derived.Test.YtkhifljgocopoacPart10
import Derived.Deep.Cut
import Derived.Test.YtkhifljgocopoacPart8
import Derived.Deep.LoopGhost
import Derived.Test.YtkhifljgocopoacPart6
import Derived.Test.YtkhifljgocopoacPart7
import Derived.Test.YtkhifljgocopoacPart9
/-
  THE REFERENCE's Enter.
-/
namespace Go.Proofs.Ytkhifljgocopoac
open Go.RowKit

/-- has the new entry its place already? what is there so far -/
def isIn (s : ByteArray) (l : List (ByteArray × Int)) : Bool := l.any fun e => M.ltB s e.1
def sofar (e0 : ByteArray × Int) (l : List (ByteArray × Int)) : List (ByteArray × Int) := if isIn e0.1 l then M.putE l e0 else l
theorem isIn_no {s : ByteArray} {l : List (ByteArray × Int)} (h : isIn s l = false) : ∀ e ∈ l, M.ltB s e.1 = false := by
  unfold isIn at h
  rw [List.any_eq_false] at h
  intro e he
  simpa using h e he
theorem low_all {s : ByteArray} {l : List (ByteArray × Int)} (h : isIn s l = false) (hne : ∀ e ∈ l, e.1 ≠ s) : ∀ e ∈ l, M.ltB e.1 s = true := by
  intro e he
  cases hl : M.ltB e.1 s
  · exact absurd (M.ordB.tri _ _ hl (isIn_no h e he)) (hne e he)
  · rfl
theorem putE_low {e0 : ByteArray × Int} {l : List (ByteArray × Int)} (h : isIn e0.1 l = false) (hne : ∀ e ∈ l, e.1 ≠ e0.1) : M.putE l e0 = l ++ [e0] := by
  unfold M.putE M.put
  rw [List.filter_eq_self.2 (low_all h hne), List.filter_eq_nil_iff.2 (fun e he => by rw [isIn_no h e he]; simp)]
theorem isIn_snoc (s : ByteArray) (l : List (ByteArray × Int)) (e : ByteArray × Int) : isIn s (l ++ [e]) = (isIn s l || M.ltB s e.1) := by
  unfold isIn; rw [List.any_append]; simp
theorem rs_last {l : List (ByteArray × Int)} {e : ByteArray × Int} (hr : M.RsE (l ++ [e])) {s : ByteArray} (h : isIn s l = true) : M.ltB s e.1 = true := by
  unfold isIn at h
  rw [List.any_eq_true] at h
  obtain ⟨y, hy, hsy⟩ := h
  have hp : M.Rs M.ltB ((l ++ [e]).map (·.1)) := hr
  unfold M.Rs at hp
  rw [List.map_append, List.pairwise_append] at hp
  exact M.ordB.tra _ _ _ hsy (hp.2.2 y.1 (List.mem_map.2 ⟨y, hy, rfl⟩) e.1 (by simp))
theorem sofar_first {e0 e : ByteArray × Int} {l : List (ByteArray × Int)} (h : isIn e0.1 l = false) (hne : ∀ e ∈ l, e.1 ≠ e0.1) (hl : M.ltB e0.1 e.1 = true) : sofar e0 (l ++ [e]) = l ++ [e0] ++ [e] := by
  unfold sofar
  rw [isIn_snoc, h, hl]
  simp only [Bool.false_or, if_true]
  unfold M.putE M.put
  have hel : M.ltB e.1 e0.1 = false := by
    cases hx : M.ltB e.1 e0.1
    · rfl
    · have := M.ordB.tra _ _ _ hx hl; rw [M.ordB.irr] at this; cases this
  have hL : l.filter (fun y => M.ltB y.1 e0.1) = l := List.filter_eq_self.2 (low_all h hne)
  have hR : l.filter (fun y => M.ltB e0.1 y.1) = [] := List.filter_eq_nil_iff.2 (fun e he => by rw [isIn_no h e he]; simp)
  rw [List.filter_append, List.filter_append, hL, hR]
  simp [hel, hl]
theorem sofar_low {e0 e : ByteArray × Int} {l : List (ByteArray × Int)} (h : isIn e0.1 l = false) (hl : M.ltB e0.1 e.1 = false) : sofar e0 (l ++ [e]) = l ++ [e] := by
  unfold sofar
  rw [isIn_snoc, h, hl]
  rfl
theorem sofar_then {e0 e : ByteArray × Int} {l : List (ByteArray × Int)} (h : isIn e0.1 l = true) (hr : M.RsE (l ++ [e])) : sofar e0 (l ++ [e]) = sofar e0 l ++ [e] := by
  have hl := rs_last hr h
  have hel : M.ltB e.1 e0.1 = false := by
    cases hx : M.ltB e.1 e0.1
    · rfl
    · have := M.ordB.tra _ _ _ hx hl; rw [M.ordB.irr] at this; cases this
  unfold sofar
  rw [isIn_snoc, h]
  simp only [Bool.true_or, if_true]
  unfold M.putE M.put
  rw [List.filter_append, List.filter_append]
  simp [hel, hl]
theorem putE_drop (es : List (ByteArray × Int)) (e0 : ByteArray × Int) : M.putE (M.dropE es e0.1) e0 = M.putE es e0 := by
  unfold M.putE M.put M.dropE
  rw [List.filter_filter, List.filter_filter]
  have h1 : ∀ y : ByteArray × Int, (M.ltB y.1 e0.1 && !decide (y.1 = e0.1)) = M.ltB y.1 e0.1 := fun y => by
    by_cases h : y.1 = e0.1
    · rw [h, M.ordB.irr]; rfl
    · simp [h]
  have h2 : ∀ y : ByteArray × Int, (M.ltB e0.1 y.1 && !decide (y.1 = e0.1)) = M.ltB e0.1 y.1 := fun y => by
    by_cases h : y.1 = e0.1
    · rw [h, M.ordB.irr]; rfl
    · simp [h]
  simp only [h1, h2]
theorem drop_ne (es : List (ByteArray × Int)) (s : ByteArray) : ∀ e ∈ M.dropE es s, e.1 ≠ s := by
  intro e he
  have := (List.mem_filter.1 he).2
  simpa using this
theorem rs_dropE {es : List (ByteArray × Int)} (s : ByteArray) (h : M.RsE es) : M.RsE (M.dropE es s) := M.rs_sub h (List.filter_sublist.map _)
theorem rs_takeE {es : List (ByteArray × Int)} (k : Nat) (h : M.RsE es) : M.RsE (es.take k) := M.rs_sub h ((List.take_sublist k es).map _)

/-- the entry at hand stays where it is -/
theorem box2_kept {w0 : World} {es : List (ByteArray × Int)} {A : Option Addr} {m c : Nat} {wr w4 : World} {e : ByteArray × Int} {o : Obj} (h : Keep w0 es A m c wr)
    (hg : ((wr.alloc (.cells #[.string e.1, .int .i64 e.2] 58)).alloc o).grownBy w4 (Value.slice A m c).ownBlock) : Box2 w4 wr.heap.size e := by
  have h0 : Box2 (wr.alloc (.cells #[.string e.1, .int .i64 e.2] 58)) wr.heap.size e := Box2.new wr e
  have h1 : Box2 ((wr.alloc (.cells #[.string e.1, .int .i64 e.2] 58)).alloc o) wr.heap.size e := by
    unfold Box2 at h0 ⊢
    rw [Below.heap_alloc _ _ _ (lt_of_block h0)]
    exact h0
  refine h1.grownO hg fun hx => ?_
  have := (h.1.lt wr.heap.size hx.symm).2
  omega

set_option maxHeartbeats 1000000 in
theorem refEnter_any (v : NV) (x : M.Nd) (s : ByteArray) (f : Int) (w : World) (hc : Cont w v x) (hr : M.RsE x.ents) (hs : Small x) (hs1 : (x.ents.length + 1) * 24 ≤ 140737488355328) :
    Calls Try.prog 27 #[v.val, .string s, .int .i64 f] w fun e w' => ∃ v' : NV, e = .returned v'.val ∧ Cont w' v' (withE x (M.putE x.ents (s, f))) ∧ Below w.heap.size w w' := by
  have hB0 : ∀ W : World, W = (w.alloc (.cells #[.int .i64 v.fid, .bool v.dir, .slice v.dA v.dn v.dc, .slice v.eA v.en v.ec, .int .i64 v.ver] 56)).alloc (.cells #[.int .i64 0, .bool false, .slice none 0 0, .slice none 0 0, .int .i64 0] 56) → Box W w.heap.size v ∧ Box W (w.heap.size + 1) NV.zero ∧ W.heap.size = w.heap.size + 2 ∧ Below w.heap.size w W := by
    rintro W rfl
    exact ⟨(Box.new w v).alloc _, by have := Box.new0 (w.alloc (.cells #[.int .i64 v.fid, .bool v.dir, .slice v.dA v.dn v.dc, .slice v.eA v.en v.ec, .int .i64 v.ver] 56)); simpa using this, by simp, ((Below.refl _ _).alloc (Nat.le_refl _) _).alloc (by simp) _⟩
  have HB0 : Hid _ := hB0
  have HC : Hid (Cont w v x ∧ Small x) := ⟨hc, hs⟩
  have HR : Hid (M.RsE (M.dropE x.ents s)) := rs_dropE s hr
  have hlen : (M.dropE x.ents s).length ≤ x.ents.length := List.length_filter_le _ _
  obtain ⟨i58, hi58, hz58, hs58, hb58⟩ := info_parts info58
  clear hB0 hc hs hr
  go_enter Try.func27, Try.ntmps27
  go_wp2_with (fail)
  obtain ⟨q0, q1, q2, q3⟩ := HB0.out _ rfl
  refine (refLeave_own v x s _ (HC.out.1.below (Nat.le_refl _) q3) HC.out.2).mono ?_
  rintro e w1 ⟨A1, m1, c1, rfl, ho1, hb1⟩
  have hz1 := hb1.size
  rw [q2] at hz1 hb1 ho1
  have HX1 : Hid (Box w1 w.heap.size v) := q0.below hb1 (by omega)
  have HX2 : Hid (Box w1 (w.heap.size + 1) NV.zero ∧ Below w.heap.size w w1 ∧ w1.ownsRow (w.heap.size + 2) 58 2 (.slice A1 m1 c1) m1 ((M.dropE x.ents s).flatMap entCells)) := ⟨q1.below hb1 (by omega), q3.trans (hb1.mono (by omega)), ho1⟩
  have HL : Hid (m1 = (M.dropE x.ents s).length) := own_len ent_len (by decide) ho1
  have hen : (m1 + 1) * 24 ≤ 140737488355328 := by have := HL.out; omega
  clear q0 q1 q2 q3 HB0 hb1 ho1 hlen
  obtain ⟨p0, p1, p2, p3, p4, pf, pz⟩ := HX1.out.facts
  go_upto_region 2 with (fail)
  have H0 : ∀ W : World, W = put5 w1 w.heap.size 0 ⟨v.fid, v.dir, v.dA, v.dn, v.dc, A1, m1, c1, v.ver⟩ → Hid (Box W w.heap.size ⟨v.fid, v.dir, v.dA, v.dn, v.dc, A1, m1, c1, v.ver⟩ ∧ Box W (w.heap.size + 1) NV.zero ∧ Below w.heap.size w W ∧ Ents W A1 m1 (M.dropE x.ents s) ∧ w.heap.size + 2 ≤ W.heap.size) := by
    rintro W rfl
    exact ⟨put5_box HX1.out _, put5_box_other HX2.out.1 (by omega) 0 _, put5_below HX2.out.2.1 (Nat.le_refl _) _ _, Row.ofOwn ent_len (by decide) (put5_own HX2.out.2.2 (by omega) _ _), by simp [put5, World.setCell]; omega⟩
  obtain ⟨W1, hW1⟩ : ∃ W, W = put5 w1 w.heap.size 0 ⟨v.fid, v.dir, v.dA, v.dn, v.dc, A1, m1, c1, v.ver⟩ := ⟨_, rfl⟩
  have HW := H0 W1 hW1
  rw [show ((((w1.setCell ⟨w.heap.size, 0, none⟩ (.int .i64 v.fid)).setCell ⟨w.heap.size, 1, none⟩ (.bool v.dir)).setCell ⟨w.heap.size, 2, none⟩ (.slice v.dA v.dn v.dc)).setCell ⟨w.heap.size, 3, none⟩ (.slice A1 m1 c1)).setCell ⟨w.heap.size, 4, none⟩ (.int .i64 v.ver) = W1 from hW1.symm]
  clear H0 hW1 HX1 HX2 p0 p1 p2 p3 p4 pf pz hz1
  obtain ⟨p0, p1, p2, p3, p4, pf, pz⟩ := HW.out.1.facts
  go_wp2
  go_loopw [7, 8, 17] (fun l d i wr => ∃ (k m c : Nat) (A : Option Addr), k ≤ m1 ∧ i = .int .i64 k ∧ l = .slice A m c ∧ d = .bool (isIn s ((M.dropE x.ents s).take k)) ∧ m ≤ k + (isIn s ((M.dropE x.ents s).take k)).toNat ∧ Keep W1 (sofar (s, f) ((M.dropE x.ents s).take k)) A m c wr) (fun _ _ i _ => m1 - (intOf i).toNat)
  case atStart => exact ⟨0, 0, 0, none, Nat.zero_le _, rfl, rfl, rfl, Nat.le_refl _, by rw [List.take_zero]; exact Keep.start W1⟩
  case round =>
    obtain ⟨k, m, c, A, hk, rfl, rfl, rfl, hmk, hkp⟩ := hrel
    have HK : Hid (Keep W1 (sofar (s, f) ((M.dropE x.ents s).take k)) A m c wr) := hkp
    have HBX : Hid (Box wr w.heap.size ⟨v.fid, v.dir, v.dA, v.dn, v.dc, A1, m1, c1, v.ver⟩ ∧ Box wr (w.heap.size + 1) NV.zero ∧ Below w.heap.size w wr ∧ Ents wr A1 m1 (M.dropE x.ents s)) := ⟨HW.out.1.below hkp.2 (by have := HW.out.2.2.2.2; omega), HW.out.2.1.below hkp.2 (by have := HW.out.2.2.2.2; omega), HW.out.2.2.1.trans (hkp.2.mono (by have := HW.out.2.2.2.2; omega)), HW.out.2.2.2.1.below (Nat.le_refl _) hkp.2⟩
    clear hkp p0 p1 p2 p3 p4 pf pz
    obtain ⟨p0, p1, p2, p3, p4, pf, pz⟩ := HBX.out.1.facts
    obtain ⟨z0, z1, z2, z3, z4, zf, zz⟩ := HBX.out.2.1.facts
    by_cases hlt : k < m1
    · obtain ⟨g, o, ⟨nm, fd⟩, ha, _, hak, a0, a1⟩ := Ents.at HBX.out.2.2.2 hlt
      have HA : Hid ((M.dropE x.ents s)[k]? = some (nm, fd)) := hak
      have HNE : Hid (∀ e ∈ (M.dropE x.ents s).take k, e.1 ≠ s) := fun e he => drop_ne _ s e (List.mem_of_mem_take he)
      have HRK : Hid (M.RsE ((M.dropE x.ents s).take k ++ [(nm, fd)])) := by have := rs_takeE (k + 1) HR.out; rw [take_step hak] at this; exact this
      subst ha
      dsimp only at a0 a1
      have hkn : (k : Int) < (m1 : Int) := by omega
      have hk0 : (0 : Int) ≤ (k : Int) := by omega
      clear hak p0 p1 p2 p3 p4 z0 z1 z2 z3 z4
      cases hd : isIn s ((M.dropE x.ents s).take k)
      · rw [hd] at hmk
        simp only [Bool.toNat_false, Nat.add_zero] at hmk
        have HD : Hid (isIn s ((M.dropE x.ents s).take k) = false) := hd
        have HK0 : Hid (Keep W1 ((M.dropE x.ents s).take k) A m c wr) := by have := HK.out; unfold sofar at this; rw [show ((s, f) : ByteArray × Int).1 = s from rfl, hd] at this; exact this
        clear hd HK
        have hnm : nm ≠ s := drop_ne _ s (nm, fd) (List.mem_of_getElem? HA.out)
        have q2 : (nm.toList == s.toList) = false := by rw [raw_eq]; exact decide_eq_false hnm
        cases hlb : M.ltB s nm
        · have q : Op.bytesLess nm.toList s.toList = true := by
            cases hx : M.ltB nm s
            · exact absurd (M.ordB.tri _ _ hx hlb) hnm
            · exact hx
          have HLB : Hid (M.ltB s nm = false) := hlb
          clear hlb hnm
          go_wp2_with (at_builtin; refine wpList_append_row _ (by rfl) (.tmp 35) (.tmp 37) 54 (by rfl) W1.heap.size 58 i58 (.agg #[.string ByteArray.empty, .int .i64 0]) 24 Try.underlying54 hi58 hz58 hs58 hb58 rfl (by decide) _ m _ (by rfl) ((HK0.out.alloc _).alloc _).1 _ 1 1 [(nm, fd)] (by rfl) (row_new2 wr _ (nm, fd)) ent_len ent_one (by unfold maxLen; omega) (by omega) ((HK0.out.alloc _).alloc _).2.size ?_; intro v5 w5 hown5 hg5; obtain ⟨A5, c5, rfl, _, _⟩ := own_form hown5; have HK5 : Hid (Keep W1 (((M.dropE x.ents s).take k) ++ [(nm, fd)]) A5 (m + 1) c5 w5) := ((HK0.out.alloc _).alloc _).app hg5 hown5; clear hown5 hg5)
          go_roundw
          case rel => exact ⟨k + 1, m + 1, c5, A5, by omega, by go_num, rfl, by rw [take_step HA.out, isIn_snoc, HD.out, HLB.out]; rfl, by omega, by rw [take_step HA.out, sofar_low HD.out HLB.out]; exact HK5.out⟩
          case measure => simp [intOf]; omega
        · have q : Op.bytesLess nm.toList s.toList = false := by
            cases hx : M.ltB nm s
            · exact hx
            · have := M.ordB.tra _ _ _ hx hlb; rw [M.ordB.irr] at this; cases this
          have HLB : Hid (M.ltB s nm = true) := hlb
          have HM2 : Hid (m + 1 + 1 ≤ maxLen ∧ (m + 1 + 1) * 24 ≤ 140737488355328) := ⟨by unfold maxLen; omega, Nat.le_trans (Nat.mul_le_mul_right 24 (show m + 1 + 1 ≤ m1 + 1 by omega)) hen⟩
          clear hlb hnm
          go_wp2_with (first
            | (at_builtin; have hk4 := HK4.out; clear hk4; refine wpList_append_row _ (by rfl) (.tmp 35) (.tmp 37) 54 (by rfl) W1.heap.size 58 i58 (.agg #[.string ByteArray.empty, .int .i64 0]) 24 Try.underlying54 hi58 hz58 hs58 hb58 rfl (by decide) _ (m + 1) _ (by rfl) (HK4.out.alloc _).1 _ 1 1 [(nm, fd)] (by rfl) (row_new1 w4 (nm, fd)) ent_len ent_one HM2.out.1 HM2.out.2 (HK4.out.alloc _).2.size ?_; intro v5 w5 hown5 hg5; obtain ⟨A5, c5, rfl, _, _⟩ := own_form hown5; have HK5 : Hid (Keep W1 (((M.dropE x.ents s).take k) ++ [(s, f)] ++ [(nm, fd)]) A5 (m + 1 + 1) c5 w5) := (HK4.out.alloc _).app hg5 hown5; clear hown5 hg5)
            | (at_builtin; refine wpList_append_row _ (by rfl) (.tmp 29) (.tmp 33) 54 (by rfl) W1.heap.size 58 i58 (.agg #[.string ByteArray.empty, .int .i64 0]) 24 Try.underlying54 hi58 hz58 hs58 hb58 rfl (by decide) _ m _ (by rfl) ((HK0.out.alloc _).alloc _).1 _ 1 1 [(s, f)] (by rfl) (row_new2 wr _ (s, f)) ent_len ent_one (by unfold maxLen; omega) (by omega) ((HK0.out.alloc _).alloc _).2.size ?_; intro v4 w4 hown4 hg4; obtain ⟨A4, c4, rfl, -, -⟩ := own_form hown4; have HB4 : Hid (Box2 w4 wr.heap.size (nm, fd)) := box2_kept HK0.out hg4; have HK4 : Hid (Keep W1 (((M.dropE x.ents s).take k) ++ [(s, f)]) A4 (m + 1) c4 w4) := ((HK0.out.alloc _).alloc _).app hg4 hown4; clear hown4 hg4; obtain ⟨e0, e1, ef, ez⟩ := HB4.out.facts; dsimp only at e0 e1))
          go_roundw
          case rel => exact ⟨k + 1, m + 1 + 1, c5, A5, by omega, by go_num, rfl, by rw [take_step HA.out, isIn_snoc, HD.out, HLB.out]; rfl, by rw [take_step HA.out, isIn_snoc, HD.out, HLB.out]; simp; omega, by rw [take_step HA.out, sofar_first HD.out HNE.out HLB.out]; exact HK5.out⟩
          case measure => simp [intOf]; omega
      · rw [hd] at hmk
        simp only [Bool.toNat_true] at hmk
        have HD : Hid (isIn s ((M.dropE x.ents s).take k) = true) := hd
        clear hd
        go_wp2_with (at_builtin; refine wpList_append_row _ (by rfl) (.tmp 35) (.tmp 37) 54 (by rfl) W1.heap.size 58 i58 (.agg #[.string ByteArray.empty, .int .i64 0]) 24 Try.underlying54 hi58 hz58 hs58 hb58 rfl (by decide) _ m _ (by rfl) ((HK.out.alloc _).alloc _).1 _ 1 1 [(nm, fd)] (by rfl) (row_new2 wr _ (nm, fd)) ent_len ent_one (by unfold maxLen; omega) (by omega) ((HK.out.alloc _).alloc _).2.size ?_; intro v5 w5 hown5 hg5; obtain ⟨A5, c5, rfl, _, _⟩ := own_form hown5; have HK5 : Hid (Keep W1 (sofar (s, f) ((M.dropE x.ents s).take k) ++ [(nm, fd)]) A5 (m + 1) c5 w5) := ((HK.out.alloc _).alloc _).app hg5 hown5; clear hown5 hg5)
        go_roundw
        case rel => exact ⟨k + 1, m + 1, c5, A5, by omega, by go_num, rfl, by rw [take_step HA.out, isIn_snoc, HD.out]; rfl, by rw [take_step HA.out, isIn_snoc, HD.out]; simp; omega, by rw [take_step HA.out, sofar_then HD.out HRK.out]; exact HK5.out⟩
        case measure => simp [intOf]; omega
    · have HN : Hid ((M.dropE x.ents s).take k = M.dropE x.ents s) := by have := HL.out; show _ = _; exact List.take_of_length_le (by omega)
      cases hd : isIn s ((M.dropE x.ents s).take k)
      · rw [hd] at hmk
        have HD : Hid (isIn s (M.dropE x.ents s) = false) := by have := HN.out; rw [this] at hd; exact hd
        simp only [Bool.toNat_false, Nat.add_zero] at hmk
        have HK0 : Hid (Keep W1 (M.dropE x.ents s) A m c wr) := by have := HK.out; unfold sofar at this; rw [show ((s, f) : ByteArray × Int).1 = s from rfl, hd, HN.out] at this; exact this
        clear hd HK
        go_wp2_with (at_builtin; refine wpList_append_row _ (by rfl) (.tmp 42) (.tmp 46) 54 (by rfl) W1.heap.size 58 i58 (.agg #[.string ByteArray.empty, .int .i64 0]) 24 Try.underlying54 hi58 hz58 hs58 hb58 rfl (by decide) _ m _ (by rfl) (HK0.out.alloc _).1 _ 1 1 [(s, f)] (by rfl) (row_new1 wr (s, f)) ent_len ent_one (by unfold maxLen; omega) (by omega) (HK0.out.alloc _).2.size ?_; intro v5 w5 hown5 hg5; obtain ⟨A5, c5, rfl, _, _⟩ := own_form hown5; have HK5 : Hid (Keep W1 (M.dropE x.ents s ++ [(s, f)]) A5 (m + 1) c5 w5) := (HK0.out.alloc _).app hg5 hown5; clear hown5 hg5; have HBZ : Hid (Box w5 w.heap.size ⟨v.fid, v.dir, v.dA, v.dn, v.dc, A1, m1, c1, v.ver⟩ ∧ Box w5 (w.heap.size + 1) NV.zero ∧ Below w.heap.size w w5) := ⟨HW.out.1.below HK5.out.2 (by have := HW.out.2.2.2.2; omega), HW.out.2.1.below HK5.out.2 (by have := HW.out.2.2.2.2; omega), HW.out.2.2.1.trans (HK5.out.2.mono (by have := HW.out.2.2.2.2; omega))⟩; clear p0 p1 p2 p3 p4 pf pz z0 z1 z2 z3 z4 zf zz; obtain ⟨p0, p1, p2, p3, p4, pf, pz⟩ := HBZ.out.1.facts; obtain ⟨z0, z1, z2, z3, z4, zf, zz⟩ := HBZ.out.2.1.facts)
        have hkk := HK5.out
        rw [← putE_low (e0 := (s, f)) HD.out (drop_ne _ s), show M.putE (M.dropE x.ents s) (s, f) = M.putE x.ents (s, f) from putE_drop x.ents (s, f)] at hkk
        have hbr := put5_below (HBZ.out.2.2.setCell (p := ⟨w.heap.size, 3, none⟩) (Nat.le_refl _) (.slice A5 (m + 1) c5)) (s := w.heap.size + 1) (by omega) 0 ⟨v.fid, v.dir, v.dA, v.dn, v.dc, A5, m + 1, c5, v.ver⟩
        have hoe := put5_own (ownsRow_setCell_below hkk.1 (a := ⟨w.heap.size, 3, none⟩) (by show w.heap.size < _; have := HW.out.2.2.2.2; omega) (.slice A5 (m + 1) c5)) (s := w.heap.size + 1) (by have := HW.out.2.2.2.2; omega) 0 ⟨v.fid, v.dir, v.dA, v.dn, v.dc, A5, m + 1, c5, v.ver⟩
        exact bodyPost_ret (v := NV.val ⟨v.fid, v.dir, v.dA, v.dn, v.dc, A5, m + 1, c5, v.ver⟩) (by simp [results, Try.results27, go_sem, z0, z1, z2, z3, z4]) rfl ⟨⟨v.fid, v.dir, v.dA, v.dn, v.dc, A5, m + 1, c5, v.ver⟩, rfl, ⟨HC.out.1.1, HC.out.1.2.1, HC.out.1.2.2.1, HC.out.1.2.2.2.1.below (Nat.le_refl _) hbr, Row.ofOwn ent_len (by decide) hoe⟩, hbr⟩
      · have HKF : Hid (Keep W1 (M.putE x.ents (s, f)) A m c wr) := by have := HK.out; unfold sofar at this; rw [show ((s, f) : ByteArray × Int).1 = s from rfl, hd, HN.out, if_pos rfl] at this; rw [← putE_drop]; exact this
        clear hd HK
        go_wp2
        have hkk := HKF.out
        have hbr := put5_below (HBX.out.2.2.1.setCell (p := ⟨w.heap.size, 3, none⟩) (Nat.le_refl _) (.slice A m c)) (s := w.heap.size + 1) (by omega) 0 ⟨v.fid, v.dir, v.dA, v.dn, v.dc, A, m, c, v.ver⟩
        have hoe := put5_own (ownsRow_setCell_below hkk.1 (a := ⟨w.heap.size, 3, none⟩) (by show w.heap.size < _; have := HW.out.2.2.2.2; omega) (.slice A m c)) (s := w.heap.size + 1) (by have := HW.out.2.2.2.2; omega) 0 ⟨v.fid, v.dir, v.dA, v.dn, v.dc, A, m, c, v.ver⟩
        exact bodyPost_ret (v := NV.val ⟨v.fid, v.dir, v.dA, v.dn, v.dc, A, m, c, v.ver⟩) (by simp [results, Try.results27, go_sem, z0, z1, z2, z3, z4]) rfl ⟨⟨v.fid, v.dir, v.dA, v.dn, v.dc, A, m, c, v.ver⟩, rfl, ⟨HC.out.1.1, HC.out.1.2.1, HC.out.1.2.2.1, HC.out.1.2.2.2.1.below (Nat.le_refl _) hbr, Row.ofOwn ent_len (by decide) hoe⟩, hbr⟩
end Go.Proofs.Ytkhifljgocopoac
/-
  THE REFERENCE's Within: all that can be seen from a fid on.
-/
namespace Go.Proofs.Ytkhifljgocopoac
open Go.RowKit
open Go.ChangeMaps (setBlock)

theorem len_le_of_nodup : ∀ {l m : List Int}, l.Nodup → (∀ x ∈ l, x ∈ m) → l.length ≤ m.length
  | [], _, _, _ => Nat.zero_le _
  | x :: l, m, hn, h => by
    rw [List.nodup_cons] at hn
    have hx : x ∈ m := h x List.mem_cons_self
    have ih := len_le_of_nodup (l := l) (m := m.erase x) hn.2 (fun y hy => by
      have hne : y ≠ x := fun e => hn.1 (e ▸ hy)
      exact (List.mem_erase_of_ne hne).2 (h y (List.mem_cons_of_mem _ hy)))
    have := List.length_erase_of_mem hx
    have := List.length_pos_of_mem hx
    rw [List.length_cons]
    omega
/-- the fids of all entries -/
def allF (xs : List M.Nd) : List Int := xs.flatMap fun x => x.ents.map (·.2)
/-- what the search keeps: those had, in turn; k of them are done -/
structure BI (xs : List M.Nd) (a : Int) (H : List Int) (k : Nat) : Prop where
  nd : H.Nodup
  ina : a ∈ H
  re : ∀ q ∈ H, M.Reach xs a q
  cl : ∀ (i : Nat) q x, i < k → H[i]? = some q → M.find xs q = some x → ∀ e ∈ x.ents, e.2 ∈ H
theorem BI.start (xs : List M.Nd) (a : Int) : BI xs a [a] 0 := ⟨by simp, by simp, fun q hq => by rw [List.mem_singleton.1 hq]; exact .refl, fun i q x hi => absurd hi (Nat.not_lt_zero _)⟩
theorem BI.len {xs : List M.Nd} {a : Int} {H : List Int} {k : Nat} (h : BI xs a H k) : H.length ≤ (allF xs).length + 1 := by
  have := len_le_of_nodup (m := a :: allF xs) h.nd (fun q hq => by
    have hr := h.re q hq
    cases hr with
    | refl => exact List.mem_cons_self
    | step _ hf he => exact List.mem_cons_of_mem _ (List.mem_flatMap.2 ⟨_, List.mem_of_find?_eq_some hf, List.mem_map.2 ⟨_, he, rfl⟩⟩))
  simpa using this
theorem BI.done {xs : List M.Nd} {a t : Int} {H : List Int} {k : Nat} (h : BI xs a H k) (hk : H.length ≤ k) : t ∈ H ↔ M.Reach xs a t := by
  refine ⟨h.re t, fun hr => ?_⟩
  induction hr with
  | refl => exact h.ina
  | step _ hf he ih =>
    obtain ⟨i, hi⟩ := List.getElem?_of_mem ih
    have := (List.getElem?_eq_some_iff.1 hi).1
    exact h.cl i _ _ (by omega) hi hf _ he
/-- one entry's fid is met -/
def meetH (H : List Int) (q : Int) : List Int := if q ∈ H then H else H ++ [q]
theorem meetH_pre (H : List Int) (q : Int) : ∃ S, meetH H q = H ++ S := by
  unfold meetH
  split
  · exact ⟨[], by simp⟩
  · exact ⟨[q], rfl⟩
theorem meetH_mem (H : List Int) (q : Int) : q ∈ meetH H q := by unfold meetH; split <;> simp_all
theorem foldH_pre : ∀ (ts : List Int) (H : List Int), ∃ S, ts.foldl meetH H = H ++ S
  | [], H => ⟨[], by simp⟩
  | t :: ts, H => by
    obtain ⟨S, hS⟩ := meetH_pre H t
    obtain ⟨R, hR⟩ := foldH_pre ts (meetH H t)
    exact ⟨S ++ R, by rw [List.foldl_cons, hR, hS, List.append_assoc]⟩
theorem foldH_mem : ∀ (ts : List Int) (H : List Int), ∀ t ∈ ts, t ∈ ts.foldl meetH H
  | [], _, _, h => by cases h
  | t :: ts, H, u, h => by
    rw [List.foldl_cons]
    rcases List.mem_cons.1 h with rfl | h
    · obtain ⟨R, hR⟩ := foldH_pre ts (meetH H u)
      rw [hR]; exact List.mem_append.2 (.inl (meetH_mem H u))
    · exact foldH_mem ts _ u h
theorem foldH_nd : ∀ (ts : List Int) (H : List Int), H.Nodup → (ts.foldl meetH H).Nodup
  | [], _, h => h
  | t :: ts, H, h => by
    rw [List.foldl_cons]
    refine foldH_nd ts _ ?_
    unfold meetH
    split
    · exact h
    · rename_i hn
      rw [List.nodup_append]
      exact ⟨h, by simp, fun x hx y hy e => by rw [List.mem_singleton.1 hy] at e; exact hn (e ▸ hx)⟩
theorem foldH_re {P : Int → Prop} : ∀ (ts : List Int) (H : List Int), (∀ q ∈ H, P q) → (∀ t ∈ ts, P t) → ∀ q ∈ ts.foldl meetH H, P q
  | [], _, h, _ => h
  | t :: ts, H, h, ht => by
    rw [List.foldl_cons]
    refine foldH_re ts _ (fun q hq => ?_) (fun u hu => ht u (List.mem_cons_of_mem _ hu))
    unfold meetH at hq
    split at hq
    · exact h q hq
    · rcases List.mem_append.1 hq with hq | hq
      · exact h q hq
      · rw [List.mem_singleton.1 hq]; exact ht t List.mem_cons_self
/-- one that was ahead is done -/
theorem BI.step {xs : List M.Nd} {a : Int} {H : List Int} {k : Nat} {q : Int} (h : BI xs a H k) (hq : H[k]? = some q) (es : List (ByteArray × Int)) (he : es = ((M.find xs q).map (·.ents)).getD []) (j : Nat) : BI xs a (((es.take j).map (·.2)).foldl meetH H) k ∧ BI xs a ((es.map (·.2)).foldl meetH H) (k + 1) := by
  have key : ∀ ts : List (ByteArray × Int), (∀ e ∈ ts, e ∈ es) → BI xs a ((ts.map (·.2)).foldl meetH H) k := by
    intro ts hts
    obtain ⟨S, hS⟩ := foldH_pre (ts.map (·.2)) H
    have hre : ∀ t ∈ ts.map (·.2), M.Reach xs a t := by
      intro t ht
      obtain ⟨e, he1, rfl⟩ := List.mem_map.1 ht
      have hee := hts e he1
      rw [he] at hee
      cases hf : M.find xs q with
      | none => rw [hf] at hee; cases hee
      | some x => rw [hf] at hee; exact .step (h.re q (List.mem_of_getElem? hq)) hf hee
    refine ⟨foldH_nd _ _ h.nd, by rw [hS]; exact List.mem_append.2 (.inl h.ina), foldH_re _ _ h.re hre, fun i p x hi hp hf e hex => ?_⟩
    have hil : i < H.length := by have := (List.getElem?_eq_some_iff.1 hq).1; omega
    rw [hS] at hp ⊢
    rw [List.getElem?_append_left hil] at hp
    exact List.mem_append.2 (.inl (h.cl i p x hi hp hf e hex))
  refine ⟨key _ (fun e he => List.mem_of_mem_take he), ?_⟩
  have h1 := key es (fun e he => he)
  obtain ⟨S, hS⟩ := foldH_pre (es.map (·.2)) H
  refine ⟨h1.nd, h1.ina, h1.re, fun i p x hi hp hf e hex => ?_⟩
  rcases Nat.lt_or_ge i k with hik | hik
  · exact h1.cl i p x hik hp hf e hex
  · have hik : i = k := by omega
    subst hik
    have hil : i < H.length := (List.getElem?_eq_some_iff.1 hq).1
    rw [hS, List.getElem?_append_left hil, hq] at hp
    cases hp
    rw [hf] at he
    have hex2 : e ∈ es := by rw [he]; exact hex
    exact foldH_mem _ _ _ (List.mem_map.2 ⟨e, hex2, rfl⟩)

/-- the search's memory -/
structure WM (w : World) (bm : Nat) (xs : List M.Nd) (H : List Int) (k g off c : Nat) (wr : World) : Prop where
  bel : Below w.heap.size w wr
  had : IMap wr w.heap.size (hadF H)
  que : Que wr (w.heap.size + 1) g off c (H.drop k)
theorem zero4 (w : World) : (zeroValue 4).run Try.prog w = .ok (.bool false) w := by
  obtain ⟨i, hi, hz, hs, hb⟩ := info_parts info4
  simp [zeroValue, typeInfo, hi, hz]
theorem had_ask {w : World} {b : Nat} {H : List Int} (h : IMap w b (hadF H)) (q : Int) : (Instr.lookup 66 (.map (some b)) (.int .i64 q) false).run Try.prog w = .ok (.bool (decide (q ∈ H))) w := by
  rw [run_lookup_map 66 4 Try.underlying66 (zero4 w) h q false, hadF_ask]
  rfl
theorem had_add {w : World} {b : Nat} {H : List Int} (h : IMap w b (hadF H)) (q : Int) : ∃ o : Obj, (Instr.mapUpdate 66 (.map (some b)) (.int .i64 q) (.bool true)).run Try.prog w = .ok () (setBlock w b o) ∧ IMap (setBlock w b o) b (hadF (H ++ [q])) := by
  obtain ⟨o, h1, h2⟩ := run_update_map 66 4 Try.underlying66 h q (.bool true)
  rw [hadF_add] at h2
  exact ⟨o, h1, h2⟩
theorem had_new (w : World) : IMap (w.alloc (.map #[] 0)) w.heap.size (hadF []) := by
  have h : (fun _ => none : Int → Option Value) = hadF [] := by funext q; simp [hadF]
  rw [← h]
  exact IMap.new w
theorem ents_of {w wr : World} {bm : Nat} {xs : List M.Nd} (h : TMap w bm xs) (hb : Below w.heap.size w wr) (hs : ∀ x ∈ xs, Small x) (q : Int) : ∃ (v : NV) (es : List (ByteArray × Int)), (Instr.lookup 30 (.map (some bm)) (.int .i64 q) false).run Try.prog wr = .ok v.val wr ∧ es = ((M.find xs q).map (·.ents)).getD [] ∧ Ents w v.eA v.en es ∧ v.en * 24 ≤ 140737488355328 := by
  obtain ⟨f, hi, ha⟩ := h
  have hr := run_lookup_map 30 56 Try.underlying30 (zero26 wr) (hi.below (Nat.le_refl _) hb) q false
  rcases ha q with ⟨h1, h2⟩ | ⟨v, x, h1, h2, h3⟩
  · rw [h1] at hr
    exact ⟨NV.zero, [], hr, by rw [h2]; rfl, ⟨rfl, .inl rfl⟩, by simp [NV.zero]⟩
  · rw [h1] at hr
    exact ⟨v, x.ents, hr, by rw [h2]; rfl, h3.2.2.2.2, by rw [h3.2.2.2.2.1]; exact (hs x (List.mem_of_find?_eq_some h2)).2⟩
theorem WM.box {w : World} {bm : Nat} {xs : List M.Nd} {H : List Int} {k g off c : Nat} {wr : World} (h : WM w bm xs H k g off c wr) (o : Obj) : WM w bm xs H k g off c (wr.alloc o) :=
  ⟨h.bel.alloc h.bel.size o, h.had.same (Below.heap_alloc _ _ _ h.had.lt), h.que.alloc o⟩
theorem WM.add {w : World} {bm : Nat} {xs : List M.Nd} {H : List Int} {k g off c : Nat} {wr W : World} {q : Int} {o E : Obj} {g' off' c' : Nat} (h : WM w bm xs H k g off c wr) (hm : IMap (setBlock wr w.heap.size o) w.heap.size (hadF (H ++ [q]))) (hk : k ≤ H.length)
    (hq : Que W (w.heap.size + 1) g' off' c' (H.drop k ++ [q])) (hg : ((setBlock wr w.heap.size o).alloc E).grownBy W (some g)) : WM w bm xs (H ++ [q]) k g' off' c' W := by
  have hgB := h.que.1
  have hlt : w.heap.size < wr.heap.size := h.had.lt
  refine ⟨Below.grown ((setBlock_below h.bel (Nat.le_refl _) o).alloc (by rw [setBlock_size]; omega) E) hg (by simp [setBlock_size]; omega) (fun k hk => by cases hk; omega), hm.same ?_, by rw [List.drop_append_of_le_length hk]; exact hq⟩
  rw [hg.block w.heap.size (by simp [setBlock_size]; omega) (by simp only [ne_eq, Option.some.injEq]; omega), Below.heap_alloc _ _ _ (by rw [setBlock_size]; omega)]
theorem fieldE (v : NV) (w : World) : (Instr.field 56 v.val 3).run Try.prog w = .ok (.slice v.eA v.en v.ec) w := by kernel_rfl

set_option maxRecDepth 4000 in
set_option maxHeartbeats 4000000 in
theorem refWithin_any (bm : Nat) (xs : List M.Nd) (t a : Int) (w : World) (ht : TMap w bm xs) (hs : ∀ x ∈ xs, Small x) (hN : ((allF xs).length + 2) * 8 ≤ 140737488355328) :
    Calls Try.prog 31 #[.map (some bm), .int .i64 t, .int .i64 a] w fun e w' => ∃ b : Bool, e = .returned (.bool b) ∧ (b = true ↔ M.Reach xs a t) ∧ Below w.heap.size w w' := by
  obtain ⟨i3, hi3, hz3, hs3, hb3⟩ := info_parts info3
  have HT : Hid (TMap w bm xs ∧ (∀ x ∈ xs, Small x)) := ⟨ht, hs⟩
  have hmm := @run_makeMap Try.prog
  obtain ⟨o0, hup, hm0⟩ := had_add (had_new w) a
  have H0 : Hid (WM w bm xs [a] 0 (w.heap.size + 1) 0 1 ((setBlock (w.alloc (.map #[] 0)) w.heap.size o0).alloc (.cells #[.int .i64 a] 3))) := by
    have hz : (setBlock (w.alloc (.map #[] 0)) w.heap.size o0).heap.size = w.heap.size + 1 := by rw [setBlock_size]; simp
    refine ⟨(setBlock_below ((Below.refl _ _).alloc (Nat.le_refl _) _) (Nat.le_refl _) o0).alloc (by rw [hz]; omega) _, hm0.same (Below.heap_alloc _ _ _ (by rw [hz]; omega)), ?_⟩
    have h := que_new (setBlock (w.alloc (.map #[] 0)) w.heap.size o0) (w.heap.size + 1) a (by rw [hz]; omega)
    rw [hz] at h
    exact h
  have hz0 : (setBlock (w.alloc (.map #[] 0)) w.heap.size o0).heap.size = w.heap.size + 1 := by rw [setBlock_size]; simp
  clear ht hs hm0
  go_enter Try.func31, Try.ntmps31
  go_wp2_with (fail)
  go_loopg [8] ((allF xs).length + 1) (fun gk v wr => ∃ (H : List Int) (k g off c n : Nat), v = .slice (some ⟨g, off, none⟩) n c ∧ Hid (n = H.length - k) ∧ k ≤ H.length ∧ (allF xs).length + 1 - k ≤ gk ∧ BI xs a H k ∧ WM w bm xs H k g off c wr)
  case atStart => exact ⟨[a], 0, w.heap.size + 1, 0, 1, 1, rfl, rfl, Nat.zero_le _, by omega, BI.start xs a, H0.out⟩
  case round =>
    obtain ⟨H, k, g, off, c, n, rfl, hn, hk, hgk, hbi, hwm⟩ := hrel
    rename World => wo
    have HB : Hid (BI xs a H k) := hbi
    have HM : Hid (WM w bm xs H k g off c wo) := hwm
    have hlen := hbi.len
    clear hbi hwm hup hmm hz0 H0
    by_cases hkn : k = H.length
    · have hn0 : n = 0 := by have h := hn.out; omega
      subst hn0
      have hlk := had_ask HM.out.had t
      have HR : Hid (t ∈ H ↔ M.Reach xs a t) := HB.out.done (by omega)
      clear hkn hk hn
      go_wp2
      go_ret
      exact ⟨_, rfl, by rw [decide_eq_true_eq]; exact HR.out, HM.out.bel⟩
    · have hkl : k < H.length := by omega
      have hq : H[k]? = some H[k] := List.getElem?_eq_getElem hkl
      have HQ : Hid (H[k]? = some H[k]) := hq
      have hc0 := HM.out.que.cell (j := 0) (f := H[k]) (by rw [List.getElem?_drop, Nat.add_zero]; exact hq)
      rw [Nat.add_zero] at hc0
      generalize H[k] = q at hq HQ hc0
      obtain ⟨v, es, hlk, hes, hent, hen⟩ := ents_of HT.out.1 HM.out.bel HT.out.2 q
      have HES : Hid (es = ((M.find xs q).map (·.ents)).getD []) := hes
      have HEN : Hid (Ents w v.eA v.en es) := hent
      have hfe := fieldE v
      have hn0 : (0 : Int) < (n : Int) := by have h := hn.out; omega
      have hnn : 0 < n := by have h := hn.out; omega
      clear hq hes hent
      go_wp2_with (fail)
      go_loopw [8, 26] (fun u i wq => ∃ (j g' off' c' n' : Nat), i = .int .i64 j ∧ j ≤ v.en ∧ u = .slice (some ⟨g', off', none⟩) n' c' ∧ Hid (n' = (((es.take j).map (·.2)).foldl meetH H).length - k) ∧ WM w bm xs (((es.take j).map (·.2)).foldl meetH H) k g' off' c' wq) (fun _ i _ => v.en - (intOf i).toNat)
      case atStart => exact ⟨0, g, off, c, n, rfl, Nat.zero_le _, rfl, hn, HM.out⟩
      case round =>
        obtain ⟨j, g', off', c', n', rfl, hj, rfl, hn', hwm⟩ := hrel
        have HMJ : Hid (WM w bm xs (((es.take j).map (·.2)).foldl meetH H) k g' off' c' wr) := hwm
        have hbij := (HB.out.step HQ.out es HES.out j).1
        have HPRE : Hid (k < (((es.take j).map (·.2)).foldl meetH H).length) := by
          obtain ⟨S, hS⟩ := foldH_pre ((es.take j).map (·.2)) H
          show k < _
          rw [hS, List.length_append]; omega
        have hlenj := hbij.len
        clear hwm hbij
        by_cases hjl : j < v.en
        · obtain ⟨b, o, e, hvA, _, hej, e0, e1⟩ := Ents.at (HEN.out.below (Nat.le_refl _) HMJ.out.bel) hjl
          have HF : Hid (((es.take (j + 1)).map (·.2)).foldl meetH H = meetH (((es.take j).map (·.2)).foldl meetH H) e.2) := by
            show _ = _
            rw [take_step hej, List.map_append, List.foldl_append]; rfl
          generalize ((es.take j).map (·.2)).foldl meetH H = HJ at HMJ HPRE hlenj HF hn'
          have hwb := HMJ.out.box (.cells #[.string e.1, .int .i64 e.2] 58)
          have hask := had_ask hwb.had e.2
          obtain ⟨ob, hupd, hmm⟩ := had_add hwb.had e.2
          have HWB : Hid (WM w bm xs HJ k g' off' c' (wr.alloc (.cells #[.string e.1, .int .i64 e.2] 58)) ∧ IMap (setBlock (wr.alloc (.cells #[.string e.1, .int .i64 e.2] 58)) w.heap.size ob) w.heap.size (hadF (HJ ++ [e.2]))) := ⟨hwb, hmm⟩
          have hjs : (j : Int) < (v.en : Int) := by omega
          have hj0 : (0 : Int) ≤ (j : Int) := by omega
          clear hwb hmm hej
          by_cases hin : e.2 ∈ HJ
          · have hd : decide (e.2 ∈ HJ) = true := decide_eq_true hin
            rw [hd] at hask
            have HI : Hid (meetH HJ e.2 = HJ) := by show _ = _; unfold meetH; rw [if_pos hin]
            clear hin hd hupd
            go_wp2
            go_roundw
            case rel => exact ⟨j + 1, g', off', c', n', by go_num, by omega, rfl, by rw [HF.out, HI.out]; exact hn', by rw [HF.out, HI.out]; exact HWB.out.1⟩
            case measure => simp [intOf]; omega
          · have hd : decide (e.2 ∈ HJ) = false := decide_eq_false hin
            rw [hd] at hask
            have HI : Hid (meetH HJ e.2 = HJ ++ [e.2]) := by show _ = _; unfold meetH; rw [if_neg hin]
            have hz2 : (setBlock (wr.alloc (.cells #[.string e.1, .int .i64 e.2] 58)) w.heap.size ob).heap.size = wr.heap.size + 1 := by rw [setBlock_size]; simp
            have hwr : w.heap.size < wr.heap.size := HMJ.out.had.lt
            have hcb : (setBlock (wr.alloc (.cells #[.string e.1, .int .i64 e.2] 58)) w.heap.size ob).cell? ⟨wr.heap.size, 1, none⟩ = some (.int .i64 e.2) := by
              have hb2 : (setBlock (wr.alloc (.cells #[.string e.1, .int .i64 e.2] 58)) w.heap.size ob).heap[wr.heap.size]? = some (.cells #[.string e.1, .int .i64 e.2] 58 (0, 0)) := by
                rw [setBlock_other (by omega)]; exact heap_alloc_new wr _
              simp [World.cell?, hb2]
            have HL : Hid (n' = (HJ.drop k).length ∧ (n' + 1) * 8 ≤ 140737488355328) := by
              refine ⟨by rw [List.length_drop]; exact hn'.out, ?_⟩
              have := hn'.out
              omega
            clear hin hd
            go_wp2_with (at_builtin; refine wpList_append_que _ (by rfl) (.tmp 38) (.tmp 41) 50 (by rfl) (w.heap.size + 1) i3 Try.underlying50 hi3 hz3 hs3 hb3 g' off' c' n' (HJ.drop k) HL.out.1 (by rfl) ((HWB.out.1.que.setBlock (by have := HWB.out.1.que.1; omega) ob).alloc _) ⟨wr.heap.size + 1, 0, none⟩ 1 e.2 (by rfl) (cell_new1 _ _ _ _ hz2.symm) (by rw [← HL.out.1]; exact HL.out.2) (by simp [setBlock_size]; omega) ?_; intro g2 off2 c2 W4 hq4 hg4; have HW4 : Hid (WM w bm xs (HJ ++ [e.2]) k g2 off2 c2 W4) := HWB.out.1.add HWB.out.2 (Nat.le_of_lt HPRE.out) hq4 hg4; clear hq4 hg4 hvA)
            go_roundw
            case rel => exact ⟨j + 1, g2, off2, c2, n' + 1, by go_num, by omega, by go_num, (by show n' + 1 = _; rw [HF.out, HI.out, List.length_append]; have h1 := hn'.out; have h2 := HPRE.out; simp; omega), by rw [HF.out, HI.out]; exact HW4.out⟩
            case measure => simp [intOf]; omega
        · have HEJ : Hid (es.take j = es) := by show _ = _; exact List.take_of_length_le (by rw [← HEN.out.1]; omega)
          rw [HEJ.out] at HMJ HPRE hn'
          have HB2 : Hid (BI xs a ((es.map (·.2)).foldl meetH H) (k + 1)) := (HB.out.step HQ.out es HES.out j).2
          generalize (es.map (·.2)).foldl meetH H = HJ at HMJ HPRE HB2 hn'
          have hlen2 := HB2.out.len
          have hjs : ¬ (j : Int) < (v.en : Int) := by omega
          obtain ⟨f0, l0, hl0⟩ : ∃ f0 l0, HJ.drop k = f0 :: l0 := ⟨HJ[k]'HPRE.out, HJ.drop (k + 1), List.drop_eq_getElem_cons HPRE.out⟩
          have hl1 : l0 = HJ.drop (k + 1) := by have h := congrArg List.tail hl0; rw [List.tail_drop] at h; exact h.symm
          have hqq := HMJ.out.que
          rw [hl0] at hqq
          have hn1 : 1 ≤ n' ∧ n' ≤ c' ∧ c' ≤ 9223372036854775807 := by
            have h1 := hn'.out
            have h2 := HPRE.out
            have h3 := HMJ.out.que.2.1
            have h4 := HMJ.out.que.2.2.1
            rw [List.length_drop] at h3
            unfold maxLen at h4
            exact ⟨by omega, by omega, by omega⟩
          obtain ⟨hn1, hn2, hn3⟩ := hn1
          have hn4 : (1 : Int) ≤ (n' : Int) := by omega
          by_cases hc1 : c' = 1
          · subst hc1
            have HQ2 : Hid (Que wr (w.heap.size + 1) g' off' 0 (HJ.drop (k + 1))) := by rw [← hl1]; exact hqq.tail1
            clear hqq hl0 hl1
            go_wp2
            go_roundg ((allF xs).length + 1 - (k + 1))
            case measure => have h2 := HPRE.out; omega
            case rel => exact ⟨HJ, k + 1, g', off', 0, n' - 1, by go_num, (by show n' - 1 = _; have h1 := hn'.out; omega), HPRE.out, Nat.le_refl _, HB2.out, ⟨HMJ.out.bel, HMJ.out.had, HQ2.out⟩⟩
          · have HQ2 : Hid (Que wr (w.heap.size + 1) g' (off' + 1) (c' - 1) (HJ.drop (k + 1))) := by rw [← hl1]; exact hqq.tail
            clear hqq hl0 hl1
            go_wp2
            go_roundg ((allF xs).length + 1 - (k + 1))
            case measure => have h2 := HPRE.out; omega
            case rel => exact ⟨HJ, k + 1, g', off' + 1, c' - 1, n' - 1, by go_num, (by show n' - 1 = _; have h1 := hn'.out; omega), HPRE.out, Nat.le_refl _, HB2.out, ⟨HMJ.out.bel, HMJ.out.had, HQ2.out⟩⟩
end Go.Proofs.Ytkhifljgocopoac
/-
  THE REFERENCE's Apply: a tree's map as it is counted; what is asked, and answered.
-/
namespace Go.Proofs.Ytkhifljgocopoac
open Go.RowKit

theorem nodup_le {α : Type} [DecidableEq α] : ∀ {l m : List α}, l.Nodup → (∀ a ∈ l, a ∈ m) → l.length ≤ m.length
  | [], _, _, _ => Nat.zero_le _
  | a :: l, m, hn, hs => by
    rw [List.nodup_cons] at hn
    have ha : a ∈ m := hs a List.mem_cons_self
    have h1 : l.length ≤ (m.erase a).length := nodup_le hn.2 fun b hb => by
      rw [List.mem_erase_of_ne (fun e => hn.1 (by rw [← e]; exact hb))]
      exact hs b (List.mem_cons_of_mem _ hb)
    rw [List.length_erase_of_mem ha] at h1
    have := List.length_pos_of_mem ha
    simp only [List.length_cons]
    omega
/-- the keys of entries that hold numbers alone -/
def keyI (e : MapEntry) : Int := match e.key with | .int _ k => k | _ => 0
theorem rs_nodup {xs : List M.Nd} (h : M.RsN xs) : (xs.map (·.fid)).Nodup := List.Pairwise.imp (fun {a b} hab e => by subst e; simp [M.ltI] at hab) h
/-- a map counts as many as the tree has -/
theorem TMap.count {w : World} {bm : Nat} {xs : List M.Nd} (h : TMap w bm xs) (hr : M.RsN xs) : ∃ (es : Array MapEntry) (clock : Nat), w.heap[bm]? = some (.map es clock) ∧ es.size = xs.length := by
  obtain ⟨f, ⟨es, clock, hb, hh, hn, hcl⟩, ha⟩ := h
  refine ⟨es, clock, hb, ?_⟩
  have hk : ∀ e ∈ es.toList, e.key = .int .i64 (keyI e) ∧ f (keyI e) = some e.val := fun e he => by
    obtain ⟨k, h1, h2⟩ := hh.key e he
    have : keyI e = k := by unfold keyI; rw [h1]
    rw [this]; exact ⟨h1, h2⟩
  have hnd : (es.toList.map keyI).Nodup := by
    rw [List.nodup_iff_pairwise_ne, List.pairwise_map]
    refine List.Pairwise.imp_of_mem ?_ hh.one
    intro a b ha2 hb2 hab e
    apply hab
    rw [(hk a ha2).1, (hk b hb2).1, e]
  have h1 : (es.toList.map keyI).length ≤ (xs.map (·.fid)).length := nodup_le hnd fun k hkm => by
    obtain ⟨e, he, rfl⟩ := List.mem_map.1 hkm
    rcases ha (keyI e) with ⟨q1, _⟩ | ⟨v, x, _, q2, _⟩
    · rw [(hk e he).2] at q1; cases q1
    · have := M.find_mem q2
      exact List.mem_map.2 ⟨x, this.1, this.2⟩
  have h2 : (xs.map (·.fid)).length ≤ (es.toList.map keyI).length := nodup_le (rs_nodup hr) fun k hkm => by
    obtain ⟨x, hx, rfl⟩ := List.mem_map.1 hkm
    rcases ha x.fid with ⟨_, q2⟩ | ⟨v, y, q1, _, _⟩
    · exact absurd q2 (by
        intro hf
        unfold M.find at hf
        rw [List.find?_eq_none] at hf
        exact hf x hx (by simp))
    · obtain ⟨e, he, h3, h4⟩ := hh.all _ _ q1
      refine List.mem_map.2 ⟨e, he, ?_⟩
      unfold keyI; rw [h3]
  simp only [List.length_map] at h1 h2
  simp at h1 h2
  omega
/-- a node's map; a map of a tree; a node -/
def IsMp (xs : List M.Nd) : Value → World → Prop := fun v W => ∃ b, v = .map (some b) ∧ TMap W b xs
theorem isMp_below {xs : List M.Nd} {v : Value} {W W' : World} (hb : Below W.heap.size W W') (h : IsMp xs v W) : IsMp xs v W' := by
  obtain ⟨b, e, ht⟩ := h
  exact ⟨b, e, ht.below (Nat.le_refl _) hb⟩
def IsNd (x : M.Nd) : Value → World → Prop := fun v W => ∃ v' : NV, v = v'.val ∧ Cont W v' x
theorem isNd_below {x : M.Nd} {v : Value} {W W' : World} (hb : Below W.heap.size W W') (h : IsNd x v W) : IsNd x v W' := by
  obtain ⟨v', e, hc⟩ := h
  exact ⟨v', e, hc.below (Nat.le_refl _) hb⟩
/-- what the reference's Apply answers -/
def AppliedM (w : World) (spec : Int × List M.Nd) (e : Ending) (w' : World) : Prop :=
  Below w.heap.size w w' ∧ ∃ m, e = .returned (.tuple #[.map m, .int .i64 spec.1]) ∧ ((spec.1 = 0 ∧ ∃ bm, m = some bm ∧ TMap w' bm spec.2) ∨ (spec.1 ≠ 0 ∧ m = none))
theorem AppliedM.no {w w' : World} {s : Int × List M.Nd} {k : Int} (h : s.1 = k) (hk : k ≠ 0) (hb : Below w.heap.size w w') : AppliedM w s (.returned (.tuple #[.map none, .int .i64 k])) w' := by
  subst h; exact ⟨hb, none, rfl, .inr ⟨hk, rfl⟩⟩
theorem AppliedM.yes {w w' : World} {s : Int × List M.Nd} {ys : List M.Nd} {bm : Nat} (h : s = (0, ys)) (ht : TMap w' bm ys) (hb : Below w.heap.size w w') : AppliedM w s (.returned (.tuple #[.map (some bm), .int .i64 0])) w' := by
  subst h; exact ⟨hb, some bm, rfl, .inl ⟨rfl, bm, rfl, ht⟩⟩
/-- an act in a box, and a version -/
def ApW (w : World) (a : AV) (ver : Int) (W : World) : Prop := Below w.heap.size w W ∧ BoxA W w.heap.size a ∧ W.heap[w.heap.size + 1]? = some (.cells #[.int .i64 ver] 3 (0, 0))
theorem apw_start (w : World) (a : AV) (ver : Int) : ∀ W, W = (w.alloc (.cells #[.int .i64 a.kind, .int .i64 a.fid, .int .i64 a.dir, .string a.name, .int .i64 a.to, .string a.toName, .slice a.dA a.dn a.dc] 43)).alloc (.cells #[.int .i64 ver] 3) → ApW w a ver W := by
  rintro W rfl
  refine ⟨((Below.refl _ _).alloc (Nat.le_refl _) _).alloc (by simp) _, (BoxA.new w a).alloc _, ?_⟩
  have := heap_alloc_new (w.alloc (.cells #[.int .i64 a.kind, .int .i64 a.fid, .int .i64 a.dir, .string a.name, .int .i64 a.to, .string a.toName, .slice a.dA a.dn a.dc] 43)) (.cells #[.int .i64 ver] 3)
  simpa using this
theorem ApW.next {w W W' : World} {a : AV} {ver : Int} (h : ApW w a ver W) (hb : Below W.heap.size W W') : ApW w a ver W' := by
  have hz : w.heap.size + 1 < W.heap.size := lt_of_block h.2.2
  exact ⟨h.1.trans (hb.mono h.1.size), h.2.1.below hb (lt_of_block h.2.1), by rw [hb.block _ hz]; exact h.2.2⟩
theorem ApW.ver {w W : World} {a : AV} {ver : Int} (h : ApW w a ver W) : W.cell? ⟨w.heap.size + 1, 0, none⟩ = some (.int .i64 ver) := by simp [World.cell?, h.2.2]
end Go.Proofs.Ytkhifljgocopoac
/-
  WHAT SINGLE OPERATIONS DO, further: an act in a box, a pair's parts (for regions that draw their order).
-/
namespace Go.Proofs.Ytkhifljgocopoac
open Go.RowKit

section
variable {w : World} {d : Option Tmp} {ty : TypeId} {pos : String} {af : Array Edge} {g : Option (Nat × Bool)} {x y : Operand}
theorem run_loadAb {ρ : Operand → Value} {s : Nat} {v : AV} (hx : ρ x = .pointer (some ⟨s, 0, none⟩)) (h : BoxA w s v) : (execOp ρ ⟨d, .load 43 x, ty, pos, af, g⟩).run Try.prog w = .ok (.value v.val) w := by
  obtain ⟨b0, b1, b2, b3, b4, b5, b6, bf, bz⟩ := h.facts
  simp [execOp, hx, go_sem, b0, b1, b2, b3, b4, b5, b6]
theorem run_lenF {ρ : Operand → Value} {A : Option Addr} {n c : Nat} {t : TypeId} (h : Try.prog.underlying t = some (.slice (Try.prog.elem t))) (hx : ρ x = .slice A n c) : (execOp ρ ⟨d, .call { callee := .builtin .len, args := #[x], argTypes := #[t] }, ty, pos, af, g⟩).run Try.prog w = .ok (.value (.int .i64 (n : Int))) w := by
  have hl := run_len_slice (P := Try.prog) (w := w) t ty A n c h
  clear h
  simp [hx, go_sem, hl]
theorem run_ext0 {ρ : Operand → Value} {u v : Value} (hx : ρ x = .tuple #[u, v]) : (execOp ρ ⟨d, .extract x 0, ty, pos, af, g⟩).run Try.prog w = .ok (.value u) w := by
  simp [execOp, hx, go_sem]
theorem run_ext1 {ρ : Operand → Value} {u v : Value} (hx : ρ x = .tuple #[u, v]) : (execOp ρ ⟨d, .extract x 1, ty, pos, af, g⟩).run Try.prog w = .ok (.value v) w := by
  simp [execOp, hx, go_sem]
end
/-- what an act comes to, as a map and an error; the map of it -/
def IsAm (spec : Int × List M.Nd) : Value → World → Prop := fun v W => ∃ m, v = .tuple #[.map m, .int .i64 spec.1] ∧ ((spec.1 = 0 ∧ ∃ bm, m = some bm ∧ TMap W bm spec.2) ∨ (spec.1 ≠ 0 ∧ m = none))
def IsAm0 (spec : Int × List M.Nd) : Value → World → Prop := fun v W => ∃ m, v = .map m ∧ ((spec.1 = 0 ∧ ∃ bm, m = some bm ∧ TMap W bm spec.2) ∨ (spec.1 ≠ 0 ∧ m = none))
theorem am_below {spec : Int × List M.Nd} {m : Option Nat} {W W' : World} (hb : Below W.heap.size W W') (h : (spec.1 = 0 ∧ ∃ bm, m = some bm ∧ TMap W bm spec.2) ∨ (spec.1 ≠ 0 ∧ m = none)) : (spec.1 = 0 ∧ ∃ bm, m = some bm ∧ TMap W' bm spec.2) ∨ (spec.1 ≠ 0 ∧ m = none) :=
  h.imp (fun ⟨h0, bm, e, ht⟩ => ⟨h0, bm, e, ht.below (Nat.le_refl _) hb⟩) id
theorem isAm_below {spec : Int × List M.Nd} {v : Value} {W W' : World} (hb : Below W.heap.size W W') (h : IsAm spec v W) : IsAm spec v W' := by
  obtain ⟨m, e, h⟩ := h
  exact ⟨m, e, am_below hb h⟩
theorem isAm0_below {spec : Int × List M.Nd} {v : Value} {W W' : World} (hb : Below W.heap.size W W') (h : IsAm0 spec v W) : IsAm0 spec v W' := by
  obtain ⟨m, e, h⟩ := h
  exact ⟨m, e, am_below hb h⟩
/-- an act's copy -/
def IsAc (y : M.Act) : Value → World → Prop := fun v W => ∃ av : AV, v = AV.val av ∧ ContA W av y
theorem isAc_below {y : M.Act} {v : Value} {W W' : World} (hb : Below W.heap.size W W') (h : IsAc y v W) : IsAc y v W' := by
  obtain ⟨av, e, h3⟩ := h
  exact ⟨av, e, h3.below (Nat.le_refl _) hb⟩
/-- a list of fids that many -/
def IsFn (n : Nat) : Value → World → Prop := fun v _ => ∃ (A : Option Addr) (c : Nat), v = .slice A n c
theorem bring_nil {xs : List M.Nd} {a : M.Act} {v : Int} (h : (M.bringS xs a v).1 ≠ 0) : (M.bringS xs a v).2 = [] := by
  revert h
  unfold M.bringS
  split
  · intro _; rfl
  · split
    · intro _; rfl
    · split
      · intro _; rfl
      · split
        · intro _; rfl
        · intro h; exact absurd rfl h
theorem store_nil {xs : List M.Nd} {a : M.Act} {v : Int} (h : (M.storeS xs a v).1 ≠ 0) : (M.storeS xs a v).2 = [] := by
  revert h
  unfold M.storeS
  split
  · intro _; rfl
  · split
    · intro _; rfl
    · split
      · intro _; rfl
      · intro h; exact absurd rfl h
theorem remove_nil {xs : List M.Nd} {a : M.Act} {v : Int} (h : (M.removeS xs a v).1 ≠ 0) : (M.removeS xs a v).2 = [] := by
  revert h
  unfold M.removeS
  split
  · intro _; rfl
  · split
    · intro _; rfl
    · split
      · intro _; rfl
      · intro h; exact absurd rfl h
theorem rename_nil {xs : List M.Nd} {a : M.Act} {v : Int} (h : (M.renameS xs a v).1 ≠ 0) : (M.renameS xs a v).2 = [] := by
  revert h
  unfold M.renameS
  split
  · intro _; rfl
  · split
    · intro _; rfl
    · split
      · intro _; rfl
      · split
        · intro _; rfl
        · split
          · intro _; rfl
          · intro h; exact absurd rfl h
theorem apply_nil {xs : List M.Nd} {a : M.Act} {v : Int} (h : (M.applyS xs a v).1 ≠ 0) : (M.applyS xs a v).2 = [] := by
  revert h
  unfold M.applyS
  split
  · exact bring_nil
  · split
    · exact store_nil
    · split
      · exact remove_nil
      · split
        · exact rename_nil
        · intro _; rfl
end Go.Proofs.Ytkhifljgocopoac
/-
  AN ACT IS STORED, cell by cell.
-/
namespace Go.Proofs.Ytkhifljgocopoac
open Go.RowKit

/-- an act is stored, cell by cell; a record -/
abbrev put7 (w : World) (s o : Nat) (a : AV) : World :=
  ((((((w.setCell ⟨s, o, none⟩ (.int .i64 a.kind)).setCell ⟨s, o + 1, none⟩ (.int .i64 a.fid)).setCell ⟨s, o + 2, none⟩ (.int .i64 a.dir)).setCell ⟨s, o + 3, none⟩ (.string a.name)).setCell ⟨s, o + 4, none⟩ (.int .i64 a.to)).setCell ⟨s, o + 5, none⟩ (.string a.toName)).setCell ⟨s, o + 6, none⟩ (.slice a.dA a.dn a.dc)
theorem put7_below {B : Nat} {a w : World} (h : Below B a w) {s : Nat} (hs : B ≤ s) (o : Nat) (v : AV) : Below B a (put7 w s o v) :=
  ((((((h.setCell (by exact hs) _).setCell (by exact hs) _).setCell (by exact hs) _).setCell (by exact hs) _).setCell (by exact hs) _).setCell (by exact hs) _).setCell (by exact hs) _
theorem put7_own {w : World} {B : Nat} {e : TypeId} {k : Nat} {v : Value} {n : Nat} {xs : List Value} (h : w.ownsRow B e k v n xs) {s : Nat} (hs : s < B) (o : Nat) (x : AV) : (put7 w s o x).ownsRow B e k v n xs :=
  ownsRow_setCell_below (ownsRow_setCell_below (ownsRow_setCell_below (ownsRow_setCell_below (ownsRow_setCell_below (ownsRow_setCell_below (ownsRow_setCell_below h (by exact hs) _) (by exact hs) _) (by exact hs) _) (by exact hs) _) (by exact hs) _) (by exact hs) _) (by exact hs) _
theorem boxA_set1 {w : World} {s : Nat} {a : AV} (h : BoxA w s a) (k : Int) : BoxA (w.setCell ⟨s, 1, none⟩ (.int .i64 k)) s ⟨a.kind, k, a.dir, a.name, a.to, a.toName, a.dA, a.dn, a.dc⟩ := by
  unfold BoxA at h ⊢; rw [heap_setCell_same _ _ _ _ _ _ h]; rfl
theorem boxA_set2 {w : World} {s : Nat} {a : AV} (h : BoxA w s a) (k : Int) : BoxA (w.setCell ⟨s, 2, none⟩ (.int .i64 k)) s ⟨a.kind, a.fid, k, a.name, a.to, a.toName, a.dA, a.dn, a.dc⟩ := by
  unfold BoxA at h ⊢; rw [heap_setCell_same _ _ _ _ _ _ h]; rfl
theorem boxA_set4 {w : World} {s : Nat} {a : AV} (h : BoxA w s a) (k : Int) : BoxA (w.setCell ⟨s, 4, none⟩ (.int .i64 k)) s ⟨a.kind, a.fid, a.dir, a.name, k, a.toName, a.dA, a.dn, a.dc⟩ := by
  unfold BoxA at h ⊢; rw [heap_setCell_same _ _ _ _ _ _ h]; rfl
set_option maxHeartbeats 2000000 in
theorem put7_box {w : World} {s : Nat} {v : AV} (h : BoxA w s v) (x : AV) : BoxA (put7 w s 0 x) s x := by
  unfold BoxA at h ⊢
  have e0 := heap_setCell_same w s 0 _ 43 (.int .i64 x.kind) h
  have e1 := heap_setCell_same _ s 1 _ 43 (.int .i64 x.fid) e0
  have e2 := heap_setCell_same _ s 2 _ 43 (.int .i64 x.dir) e1
  have e3 := heap_setCell_same _ s 3 _ 43 (.string x.name) e2
  have e4 := heap_setCell_same _ s 4 _ 43 (.int .i64 x.to) e3
  have e5 := heap_setCell_same _ s 5 _ 43 (.string x.toName) e4
  exact heap_setCell_same _ s 6 _ 43 (.slice x.dA x.dn x.dc) e5
theorem put7_other {w : World} {s t : Nat} (ht : t ≠ s) (o : Nat) (x : AV) : (put7 w s o x).heap[t]? = w.heap[t]? := by
  have h : ∀ (W : World) (k : Nat) (u : Value), (W.setCell ⟨s, k, none⟩ u).heap[t]? = W.heap[t]? := fun W k u => Below.heap_setCell _ _ _ _ (by exact ht)
  simp only [put7, h]
end Go.Proofs.Ytkhifljgocopoac
