/- TEXTS LAID TOGETHER: Refd, Queue, Rwithin, Actg, Mathf -/
import Derived.Test.YtlegjdlmcphhlaaPart8
import Derived.Deep.Cut
import Derived.Deep.LoopGhost
import Derived.Test.YtlegjdlmcphhlaaPart7
import Derived.Test.YtlegjdlmcphhlaaPart6
/-
  THE REFERENCE's Enter.
-/
namespace Go.Proofs.Ytlegjdlmcphhlaa
open Go.RowKit

/-- has the new entry its place already? what is there so far -/
def isIn (s : ByteArray) (l : List (ByteArray × Int)) : Bool := l.any fun e => M.ltB s e.1
def sofar (e0 : ByteArray × Int) (l : List (ByteArray × Int)) : List (ByteArray × Int) := if isIn e0.1 l then M.putE l e0 else l
theorem isIn_no {s : ByteArray} {l : List (ByteArray × Int)} (h : isIn s l = false) : ∀ e ∈ l, M.ltB s e.1 = false := by
  unfold isIn at h
  rw [List.any_eq_false] at h
  intro e he
  simpa using h e he
theorem low_all {s : ByteArray} {l : List (ByteArray × Int)} (h : isIn s l = false) (hne : ∀ e ∈ l, e.1 ≠ s) : ∀ e ∈ l, M.ltB e.1 s = true := by
  intro e he
  cases hl : M.ltB e.1 s
  · exact absurd (M.ordB.tri _ _ hl (isIn_no h e he)) (hne e he)
  · rfl
theorem putE_low {e0 : ByteArray × Int} {l : List (ByteArray × Int)} (h : isIn e0.1 l = false) (hne : ∀ e ∈ l, e.1 ≠ e0.1) : M.putE l e0 = l ++ [e0] := by
  unfold M.putE M.put
  rw [List.filter_eq_self.2 (low_all h hne), List.filter_eq_nil_iff.2 (fun e he => by rw [isIn_no h e he]; simp)]
theorem isIn_snoc (s : ByteArray) (l : List (ByteArray × Int)) (e : ByteArray × Int) : isIn s (l ++ [e]) = (isIn s l || M.ltB s e.1) := by
  unfold isIn; rw [List.any_append]; simp
theorem rs_last {l : List (ByteArray × Int)} {e : ByteArray × Int} (hr : M.RsE (l ++ [e])) {s : ByteArray} (h : isIn s l = true) : M.ltB s e.1 = true := by
  unfold isIn at h
  rw [List.any_eq_true] at h
  obtain ⟨y, hy, hsy⟩ := h
  have hp : M.Rs M.ltB ((l ++ [e]).map (·.1)) := hr
  unfold M.Rs at hp
  rw [List.map_append, List.pairwise_append] at hp
  exact M.ordB.tra _ _ _ hsy (hp.2.2 y.1 (List.mem_map.2 ⟨y, hy, rfl⟩) e.1 (by simp))
theorem sofar_first {e0 e : ByteArray × Int} {l : List (ByteArray × Int)} (h : isIn e0.1 l = false) (hne : ∀ e ∈ l, e.1 ≠ e0.1) (hl : M.ltB e0.1 e.1 = true) : sofar e0 (l ++ [e]) = l ++ [e0] ++ [e] := by
  unfold sofar
  rw [isIn_snoc, h, hl]
  simp only [Bool.false_or, if_true]
  unfold M.putE M.put
  have hel : M.ltB e.1 e0.1 = false := by
    cases hx : M.ltB e.1 e0.1
    · rfl
    · have := M.ordB.tra _ _ _ hx hl; rw [M.ordB.irr] at this; cases this
  have hL : l.filter (fun y => M.ltB y.1 e0.1) = l := List.filter_eq_self.2 (low_all h hne)
  have hR : l.filter (fun y => M.ltB e0.1 y.1) = [] := List.filter_eq_nil_iff.2 (fun e he => by rw [isIn_no h e he]; simp)
  rw [List.filter_append, List.filter_append, hL, hR]
  simp [hel, hl]
theorem sofar_low {e0 e : ByteArray × Int} {l : List (ByteArray × Int)} (h : isIn e0.1 l = false) (hl : M.ltB e0.1 e.1 = false) : sofar e0 (l ++ [e]) = l ++ [e] := by
  unfold sofar
  rw [isIn_snoc, h, hl]
  rfl
theorem sofar_then {e0 e : ByteArray × Int} {l : List (ByteArray × Int)} (h : isIn e0.1 l = true) (hr : M.RsE (l ++ [e])) : sofar e0 (l ++ [e]) = sofar e0 l ++ [e] := by
  have hl := rs_last hr h
  have hel : M.ltB e.1 e0.1 = false := by
    cases hx : M.ltB e.1 e0.1
    · rfl
    · have := M.ordB.tra _ _ _ hx hl; rw [M.ordB.irr] at this; cases this
  unfold sofar
  rw [isIn_snoc, h]
  simp only [Bool.true_or, if_true]
  unfold M.putE M.put
  rw [List.filter_append, List.filter_append]
  simp [hel, hl]
theorem putE_drop (es : List (ByteArray × Int)) (e0 : ByteArray × Int) : M.putE (M.dropE es e0.1) e0 = M.putE es e0 := by
  unfold M.putE M.put M.dropE
  rw [List.filter_filter, List.filter_filter]
  have h1 : ∀ y : ByteArray × Int, (M.ltB y.1 e0.1 && !decide (y.1 = e0.1)) = M.ltB y.1 e0.1 := fun y => by
    by_cases h : y.1 = e0.1
    · rw [h, M.ordB.irr]; rfl
    · simp [h]
  have h2 : ∀ y : ByteArray × Int, (M.ltB e0.1 y.1 && !decide (y.1 = e0.1)) = M.ltB e0.1 y.1 := fun y => by
    by_cases h : y.1 = e0.1
    · rw [h, M.ordB.irr]; rfl
    · simp [h]
  simp only [h1, h2]
theorem drop_ne (es : List (ByteArray × Int)) (s : ByteArray) : ∀ e ∈ M.dropE es s, e.1 ≠ s := by
  intro e he
  have := (List.mem_filter.1 he).2
  simpa using this
theorem rs_dropE {es : List (ByteArray × Int)} (s : ByteArray) (h : M.RsE es) : M.RsE (M.dropE es s) := M.rs_sub h (List.filter_sublist.map _)
theorem rs_takeE {es : List (ByteArray × Int)} (k : Nat) (h : M.RsE es) : M.RsE (es.take k) := M.rs_sub h ((List.take_sublist k es).map _)

/-- the entry at hand stays where it is -/
theorem box2_kept {w0 : World} {es : List (ByteArray × Int)} {A : Option Addr} {m c : Nat} {wr w4 : World} {e : ByteArray × Int} {o : Obj} (h : Keep w0 es A m c wr)
    (hg : ((wr.alloc (.cells #[.string e.1, .int .i64 e.2] 72)).alloc o).grownBy w4 (Value.slice A m c).ownBlock) : Box2 w4 wr.heap.size e := by
  have h0 : Box2 (wr.alloc (.cells #[.string e.1, .int .i64 e.2] 72)) wr.heap.size e := Box2.new wr e
  have h1 : Box2 ((wr.alloc (.cells #[.string e.1, .int .i64 e.2] 72)).alloc o) wr.heap.size e := by
    unfold Box2 at h0 ⊢
    rw [Below.heap_alloc _ _ _ (lt_of_block h0)]
    exact h0
  refine h1.grownO hg fun hx => ?_
  have := (h.1.lt wr.heap.size hx.symm).2
  omega

set_option maxHeartbeats 1000000 in
theorem refEnter_any (v : NV) (x : M.Nd) (s : ByteArray) (f : Int) (w : World) (hc : Cont w v x) (hr : M.RsE x.ents) (hs : Small x) (hs1 : (x.ents.length + 1) * 24 ≤ 140737488355328) :
    Calls Try.prog 27 #[v.val, .string s, .int .i64 f] w fun e w' => ∃ v' : NV, e = .returned v'.val ∧ Cont w' v' (withE x (M.putE x.ents (s, f))) ∧ Below w.heap.size w w' := by
  have hB0 : ∀ W : World, W = (w.alloc (.cells #[.int .i64 v.fid, .bool v.dir, .slice v.dA v.dn v.dc, .slice v.eA v.en v.ec, .int .i64 v.ver] 26)).alloc (.cells #[.int .i64 0, .bool false, .slice none 0 0, .slice none 0 0, .int .i64 0] 26) → Box W w.heap.size v ∧ Box W (w.heap.size + 1) NV.zero ∧ W.heap.size = w.heap.size + 2 ∧ Below w.heap.size w W := by
    rintro W rfl
    exact ⟨(Box.new w v).alloc _, by have := Box.new0 (w.alloc (.cells #[.int .i64 v.fid, .bool v.dir, .slice v.dA v.dn v.dc, .slice v.eA v.en v.ec, .int .i64 v.ver] 26)); simpa using this, by simp, ((Below.refl _ _).alloc (Nat.le_refl _) _).alloc (by simp) _⟩
  have HB0 : Hid _ := hB0
  have HC : Hid (Cont w v x ∧ Small x) := ⟨hc, hs⟩
  have HR : Hid (M.RsE (M.dropE x.ents s)) := rs_dropE s hr
  have hlen : (M.dropE x.ents s).length ≤ x.ents.length := List.length_filter_le _ _
  obtain ⟨i58, hi58, hz58, hs58, hb58⟩ := info_parts info58
  clear hB0 hc hs hr
  go_enter Try.func27, Try.ntmps27
  go_wp2_with (fail)
  obtain ⟨q0, q1, q2, q3⟩ := HB0.out _ rfl
  refine (refLeave_own v x s _ (HC.out.1.below (Nat.le_refl _) q3) HC.out.2).mono ?_
  rintro e w1 ⟨A1, m1, c1, rfl, ho1, hb1⟩
  have hz1 := hb1.size
  rw [q2] at hz1 hb1 ho1
  have HX1 : Hid (Box w1 w.heap.size v) := q0.below hb1 (by omega)
  have HX2 : Hid (Box w1 (w.heap.size + 1) NV.zero ∧ Below w.heap.size w w1 ∧ w1.ownsRow (w.heap.size + 2) 72 2 (.slice A1 m1 c1) m1 ((M.dropE x.ents s).flatMap entCells)) := ⟨q1.below hb1 (by omega), q3.trans (hb1.mono (by omega)), ho1⟩
  have HL : Hid (m1 = (M.dropE x.ents s).length) := own_len ent_len (by decide) ho1
  have hen : (m1 + 1) * 24 ≤ 140737488355328 := by have := HL.out; omega
  clear q0 q1 q2 q3 HB0 hb1 ho1 hlen
  obtain ⟨p0, p1, p2, p3, p4, pf, pz⟩ := HX1.out.facts
  go_upto_region 2 with (fail)
  have H0 : ∀ W : World, W = put5 w1 w.heap.size 0 ⟨v.fid, v.dir, v.dA, v.dn, v.dc, A1, m1, c1, v.ver⟩ → Hid (Box W w.heap.size ⟨v.fid, v.dir, v.dA, v.dn, v.dc, A1, m1, c1, v.ver⟩ ∧ Box W (w.heap.size + 1) NV.zero ∧ Below w.heap.size w W ∧ Ents W A1 m1 (M.dropE x.ents s) ∧ w.heap.size + 2 ≤ W.heap.size) := by
    rintro W rfl
    exact ⟨put5_box HX1.out _, put5_box_other HX2.out.1 (by omega) 0 _, put5_below HX2.out.2.1 (Nat.le_refl _) _ _, Row.ofOwn ent_len (by decide) (put5_own HX2.out.2.2 (by omega) _ _), by simp [put5, World.setCell]; omega⟩
  obtain ⟨W1, hW1⟩ : ∃ W, W = put5 w1 w.heap.size 0 ⟨v.fid, v.dir, v.dA, v.dn, v.dc, A1, m1, c1, v.ver⟩ := ⟨_, rfl⟩
  have HW := H0 W1 hW1
  rw [show ((((w1.setCell ⟨w.heap.size, 0, none⟩ (.int .i64 v.fid)).setCell ⟨w.heap.size, 1, none⟩ (.bool v.dir)).setCell ⟨w.heap.size, 2, none⟩ (.slice v.dA v.dn v.dc)).setCell ⟨w.heap.size, 3, none⟩ (.slice A1 m1 c1)).setCell ⟨w.heap.size, 4, none⟩ (.int .i64 v.ver) = W1 from hW1.symm]
  clear H0 hW1 HX1 HX2 p0 p1 p2 p3 p4 pf pz hz1
  obtain ⟨p0, p1, p2, p3, p4, pf, pz⟩ := HW.out.1.facts
  go_wp2
  go_loopw [7, 8, 17] (fun l d i wr => ∃ (k m c : Nat) (A : Option Addr), k ≤ m1 ∧ i = .int .i64 k ∧ l = .slice A m c ∧ d = .bool (isIn s ((M.dropE x.ents s).take k)) ∧ m ≤ k + (isIn s ((M.dropE x.ents s).take k)).toNat ∧ Keep W1 (sofar (s, f) ((M.dropE x.ents s).take k)) A m c wr) (fun _ _ i _ => m1 - (intOf i).toNat)
  case atStart => exact ⟨0, 0, 0, none, Nat.zero_le _, rfl, rfl, rfl, Nat.le_refl _, by rw [List.take_zero]; exact Keep.start W1⟩
  case round =>
    obtain ⟨k, m, c, A, hk, rfl, rfl, rfl, hmk, hkp⟩ := hrel
    have HK : Hid (Keep W1 (sofar (s, f) ((M.dropE x.ents s).take k)) A m c wr) := hkp
    have HBX : Hid (Box wr w.heap.size ⟨v.fid, v.dir, v.dA, v.dn, v.dc, A1, m1, c1, v.ver⟩ ∧ Box wr (w.heap.size + 1) NV.zero ∧ Below w.heap.size w wr ∧ Ents wr A1 m1 (M.dropE x.ents s)) := ⟨HW.out.1.below hkp.2 (by have := HW.out.2.2.2.2; omega), HW.out.2.1.below hkp.2 (by have := HW.out.2.2.2.2; omega), HW.out.2.2.1.trans (hkp.2.mono (by have := HW.out.2.2.2.2; omega)), HW.out.2.2.2.1.below (Nat.le_refl _) hkp.2⟩
    clear hkp p0 p1 p2 p3 p4 pf pz
    obtain ⟨p0, p1, p2, p3, p4, pf, pz⟩ := HBX.out.1.facts
    obtain ⟨z0, z1, z2, z3, z4, zf, zz⟩ := HBX.out.2.1.facts
    by_cases hlt : k < m1
    · obtain ⟨g, o, ⟨nm, fd⟩, ha, _, hak, a0, a1⟩ := Ents.at HBX.out.2.2.2 hlt
      have HA : Hid ((M.dropE x.ents s)[k]? = some (nm, fd)) := hak
      have HNE : Hid (∀ e ∈ (M.dropE x.ents s).take k, e.1 ≠ s) := fun e he => drop_ne _ s e (List.mem_of_mem_take he)
      have HRK : Hid (M.RsE ((M.dropE x.ents s).take k ++ [(nm, fd)])) := by have := rs_takeE (k + 1) HR.out; rw [take_step hak] at this; exact this
      subst ha
      dsimp only at a0 a1
      have hkn : (k : Int) < (m1 : Int) := by omega
      have hk0 : (0 : Int) ≤ (k : Int) := by omega
      clear hak p0 p1 p2 p3 p4 z0 z1 z2 z3 z4
      cases hd : isIn s ((M.dropE x.ents s).take k)
      · rw [hd] at hmk
        simp only [Bool.toNat_false, Nat.add_zero] at hmk
        have HD : Hid (isIn s ((M.dropE x.ents s).take k) = false) := hd
        have HK0 : Hid (Keep W1 ((M.dropE x.ents s).take k) A m c wr) := by have := HK.out; unfold sofar at this; rw [show ((s, f) : ByteArray × Int).1 = s from rfl, hd] at this; exact this
        clear hd HK
        have hnm : nm ≠ s := drop_ne _ s (nm, fd) (List.mem_of_getElem? HA.out)
        have q2 : (nm.toList == s.toList) = false := by rw [raw_eq]; exact decide_eq_false hnm
        cases hlb : M.ltB s nm
        · have q : Op.bytesLess nm.toList s.toList = true := by
            cases hx : M.ltB nm s
            · exact absurd (M.ordB.tri _ _ hx hlb) hnm
            · exact hx
          have HLB : Hid (M.ltB s nm = false) := hlb
          clear hlb hnm
          go_wp2_with (at_builtin; refine wpList_append_row _ (by rfl) (.tmp 35) (.tmp 37) 24 (by rfl) W1.heap.size 72 i58 (.agg #[.string ByteArray.empty, .int .i64 0]) 24 Try.underlying24 hi58 hz58 hs58 hb58 rfl (by decide) _ m _ (by rfl) ((HK0.out.alloc _).alloc _).1 _ 1 1 [(nm, fd)] (by rfl) (row_new2 wr _ (nm, fd)) ent_len ent_one (by unfold maxLen; omega) (by omega) ((HK0.out.alloc _).alloc _).2.size ?_; intro v5 w5 hown5 hg5; obtain ⟨A5, c5, rfl, _, _⟩ := own_form hown5; have HK5 : Hid (Keep W1 (((M.dropE x.ents s).take k) ++ [(nm, fd)]) A5 (m + 1) c5 w5) := ((HK0.out.alloc _).alloc _).app hg5 hown5; clear hown5 hg5)
          go_roundw
          case rel => exact ⟨k + 1, m + 1, c5, A5, by omega, by go_num, rfl, by rw [take_step HA.out, isIn_snoc, HD.out, HLB.out]; rfl, by omega, by rw [take_step HA.out, sofar_low HD.out HLB.out]; exact HK5.out⟩
          case measure => simp [intOf]; omega
        · have q : Op.bytesLess nm.toList s.toList = false := by
            cases hx : M.ltB nm s
            · exact hx
            · have := M.ordB.tra _ _ _ hx hlb; rw [M.ordB.irr] at this; cases this
          have HLB : Hid (M.ltB s nm = true) := hlb
          have HM2 : Hid (m + 1 + 1 ≤ maxLen ∧ (m + 1 + 1) * 24 ≤ 140737488355328) := ⟨by unfold maxLen; omega, Nat.le_trans (Nat.mul_le_mul_right 24 (show m + 1 + 1 ≤ m1 + 1 by omega)) hen⟩
          clear hlb hnm
          go_wp2_with (first
            | (at_builtin; have hk4 := HK4.out; clear hk4; refine wpList_append_row _ (by rfl) (.tmp 35) (.tmp 37) 24 (by rfl) W1.heap.size 72 i58 (.agg #[.string ByteArray.empty, .int .i64 0]) 24 Try.underlying24 hi58 hz58 hs58 hb58 rfl (by decide) _ (m + 1) _ (by rfl) (HK4.out.alloc _).1 _ 1 1 [(nm, fd)] (by rfl) (row_new1 w4 (nm, fd)) ent_len ent_one HM2.out.1 HM2.out.2 (HK4.out.alloc _).2.size ?_; intro v5 w5 hown5 hg5; obtain ⟨A5, c5, rfl, _, _⟩ := own_form hown5; have HK5 : Hid (Keep W1 (((M.dropE x.ents s).take k) ++ [(s, f)] ++ [(nm, fd)]) A5 (m + 1 + 1) c5 w5) := (HK4.out.alloc _).app hg5 hown5; clear hown5 hg5)
            | (at_builtin; refine wpList_append_row _ (by rfl) (.tmp 29) (.tmp 33) 24 (by rfl) W1.heap.size 72 i58 (.agg #[.string ByteArray.empty, .int .i64 0]) 24 Try.underlying24 hi58 hz58 hs58 hb58 rfl (by decide) _ m _ (by rfl) ((HK0.out.alloc _).alloc _).1 _ 1 1 [(s, f)] (by rfl) (row_new2 wr _ (s, f)) ent_len ent_one (by unfold maxLen; omega) (by omega) ((HK0.out.alloc _).alloc _).2.size ?_; intro v4 w4 hown4 hg4; obtain ⟨A4, c4, rfl, -, -⟩ := own_form hown4; have HB4 : Hid (Box2 w4 wr.heap.size (nm, fd)) := box2_kept HK0.out hg4; have HK4 : Hid (Keep W1 (((M.dropE x.ents s).take k) ++ [(s, f)]) A4 (m + 1) c4 w4) := ((HK0.out.alloc _).alloc _).app hg4 hown4; clear hown4 hg4; obtain ⟨e0, e1, ef, ez⟩ := HB4.out.facts; dsimp only at e0 e1))
          go_roundw
          case rel => exact ⟨k + 1, m + 1 + 1, c5, A5, by omega, by go_num, rfl, by rw [take_step HA.out, isIn_snoc, HD.out, HLB.out]; rfl, by rw [take_step HA.out, isIn_snoc, HD.out, HLB.out]; simp; omega, by rw [take_step HA.out, sofar_first HD.out HNE.out HLB.out]; exact HK5.out⟩
          case measure => simp [intOf]; omega
      · rw [hd] at hmk
        simp only [Bool.toNat_true] at hmk
        have HD : Hid (isIn s ((M.dropE x.ents s).take k) = true) := hd
        clear hd
        go_wp2_with (at_builtin; refine wpList_append_row _ (by rfl) (.tmp 35) (.tmp 37) 24 (by rfl) W1.heap.size 72 i58 (.agg #[.string ByteArray.empty, .int .i64 0]) 24 Try.underlying24 hi58 hz58 hs58 hb58 rfl (by decide) _ m _ (by rfl) ((HK.out.alloc _).alloc _).1 _ 1 1 [(nm, fd)] (by rfl) (row_new2 wr _ (nm, fd)) ent_len ent_one (by unfold maxLen; omega) (by omega) ((HK.out.alloc _).alloc _).2.size ?_; intro v5 w5 hown5 hg5; obtain ⟨A5, c5, rfl, _, _⟩ := own_form hown5; have HK5 : Hid (Keep W1 (sofar (s, f) ((M.dropE x.ents s).take k) ++ [(nm, fd)]) A5 (m + 1) c5 w5) := ((HK.out.alloc _).alloc _).app hg5 hown5; clear hown5 hg5)
        go_roundw
        case rel => exact ⟨k + 1, m + 1, c5, A5, by omega, by go_num, rfl, by rw [take_step HA.out, isIn_snoc, HD.out]; rfl, by rw [take_step HA.out, isIn_snoc, HD.out]; simp; omega, by rw [take_step HA.out, sofar_then HD.out HRK.out]; exact HK5.out⟩
        case measure => simp [intOf]; omega
    · have HN : Hid ((M.dropE x.ents s).take k = M.dropE x.ents s) := by have := HL.out; show _ = _; exact List.take_of_length_le (by omega)
      cases hd : isIn s ((M.dropE x.ents s).take k)
      · rw [hd] at hmk
        have HD : Hid (isIn s (M.dropE x.ents s) = false) := by have := HN.out; rw [this] at hd; exact hd
        simp only [Bool.toNat_false, Nat.add_zero] at hmk
        have HK0 : Hid (Keep W1 (M.dropE x.ents s) A m c wr) := by have := HK.out; unfold sofar at this; rw [show ((s, f) : ByteArray × Int).1 = s from rfl, hd, HN.out] at this; exact this
        clear hd HK
        go_wp2_with (at_builtin; refine wpList_append_row _ (by rfl) (.tmp 42) (.tmp 46) 24 (by rfl) W1.heap.size 72 i58 (.agg #[.string ByteArray.empty, .int .i64 0]) 24 Try.underlying24 hi58 hz58 hs58 hb58 rfl (by decide) _ m _ (by rfl) (HK0.out.alloc _).1 _ 1 1 [(s, f)] (by rfl) (row_new1 wr (s, f)) ent_len ent_one (by unfold maxLen; omega) (by omega) (HK0.out.alloc _).2.size ?_; intro v5 w5 hown5 hg5; obtain ⟨A5, c5, rfl, _, _⟩ := own_form hown5; have HK5 : Hid (Keep W1 (M.dropE x.ents s ++ [(s, f)]) A5 (m + 1) c5 w5) := (HK0.out.alloc _).app hg5 hown5; clear hown5 hg5; have HBZ : Hid (Box w5 w.heap.size ⟨v.fid, v.dir, v.dA, v.dn, v.dc, A1, m1, c1, v.ver⟩ ∧ Box w5 (w.heap.size + 1) NV.zero ∧ Below w.heap.size w w5) := ⟨HW.out.1.below HK5.out.2 (by have := HW.out.2.2.2.2; omega), HW.out.2.1.below HK5.out.2 (by have := HW.out.2.2.2.2; omega), HW.out.2.2.1.trans (HK5.out.2.mono (by have := HW.out.2.2.2.2; omega))⟩; clear p0 p1 p2 p3 p4 pf pz z0 z1 z2 z3 z4 zf zz; obtain ⟨p0, p1, p2, p3, p4, pf, pz⟩ := HBZ.out.1.facts; obtain ⟨z0, z1, z2, z3, z4, zf, zz⟩ := HBZ.out.2.1.facts)
        have hkk := HK5.out
        rw [← putE_low (e0 := (s, f)) HD.out (drop_ne _ s), show M.putE (M.dropE x.ents s) (s, f) = M.putE x.ents (s, f) from putE_drop x.ents (s, f)] at hkk
        have hbr := put5_below (HBZ.out.2.2.setCell (p := ⟨w.heap.size, 3, none⟩) (Nat.le_refl _) (.slice A5 (m + 1) c5)) (s := w.heap.size + 1) (by omega) 0 ⟨v.fid, v.dir, v.dA, v.dn, v.dc, A5, m + 1, c5, v.ver⟩
        have hoe := put5_own (ownsRow_setCell_below hkk.1 (a := ⟨w.heap.size, 3, none⟩) (by show w.heap.size < _; have := HW.out.2.2.2.2; omega) (.slice A5 (m + 1) c5)) (s := w.heap.size + 1) (by have := HW.out.2.2.2.2; omega) 0 ⟨v.fid, v.dir, v.dA, v.dn, v.dc, A5, m + 1, c5, v.ver⟩
        exact bodyPost_ret (v := NV.val ⟨v.fid, v.dir, v.dA, v.dn, v.dc, A5, m + 1, c5, v.ver⟩) (by simp [results, Try.results27, go_sem, z0, z1, z2, z3, z4]) rfl ⟨⟨v.fid, v.dir, v.dA, v.dn, v.dc, A5, m + 1, c5, v.ver⟩, rfl, ⟨HC.out.1.1, HC.out.1.2.1, HC.out.1.2.2.1, HC.out.1.2.2.2.1.below (Nat.le_refl _) hbr, Row.ofOwn ent_len (by decide) hoe⟩, hbr⟩
      · have HKF : Hid (Keep W1 (M.putE x.ents (s, f)) A m c wr) := by have := HK.out; unfold sofar at this; rw [show ((s, f) : ByteArray × Int).1 = s from rfl, hd, HN.out, if_pos rfl] at this; rw [← putE_drop]; exact this
        clear hd HK
        go_wp2
        have hkk := HKF.out
        have hbr := put5_below (HBX.out.2.2.1.setCell (p := ⟨w.heap.size, 3, none⟩) (Nat.le_refl _) (.slice A m c)) (s := w.heap.size + 1) (by omega) 0 ⟨v.fid, v.dir, v.dA, v.dn, v.dc, A, m, c, v.ver⟩
        have hoe := put5_own (ownsRow_setCell_below hkk.1 (a := ⟨w.heap.size, 3, none⟩) (by show w.heap.size < _; have := HW.out.2.2.2.2; omega) (.slice A m c)) (s := w.heap.size + 1) (by have := HW.out.2.2.2.2; omega) 0 ⟨v.fid, v.dir, v.dA, v.dn, v.dc, A, m, c, v.ver⟩
        exact bodyPost_ret (v := NV.val ⟨v.fid, v.dir, v.dA, v.dn, v.dc, A, m, c, v.ver⟩) (by simp [results, Try.results27, go_sem, z0, z1, z2, z3, z4]) rfl ⟨⟨v.fid, v.dir, v.dA, v.dn, v.dc, A, m, c, v.ver⟩, rfl, ⟨HC.out.1.1, HC.out.1.2.1, HC.out.1.2.2.1, HC.out.1.2.2.2.1.below (Nat.le_refl _) hbr, Row.ofOwn ent_len (by decide) hoe⟩, hbr⟩
end Go.Proofs.Ytlegjdlmcphhlaa
/-
  A QUEUE OF NUMBERS in one's own memory: appended at its end, cut at its front.
-/
namespace Go.Proofs.Ytlegjdlmcphhlaa
open Go.RowKit
open Go.ChangeMaps (setBlock)

theorem cell_new1 (w : World) (g : Nat) (v : Value) (t : TypeId) (hg : g = w.heap.size) : ∀ j x, [v][j]? = some x → (w.alloc (.cells #[v] t)).cell? ((⟨g, 0, none⟩ : Addr).add j) = some x := by
  subst hg
  intro j x hj
  cases j with
  | succ j => cases hj
  | zero =>
    cases hj
    simp [Addr.add_lit]
/-- from off on in block g lie the numbers l, with room for c -/
def Que (w : World) (B g off c : Nat) (l : List Int) : Prop :=
  B ≤ g ∧ l.length ≤ c ∧ c ≤ maxLen ∧ ∃ cur : Array Value, w.heap[g]? = some (.cells cur 3 (0, 0)) ∧ off + c ≤ cur.size ∧ ∀ (j : Nat) f, l[j]? = some f → cur[off + j]? = some (.int .i64 f)
theorem Que.lt {w : World} {B g off c : Nat} {l : List Int} (h : Que w B g off c l) : g < w.heap.size := by
  obtain ⟨_, _, _, cur, hg, _⟩ := h
  exact lt_of_block hg
theorem Que.cell {w : World} {B g off c : Nat} {l : List Int} (h : Que w B g off c l) {j : Nat} {f : Int} (hj : l[j]? = some f) : w.cell? ⟨g, off + j, none⟩ = some (.int .i64 f) := by
  obtain ⟨_, _, _, cur, hg, _, hc⟩ := h
  have := hc j f hj
  simp [World.cell?, hg, this]
theorem Que.same {w w' : World} {B g off c : Nat} {l : List Int} (h : Que w B g off c l) (hb : w'.heap[g]? = w.heap[g]?) : Que w' B g off c l := by
  obtain ⟨h1, h2, h3, cur, hg, h4⟩ := h
  exact ⟨h1, h2, h3, cur, by rw [hb]; exact hg, h4⟩
theorem Que.alloc {w : World} {B g off c : Nat} {l : List Int} (h : Que w B g off c l) (o : Obj) : Que (w.alloc o) B g off c l := h.same (Below.heap_alloc w o g h.lt)
theorem Que.setBlock {w : World} {B g off c : Nat} {l : List Int} (h : Que w B g off c l) {b : Nat} (hb : g ≠ b) (o : Obj) : Que (setBlock w b o) B g off c l := h.same (setBlock_other hb)
theorem Que.tail1 {w : World} {B g off : Nat} {f : Int} {l : List Int} (h : Que w B g off 1 (f :: l)) : Que w B g off 0 l := by
  obtain ⟨h1, h2, h3, cur, hg, h4, h5⟩ := h
  have hl : l = [] := List.eq_nil_of_length_eq_zero (by have h : l.length + 1 ≤ 1 := h2; omega)
  subst hl
  exact ⟨h1, by simp, by unfold maxLen; omega, cur, hg, by omega, fun j f hj => by cases hj⟩
theorem Que.tail {w : World} {B g off c : Nat} {f : Int} {l : List Int} (h : Que w B g off c (f :: l)) : Que w B g (off + 1) (c - 1) l := by
  obtain ⟨h1, h2, h3, cur, hg, h4, h5⟩ := h
  simp at h2
  refine ⟨h1, by omega, by omega, cur, hg, by omega, fun j f hj => ?_⟩
  have := h5 (j + 1) f hj
  rw [show off + (j + 1) = off + 1 + j by omega] at this
  exact this
theorem que_new (w : World) (B : Nat) (f : Int) (hB : B ≤ w.heap.size) : Que (w.alloc (.cells #[.int .i64 f] 3)) B w.heap.size 0 1 [f] :=
  ⟨hB, by simp, by unfold maxLen; omega, #[.int .i64 f], heap_alloc_new w _, by simp, fun j q hj => by
    cases j with
    | succ j => cases hj
    | zero => cases hj; rfl⟩

section
variable {P : Program} (w : World)
theorem run_append_que (B : Nat) (t ty : TypeId) (i : TypeInfo) (ht : P.underlying t = some (.slice 3)) (hi : P.info? 3 = some i) (hz : i.zero = some (.int .i64 0)) (hsize : i.size = 1) (hby : i.bytes = 8)
    (g off c : Nat) (l : List Int) (hq : Que w B g off c l) (a : Addr) (k : Nat) (f : Int) (hnews : ∀ j u, [Value.int .i64 f][j]? = some u → w.cell? (a.add j) = some u)
    (hbytes : (l.length + 1) * 8 ≤ 140737488355328) (hB : B ≤ w.heap.size) :
    ∃ g' off' c' w', (Builtin.append_ #[t, t] ty #[.slice (some ⟨g, off, none⟩) l.length c, .slice (some a) 1 k]).run P w = .ok (.slice (some ⟨g', off', none⟩) (l.length + 1) c') w' ∧ Que w' B g' off' c' (l ++ [f]) ∧ w.grownBy w' (some g) := by
  obtain ⟨h1, h2, h3, cur, hg, h4, h5⟩ := hq
  by_cases hroom : l.length + 1 ≤ c
  · have hf := run_firstCells_some (P := P) w i.size 1 a 1 k [Value.int .i64 f] (by rw [hsize]; rfl) hnews
    have hst := run_storeCells_at P g (off + l.length) 3 [Value.int .i64 f] 0 cur w hg (by simp; omega) (fun u hu => by simp at hu; subst hu; rfl)
    simp only [Nat.add_zero] at hst
    refine ⟨g, off, c, w.setRow g (cur.toList.take (off + l.length) ++ [Value.int .i64 f] ++ cur.toList.drop (off + l.length + 1)).toArray, ?_, ⟨h1, by simp; omega, h3, _, setRow_heap w g cur _ 3 _ hg, ?_, ?_⟩, ⟨rfl, rfl, rfl, by simp, fun k _ hk => setRow_other w g k _ (fun e => hk (by simp [e]))⟩⟩
    · rw [hsize] at hf
      simp [Builtin.append_, run_underlying ht, sizeOf, typeInfo, hi, hsize, Builtin.lenOf, hroom, hf, Addr.add_lit, hst]
    · simp only [List.size_toArray, List.length_append, List.length_take, List.length_drop, Array.length_toList, List.length_singleton]
      omega
    · intro j q hj
      have hsz : cur.toList.length = cur.size := Array.length_toList
      have hcl : (cur.toList.take (off + l.length)).length = off + l.length := by rw [List.length_take, hsz]; omega
      rw [List.getElem?_toArray]
      rcases Nat.lt_or_ge j l.length with hjl | hjl
      · rw [List.getElem?_append_left hjl] at hj
        rw [List.append_assoc, List.getElem?_append_left (by rw [hcl]; omega), List.getElem?_take, if_pos (by omega), Array.getElem?_toList]
        exact h5 j q hj
      · rw [List.getElem?_append_right hjl] at hj
        have hj0 : j = l.length := by
          rcases Nat.eq_or_lt_of_le hjl with e | e
          · exact e.symm
          · rw [List.getElem?_eq_none (by simp; omega)] at hj; cases hj
        subst hj0
        rw [Nat.sub_self] at hj
        cases hj
        rw [List.append_assoc, List.getElem?_append_right (by rw [hcl]; omega), hcl, Nat.sub_self]
        rfl
  · have holds : ∀ j u, (l.map fun f => Value.int .i64 f)[j]? = some u → w.cell? ((⟨g, off, none⟩ : Addr).add j) = some u := by
      intro j u hj
      rw [List.getElem?_map] at hj
      cases hlj : l[j]? with
      | none => rw [hlj] at hj; cases hj
      | some q =>
        rw [hlj] at hj
        cases hj
        rw [Addr.add_lit]
        simp [World.cell?, hg, h5 j q hlj]
    have hr := run_append_grow (P := P) w t ty 3 i (.int .i64 0) ht hi hz ⟨g, off, none⟩ l.length c (l.map fun f => Value.int .i64 f) (by rw [hsize]; simp) holds a 1 k [.int .i64 f] (by rw [hsize]; rfl) hnews (by omega) (by omega) (growslice_fits (by omega) (by rw [hby]; exact hbytes))
    have hge := grownCap_ge w (l.length + 1) c 3
    have hcm : grownCap w (l.length + 1) c 3 ≤ maxLen := grownCap_le_maxLen w (l.length + 1) c 3 (by unfold maxLen; omega)
    refine ⟨_, _, _, _, hr, ⟨by simpa using hB, by simp; omega, hcm, _, heap_alloc_new w.drew _, ?_, ?_⟩, ⟨rfl, rfl, rfl, by simp, fun k hk _ => Below.heap_alloc w.drew _ k hk⟩⟩
    · simp only [Array.size_append, List.size_toArray, List.length_map, List.length_singleton, size_zeroCells]
      show 0 + _ ≤ _ + _ * (Value.cells (.int .i64 0)).size
      rw [show (Value.cells (.int .i64 0)).size = 1 from rfl]
      omega
    · intro j q hj
      rw [Nat.zero_add]
      have hjl : j < l.length + 1 := by
        have := (List.getElem?_eq_some_iff.1 hj).1
        simpa using this
      rw [Array.getElem?_append_left (by simp; omega)]
      have e : ((l.map fun f => Value.int .i64 f).toArray ++ [Value.int .i64 f].toArray) = ((l ++ [f]).map fun f => Value.int .i64 f).toArray := by simp
      rw [e, List.getElem?_toArray, List.getElem?_map, hj]
      rfl
theorem wpList_append_que {ops : Array Oper} {rest : List Oper} {o : Oper} {a : Act} {Q : Exit → Act → World → Prop} (hgd : o.guard = none) (s x : Operand) (t : TypeId)
    (ho : o.op = .call { callee := .builtin .append, args := #[s, x], argTypes := #[t, t] })
    (B : Nat) (i : TypeInfo) (ht : P.underlying t = some (.slice 3)) (hi : P.info? 3 = some i) (hz : i.zero = some (.int .i64 0)) (hsize : i.size = 1) (hby : i.bytes = 8)
    (g off c n : Nat) (l : List Int) (hn : n = l.length) (hs : a.eval s = .slice (some ⟨g, off, none⟩) n c) (hq : Que w B g off c l) (ad : Addr) (k : Nat) (f : Int) (hx : a.eval x = .slice (some ad) 1 k) (hnews : ∀ j u, [Value.int .i64 f][j]? = some u → w.cell? (ad.add j) = some u)
    (hbytes : (l.length + 1) * 8 ≤ 140737488355328) (hB : B ≤ w.heap.size)
    (h : ∀ g' off' c' w', Que w' B g' off' c' (l ++ [f]) → w.grownBy w' (some g) → wpList P ops Q rest (a.put o.dst (.slice (some ⟨g', off', none⟩) (n + 1) c')) w') : wpList P ops Q (o :: rest) a w := by
  subst hn
  refine wpList_plain hgd fun K hK => ?_
  obtain ⟨g', off', c', w', hr, h2, h3⟩ := run_append_que (P := P) w B t o.type i ht hi hz hsize hby g off c l hq ad k f hnews hbytes hB
  unfold Oper.wp execOp
  simp only [ho, resolve, invoke, builtin, Sem.run_bind, Sem.run_pure, Result.andThen_ok, List.map_toArray, List.map_cons, List.map_nil, hs, hx, hr]
  exact hK _ _ (h g' off' c' w' h2 h3)
end

/-- which were had -/
def hadF (H : List Int) : Int → Option Value := fun q => if q ∈ H then some (.bool true) else none
theorem hadF_add (H : List Int) (q : Int) : updF (hadF H) q (.bool true) = hadF (H ++ [q]) := by
  funext k
  unfold updF hadF
  by_cases h : k = q
  · subst h; simp
  · simp [h]
theorem hadF_ask (H : List Int) (q : Int) : (hadF H q).getD (.bool false) = .bool (decide (q ∈ H)) := by
  unfold hadF
  by_cases h : q ∈ H <;> simp [h]
end Go.Proofs.Ytlegjdlmcphhlaa
/-
  THE REFERENCE's Within: all that can be seen from a fid on.
-/
namespace Go.Proofs.Ytlegjdlmcphhlaa
open Go.RowKit
open Go.ChangeMaps (setBlock)

theorem len_le_of_nodup : ∀ {l m : List Int}, l.Nodup → (∀ x ∈ l, x ∈ m) → l.length ≤ m.length
  | [], _, _, _ => Nat.zero_le _
  | x :: l, m, hn, h => by
    rw [List.nodup_cons] at hn
    have hx : x ∈ m := h x List.mem_cons_self
    have ih := len_le_of_nodup (l := l) (m := m.erase x) hn.2 (fun y hy => by
      have hne : y ≠ x := fun e => hn.1 (e ▸ hy)
      exact (List.mem_erase_of_ne hne).2 (h y (List.mem_cons_of_mem _ hy)))
    have := List.length_erase_of_mem hx
    have := List.length_pos_of_mem hx
    rw [List.length_cons]
    omega
/-- the fids of all entries -/
def allF (xs : List M.Nd) : List Int := xs.flatMap fun x => x.ents.map (·.2)
/-- what the search keeps: those had, in turn; k of them are done -/
structure BI (xs : List M.Nd) (a : Int) (H : List Int) (k : Nat) : Prop where
  nd : H.Nodup
  ina : a ∈ H
  re : ∀ q ∈ H, M.Reach xs a q
  cl : ∀ (i : Nat) q x, i < k → H[i]? = some q → M.find xs q = some x → ∀ e ∈ x.ents, e.2 ∈ H
theorem BI.start (xs : List M.Nd) (a : Int) : BI xs a [a] 0 := ⟨by simp, by simp, fun q hq => by rw [List.mem_singleton.1 hq]; exact .refl, fun i q x hi => absurd hi (Nat.not_lt_zero _)⟩
theorem BI.len {xs : List M.Nd} {a : Int} {H : List Int} {k : Nat} (h : BI xs a H k) : H.length ≤ (allF xs).length + 1 := by
  have := len_le_of_nodup (m := a :: allF xs) h.nd (fun q hq => by
    have hr := h.re q hq
    cases hr with
    | refl => exact List.mem_cons_self
    | step _ hf he => exact List.mem_cons_of_mem _ (List.mem_flatMap.2 ⟨_, List.mem_of_find?_eq_some hf, List.mem_map.2 ⟨_, he, rfl⟩⟩))
  simpa using this
theorem BI.done {xs : List M.Nd} {a t : Int} {H : List Int} {k : Nat} (h : BI xs a H k) (hk : H.length ≤ k) : t ∈ H ↔ M.Reach xs a t := by
  refine ⟨h.re t, fun hr => ?_⟩
  induction hr with
  | refl => exact h.ina
  | step _ hf he ih =>
    obtain ⟨i, hi⟩ := List.getElem?_of_mem ih
    have := (List.getElem?_eq_some_iff.1 hi).1
    exact h.cl i _ _ (by omega) hi hf _ he
/-- one entry's fid is met -/
def meetH (H : List Int) (q : Int) : List Int := if q ∈ H then H else H ++ [q]
theorem meetH_pre (H : List Int) (q : Int) : ∃ S, meetH H q = H ++ S := by
  unfold meetH
  split
  · exact ⟨[], by simp⟩
  · exact ⟨[q], rfl⟩
theorem meetH_mem (H : List Int) (q : Int) : q ∈ meetH H q := by unfold meetH; split <;> simp_all
theorem foldH_pre : ∀ (ts : List Int) (H : List Int), ∃ S, ts.foldl meetH H = H ++ S
  | [], H => ⟨[], by simp⟩
  | t :: ts, H => by
    obtain ⟨S, hS⟩ := meetH_pre H t
    obtain ⟨R, hR⟩ := foldH_pre ts (meetH H t)
    exact ⟨S ++ R, by rw [List.foldl_cons, hR, hS, List.append_assoc]⟩
theorem foldH_mem : ∀ (ts : List Int) (H : List Int), ∀ t ∈ ts, t ∈ ts.foldl meetH H
  | [], _, _, h => by cases h
  | t :: ts, H, u, h => by
    rw [List.foldl_cons]
    rcases List.mem_cons.1 h with rfl | h
    · obtain ⟨R, hR⟩ := foldH_pre ts (meetH H u)
      rw [hR]; exact List.mem_append.2 (.inl (meetH_mem H u))
    · exact foldH_mem ts _ u h
theorem foldH_nd : ∀ (ts : List Int) (H : List Int), H.Nodup → (ts.foldl meetH H).Nodup
  | [], _, h => h
  | t :: ts, H, h => by
    rw [List.foldl_cons]
    refine foldH_nd ts _ ?_
    unfold meetH
    split
    · exact h
    · rename_i hn
      rw [List.nodup_append]
      exact ⟨h, by simp, fun x hx y hy e => by rw [List.mem_singleton.1 hy] at e; exact hn (e ▸ hx)⟩
theorem foldH_re {P : Int → Prop} : ∀ (ts : List Int) (H : List Int), (∀ q ∈ H, P q) → (∀ t ∈ ts, P t) → ∀ q ∈ ts.foldl meetH H, P q
  | [], _, h, _ => h
  | t :: ts, H, h, ht => by
    rw [List.foldl_cons]
    refine foldH_re ts _ (fun q hq => ?_) (fun u hu => ht u (List.mem_cons_of_mem _ hu))
    unfold meetH at hq
    split at hq
    · exact h q hq
    · rcases List.mem_append.1 hq with hq | hq
      · exact h q hq
      · rw [List.mem_singleton.1 hq]; exact ht t List.mem_cons_self
/-- one that was ahead is done -/
theorem BI.step {xs : List M.Nd} {a : Int} {H : List Int} {k : Nat} {q : Int} (h : BI xs a H k) (hq : H[k]? = some q) (es : List (ByteArray × Int)) (he : es = ((M.find xs q).map (·.ents)).getD []) (j : Nat) : BI xs a (((es.take j).map (·.2)).foldl meetH H) k ∧ BI xs a ((es.map (·.2)).foldl meetH H) (k + 1) := by
  have key : ∀ ts : List (ByteArray × Int), (∀ e ∈ ts, e ∈ es) → BI xs a ((ts.map (·.2)).foldl meetH H) k := by
    intro ts hts
    obtain ⟨S, hS⟩ := foldH_pre (ts.map (·.2)) H
    have hre : ∀ t ∈ ts.map (·.2), M.Reach xs a t := by
      intro t ht
      obtain ⟨e, he1, rfl⟩ := List.mem_map.1 ht
      have hee := hts e he1
      rw [he] at hee
      cases hf : M.find xs q with
      | none => rw [hf] at hee; cases hee
      | some x => rw [hf] at hee; exact .step (h.re q (List.mem_of_getElem? hq)) hf hee
    refine ⟨foldH_nd _ _ h.nd, by rw [hS]; exact List.mem_append.2 (.inl h.ina), foldH_re _ _ h.re hre, fun i p x hi hp hf e hex => ?_⟩
    have hil : i < H.length := by have := (List.getElem?_eq_some_iff.1 hq).1; omega
    rw [hS] at hp ⊢
    rw [List.getElem?_append_left hil] at hp
    exact List.mem_append.2 (.inl (h.cl i p x hi hp hf e hex))
  refine ⟨key _ (fun e he => List.mem_of_mem_take he), ?_⟩
  have h1 := key es (fun e he => he)
  obtain ⟨S, hS⟩ := foldH_pre (es.map (·.2)) H
  refine ⟨h1.nd, h1.ina, h1.re, fun i p x hi hp hf e hex => ?_⟩
  rcases Nat.lt_or_ge i k with hik | hik
  · exact h1.cl i p x hik hp hf e hex
  · have hik : i = k := by omega
    subst hik
    have hil : i < H.length := (List.getElem?_eq_some_iff.1 hq).1
    rw [hS, List.getElem?_append_left hil, hq] at hp
    cases hp
    rw [hf] at he
    have hex2 : e ∈ es := by rw [he]; exact hex
    exact foldH_mem _ _ _ (List.mem_map.2 ⟨e, hex2, rfl⟩)

/-- the search's memory -/
structure WM (w : World) (bm : Nat) (xs : List M.Nd) (H : List Int) (k g off c : Nat) (wr : World) : Prop where
  bel : Below w.heap.size w wr
  had : IMap wr w.heap.size (hadF H)
  que : Que wr (w.heap.size + 1) g off c (H.drop k)
theorem zero4 (w : World) : (zeroValue 4).run Try.prog w = .ok (.bool false) w := by
  obtain ⟨i, hi, hz, hs, hb⟩ := info_parts info4
  simp [zeroValue, typeInfo, hi, hz]
theorem had_ask {w : World} {b : Nat} {H : List Int} (h : IMap w b (hadF H)) (q : Int) : (Instr.lookup 87 (.map (some b)) (.int .i64 q) false).run Try.prog w = .ok (.bool (decide (q ∈ H))) w := by
  rw [run_lookup_map 87 4 Try.underlying87 (zero4 w) h q false, hadF_ask]
  rfl
theorem had_add {w : World} {b : Nat} {H : List Int} (h : IMap w b (hadF H)) (q : Int) : ∃ o : Obj, (Instr.mapUpdate 87 (.map (some b)) (.int .i64 q) (.bool true)).run Try.prog w = .ok () (setBlock w b o) ∧ IMap (setBlock w b o) b (hadF (H ++ [q])) := by
  obtain ⟨o, h1, h2⟩ := run_update_map 87 4 Try.underlying87 h q (.bool true)
  rw [hadF_add] at h2
  exact ⟨o, h1, h2⟩
theorem had_new (w : World) : IMap (w.alloc (.map #[] 0)) w.heap.size (hadF []) := by
  have h : (fun _ => none : Int → Option Value) = hadF [] := by funext q; simp [hadF]
  rw [← h]
  exact IMap.new w
theorem ents_of {w wr : World} {bm : Nat} {xs : List M.Nd} (h : TMap w bm xs) (hb : Below w.heap.size w wr) (hs : ∀ x ∈ xs, Small x) (q : Int) : ∃ (v : NV) (es : List (ByteArray × Int)), (Instr.lookup 30 (.map (some bm)) (.int .i64 q) false).run Try.prog wr = .ok v.val wr ∧ es = ((M.find xs q).map (·.ents)).getD [] ∧ Ents w v.eA v.en es ∧ v.en * 24 ≤ 140737488355328 := by
  obtain ⟨f, hi, ha⟩ := h
  have hr := run_lookup_map 30 26 Try.underlying30 (zero26 wr) (hi.below (Nat.le_refl _) hb) q false
  rcases ha q with ⟨h1, h2⟩ | ⟨v, x, h1, h2, h3⟩
  · rw [h1] at hr
    exact ⟨NV.zero, [], hr, by rw [h2]; rfl, ⟨rfl, .inl rfl⟩, by simp [NV.zero]⟩
  · rw [h1] at hr
    exact ⟨v, x.ents, hr, by rw [h2]; rfl, h3.2.2.2.2, by rw [h3.2.2.2.2.1]; exact (hs x (List.mem_of_find?_eq_some h2)).2⟩
theorem WM.box {w : World} {bm : Nat} {xs : List M.Nd} {H : List Int} {k g off c : Nat} {wr : World} (h : WM w bm xs H k g off c wr) (o : Obj) : WM w bm xs H k g off c (wr.alloc o) :=
  ⟨h.bel.alloc h.bel.size o, h.had.same (Below.heap_alloc _ _ _ h.had.lt), h.que.alloc o⟩
theorem WM.add {w : World} {bm : Nat} {xs : List M.Nd} {H : List Int} {k g off c : Nat} {wr W : World} {q : Int} {o E : Obj} {g' off' c' : Nat} (h : WM w bm xs H k g off c wr) (hm : IMap (setBlock wr w.heap.size o) w.heap.size (hadF (H ++ [q]))) (hk : k ≤ H.length)
    (hq : Que W (w.heap.size + 1) g' off' c' (H.drop k ++ [q])) (hg : ((setBlock wr w.heap.size o).alloc E).grownBy W (some g)) : WM w bm xs (H ++ [q]) k g' off' c' W := by
  have hgB := h.que.1
  have hlt : w.heap.size < wr.heap.size := h.had.lt
  refine ⟨Below.grown ((setBlock_below h.bel (Nat.le_refl _) o).alloc (by rw [setBlock_size]; omega) E) hg (by simp [setBlock_size]; omega) (fun k hk => by cases hk; omega), hm.same ?_, by rw [List.drop_append_of_le_length hk]; exact hq⟩
  rw [hg.block w.heap.size (by simp [setBlock_size]; omega) (by simp only [ne_eq, Option.some.injEq]; omega), Below.heap_alloc _ _ _ (by rw [setBlock_size]; omega)]
theorem fieldE (v : NV) (w : World) : (Instr.field 26 v.val 3).run Try.prog w = .ok (.slice v.eA v.en v.ec) w := by kernel_rfl

set_option maxRecDepth 4000 in
set_option maxHeartbeats 4000000 in
theorem refWithin_any (bm : Nat) (xs : List M.Nd) (t a : Int) (w : World) (ht : TMap w bm xs) (hs : ∀ x ∈ xs, Small x) (hN : ((allF xs).length + 2) * 8 ≤ 140737488355328) :
    Calls Try.prog 23 #[.map (some bm), .int .i64 t, .int .i64 a] w fun e w' => ∃ b : Bool, e = .returned (.bool b) ∧ (b = true ↔ M.Reach xs a t) ∧ Below w.heap.size w w' := by
  obtain ⟨i3, hi3, hz3, hs3, hb3⟩ := info_parts info3
  have HT : Hid (TMap w bm xs ∧ (∀ x ∈ xs, Small x)) := ⟨ht, hs⟩
  have hmm := @run_makeMap Try.prog
  obtain ⟨o0, hup, hm0⟩ := had_add (had_new w) a
  have H0 : Hid (WM w bm xs [a] 0 (w.heap.size + 1) 0 1 ((setBlock (w.alloc (.map #[] 0)) w.heap.size o0).alloc (.cells #[.int .i64 a] 3))) := by
    have hz : (setBlock (w.alloc (.map #[] 0)) w.heap.size o0).heap.size = w.heap.size + 1 := by rw [setBlock_size]; simp
    refine ⟨(setBlock_below ((Below.refl _ _).alloc (Nat.le_refl _) _) (Nat.le_refl _) o0).alloc (by rw [hz]; omega) _, hm0.same (Below.heap_alloc _ _ _ (by rw [hz]; omega)), ?_⟩
    have h := que_new (setBlock (w.alloc (.map #[] 0)) w.heap.size o0) (w.heap.size + 1) a (by rw [hz]; omega)
    rw [hz] at h
    exact h
  have hz0 : (setBlock (w.alloc (.map #[] 0)) w.heap.size o0).heap.size = w.heap.size + 1 := by rw [setBlock_size]; simp
  clear ht hs hm0
  go_enter Try.func23, Try.ntmps23
  go_wp2_with (fail)
  go_loopg [8] ((allF xs).length + 1) (fun gk v wr => ∃ (H : List Int) (k g off c n : Nat), v = .slice (some ⟨g, off, none⟩) n c ∧ Hid (n = H.length - k) ∧ k ≤ H.length ∧ (allF xs).length + 1 - k ≤ gk ∧ BI xs a H k ∧ WM w bm xs H k g off c wr)
  case atStart => exact ⟨[a], 0, w.heap.size + 1, 0, 1, 1, rfl, rfl, Nat.zero_le _, by omega, BI.start xs a, H0.out⟩
  case round =>
    obtain ⟨H, k, g, off, c, n, rfl, hn, hk, hgk, hbi, hwm⟩ := hrel
    rename World => wo
    have HB : Hid (BI xs a H k) := hbi
    have HM : Hid (WM w bm xs H k g off c wo) := hwm
    have hlen := hbi.len
    clear hbi hwm hup hmm hz0 H0
    by_cases hkn : k = H.length
    · have hn0 : n = 0 := by have h := hn.out; omega
      subst hn0
      have hlk := had_ask HM.out.had t
      have HR : Hid (t ∈ H ↔ M.Reach xs a t) := HB.out.done (by omega)
      clear hkn hk hn
      go_wp2
      go_ret
      exact ⟨_, rfl, by rw [decide_eq_true_eq]; exact HR.out, HM.out.bel⟩
    · have hkl : k < H.length := by omega
      have hq : H[k]? = some H[k] := List.getElem?_eq_getElem hkl
      have HQ : Hid (H[k]? = some H[k]) := hq
      have hc0 := HM.out.que.cell (j := 0) (f := H[k]) (by rw [List.getElem?_drop, Nat.add_zero]; exact hq)
      rw [Nat.add_zero] at hc0
      generalize H[k] = q at hq HQ hc0
      obtain ⟨v, es, hlk, hes, hent, hen⟩ := ents_of HT.out.1 HM.out.bel HT.out.2 q
      have HES : Hid (es = ((M.find xs q).map (·.ents)).getD []) := hes
      have HEN : Hid (Ents w v.eA v.en es) := hent
      have hfe := fieldE v
      have hn0 : (0 : Int) < (n : Int) := by have h := hn.out; omega
      have hnn : 0 < n := by have h := hn.out; omega
      clear hq hes hent
      go_wp2_with (fail)
      go_loopw [8, 26] (fun u i wq => ∃ (j g' off' c' n' : Nat), i = .int .i64 j ∧ j ≤ v.en ∧ u = .slice (some ⟨g', off', none⟩) n' c' ∧ Hid (n' = (((es.take j).map (·.2)).foldl meetH H).length - k) ∧ WM w bm xs (((es.take j).map (·.2)).foldl meetH H) k g' off' c' wq) (fun _ i _ => v.en - (intOf i).toNat)
      case atStart => exact ⟨0, g, off, c, n, rfl, Nat.zero_le _, rfl, hn, HM.out⟩
      case round =>
        obtain ⟨j, g', off', c', n', rfl, hj, rfl, hn', hwm⟩ := hrel
        have HMJ : Hid (WM w bm xs (((es.take j).map (·.2)).foldl meetH H) k g' off' c' wr) := hwm
        have hbij := (HB.out.step HQ.out es HES.out j).1
        have HPRE : Hid (k < (((es.take j).map (·.2)).foldl meetH H).length) := by
          obtain ⟨S, hS⟩ := foldH_pre ((es.take j).map (·.2)) H
          show k < _
          rw [hS, List.length_append]; omega
        have hlenj := hbij.len
        clear hwm hbij
        by_cases hjl : j < v.en
        · obtain ⟨b, o, e, hvA, _, hej, e0, e1⟩ := Ents.at (HEN.out.below (Nat.le_refl _) HMJ.out.bel) hjl
          have HF : Hid (((es.take (j + 1)).map (·.2)).foldl meetH H = meetH (((es.take j).map (·.2)).foldl meetH H) e.2) := by
            show _ = _
            rw [take_step hej, List.map_append, List.foldl_append]; rfl
          generalize ((es.take j).map (·.2)).foldl meetH H = HJ at HMJ HPRE hlenj HF hn'
          have hwb := HMJ.out.box (.cells #[.string e.1, .int .i64 e.2] 72)
          have hask := had_ask hwb.had e.2
          obtain ⟨ob, hupd, hmm⟩ := had_add hwb.had e.2
          have HWB : Hid (WM w bm xs HJ k g' off' c' (wr.alloc (.cells #[.string e.1, .int .i64 e.2] 72)) ∧ IMap (setBlock (wr.alloc (.cells #[.string e.1, .int .i64 e.2] 72)) w.heap.size ob) w.heap.size (hadF (HJ ++ [e.2]))) := ⟨hwb, hmm⟩
          have hjs : (j : Int) < (v.en : Int) := by omega
          have hj0 : (0 : Int) ≤ (j : Int) := by omega
          clear hwb hmm hej
          by_cases hin : e.2 ∈ HJ
          · have hd : decide (e.2 ∈ HJ) = true := decide_eq_true hin
            rw [hd] at hask
            have HI : Hid (meetH HJ e.2 = HJ) := by show _ = _; unfold meetH; rw [if_pos hin]
            clear hin hd hupd
            go_wp2
            go_roundw
            case rel => exact ⟨j + 1, g', off', c', n', by go_num, by omega, rfl, by rw [HF.out, HI.out]; exact hn', by rw [HF.out, HI.out]; exact HWB.out.1⟩
            case measure => simp [intOf]; omega
          · have hd : decide (e.2 ∈ HJ) = false := decide_eq_false hin
            rw [hd] at hask
            have HI : Hid (meetH HJ e.2 = HJ ++ [e.2]) := by show _ = _; unfold meetH; rw [if_neg hin]
            have hz2 : (setBlock (wr.alloc (.cells #[.string e.1, .int .i64 e.2] 72)) w.heap.size ob).heap.size = wr.heap.size + 1 := by rw [setBlock_size]; simp
            have hwr : w.heap.size < wr.heap.size := HMJ.out.had.lt
            have hcb : (setBlock (wr.alloc (.cells #[.string e.1, .int .i64 e.2] 72)) w.heap.size ob).cell? ⟨wr.heap.size, 1, none⟩ = some (.int .i64 e.2) := by
              have hb2 : (setBlock (wr.alloc (.cells #[.string e.1, .int .i64 e.2] 72)) w.heap.size ob).heap[wr.heap.size]? = some (.cells #[.string e.1, .int .i64 e.2] 72 (0, 0)) := by
                rw [setBlock_other (by omega)]; exact heap_alloc_new wr _
              simp [World.cell?, hb2]
            have HL : Hid (n' = (HJ.drop k).length ∧ (n' + 1) * 8 ≤ 140737488355328) := by
              refine ⟨by rw [List.length_drop]; exact hn'.out, ?_⟩
              have := hn'.out
              omega
            clear hin hd
            go_wp2_with (at_builtin; refine wpList_append_que _ (by rfl) (.tmp 38) (.tmp 41) 62 (by rfl) (w.heap.size + 1) i3 Try.underlying62 hi3 hz3 hs3 hb3 g' off' c' n' (HJ.drop k) HL.out.1 (by rfl) ((HWB.out.1.que.setBlock (by have := HWB.out.1.que.1; omega) ob).alloc _) ⟨wr.heap.size + 1, 0, none⟩ 1 e.2 (by rfl) (cell_new1 _ _ _ _ hz2.symm) (by rw [← HL.out.1]; exact HL.out.2) (by simp [setBlock_size]; omega) ?_; intro g2 off2 c2 W4 hq4 hg4; have HW4 : Hid (WM w bm xs (HJ ++ [e.2]) k g2 off2 c2 W4) := HWB.out.1.add HWB.out.2 (Nat.le_of_lt HPRE.out) hq4 hg4; clear hq4 hg4 hvA)
            go_roundw
            case rel => exact ⟨j + 1, g2, off2, c2, n' + 1, by go_num, by omega, by go_num, (by show n' + 1 = _; rw [HF.out, HI.out, List.length_append]; have h1 := hn'.out; have h2 := HPRE.out; simp; omega), by rw [HF.out, HI.out]; exact HW4.out⟩
            case measure => simp [intOf]; omega
        · have HEJ : Hid (es.take j = es) := by show _ = _; exact List.take_of_length_le (by rw [← HEN.out.1]; omega)
          rw [HEJ.out] at HMJ HPRE hn'
          have HB2 : Hid (BI xs a ((es.map (·.2)).foldl meetH H) (k + 1)) := (HB.out.step HQ.out es HES.out j).2
          generalize (es.map (·.2)).foldl meetH H = HJ at HMJ HPRE HB2 hn'
          have hlen2 := HB2.out.len
          have hjs : ¬ (j : Int) < (v.en : Int) := by omega
          obtain ⟨f0, l0, hl0⟩ : ∃ f0 l0, HJ.drop k = f0 :: l0 := ⟨HJ[k]'HPRE.out, HJ.drop (k + 1), List.drop_eq_getElem_cons HPRE.out⟩
          have hl1 : l0 = HJ.drop (k + 1) := by have h := congrArg List.tail hl0; rw [List.tail_drop] at h; exact h.symm
          have hqq := HMJ.out.que
          rw [hl0] at hqq
          have hn1 : 1 ≤ n' ∧ n' ≤ c' ∧ c' ≤ 9223372036854775807 := by
            have h1 := hn'.out
            have h2 := HPRE.out
            have h3 := HMJ.out.que.2.1
            have h4 := HMJ.out.que.2.2.1
            rw [List.length_drop] at h3
            unfold maxLen at h4
            exact ⟨by omega, by omega, by omega⟩
          obtain ⟨hn1, hn2, hn3⟩ := hn1
          have hn4 : (1 : Int) ≤ (n' : Int) := by omega
          by_cases hc1 : c' = 1
          · subst hc1
            have HQ2 : Hid (Que wr (w.heap.size + 1) g' off' 0 (HJ.drop (k + 1))) := by rw [← hl1]; exact hqq.tail1
            clear hqq hl0 hl1
            go_wp2
            go_roundg ((allF xs).length + 1 - (k + 1))
            case measure => have h2 := HPRE.out; omega
            case rel => exact ⟨HJ, k + 1, g', off', 0, n' - 1, by go_num, (by show n' - 1 = _; have h1 := hn'.out; omega), HPRE.out, Nat.le_refl _, HB2.out, ⟨HMJ.out.bel, HMJ.out.had, HQ2.out⟩⟩
          · have HQ2 : Hid (Que wr (w.heap.size + 1) g' (off' + 1) (c' - 1) (HJ.drop (k + 1))) := by rw [← hl1]; exact hqq.tail
            clear hqq hl0 hl1
            go_wp2
            go_roundg ((allF xs).length + 1 - (k + 1))
            case measure => have h2 := HPRE.out; omega
            case rel => exact ⟨HJ, k + 1, g', off' + 1, c' - 1, n' - 1, by go_num, (by show n' - 1 = _; have h1 := hn'.out; omega), HPRE.out, Nat.le_refl _, HB2.out, ⟨HMJ.out.bel, HMJ.out.had, HQ2.out⟩⟩
end Go.Proofs.Ytlegjdlmcphhlaa
/-
  PACKAGE acts: Fids, Own; and the reference's Fids.
-/
namespace Go.Proofs.Ytlegjdlmcphhlaa
open Go.RowKit

/-- what Fids answers -/
def FidsPost (w : World) (ac : M.Act) (e : Ending) (w' : World) : Prop :=
  ∃ (A : Option Addr) (c : Nat), e = .returned (.slice A (M.fidsS ac).length c) ∧ w'.ownsRow w.heap.size 3 1 (.slice A (M.fidsS ac).length c) (M.fidsS ac).length ((M.fidsS ac).map fun f => Value.int .i64 f) ∧ Below w.heap.size w w'
theorem fids_start (w : World) (a : AV) : ∀ W, W = (w.alloc (.cells #[.int .i64 a.kind, .int .i64 a.fid, .int .i64 a.dir, .string a.name, .int .i64 a.to, .string a.toName, .slice a.dA a.dn a.dc] 59)).alloc (.cells #[.int .i64 a.fid] 3) →
    Below w.heap.size w W ∧ BoxA W w.heap.size a ∧ W.ownsRow w.heap.size 3 1 (.slice (some ⟨w.heap.size + 1, 0, none⟩) 1 1) 1 [.int .i64 a.fid] ∧ W.heap.size = w.heap.size + 2 := by
  rintro W rfl
  refine ⟨((Below.refl _ _).alloc (Nat.le_refl _) _).alloc (by simp) _, (BoxA.new w a).alloc _, ?_, by simp⟩
  have h := World.ownsRow_lit (e := 3) (size := 1) (base := w.heap.size) (w.alloc (.cells #[.int .i64 a.kind, .int .i64 a.fid, .int .i64 a.dir, .string a.name, .int .i64 a.to, .string a.toName, .slice a.dA a.dn a.dc] 59)) #[.int .i64 a.fid] 1 (by simp) (by decide) rfl
  simpa using h
theorem fids_grow {w W w2 : World} {a : AV} {O : Obj} {g : Nat} {c : Nat} {B2 : Option Addr} {c2 : Nat} {L : List Value} (q1 : Below w.heap.size w W) (q2 : BoxA W w.heap.size a) (q4 : W.heap.size = w.heap.size + 2)
    (hg : (W.alloc O).grownBy w2 (Value.slice (some ⟨w.heap.size + 1, 0, none⟩) g c).ownBlock) (ho : w2.ownsRow w.heap.size 3 1 (.slice B2 2 c2) 2 L) : Below w.heap.size w w2 ∧ BoxA w2 w.heap.size a ∧ w2.ownsRow w.heap.size 3 1 (.slice B2 2 c2) 2 L := by
  have hk : ∀ k, (Value.slice (some ⟨w.heap.size + 1, 0, none⟩) g c).ownBlock = some k → k = w.heap.size + 1 := fun k hk => by simp [Value.ownBlock] at hk; exact hk.symm
  refine ⟨Below.grown (q1.alloc (by omega) O) hg (by simp; omega) (fun k h => by have := hk k h; omega), ?_, ho⟩
  unfold BoxA at q2 ⊢
  rw [hg.block w.heap.size (by simp; omega) (fun e => by have := hk _ e.symm; omega), Below.heap_alloc _ _ _ (by omega)]
  exact q2

set_option maxHeartbeats 1000000 in
theorem fids_any (a : AV) (ac : M.Act) (w : World) (ha : ContA w a ac) : Calls Try.prog 33 #[a.val] w (FidsPost w ac) := by
  obtain ⟨i0, hi, hz, hsz, hbz⟩ := info_parts info3
  have HW : Hid _ := fids_start w a
  have HK : Hid (a.kind = ac.kind ∧ a.fid = ac.fid ∧ a.dir = ac.dir ∧ a.to = ac.to) := ⟨ha.1, ha.2.1, ha.2.2.1, ha.2.2.2.2.1⟩
  clear ha
  by_cases h3 : a.kind = 3
  · have k3 : (a.kind == 3) = true := by simp [h3]
    have k3' : (a.kind != 3) = false := by simp [h3]
    have k5 : (a.kind == 5) = false := by simp [h3]
    have HS : Hid (M.fidsS ac = [a.fid]) := by show _ = _; unfold M.fidsS; rw [← HK.out.1, if_pos h3, if_neg (by rw [h3]; decide), HK.out.2.1]; rfl
    clear h3
    go_enter Try.func33, Try.ntmps33
    go_wp2_with (fail)
    go_ret
    obtain ⟨q1, q2, q3, q4⟩ := HW.out _ rfl
    exact ⟨_, 1, by rw [HS.out]; rfl, by rw [HS.out]; exact q3, q1⟩
  · have k3 : (a.kind == 3) = false := by simp [h3]
    have k3' : (a.kind != 3) = true := by simp [h3]
    by_cases h5 : a.kind = 5
    · have k5 : (a.kind == 5) = true := by simp [h5]
      have HS : Hid (M.fidsS ac = [a.fid, a.dir, a.to]) := by show _ = _; unfold M.fidsS; rw [← HK.out.1, if_neg h3, if_pos h5, HK.out.2.1, HK.out.2.2.1, HK.out.2.2.2]; rfl
      clear h3 h5
      go_enter Try.func33, Try.ntmps33
      go_wp2_with (first
        | (have HQ := HB2; clear HQ; at_builtin; refine wpList_append_own _ (by rfl) (.tmp 18) (.tmp 21) 62 (by rfl) w.heap.size 3 i0 (.int .i64 0) 1 8 Try.underlying62 hi hz hsz hbz rfl (by decide) _ 2 _ (by rfl) (HB2.out.2.2.alloc _) ⟨w2.heap.size, 0, none⟩ 1 1 [.int .i64 a.to] (by rfl) rfl (cell_new1 _ _ _ _ rfl) (fun u hu => by simp at hu; subst hu; rfl) (by unfold maxLen; omega) (by omega) (by simp; omega) ?_; intro v3 w3 hown3 hg3 _; obtain ⟨B3, c3, rfl, _, _⟩ := own_form hown3; have HP : Hid (FidsPost w ac (.returned (.slice B3 3 c3)) w3) := ⟨B3, c3, by rw [HS.out]; rfl, by rw [HS.out]; exact hown3, Below.grown (HB2.out.1.alloc (by omega) _) hg3 (by simp; omega) (fun k hk => by have := (HB2.out.2.2.lt k hk).1; omega)⟩; clear hown3 hg3)
        | (at_builtin; refine wpList_append_own _ (by rfl) (.tmp 10) (.tmp 13) 62 (by rfl) w.heap.size 3 i0 (.int .i64 0) 1 8 Try.underlying62 hi hz hsz hbz rfl (by decide) _ 1 _ (by rfl) ((HW.out _ rfl).2.2.1.alloc _) ⟨w.heap.size + 1 + 1, 0, none⟩ 1 1 [.int .i64 a.dir] (by rfl) rfl (cell_new1 _ _ _ _ (by simp)) (fun u hu => by simp at hu; subst hu; rfl) (by unfold maxLen; omega) (by omega) (by simp; omega) ?_; intro v2 w2 hown2 hg2 _; obtain ⟨B2, c2, rfl, _, _⟩ := own_form hown2; have HB2 : Hid (Below w.heap.size w w2 ∧ BoxA w2 w.heap.size a ∧ w2.ownsRow w.heap.size 3 1 (.slice B2 2 c2) 2 [.int .i64 a.fid, .int .i64 a.dir]) := fids_grow (HW.out _ rfl).1 (HW.out _ rfl).2.1 (HW.out _ rfl).2.2.2 hg2 hown2; clear hown2 hg2 HW; obtain ⟨a0, a1, a2, a3, a4, a5, a6, af, az⟩ := HB2.out.2.1.facts))
      go_ret
      exact HP.out
    · have k5 : (a.kind == 5) = false := by simp [h5]
      have HS : Hid (M.fidsS ac = [a.fid, a.dir]) := by show _ = _; unfold M.fidsS; rw [← HK.out.1, if_neg h3, if_neg h5, HK.out.2.1, HK.out.2.2.1]; rfl
      clear h3 h5
      go_enter Try.func33, Try.ntmps33
      go_wp2_with (at_builtin; refine wpList_append_own _ (by rfl) (.tmp 10) (.tmp 13) 62 (by rfl) w.heap.size 3 i0 (.int .i64 0) 1 8 Try.underlying62 hi hz hsz hbz rfl (by decide) _ 1 _ (by rfl) ((HW.out _ rfl).2.2.1.alloc _) ⟨w.heap.size + 1 + 1, 0, none⟩ 1 1 [.int .i64 a.dir] (by rfl) rfl (cell_new1 _ _ _ _ (by simp)) (fun u hu => by simp at hu; subst hu; rfl) (by unfold maxLen; omega) (by omega) (by simp; omega) ?_; intro v2 w2 hown2 hg2 _; obtain ⟨B2, c2, rfl, _, _⟩ := own_form hown2; have HB2 : Hid (Below w.heap.size w w2 ∧ BoxA w2 w.heap.size a ∧ w2.ownsRow w.heap.size 3 1 (.slice B2 2 c2) 2 [.int .i64 a.fid, .int .i64 a.dir]) := fids_grow (HW.out _ rfl).1 (HW.out _ rfl).2.1 (HW.out _ rfl).2.2.2 hg2 hown2; clear hown2 hg2 HW; obtain ⟨a0, a1, a2, a3, a4, a5, a6, af, az⟩ := HB2.out.2.1.facts)
      go_ret
      exact ⟨B2, c2, by rw [HS.out]; rfl, by rw [HS.out]; exact HB2.out.2.2, HB2.out.1⟩

set_option maxHeartbeats 1000000 in
theorem refFids_any (a : AV) (ac : M.Act) (w : World) (ha : ContA w a ac) : Calls Try.prog 34 #[a.val] w (FidsPost w ac) := by
  obtain ⟨i0, hi, hz, hsz, hbz⟩ := info_parts info3
  have HW : Hid _ := fids_start w a
  have HK : Hid (a.kind = ac.kind ∧ a.fid = ac.fid ∧ a.dir = ac.dir ∧ a.to = ac.to) := ⟨ha.1, ha.2.1, ha.2.2.1, ha.2.2.2.2.1⟩
  clear ha
  by_cases h3 : a.kind = 3
  · have k3 : (a.kind == 3) = true := by simp [h3]
    have k3' : (a.kind != 3) = false := by simp [h3]
    have k5 : (a.kind == 5) = false := by simp [h3]
    have HS : Hid (M.fidsS ac = [a.fid]) := by show _ = _; unfold M.fidsS; rw [← HK.out.1, if_pos h3, if_neg (by rw [h3]; decide), HK.out.2.1]; rfl
    clear h3
    go_enter Try.func34, Try.ntmps34
    go_wp2_with (fail)
    go_ret
    obtain ⟨q1, q2, q3, q4⟩ := HW.out _ rfl
    exact ⟨_, 1, by rw [HS.out]; rfl, by rw [HS.out]; exact q3, q1⟩
  · have k3 : (a.kind == 3) = false := by simp [h3]
    have k3' : (a.kind != 3) = true := by simp [h3]
    by_cases h5 : a.kind = 5
    · have k5 : (a.kind == 5) = true := by simp [h5]
      have HS : Hid (M.fidsS ac = [a.fid, a.dir, a.to]) := by show _ = _; unfold M.fidsS; rw [← HK.out.1, if_neg h3, if_pos h5, HK.out.2.1, HK.out.2.2.1, HK.out.2.2.2]; rfl
      clear h3 h5
      go_enter Try.func34, Try.ntmps34
      go_wp2_with (first
        | (have HQ := HB2; clear HQ; at_builtin; refine wpList_append_own _ (by rfl) (.tmp 18) (.tmp 21) 62 (by rfl) w.heap.size 3 i0 (.int .i64 0) 1 8 Try.underlying62 hi hz hsz hbz rfl (by decide) _ 2 _ (by rfl) (HB2.out.2.2.alloc _) ⟨w2.heap.size, 0, none⟩ 1 1 [.int .i64 a.to] (by rfl) rfl (cell_new1 _ _ _ _ rfl) (fun u hu => by simp at hu; subst hu; rfl) (by unfold maxLen; omega) (by omega) (by simp; omega) ?_; intro v3 w3 hown3 hg3 _; obtain ⟨B3, c3, rfl, _, _⟩ := own_form hown3; have HP : Hid (FidsPost w ac (.returned (.slice B3 3 c3)) w3) := ⟨B3, c3, by rw [HS.out]; rfl, by rw [HS.out]; exact hown3, Below.grown (HB2.out.1.alloc (by omega) _) hg3 (by simp; omega) (fun k hk => by have := (HB2.out.2.2.lt k hk).1; omega)⟩; clear hown3 hg3)
        | (at_builtin; refine wpList_append_own _ (by rfl) (.tmp 10) (.tmp 13) 62 (by rfl) w.heap.size 3 i0 (.int .i64 0) 1 8 Try.underlying62 hi hz hsz hbz rfl (by decide) _ 1 _ (by rfl) ((HW.out _ rfl).2.2.1.alloc _) ⟨w.heap.size + 1 + 1, 0, none⟩ 1 1 [.int .i64 a.dir] (by rfl) rfl (cell_new1 _ _ _ _ (by simp)) (fun u hu => by simp at hu; subst hu; rfl) (by unfold maxLen; omega) (by omega) (by simp; omega) ?_; intro v2 w2 hown2 hg2 _; obtain ⟨B2, c2, rfl, _, _⟩ := own_form hown2; have HB2 : Hid (Below w.heap.size w w2 ∧ BoxA w2 w.heap.size a ∧ w2.ownsRow w.heap.size 3 1 (.slice B2 2 c2) 2 [.int .i64 a.fid, .int .i64 a.dir]) := fids_grow (HW.out _ rfl).1 (HW.out _ rfl).2.1 (HW.out _ rfl).2.2.2 hg2 hown2; clear hown2 hg2 HW; obtain ⟨a0, a1, a2, a3, a4, a5, a6, af, az⟩ := HB2.out.2.1.facts))
      go_ret
      exact HP.out
    · have k5 : (a.kind == 5) = false := by simp [h5]
      have HS : Hid (M.fidsS ac = [a.fid, a.dir]) := by show _ = _; unfold M.fidsS; rw [← HK.out.1, if_neg h3, if_neg h5, HK.out.2.1, HK.out.2.2.1]; rfl
      clear h3 h5
      go_enter Try.func34, Try.ntmps34
      go_wp2_with (at_builtin; refine wpList_append_own _ (by rfl) (.tmp 10) (.tmp 13) 62 (by rfl) w.heap.size 3 i0 (.int .i64 0) 1 8 Try.underlying62 hi hz hsz hbz rfl (by decide) _ 1 _ (by rfl) ((HW.out _ rfl).2.2.1.alloc _) ⟨w.heap.size + 1 + 1, 0, none⟩ 1 1 [.int .i64 a.dir] (by rfl) rfl (cell_new1 _ _ _ _ (by simp)) (fun u hu => by simp at hu; subst hu; rfl) (by unfold maxLen; omega) (by omega) (by simp; omega) ?_; intro v2 w2 hown2 hg2 _; obtain ⟨B2, c2, rfl, _, _⟩ := own_form hown2; have HB2 : Hid (Below w.heap.size w w2 ∧ BoxA w2 w.heap.size a ∧ w2.ownsRow w.heap.size 3 1 (.slice B2 2 c2) 2 [.int .i64 a.fid, .int .i64 a.dir]) := fids_grow (HW.out _ rfl).1 (HW.out _ rfl).2.1 (HW.out _ rfl).2.2.2 hg2 hown2; clear hown2 hg2 HW; obtain ⟨a0, a1, a2, a3, a4, a5, a6, af, az⟩ := HB2.out.2.1.facts)
      go_ret
      exact ⟨B2, c2, by rw [HS.out]; rfl, by rw [HS.out]; exact HB2.out.2.2, HB2.out.1⟩

/-- an act whose bytes are the call's own -/
def OwnA (w : World) (B : Nat) (a : AV) (x : M.Act) : Prop := a.kind = x.kind ∧ a.fid = x.fid ∧ a.dir = x.dir ∧ a.name = x.name ∧ a.to = x.to ∧ a.toName = x.toName ∧ w.ownsRow B 5 1 (.slice a.dA a.dn a.dc) a.dn (x.data.flatMap byteCells1)
theorem OwnA.cont {w : World} {B : Nat} {a : AV} {x : M.Act} (h : OwnA w B a x) : ContA w a x := ⟨h.1, h.2.1, h.2.2.1, h.2.2.2.1, h.2.2.2.2.1, h.2.2.2.2.2.1, Row.ofOwn byt_len (by decide) h.2.2.2.2.2.2⟩
def AV.zero : AV := ⟨0, 0, 0, ⟨#[]⟩, 0, ⟨#[]⟩, none, 0, 0⟩
set_option maxHeartbeats 1000000 in
theorem ownAct_any (a : AV) (ac : M.Act) (w : World) (ha : ContA w a ac) (hs : ac.data.length ≤ 140737488355328) :
    Calls Try.prog 32 #[a.val] w fun e w' => ∃ a' : AV, e = .returned a'.val ∧ OwnA w' w.heap.size a' ac ∧ Below w.heap.size w w' := by
  obtain ⟨i5, hi5, hz5, hs5, hb5⟩ := info_parts info5
  have hdn := ha.2.2.2.2.2.2.1
  rw [← hdn] at hs
  have HA : Hid (ContA w a ac) := ha
  clear ha hdn
  have HB0 : Hid (∀ W : World, W = (w.alloc (.cells #[.int .i64 a.kind, .int .i64 a.fid, .int .i64 a.dir, .string a.name, .int .i64 a.to, .string a.toName, .slice a.dA a.dn a.dc] 59)).alloc (.cells #[.int .i64 0, .int .i64 0, .int .i64 0, .string ⟨#[]⟩, .int .i64 0, .string ⟨#[]⟩, .slice none 0 0] 59) → BoxA W w.heap.size a ∧ BoxA W (w.heap.size + 1) AV.zero ∧ W.heap.size = w.heap.size + 2 ∧ Below w.heap.size w W) := by
    rintro W rfl
    refine ⟨(BoxA.new w a).alloc _, ?_, by simp, ((Below.refl _ _).alloc (Nat.le_refl _) _).alloc (by simp) _⟩
    have h := heap_alloc_new (w.alloc (.cells #[.int .i64 a.kind, .int .i64 a.fid, .int .i64 a.dir, .string a.name, .int .i64 a.to, .string a.toName, .slice a.dA a.dn a.dc] 59)) (.cells #[.int .i64 0, .int .i64 0, .int .i64 0, .string ⟨#[]⟩, .int .i64 0, .string ⟨#[]⟩, .slice none 0 0] 59)
    unfold BoxA
    simpa [AV.zero] using h
  go_enter Try.func32, Try.ntmps32
  go_wp2_with (at_builtin; refine wpList_append_row _ (by rfl) (.const (.slice none 0 0)) (.tmp 4) 23 (by rfl) (w.heap.size + 2) 5 i5 (.int .u8 0) 1 Try.underlying23 hi5 hz5 hs5 hb5 rfl (by decide) _ 0 [] rfl (World.ownsRow_nil _ _ _ _) a.dA a.dn a.dc ac.data rfl (HA.out.2.2.2.2.2.2.below (Nat.le_refl _) (HB0.out _ rfl).2.2.2) byt_len byt_one (by unfold maxLen; omega) (by omega) (by simp) ?_; intro v1 w1 hown1 hg1; rw [Nat.zero_add, List.nil_append] at hown1; obtain ⟨A1, c1, rfl, hA1, hA2⟩ := own_form hown1; have hb1 := grown_below hg1; clear hg1; obtain ⟨q0, q1, q2, q3⟩ := HB0.out _ rfl; have hbw1 : Below w.heap.size w w1 := q3.trans (hb1.mono (by omega)); have HX1 : Hid (BoxA w1 w.heap.size a ∧ BoxA w1 (w.heap.size + 1) AV.zero ∧ w1.ownsRow (w.heap.size + 2) 5 1 (.slice A1 a.dn c1) a.dn (ac.data.flatMap byteCells1)) := ⟨q0.below hb1 (by omega), q1.below hb1 (by omega), hown1⟩; have hz1 := hb1.size; rw [q2] at hz1; clear hb1 q0 q1 q2 q3 hown1; obtain ⟨a0, a1, a2, a3, a4, a5, a6, af, az⟩ := HX1.out.1.facts; obtain ⟨z0, z1, z2, z3, z4, z5, z6, zf, zz⟩ := HX1.out.2.1.facts)
  have hbl : ∀ (W : World) (s o : Nat) (u : Value), Below w.heap.size w W → w.heap.size ≤ s → Below w.heap.size w (W.setCell ⟨s, o, none⟩ u) := fun W s o u h hs => h.setCell (p := ⟨s, o, none⟩) hs u
  have hol : ∀ (W : World) (s o : Nat) (u : Value), W.ownsRow (w.heap.size + 2) 5 1 (.slice A1 a.dn c1) a.dn (ac.data.flatMap byteCells1) → s < w.heap.size + 2 → (W.setCell ⟨s, o, none⟩ u).ownsRow (w.heap.size + 2) 5 1 (.slice A1 a.dn c1) a.dn (ac.data.flatMap byteCells1) := fun W s o u h hs => ownsRow_setCell_below h (a := ⟨s, o, none⟩) hs u
  refine bodyPost_ret (v := AV.val ⟨a.kind, a.fid, a.dir, a.name, a.to, a.toName, A1, a.dn, c1⟩) (by simp [results, Try.results32, go_sem, z0, z1, z2, z3, z4, z5, z6]) rfl ⟨⟨a.kind, a.fid, a.dir, a.name, a.to, a.toName, A1, a.dn, c1⟩, rfl, ⟨HA.out.1, HA.out.2.1, HA.out.2.2.1, HA.out.2.2.2.1, HA.out.2.2.2.2.1, HA.out.2.2.2.2.2.1, own_mono ?_ (Nat.le_add_right _ 2)⟩, ?_⟩
  · exact hol _ _ _ _ (hol _ _ _ _ (hol _ _ _ _ (hol _ _ _ _ (hol _ _ _ _ (hol _ _ _ _ (hol _ _ _ _ (hol _ _ _ _ HX1.out.2.2 (by omega)) (by omega)) (by omega)) (by omega)) (by omega)) (by omega)) (by omega)) (by omega)
  · exact hbl _ _ _ _ (hbl _ _ _ _ (hbl _ _ _ _ (hbl _ _ _ _ (hbl _ _ _ _ (hbl _ _ _ _ (hbl _ _ _ _ (hbl _ _ _ _ hbw1 (by omega)) (by omega)) (by omega)) (by omega)) (by omega)) (by omega)) (by omega)) (by omega)
end Go.Proofs.Ytlegjdlmcphhlaa
/-
  PLAIN MATHEMATICS of chapter 3: made, and removed.
-/
namespace Go.Proofs.Ytlegjdlmcphhlaa

/-- of no version -/
def bare (x : M.Nd) : M.Nd := M.withV x 0
theorem bare_alike {x y : M.Nd} (h : bare x = bare y) : sameNd false x y = true := by
  unfold bare M.withV at h
  simp only [M.Nd.mk.injEq] at h
  unfold sameNd alike
  simp [h.1, h.2.1, h.2.2.1, h.2.2.2.1]
theorem find_bare (xs : List M.Nd) (t : Int) : M.find (xs.map bare) t = (M.find xs t).map bare := by
  unfold M.find
  rw [List.find?_map]
  rfl
theorem rs_bare {xs : List M.Nd} (h : M.RsN xs) : M.RsN (xs.map bare) := by
  have e : (xs.map bare).map (·.fid) = xs.map (·.fid) := by rw [List.map_map]; rfl
  unfold M.RsN; rw [e]; exact h
theorem mem_find {xs : List M.Nd} (hr : M.RsN xs) {x : M.Nd} (h : x ∈ xs) : M.find xs x.fid = some x := by
  obtain ⟨i, hi⟩ := List.getElem?_of_mem h
  exact M.find_self hr hi
theorem ext_find {xs ys : List M.Nd} (hx : M.RsN xs) (hy : M.RsN ys) (h : ∀ t, M.find xs t = M.find ys t) : xs = ys := by
  refine rs_ext hx hy fun x => ⟨fun hm => ?_, fun hm => ?_⟩
  · have := mem_find hx hm; rw [h] at this; exact (M.find_mem this).1
  · have := mem_find hy hm; rw [← h] at this; exact (M.find_mem this).1
theorem allB_bare : ∀ {xs ys : List M.Nd}, xs.map bare = ys.map bare → allB (sameNd false) xs ys = true
  | [], [], _ => rfl
  | [], _ :: _, h => by cases h
  | _ :: _, [], h => by cases h
  | x :: xs, y :: ys, h => by
    rw [List.map_cons, List.map_cons] at h
    have h1 := List.cons.inj h
    rw [allB, bare_alike h1.1, allB_bare h1.2]; rfl
/-- alike, if what is found is -/
theorem same_of_find {xs ys : List M.Nd} (hx : M.RsN xs) (hy : M.RsN ys) (h : ∀ t, (M.find xs t).map bare = (M.find ys t).map bare) : allB (sameNd false) xs ys = true :=
  allB_bare (ext_find (rs_bare hx) (rs_bare hy) fun t => by rw [find_bare, find_bare, h])
theorem find_drop_other (xs : List M.Nd) (f t : Int) (h : t ≠ f) : M.find (M.dropN xs f) t = M.find xs t :=
  M.find_filter (fun y : M.Nd => y.fid) xs _ t (fun y _ e => by rw [e]; simp [h])
theorem look_put (es : List (ByteArray × Int)) (s : ByteArray) (f : Int) : M.look (M.putE es (s, f)) s = some (s, f) := M.put_find (fun y : ByteArray × Int => y.1) es M.ordB (s, f)
theorem look_none_ne {es : List (ByteArray × Int)} {s : ByteArray} (h : M.look es s = none) : ∀ e ∈ es, e.1 ≠ s := by
  intro e he
  unfold M.look at h
  rw [List.find?_eq_none] at h
  simpa using h e he
theorem drop_put {es : List (ByteArray × Int)} {s : ByteArray} {f : Int} (hr : M.RsE es) (h : M.look es s = none) : M.dropE (M.putE es (s, f)) s = es :=
  M.put_drop (fun y : ByteArray × Int => y.1) es M.ordB (s, f) hr (look_none_ne h)
theorem bring_inv {xs : List M.Nd} {ac : M.Act} {v : Int} (h : (M.bringS xs ac v).1 = 0) : (M.dirS xs ac.dir).1 = 0 ∧ M.freeS (M.dirS xs ac.dir).2 ac.name = 0 ∧ ¬ (ac.fid = 0 ∨ (M.find xs ac.fid).isSome) ∧ ¬ 24 ≤ xs.length := by
  by_cases h1 : (M.dirS xs ac.dir).1 = 0
  case' neg => rw [bring_dir h1] at h; exact absurd h h1
  by_cases h2 : M.freeS (M.dirS xs ac.dir).2 ac.name = 0
  case' neg => rw [bring_free h1 h2] at h; exact absurd h h2
  by_cases h3 : ac.fid = 0 ∨ (M.find xs ac.fid).isSome
  case' pos => rw [bring_stale h1 h2 h3] at h; simp at h
  by_cases h4 : 24 ≤ xs.length
  case' pos => rw [bring_many h1 h2 h3 h4] at h; simp at h
  exact ⟨h1, h2, h3, h4⟩

/-- made, and removed -/
theorem back {xs : List M.Nd} (hr : M.Rise xs) {ac rc : M.Act} {v u : Int} (h : (M.bringS xs ac v).1 = 0) (hf : rc.fid = ac.fid) (hd : rc.dir = ac.dir) (hn : rc.name = ac.name) :
    (M.removeS (M.bringS xs ac v).2 rc u).1 = 0 ∧ allB (sameNd false) (M.removeS (M.bringS xs ac v).2 rc u).2 xs = true := by
  obtain ⟨h1, h2, h3, h4⟩ := bring_inv h
  rw [bring_ok h1 h2 h3 h4]
  have hD := M.dir_ok h1
  generalize hd0 : (M.dirS xs ac.dir).2 = d at *
  have hfd : d.fid = ac.dir := (M.find_mem hD.1).2
  have hfr := M.free_ok h2
  have hre : M.RsE d.ents := hr.2 d (M.find_mem hD.1).1
  have hff : M.find xs ac.fid = none := by
    cases e : M.find xs ac.fid with
    | none => rfl
    | some y => rw [e] at h3; exact absurd (.inr rfl) h3
  have hne : ac.dir ≠ ac.fid := fun e => by rw [e, hff] at hD; cases hD.1
  generalize hd1 : M.withV (withE d (M.putE d.ents (ac.name, ac.fid))) v = d'
  generalize hn1 : (⟨ac.fid, decide (ac.kind = 2), [], [], v⟩ : M.Nd) = n'
  have e1 : d'.fid = ac.dir := by rw [← hd1]; exact hfd
  have e2 : n'.fid = ac.fid := by rw [← hn1]
  have f1 : M.find (M.putN (M.putN xs d') n') ac.dir = some d' := by rw [findN_other _ _ _ (by rw [e2]; exact hne), ← e1]; exact findN_put _ _
  have f2 : M.find (M.putN (M.putN xs d') n') ac.fid = some n' := by rw [← e2]; exact findN_put _ _
  have hdir : d'.dir = true := by rw [← hd1]; exact hD.2
  have hlk : M.look d'.ents ac.name = some (ac.name, ac.fid) := by rw [← hd1]; exact look_put _ _ _
  have hdp : M.dropE d'.ents ac.name = d.ents := by rw [← hd1]; exact drop_put hre hfr.1
  have hh : M.holdS (M.putN (M.putN xs d') n') rc.dir rc.name rc.fid = (0, d') := by rw [hd, hn, hf]; exact hold_yes (M.dir_yes f1 hdir) hlk rfl
  have hrm := remove_ok (xs := M.putN (M.putN xs d') n') (ac := rc) (v := u) (x := n') (by rw [hh]) (by rw [hf]; exact f2) (by rw [← hn1]; simp)
  rw [hrm]
  refine ⟨rfl, ?_⟩
  rw [hh, hn, hf]
  show allB (sameNd false) (M.dropN (M.putN (M.putN (M.putN xs d') n') (M.withV (withE d' (M.dropE d'.ents ac.name)) u)) ac.fid) xs = true
  rw [hdp]
  generalize hd2 : M.withV (withE d' d.ents) u = d2
  have e3 : d2.fid = ac.dir := by rw [← hd2]; exact e1
  have hb2 : bare d2 = bare d := by rw [← hd2, ← hd1]; rfl
  refine same_of_find (rs_drop _ (rs_put _ (rs_put _ (rs_put _ hr.1)))) hr.1 fun t => ?_
  by_cases t1 : t = ac.fid
  · rw [t1, findN_drop, hff]
  · rw [find_drop_other _ _ _ t1]
    by_cases t2 : t = ac.dir
    · rw [t2, ← e3, findN_put, e3, hD.1, Option.map_some, Option.map_some, hb2]
    · rw [findN_other _ _ _ (by rw [e3]; exact t2), findN_other _ _ _ (by rw [e2]; exact t1), findN_other _ _ _ (by rw [e1]; exact t2)]
end Go.Proofs.Ytlegjdlmcphhlaa
