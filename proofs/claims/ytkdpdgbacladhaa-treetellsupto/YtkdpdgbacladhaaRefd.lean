/-
  THE REFERENCE's Enter.
-/
import Derived.Test.YtkdpdgbacladhaaRefc
import Derived.Deep.Cut
namespace Go.Proofs.Ytkdpdgbacladhaa
open Go.RowKit

/-- has the new entry its place already? what is there so far -/
def isIn (s : ByteArray) (l : List (ByteArray × Int)) : Bool := l.any fun e => M.ltB s e.1
def sofar (e0 : ByteArray × Int) (l : List (ByteArray × Int)) : List (ByteArray × Int) := if isIn e0.1 l then M.putE l e0 else l
theorem isIn_no {s : ByteArray} {l : List (ByteArray × Int)} (h : isIn s l = false) : ∀ e ∈ l, M.ltB s e.1 = false := by
  unfold isIn at h
  rw [List.any_eq_false] at h
  intro e he
  simpa using h e he
theorem low_all {s : ByteArray} {l : List (ByteArray × Int)} (h : isIn s l = false) (hne : ∀ e ∈ l, e.1 ≠ s) : ∀ e ∈ l, M.ltB e.1 s = true := by
  intro e he
  cases hl : M.ltB e.1 s
  · exact absurd (M.ordB.tri _ _ hl (isIn_no h e he)) (hne e he)
  · rfl
theorem putE_low {e0 : ByteArray × Int} {l : List (ByteArray × Int)} (h : isIn e0.1 l = false) (hne : ∀ e ∈ l, e.1 ≠ e0.1) : M.putE l e0 = l ++ [e0] := by
  unfold M.putE M.put
  rw [List.filter_eq_self.2 (low_all h hne), List.filter_eq_nil_iff.2 (fun e he => by rw [isIn_no h e he]; simp)]
theorem isIn_snoc (s : ByteArray) (l : List (ByteArray × Int)) (e : ByteArray × Int) : isIn s (l ++ [e]) = (isIn s l || M.ltB s e.1) := by
  unfold isIn; rw [List.any_append]; simp
theorem rs_last {l : List (ByteArray × Int)} {e : ByteArray × Int} (hr : M.RsE (l ++ [e])) {s : ByteArray} (h : isIn s l = true) : M.ltB s e.1 = true := by
  unfold isIn at h
  rw [List.any_eq_true] at h
  obtain ⟨y, hy, hsy⟩ := h
  have hp : M.Rs M.ltB ((l ++ [e]).map (·.1)) := hr
  unfold M.Rs at hp
  rw [List.map_append, List.pairwise_append] at hp
  exact M.ordB.tra _ _ _ hsy (hp.2.2 y.1 (List.mem_map.2 ⟨y, hy, rfl⟩) e.1 (by simp))
theorem sofar_first {e0 e : ByteArray × Int} {l : List (ByteArray × Int)} (h : isIn e0.1 l = false) (hne : ∀ e ∈ l, e.1 ≠ e0.1) (hl : M.ltB e0.1 e.1 = true) : sofar e0 (l ++ [e]) = l ++ [e0] ++ [e] := by
  unfold sofar
  rw [isIn_snoc, h, hl]
  simp only [Bool.false_or, if_true]
  unfold M.putE M.put
  have hel : M.ltB e.1 e0.1 = false := by
    cases hx : M.ltB e.1 e0.1
    · rfl
    · have := M.ordB.tra _ _ _ hx hl; rw [M.ordB.irr] at this; cases this
  have hL : l.filter (fun y => M.ltB y.1 e0.1) = l := List.filter_eq_self.2 (low_all h hne)
  have hR : l.filter (fun y => M.ltB e0.1 y.1) = [] := List.filter_eq_nil_iff.2 (fun e he => by rw [isIn_no h e he]; simp)
  rw [List.filter_append, List.filter_append, hL, hR]
  simp [hel, hl]
theorem sofar_low {e0 e : ByteArray × Int} {l : List (ByteArray × Int)} (h : isIn e0.1 l = false) (hl : M.ltB e0.1 e.1 = false) : sofar e0 (l ++ [e]) = l ++ [e] := by
  unfold sofar
  rw [isIn_snoc, h, hl]
  rfl
theorem sofar_then {e0 e : ByteArray × Int} {l : List (ByteArray × Int)} (h : isIn e0.1 l = true) (hr : M.RsE (l ++ [e])) : sofar e0 (l ++ [e]) = sofar e0 l ++ [e] := by
  have hl := rs_last hr h
  have hel : M.ltB e.1 e0.1 = false := by
    cases hx : M.ltB e.1 e0.1
    · rfl
    · have := M.ordB.tra _ _ _ hx hl; rw [M.ordB.irr] at this; cases this
  unfold sofar
  rw [isIn_snoc, h]
  simp only [Bool.true_or, if_true]
  unfold M.putE M.put
  rw [List.filter_append, List.filter_append]
  simp [hel, hl]
theorem putE_drop (es : List (ByteArray × Int)) (e0 : ByteArray × Int) : M.putE (M.dropE es e0.1) e0 = M.putE es e0 := by
  unfold M.putE M.put M.dropE
  rw [List.filter_filter, List.filter_filter]
  have h1 : ∀ y : ByteArray × Int, (M.ltB y.1 e0.1 && !decide (y.1 = e0.1)) = M.ltB y.1 e0.1 := fun y => by
    by_cases h : y.1 = e0.1
    · rw [h, M.ordB.irr]; rfl
    · simp [h]
  have h2 : ∀ y : ByteArray × Int, (M.ltB e0.1 y.1 && !decide (y.1 = e0.1)) = M.ltB e0.1 y.1 := fun y => by
    by_cases h : y.1 = e0.1
    · rw [h, M.ordB.irr]; rfl
    · simp [h]
  simp only [h1, h2]
theorem drop_ne (es : List (ByteArray × Int)) (s : ByteArray) : ∀ e ∈ M.dropE es s, e.1 ≠ s := by
  intro e he
  have := (List.mem_filter.1 he).2
  simpa using this
theorem rs_dropE {es : List (ByteArray × Int)} (s : ByteArray) (h : M.RsE es) : M.RsE (M.dropE es s) := M.rs_sub h (List.filter_sublist.map _)
theorem rs_takeE {es : List (ByteArray × Int)} (k : Nat) (h : M.RsE es) : M.RsE (es.take k) := M.rs_sub h ((List.take_sublist k es).map _)

/-- the entry at hand stays where it is -/
theorem box2_kept {w0 : World} {es : List (ByteArray × Int)} {A : Option Addr} {m c : Nat} {wr w4 : World} {e : ByteArray × Int} {o : Obj} (h : Keep w0 es A m c wr)
    (hg : ((wr.alloc (.cells #[.string e.1, .int .i64 e.2] 72)).alloc o).grownBy w4 (Value.slice A m c).ownBlock) : Box2 w4 wr.heap.size e := by
  have h0 : Box2 (wr.alloc (.cells #[.string e.1, .int .i64 e.2] 72)) wr.heap.size e := Box2.new wr e
  have h1 : Box2 ((wr.alloc (.cells #[.string e.1, .int .i64 e.2] 72)).alloc o) wr.heap.size e := by
    unfold Box2 at h0 ⊢
    rw [Below.heap_alloc _ _ _ (lt_of_block h0)]
    exact h0
  refine h1.grownO hg fun hx => ?_
  have := (h.1.lt wr.heap.size hx.symm).2
  omega

set_option maxHeartbeats 1000000 in
theorem refEnter_any (v : NV) (x : M.Nd) (s : ByteArray) (f : Int) (w : World) (hc : Cont w v x) (hr : M.RsE x.ents) (hs : Small x) (hs1 : (x.ents.length + 1) * 24 ≤ 140737488355328) :
    Calls Try.prog 27 #[v.val, .string s, .int .i64 f] w fun e w' => ∃ v' : NV, e = .returned v'.val ∧ Cont w' v' (withE x (M.putE x.ents (s, f))) ∧ Below w.heap.size w w' := by
  have hB0 : ∀ W : World, W = (w.alloc (.cells #[.int .i64 v.fid, .bool v.dir, .slice v.dA v.dn v.dc, .slice v.eA v.en v.ec, .int .i64 v.ver] 26)).alloc (.cells #[.int .i64 0, .bool false, .slice none 0 0, .slice none 0 0, .int .i64 0] 26) → Box W w.heap.size v ∧ Box W (w.heap.size + 1) NV.zero ∧ W.heap.size = w.heap.size + 2 ∧ Below w.heap.size w W := by
    rintro W rfl
    exact ⟨(Box.new w v).alloc _, by have := Box.new0 (w.alloc (.cells #[.int .i64 v.fid, .bool v.dir, .slice v.dA v.dn v.dc, .slice v.eA v.en v.ec, .int .i64 v.ver] 26)); simpa using this, by simp, ((Below.refl _ _).alloc (Nat.le_refl _) _).alloc (by simp) _⟩
  have HB0 : Hid _ := hB0
  have HC : Hid (Cont w v x ∧ Small x) := ⟨hc, hs⟩
  have HR : Hid (M.RsE (M.dropE x.ents s)) := rs_dropE s hr
  have hlen : (M.dropE x.ents s).length ≤ x.ents.length := List.length_filter_le _ _
  obtain ⟨i58, hi58, hz58, hs58, hb58⟩ := info_parts info58
  clear hB0 hc hs hr
  go_enter Try.func27, Try.ntmps27
  go_wp2_with (fail)
  obtain ⟨q0, q1, q2, q3⟩ := HB0.out _ rfl
  refine (refLeave_own v x s _ (HC.out.1.below (Nat.le_refl _) q3) HC.out.2).mono ?_
  rintro e w1 ⟨A1, m1, c1, rfl, ho1, hb1⟩
  have hz1 := hb1.size
  rw [q2] at hz1 hb1 ho1
  have HX1 : Hid (Box w1 w.heap.size v) := q0.below hb1 (by omega)
  have HX2 : Hid (Box w1 (w.heap.size + 1) NV.zero ∧ Below w.heap.size w w1 ∧ w1.ownsRow (w.heap.size + 2) 72 2 (.slice A1 m1 c1) m1 ((M.dropE x.ents s).flatMap entCells)) := ⟨q1.below hb1 (by omega), q3.trans (hb1.mono (by omega)), ho1⟩
  have HL : Hid (m1 = (M.dropE x.ents s).length) := own_len ent_len (by decide) ho1
  have hen : (m1 + 1) * 24 ≤ 140737488355328 := by have := HL.out; omega
  clear q0 q1 q2 q3 HB0 hb1 ho1 hlen
  obtain ⟨p0, p1, p2, p3, p4, pf, pz⟩ := HX1.out.facts
  go_upto_region 2 with (fail)
  have H0 : ∀ W : World, W = put5 w1 w.heap.size 0 ⟨v.fid, v.dir, v.dA, v.dn, v.dc, A1, m1, c1, v.ver⟩ → Hid (Box W w.heap.size ⟨v.fid, v.dir, v.dA, v.dn, v.dc, A1, m1, c1, v.ver⟩ ∧ Box W (w.heap.size + 1) NV.zero ∧ Below w.heap.size w W ∧ Ents W A1 m1 (M.dropE x.ents s) ∧ w.heap.size + 2 ≤ W.heap.size) := by
    rintro W rfl
    exact ⟨put5_box HX1.out _, put5_box_other HX2.out.1 (by omega) 0 _, put5_below HX2.out.2.1 (Nat.le_refl _) _ _, Row.ofOwn ent_len (by decide) (put5_own HX2.out.2.2 (by omega) _ _), by simp [put5, World.setCell]; omega⟩
  obtain ⟨W1, hW1⟩ : ∃ W, W = put5 w1 w.heap.size 0 ⟨v.fid, v.dir, v.dA, v.dn, v.dc, A1, m1, c1, v.ver⟩ := ⟨_, rfl⟩
  have HW := H0 W1 hW1
  rw [show ((((w1.setCell ⟨w.heap.size, 0, none⟩ (.int .i64 v.fid)).setCell ⟨w.heap.size, 1, none⟩ (.bool v.dir)).setCell ⟨w.heap.size, 2, none⟩ (.slice v.dA v.dn v.dc)).setCell ⟨w.heap.size, 3, none⟩ (.slice A1 m1 c1)).setCell ⟨w.heap.size, 4, none⟩ (.int .i64 v.ver) = W1 from hW1.symm]
  clear H0 hW1 HX1 HX2 p0 p1 p2 p3 p4 pf pz hz1
  obtain ⟨p0, p1, p2, p3, p4, pf, pz⟩ := HW.out.1.facts
  go_wp2
  go_loopw [7, 8, 17] (fun l d i wr => ∃ (k m c : Nat) (A : Option Addr), k ≤ m1 ∧ i = .int .i64 k ∧ l = .slice A m c ∧ d = .bool (isIn s ((M.dropE x.ents s).take k)) ∧ m ≤ k + (isIn s ((M.dropE x.ents s).take k)).toNat ∧ Keep W1 (sofar (s, f) ((M.dropE x.ents s).take k)) A m c wr) (fun _ _ i _ => m1 - (intOf i).toNat)
  case atStart => exact ⟨0, 0, 0, none, Nat.zero_le _, rfl, rfl, rfl, Nat.le_refl _, by rw [List.take_zero]; exact Keep.start W1⟩
  case round =>
    obtain ⟨k, m, c, A, hk, rfl, rfl, rfl, hmk, hkp⟩ := hrel
    have HK : Hid (Keep W1 (sofar (s, f) ((M.dropE x.ents s).take k)) A m c wr) := hkp
    have HBX : Hid (Box wr w.heap.size ⟨v.fid, v.dir, v.dA, v.dn, v.dc, A1, m1, c1, v.ver⟩ ∧ Box wr (w.heap.size + 1) NV.zero ∧ Below w.heap.size w wr ∧ Ents wr A1 m1 (M.dropE x.ents s)) := ⟨HW.out.1.below hkp.2 (by have := HW.out.2.2.2.2; omega), HW.out.2.1.below hkp.2 (by have := HW.out.2.2.2.2; omega), HW.out.2.2.1.trans (hkp.2.mono (by have := HW.out.2.2.2.2; omega)), HW.out.2.2.2.1.below (Nat.le_refl _) hkp.2⟩
    clear hkp p0 p1 p2 p3 p4 pf pz
    obtain ⟨p0, p1, p2, p3, p4, pf, pz⟩ := HBX.out.1.facts
    obtain ⟨z0, z1, z2, z3, z4, zf, zz⟩ := HBX.out.2.1.facts
    by_cases hlt : k < m1
    · obtain ⟨g, o, ⟨nm, fd⟩, ha, _, hak, a0, a1⟩ := Ents.at HBX.out.2.2.2 hlt
      have HA : Hid ((M.dropE x.ents s)[k]? = some (nm, fd)) := hak
      have HNE : Hid (∀ e ∈ (M.dropE x.ents s).take k, e.1 ≠ s) := fun e he => drop_ne _ s e (List.mem_of_mem_take he)
      have HRK : Hid (M.RsE ((M.dropE x.ents s).take k ++ [(nm, fd)])) := by have := rs_takeE (k + 1) HR.out; rw [take_step hak] at this; exact this
      subst ha
      dsimp only at a0 a1
      have hkn : (k : Int) < (m1 : Int) := by omega
      have hk0 : (0 : Int) ≤ (k : Int) := by omega
      clear hak p0 p1 p2 p3 p4 z0 z1 z2 z3 z4
      cases hd : isIn s ((M.dropE x.ents s).take k)
      · rw [hd] at hmk
        simp only [Bool.toNat_false, Nat.add_zero] at hmk
        have HD : Hid (isIn s ((M.dropE x.ents s).take k) = false) := hd
        have HK0 : Hid (Keep W1 ((M.dropE x.ents s).take k) A m c wr) := by have := HK.out; unfold sofar at this; rw [show ((s, f) : ByteArray × Int).1 = s from rfl, hd] at this; exact this
        clear hd HK
        have hnm : nm ≠ s := drop_ne _ s (nm, fd) (List.mem_of_getElem? HA.out)
        have q2 : (nm.toList == s.toList) = false := by rw [raw_eq]; exact decide_eq_false hnm
        cases hlb : M.ltB s nm
        · have q : Op.bytesLess nm.toList s.toList = true := by
            cases hx : M.ltB nm s
            · exact absurd (M.ordB.tri _ _ hx hlb) hnm
            · exact hx
          have HLB : Hid (M.ltB s nm = false) := hlb
          clear hlb hnm
          go_wp2_with (at_builtin; refine wpList_append_row _ (by rfl) (.tmp 35) (.tmp 37) 24 (by rfl) W1.heap.size 72 i58 (.agg #[.string ByteArray.empty, .int .i64 0]) 24 Try.underlying24 hi58 hz58 hs58 hb58 rfl (by decide) _ m _ (by rfl) ((HK0.out.alloc _).alloc _).1 _ 1 1 [(nm, fd)] (by rfl) (row_new2 wr _ (nm, fd)) ent_len ent_one (by unfold maxLen; omega) (by omega) ((HK0.out.alloc _).alloc _).2.size ?_; intro v5 w5 hown5 hg5; obtain ⟨A5, c5, rfl, _, _⟩ := own_form hown5; have HK5 : Hid (Keep W1 (((M.dropE x.ents s).take k) ++ [(nm, fd)]) A5 (m + 1) c5 w5) := ((HK0.out.alloc _).alloc _).app hg5 hown5; clear hown5 hg5)
          go_roundw
          case rel => exact ⟨k + 1, m + 1, c5, A5, by omega, by go_num, rfl, by rw [take_step HA.out, isIn_snoc, HD.out, HLB.out]; rfl, by omega, by rw [take_step HA.out, sofar_low HD.out HLB.out]; exact HK5.out⟩
          case measure => simp [intOf]; omega
        · have q : Op.bytesLess nm.toList s.toList = false := by
            cases hx : M.ltB nm s
            · exact hx
            · have := M.ordB.tra _ _ _ hx hlb; rw [M.ordB.irr] at this; cases this
          have HLB : Hid (M.ltB s nm = true) := hlb
          have HM2 : Hid (m + 1 + 1 ≤ maxLen ∧ (m + 1 + 1) * 24 ≤ 140737488355328) := ⟨by unfold maxLen; omega, Nat.le_trans (Nat.mul_le_mul_right 24 (show m + 1 + 1 ≤ m1 + 1 by omega)) hen⟩
          clear hlb hnm
          go_wp2_with (first
            | (at_builtin; have hk4 := HK4.out; clear hk4; refine wpList_append_row _ (by rfl) (.tmp 35) (.tmp 37) 24 (by rfl) W1.heap.size 72 i58 (.agg #[.string ByteArray.empty, .int .i64 0]) 24 Try.underlying24 hi58 hz58 hs58 hb58 rfl (by decide) _ (m + 1) _ (by rfl) (HK4.out.alloc _).1 _ 1 1 [(nm, fd)] (by rfl) (row_new1 w4 (nm, fd)) ent_len ent_one HM2.out.1 HM2.out.2 (HK4.out.alloc _).2.size ?_; intro v5 w5 hown5 hg5; obtain ⟨A5, c5, rfl, _, _⟩ := own_form hown5; have HK5 : Hid (Keep W1 (((M.dropE x.ents s).take k) ++ [(s, f)] ++ [(nm, fd)]) A5 (m + 1 + 1) c5 w5) := (HK4.out.alloc _).app hg5 hown5; clear hown5 hg5)
            | (at_builtin; refine wpList_append_row _ (by rfl) (.tmp 29) (.tmp 33) 24 (by rfl) W1.heap.size 72 i58 (.agg #[.string ByteArray.empty, .int .i64 0]) 24 Try.underlying24 hi58 hz58 hs58 hb58 rfl (by decide) _ m _ (by rfl) ((HK0.out.alloc _).alloc _).1 _ 1 1 [(s, f)] (by rfl) (row_new2 wr _ (s, f)) ent_len ent_one (by unfold maxLen; omega) (by omega) ((HK0.out.alloc _).alloc _).2.size ?_; intro v4 w4 hown4 hg4; obtain ⟨A4, c4, rfl, -, -⟩ := own_form hown4; have HB4 : Hid (Box2 w4 wr.heap.size (nm, fd)) := box2_kept HK0.out hg4; have HK4 : Hid (Keep W1 (((M.dropE x.ents s).take k) ++ [(s, f)]) A4 (m + 1) c4 w4) := ((HK0.out.alloc _).alloc _).app hg4 hown4; clear hown4 hg4; obtain ⟨e0, e1, ef, ez⟩ := HB4.out.facts; dsimp only at e0 e1))
          go_roundw
          case rel => exact ⟨k + 1, m + 1 + 1, c5, A5, by omega, by go_num, rfl, by rw [take_step HA.out, isIn_snoc, HD.out, HLB.out]; rfl, by rw [take_step HA.out, isIn_snoc, HD.out, HLB.out]; simp; omega, by rw [take_step HA.out, sofar_first HD.out HNE.out HLB.out]; exact HK5.out⟩
          case measure => simp [intOf]; omega
      · rw [hd] at hmk
        simp only [Bool.toNat_true] at hmk
        have HD : Hid (isIn s ((M.dropE x.ents s).take k) = true) := hd
        clear hd
        go_wp2_with (at_builtin; refine wpList_append_row _ (by rfl) (.tmp 35) (.tmp 37) 24 (by rfl) W1.heap.size 72 i58 (.agg #[.string ByteArray.empty, .int .i64 0]) 24 Try.underlying24 hi58 hz58 hs58 hb58 rfl (by decide) _ m _ (by rfl) ((HK.out.alloc _).alloc _).1 _ 1 1 [(nm, fd)] (by rfl) (row_new2 wr _ (nm, fd)) ent_len ent_one (by unfold maxLen; omega) (by omega) ((HK.out.alloc _).alloc _).2.size ?_; intro v5 w5 hown5 hg5; obtain ⟨A5, c5, rfl, _, _⟩ := own_form hown5; have HK5 : Hid (Keep W1 (sofar (s, f) ((M.dropE x.ents s).take k) ++ [(nm, fd)]) A5 (m + 1) c5 w5) := ((HK.out.alloc _).alloc _).app hg5 hown5; clear hown5 hg5)
        go_roundw
        case rel => exact ⟨k + 1, m + 1, c5, A5, by omega, by go_num, rfl, by rw [take_step HA.out, isIn_snoc, HD.out]; rfl, by rw [take_step HA.out, isIn_snoc, HD.out]; simp; omega, by rw [take_step HA.out, sofar_then HD.out HRK.out]; exact HK5.out⟩
        case measure => simp [intOf]; omega
    · have HN : Hid ((M.dropE x.ents s).take k = M.dropE x.ents s) := by have := HL.out; show _ = _; exact List.take_of_length_le (by omega)
      cases hd : isIn s ((M.dropE x.ents s).take k)
      · rw [hd] at hmk
        have HD : Hid (isIn s (M.dropE x.ents s) = false) := by have := HN.out; rw [this] at hd; exact hd
        simp only [Bool.toNat_false, Nat.add_zero] at hmk
        have HK0 : Hid (Keep W1 (M.dropE x.ents s) A m c wr) := by have := HK.out; unfold sofar at this; rw [show ((s, f) : ByteArray × Int).1 = s from rfl, hd, HN.out] at this; exact this
        clear hd HK
        go_wp2_with (at_builtin; refine wpList_append_row _ (by rfl) (.tmp 42) (.tmp 46) 24 (by rfl) W1.heap.size 72 i58 (.agg #[.string ByteArray.empty, .int .i64 0]) 24 Try.underlying24 hi58 hz58 hs58 hb58 rfl (by decide) _ m _ (by rfl) (HK0.out.alloc _).1 _ 1 1 [(s, f)] (by rfl) (row_new1 wr (s, f)) ent_len ent_one (by unfold maxLen; omega) (by omega) (HK0.out.alloc _).2.size ?_; intro v5 w5 hown5 hg5; obtain ⟨A5, c5, rfl, _, _⟩ := own_form hown5; have HK5 : Hid (Keep W1 (M.dropE x.ents s ++ [(s, f)]) A5 (m + 1) c5 w5) := (HK0.out.alloc _).app hg5 hown5; clear hown5 hg5; have HBZ : Hid (Box w5 w.heap.size ⟨v.fid, v.dir, v.dA, v.dn, v.dc, A1, m1, c1, v.ver⟩ ∧ Box w5 (w.heap.size + 1) NV.zero ∧ Below w.heap.size w w5) := ⟨HW.out.1.below HK5.out.2 (by have := HW.out.2.2.2.2; omega), HW.out.2.1.below HK5.out.2 (by have := HW.out.2.2.2.2; omega), HW.out.2.2.1.trans (HK5.out.2.mono (by have := HW.out.2.2.2.2; omega))⟩; clear p0 p1 p2 p3 p4 pf pz z0 z1 z2 z3 z4 zf zz; obtain ⟨p0, p1, p2, p3, p4, pf, pz⟩ := HBZ.out.1.facts; obtain ⟨z0, z1, z2, z3, z4, zf, zz⟩ := HBZ.out.2.1.facts)
        have hkk := HK5.out
        rw [← putE_low (e0 := (s, f)) HD.out (drop_ne _ s), show M.putE (M.dropE x.ents s) (s, f) = M.putE x.ents (s, f) from putE_drop x.ents (s, f)] at hkk
        have hbr := put5_below (HBZ.out.2.2.setCell (p := ⟨w.heap.size, 3, none⟩) (Nat.le_refl _) (.slice A5 (m + 1) c5)) (s := w.heap.size + 1) (by omega) 0 ⟨v.fid, v.dir, v.dA, v.dn, v.dc, A5, m + 1, c5, v.ver⟩
        have hoe := put5_own (ownsRow_setCell_below hkk.1 (a := ⟨w.heap.size, 3, none⟩) (by show w.heap.size < _; have := HW.out.2.2.2.2; omega) (.slice A5 (m + 1) c5)) (s := w.heap.size + 1) (by have := HW.out.2.2.2.2; omega) 0 ⟨v.fid, v.dir, v.dA, v.dn, v.dc, A5, m + 1, c5, v.ver⟩
        exact bodyPost_ret (v := NV.val ⟨v.fid, v.dir, v.dA, v.dn, v.dc, A5, m + 1, c5, v.ver⟩) (by simp [results, Try.results27, go_sem, z0, z1, z2, z3, z4]) rfl ⟨⟨v.fid, v.dir, v.dA, v.dn, v.dc, A5, m + 1, c5, v.ver⟩, rfl, ⟨HC.out.1.1, HC.out.1.2.1, HC.out.1.2.2.1, HC.out.1.2.2.2.1.below (Nat.le_refl _) hbr, Row.ofOwn ent_len (by decide) hoe⟩, hbr⟩
      · have HKF : Hid (Keep W1 (M.putE x.ents (s, f)) A m c wr) := by have := HK.out; unfold sofar at this; rw [show ((s, f) : ByteArray × Int).1 = s from rfl, hd, HN.out, if_pos rfl] at this; rw [← putE_drop]; exact this
        clear hd HK
        go_wp2
        have hkk := HKF.out
        have hbr := put5_below (HBX.out.2.2.1.setCell (p := ⟨w.heap.size, 3, none⟩) (Nat.le_refl _) (.slice A m c)) (s := w.heap.size + 1) (by omega) 0 ⟨v.fid, v.dir, v.dA, v.dn, v.dc, A, m, c, v.ver⟩
        have hoe := put5_own (ownsRow_setCell_below hkk.1 (a := ⟨w.heap.size, 3, none⟩) (by show w.heap.size < _; have := HW.out.2.2.2.2; omega) (.slice A m c)) (s := w.heap.size + 1) (by have := HW.out.2.2.2.2; omega) 0 ⟨v.fid, v.dir, v.dA, v.dn, v.dc, A, m, c, v.ver⟩
        exact bodyPost_ret (v := NV.val ⟨v.fid, v.dir, v.dA, v.dn, v.dc, A, m, c, v.ver⟩) (by simp [results, Try.results27, go_sem, z0, z1, z2, z3, z4]) rfl ⟨⟨v.fid, v.dir, v.dA, v.dn, v.dc, A, m, c, v.ver⟩, rfl, ⟨HC.out.1.1, HC.out.1.2.1, HC.out.1.2.2.1, HC.out.1.2.2.2.1.below (Nat.le_refl _) hbr, Row.ofOwn ent_len (by decide) hoe⟩, hbr⟩
end Go.Proofs.Ytkdpdgbacladhaa
