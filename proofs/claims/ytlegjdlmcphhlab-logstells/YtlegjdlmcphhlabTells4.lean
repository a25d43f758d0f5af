/-
  THE LAW LogsTells, walked: of any log, record and fids it answers true, and all that was there stays.
-/
import Derived.Test.YtlegjdlmcphhlabRefm
import Derived.Test.YtlegjdlmcphhlabPart12
import Derived.Test.YtlegjdlmcphhlabSamelogb
import Derived.Deep.CutRange
namespace Go.Proofs.Ytlegjdlmcphhlab
open Go.RowKit

theorem allR_self (xs : List M.Rec) : allB sameR xs xs = true := allR_iff.2 rfl
/-- acts; an act's place; an act -/
def IsAs (ys : List M.Act) : Value → World → Prop := fun v W => ∃ (B : Option Addr) (m d : Nat) (us : List AV), v = .slice B m d ∧ TreeA W B m us ys
def IsAp (y : M.Act) : Value → World → Prop := fun v W => ∃ (b o : Nat) (av : AV), v = .pointer (some ⟨b, o, none⟩) ∧ b < W.heap.size ∧ ActAt W b o av ∧ ContA W av y
def IsA (y : M.Act) : Value → World → Prop := fun v W => ∃ av : AV, v = AV.val av ∧ ContA W av y
theorem isAs_below {ys : List M.Act} {v : Value} {W W' : World} (hb : Below W.heap.size W W') (h : IsAs ys v W) : IsAs ys v W' := by
  obtain ⟨B, m, d, us, e, ht⟩ := h
  exact ⟨B, m, d, us, e, ht.1.below (Nat.le_refl _) hb, ht.2.imp fun _ _ h => h.below (Nat.le_refl _) hb⟩
theorem isAp_below {y : M.Act} {v : Value} {W W' : World} (hb : Below W.heap.size W W') (h : IsAp y v W) : IsAp y v W' := by
  obtain ⟨b, o, av, e, h1, h2, h3⟩ := h
  exact ⟨b, o, av, e, Nat.lt_of_lt_of_le h1 hb.size, h2.below hb h1, h3.below (Nat.le_refl _) hb⟩
theorem isA_below {y : M.Act} {v : Value} {W W' : World} (hb : Below W.heap.size W W') (h : IsA y v W) : IsA y v W' := by
  obtain ⟨av, e, h3⟩ := h
  exact ⟨av, e, h3.below (Nat.le_refl _) hb⟩
/-- the turned act's value -/
@[reducible] def turnV (a : AV) (f t : Int) : AV := ⟨a.kind, turnI a.fid f t, turnI a.dir f t, a.name, turnI a.to f t, a.toName, a.dA, a.dn, a.dc⟩
theorem turnV_is {w : World} {a : AV} {x : M.Act} (h : ContA w a x) (f t : Int) : ContA w (turnV a f t) (turnA x f t) := by
  obtain ⟨h1, h2, h3, h4, h5, h6, h7⟩ := h
  exact ⟨h1, by show turnI a.fid f t = turnI x.fid f t; rw [h2], by show turnI a.dir f t = turnI x.dir f t; rw [h3], h4, by show turnI a.to f t = turnI x.to f t; rw [h5], h6, h7⟩
def VT12 (n c k b o g dx s15 : Nat) (f t : Int) (v u : RV) (ta : AV) (x : M.Rec) (xs : List M.Rec) : Nat → Value → World → Prop
  | 0 => IsW (.slice (some ⟨b, o, none⟩) n c)
  | 1 => IsAs (xs.map (·.act))
  | 2 => IsW (.int .i64 ((k : Nat) : Int))
  | 3 => IsAp x.act
  | 4 => IsA x.act
  | 5 => IsW (.pointer (some ⟨s15, 0, none⟩))
  | 6 => IsW (AV.val v.a)
  | 7 => IsW (.bool true)
  | 8 => IsW (.bool false)
  | 9 => IsW (.bool false)
  | 10 => IsW (.slice (some ⟨g, 0, none⟩) n dx)
  | 11 => IsW (.int .i64 ((k : Nat) : Int))
  | 12 => IsW (.pointer (some ⟨g, 0 + k * 9, none⟩))
  | 13 => IsW (.pointer (some ⟨g, 0 + k * 9, none⟩))
  | 14 => IsW (AV.val u.a)
  | 15 => IsW (AV.val ta)
  | 16 => IsW (.bool true)
  | 17 => IsW (.bool false)
  | 18 => IsW (.bool false)
  | 19 => IsW (.bool false)
  | 20 => IsW (.slice (some ⟨g, 0, none⟩) n dx)
  | 21 => IsW (.int .i64 ((k : Nat) : Int))
  | 22 => IsW (.pointer (some ⟨g, 0 + k * 9, none⟩))
  | 23 => IsW (.pointer (some ⟨g, 0 + k * 9 + 7, none⟩))
  | 24 => IsW (.int .i64 (u.ver))
  | 25 => IsW (.pointer (some ⟨s15, 0 + 7, none⟩))
  | 26 => IsW (.int .i64 (v.ver))
  | 27 => IsW (.bool false)
  | 28 => IsW (.bool false)
  | 29 => IsW (.bool false)
  | 30 => IsW (.slice (some ⟨g, 0, none⟩) n dx)
  | 31 => IsW (.int .i64 ((k : Nat) : Int))
  | 32 => IsW (.pointer (some ⟨g, 0 + k * 9, none⟩))
  | 33 => IsW (.pointer (some ⟨g, 0 + k * 9 + 8, none⟩))
  | 34 => IsW (.int .i64 (u.id))
  | 35 => IsW (.pointer (some ⟨s15, 0 + 8, none⟩))
  | 36 => IsW (.int .i64 (v.id))
  | 37 => IsW (.bool false)
  | 38 => IsW (.bool false)
  | 39 => IsW (.bool false)
  | 40 => IsW (.pointer (some ⟨s15, 0, none⟩))
  | 41 => IsW (AV.val v.a)
  | 42 => IsW (.int .i64 (f))
  | 43 => IsW (.int .i64 (t))
  | 44 => IsA (turnA x.act f t)
  | 45 => IsW (AV.val ta)
  | 46 => IsW (.bool true)
  | 47 => IsW (.bool false)
  | 48 => IsW (.bool false)
  | _ => fun _ _ => True
theorem VT12_stays (n c k b o g dx s15 : Nat) (f t : Int) (v u : RV) (ta : AV) (x : M.Rec) (xs : List M.Rec) : ∀ i, Stays (VT12 n c k b o g dx s15 f t v u ta x xs i) := by
  intro i v W W' hb h
  match i, h with
  | 0, h => exact h
  | 1, h => exact isAs_below hb h
  | 2, h => exact h
  | 3, h => exact isAp_below hb h
  | 4, h => exact isA_below hb h
  | 5, h => exact h
  | 6, h => exact h
  | 7, h => exact h
  | 8, h => exact h
  | 9, h => exact h
  | 10, h => exact h
  | 11, h => exact h
  | 12, h => exact h
  | 13, h => exact h
  | 14, h => exact h
  | 15, h => exact h
  | 16, h => exact h
  | 17, h => exact h
  | 18, h => exact h
  | 19, h => exact h
  | 20, h => exact h
  | 21, h => exact h
  | 22, h => exact h
  | 23, h => exact h
  | 24, h => exact h
  | 25, h => exact h
  | 26, h => exact h
  | 27, h => exact h
  | 28, h => exact h
  | 29, h => exact h
  | 30, h => exact h
  | 31, h => exact h
  | 32, h => exact h
  | 33, h => exact h
  | 34, h => exact h
  | 35, h => exact h
  | 36, h => exact h
  | 37, h => exact h
  | 38, h => exact h
  | 39, h => exact h
  | 40, h => exact h
  | 41, h => exact h
  | 42, h => exact h
  | 43, h => exact h
  | 44, h => exact isA_below hb h
  | 45, h => exact h
  | 46, h => exact h
  | 47, h => exact h
  | 48, h => exact h
  | k + 49, h => trivial

set_option maxRecDepth 8000 in
set_option maxHeartbeats 8000000 in
theorem tells4_any (A : Option Addr) (n c : Nat) (vs : List RV) (xs : List M.Rec) (r : RV) (q : M.Rec) (f t : Int) (w : World) (ht : TreeR w A n vs xs) (hs : ∀ x ∈ xs, x.act.data.length ≤ 140737488355328) (hn : (n + 2) * 104 ≤ 140737488355328) (hnc : n ≤ c) (hcm : c ≤ maxLen) (hr : ContR w r q) (hsx : q.act.data.length ≤ 140737488355328) :
    Calls Try.prog 6 #[.slice A n c, r.val, .int .i64 f, .int .i64 t] w fun e w' => e = .returned (.bool true) ∧ Below w.heap.size w w' := by
  have HT : Hid (TreeR w A n vs xs ∧ ContR w r q ∧ q.act.data.length ≤ 140737488355328) := ⟨ht, hr, hsx⟩
  have HS : Hid (∀ x ∈ xs, x.act.data.length ≤ 140737488355328) := hs
  have HNX : Hid (n = xs.length) := ht.len
  have HW : Hid _ := boxR_start w r
  clear ht hs hr hsx
  go_enter Try.func6, Try.ntmps6
  go_wp2_with (fail)
  obtain ⟨q1, q2, q3⟩ := HW.out _ rfl
  refine (add_any A n c vs xs r q _ (HT.out.1.below (Nat.le_refl _) q1) HS.out hn hnc hcm (HT.out.2.1.below (Nat.le_refl _) q1) HT.out.2.2).mono ?_
  rintro e w1 ⟨B1, m1, d1, us1, rfl, ho1, hb1⟩
  have H1 : Hid (Below w.heap.size w w1 ∧ BoxR w1 w.heap.size r ∧ TreeR w1 B1 m1 us1 (M.addS xs q).2) := ⟨q1.trans (hb1.mono (by omega)), q2.below hb1 (by omega), ho1.tree⟩
  clear q1 q2 q3 ho1 hb1 HW
  obtain ⟨b0, b1, b2, b3, b4, b5, b6, b7, b8, bf, bz⟩ := H1.out.2.1.facts
  go_wp2_with (fail)
  refine (refAdd_any A n c vs xs r q w1 (HT.out.1.below (Nat.le_refl _) H1.out.1) hn (HT.out.2.1.below (Nat.le_refl _) H1.out.1)).mono ?_
  rintro e w2 ⟨B2, m2, d2, us2, rfl, ht2, hb2⟩
  have hm1 : m1 ≤ n + 1 := by
    rw [H1.out.2.2.len, HNX.out]
    unfold M.addS
    split
    · exact Nat.le_trans (List.length_filter_le _ _) (Nat.le_succ _)
    · split
      · exact Nat.zero_le _
      · rw [List.length_append]; exact Nat.add_le_add_right (List.length_filter_le _ _) 1
  have hm2 : m2 = m1 := by rw [ht2.len, H1.out.2.2.len]
  subst hm2
  have H2 : Hid (Below w.heap.size w w2 ∧ TreeR w2 B1 m2 us1 (M.addS xs q).2 ∧ TreeR w2 B2 m2 us2 (M.addS xs q).2) := ⟨H1.out.1.trans (hb2.mono H1.out.1.size), H1.out.2.2.below (Nat.le_refl _) hb2, ht2⟩
  clear ht2 hb2 H1 b0 b1 b2 b3 b4 b5 b6 b7 b8 bf bz
  have e0 : ((M.addS xs q).1 != (M.addS xs q).1) = false := by simp
  have e1 : ((M.addS xs q).1 == (M.addS xs q).1) = true := by simp
  have e2 : ((n : Int) != (n : Int)) = false := by simp
  go_wp2_with (fail)
  refine (sameLog_any B1 B2 m2 m2 d1 d2 us1 us2 _ _ w2 H2.out.2.1 H2.out.2.2 (by omega) (by omega)).mono ?_
  rintro e w3 ⟨rfl, hb3⟩
  rw [allR_self]
  have H3 : Hid (Below w.heap.size w w3) := H2.out.1.trans (hb3.mono H2.out.1.size)
  clear hb3 H2
  go_wp2_with (fail)
  refine (ownLog_any A n c vs xs w3 (HT.out.1.below (Nat.le_refl _) H3.out) HS.out (by omega)).mono ?_
  rintro e w4 ⟨B4, m4, d4, us4, rfl, ho4, hb4⟩
  have hm4 : m4 = n := by rw [ho4.tree.len]; exact HNX.out.symm
  subst hm4
  have H4 : Hid (Below w.heap.size w w4 ∧ TreeR w4 B4 m4 us4 xs) := ⟨H3.out.trans (hb4.mono H3.out.size), ho4.tree⟩
  clear hb4 ho4 H3
  go_wp2_with (fail)
  refine (sameLog_any B4 A m4 m4 d4 c us4 vs _ _ w4 H4.out.2 (HT.out.1.below (Nat.le_refl _) H4.out.1) (by omega) (by omega)).mono ?_
  rintro e w5 ⟨rfl, hb5⟩
  rw [allR_self]
  have H5 : Hid (Below w.heap.size w w5) := H4.out.1.trans (hb5.mono H4.out.1.size)
  clear hb5 H4
  go_wp2_with (fail)
  refine (acts_any A m4 c vs xs w5 (HT.out.1.below (Nat.le_refl _) H5.out) HS.out (by omega)).mono ?_
  rintro e w6 ⟨B6, m6, d6, us6, rfl, ho6, hb6⟩
  have hm6 : m6 = m4 := by rw [actsLen ho6, List.length_map]; exact HNX.out.symm
  subst hm6
  have H6 : Hid (Below w.heap.size w w6) := H5.out.trans (hb6.mono H5.out.size)
  clear hb6 ho6 H5
  go_wp2_with (fail)
  refine (renameLog_any A m6 c vs xs f t w6 (HT.out.1.below (Nat.le_refl _) H6.out) HS.out (by omega)).mono ?_
  rintro e w7 ⟨B7, dx, us7, rfl, ho7, hb7⟩
  have H7 : Hid (Below w.heap.size w w7 ∧ OwnL w7 w6.heap.size B7 m6 dx us7 (xs.map (turnR f t))) := ⟨H6.out.trans (hb7.mono H6.out.size), ho7⟩
  clear hb7 ho7 H6
  clear e0 e1
  go_wp2_with (fail)
  go_loopw [64] (fun i wr => ∃ k : Nat, k ≤ m6 ∧ i = .int .i64 k ∧ Below w7.heap.size w7 wr) (fun i _ => m6 - (intOf i).toNat)
  case atStart => exact ⟨0, Nat.zero_le _, rfl, Below.refl _ _⟩
  case round =>
    obtain ⟨k, hk, rfl, hb⟩ := hrel
    have hsz := hb.size
    have hbw : Below w.heap.size w wr := H7.out.1.trans (hb.mono H7.out.1.size)
    by_cases hlt : k < m6
    · have htr := HT.out.1.below (Nat.le_refl _) hbw
      obtain ⟨b, o, v, rfl, hgb, hvk, c0, c1, c2, c3, c4, c5, c6, c7, c8⟩ := htr.1.at hlt
      obtain ⟨x, hx, hcx⟩ := htr.2.at hvk
      have hgf : ∃ g, B7 = some ⟨g, 0, none⟩ := by
        rcases H7.out.2.1.2 with ⟨_, h0⟩ | ⟨g, cap, cur, hv, hg, _⟩
        · omega
        · cases hv; exact ⟨g, rfl⟩
      obtain ⟨g, rfl⟩ := hgf
      have ho7 := H7.out.2.tree.below (Nat.le_refl _) hb
      obtain ⟨g', o', u, hA, hgb', huk, _⟩ := ho7.1.at hlt
      cases hA
      have hcu := ho7.2.2 k u (turnR f t x) huk (by rw [List.getElem?_map, hx]; rfl)
      have HX : Hid (ContR wr v x ∧ ContR wr u (turnR f t x) ∧ RecAt wr g (0 + k * 9) u ∧ g < wr.heap.size) := ⟨hcx, hcu, Recs.recAt ho7.1 huk, hgb'⟩
      have hxk : Hid (xs[k]? = some x) := hx
      have HSX : Hid (x.act.data.length ≤ 140737488355328) := HS.out x (List.mem_of_getElem? hx)
      have HWA : Hid _ := boxR_start wr v
      have r1 : (u.ver != v.ver) = false := by rw [hcu.2.1, hcx.2.1]; simp [turnR]
      have r2 : (u.id != v.id) = false := by rw [hcu.2.2, hcx.2.2]; simp [turnR]
      clear hvk htr hx hcx hcu huk ho7 hgb hgb'
      rename World => wr
      go_wp2_with (fail)
      obtain ⟨p1, p2, p3⟩ := HWA.out _ rfl
      refine (refTurn_any v.a f t _).mono ?_
      rintro e w8 ⟨rfl, hb8⟩
      have h8 : Below wr.heap.size wr w8 := p1.trans (hb8.mono (by omega))
      have H8 : Hid (Below wr.heap.size wr w8 ∧ BoxR w8 wr.heap.size v) := ⟨h8, p2.below hb8 (by omega)⟩
      have HWT : Hid _ := boxA_start w8 (turnV v.a f t)
      clear p1 p2 p3 hb8 HWA h8 c0 c1 c2 c3 c4 c5 c6 c7 c8 r1 r2
      go_upto_region 12 with (fail)
      go_cut [122] from 74 to 122 (fun s W => s = .bool false ∧ Below w7.heap.size w7 W)
      case first =>
        have r1 : (u.ver != v.ver) = false := by rw [HX.out.2.1.2.1, HX.out.1.2.1]; simp [turnR]
        have r2 : (u.id != v.id) = false := by rw [HX.out.2.1.2.2, HX.out.1.2.2]; simp [turnR]
        have hnx : m6 = xs.length := HNX.out
        obtain ⟨p1, p2, p3⟩ := HWT.out (w8.alloc (AV.obj (turnV v.a f t))) rfl
        have hbd : ∀ W, Below (w8.alloc (AV.obj (turnV v.a f t))).drew.heap.size (w8.alloc (AV.obj (turnV v.a f t))).drew W → Below (w8.alloc (AV.obj (turnV v.a f t))).heap.size (w8.alloc (AV.obj (turnV v.a f t))) W := fun W hb => (Below.refl _ _).drew.trans hb
        have hb8 : ∀ W, Below (w8.alloc (AV.obj (turnV v.a f t))).drew.heap.size (w8.alloc (AV.obj (turnV v.a f t))).drew W → Below w8.heap.size w8 W := fun W hb => p1.trans ((hbd W hb).mono p1.size)
        have hbr : ∀ W, Below (w8.alloc (AV.obj (turnV v.a f t))).drew.heap.size (w8.alloc (AV.obj (turnV v.a f t))).drew W → Below wr.heap.size wr W := fun W hb => H8.out.1.trans ((hb8 W hb).mono H8.out.1.size)
        have HBV : ∀ W, Below (w8.alloc (AV.obj (turnV v.a f t))).drew.heap.size (w8.alloc (AV.obj (turnV v.a f t))).drew W → RecAt W wr.heap.size 0 v := fun W hb => H8.out.2.at_.below (hb8 W hb) (lt_of_block H8.out.2)
        have HBT : ∀ W, Below (w8.alloc (AV.obj (turnV v.a f t))).drew.heap.size (w8.alloc (AV.obj (turnV v.a f t))).drew W → ActAt W w8.heap.size 0 (turnV v.a f t) := fun W hb => p2.at_.below (hbd W hb) (lt_of_block p2)
        have HRU : ∀ W, Below (w8.alloc (AV.obj (turnV v.a f t))).drew.heap.size (w8.alloc (AV.obj (turnV v.a f t))).drew W → RecAt W g (0 + k * 9) u := fun W hb => HX.out.2.2.1.below (hbr W hb) HX.out.2.2.2
        have HCV : ∀ W, Below (w8.alloc (AV.obj (turnV v.a f t))).drew.heap.size (w8.alloc (AV.obj (turnV v.a f t))).drew W → ContA W v.a x.act := fun W hb => HX.out.1.1.below (Nat.le_refl _) (hbr W hb)
        have HCU : ∀ W, Below (w8.alloc (AV.obj (turnV v.a f t))).drew.heap.size (w8.alloc (AV.obj (turnV v.a f t))).drew W → ContA W u.a (turnA x.act f t) := fun W hb => HX.out.2.1.1.below (Nat.le_refl _) (hbr W hb)
        have HCT : ∀ W, Below (w8.alloc (AV.obj (turnV v.a f t))).drew.heap.size (w8.alloc (AV.obj (turnV v.a f t))).drew W → ContA W (turnV v.a f t) (turnA x.act f t) := fun W hb => turnV_is (HCV W hb) f t
        have HTW : ∀ W, Below (w8.alloc (AV.obj (turnV v.a f t))).drew.heap.size (w8.alloc (AV.obj (turnV v.a f t))).drew W → TreeR W (some ⟨b, o, none⟩) m6 vs xs := fun W hb => HT.out.1.below (Nat.le_refl _) (hbw.trans ((hbr W hb).mono hbw.size))
        have HEND : Hid (∀ W, Below (w8.alloc (AV.obj (turnV v.a f t))).heap.size (w8.alloc (AV.obj (turnV v.a f t))) W → Below w7.heap.size w7 W) := fun W hb0 => hb.trans ((H8.out.1.trans ((p1.trans (hb0.mono p1.size)).mono H8.out.1.size)).mono hsz)
        clear p1 p2 p3
        refine wp_region_vals (VT12 m6 c k b o g dx wr.heap.size f t v u (turnV v.a f t) x xs) (by kernel_rfl) (by kernel_rfl) (VT12_stays m6 c k b o g dx wr.heap.size f t v u (turnV v.a f t) x xs) ?_ ?_
        · intro i hi
          match i, hi with
          | 0, _ =>
            refine StepAt.by rfl fun a' W hf hb hd => ?_
            exact .inl ⟨want_none, does_move ((hf.keeps 0 (by kernel_rfl)).trans rfl) ⟨Below.refl _ _, rfl⟩⟩
          | 1, _ =>
            refine StepAt.by rfl fun a' W hf hb hd => ?_
            refine .inl ⟨want_none, ?_⟩
            exact does_call1 (enters_of Try.func22 (by kernel_rfl) (by kernel_rfl)) (hd 0 (by kernel_rfl)) ((acts_any _ m6 c vs xs W (HTW W hb) HS.out (by omega)).mono fun e W' ⟨B, m, d, us, he, ho, hb'⟩ => ⟨_, he, hb', B, m, d, us, rfl, ho.tree⟩)
          | 2, _ =>
            refine StepAt.by rfl fun a' W hf hb hd => ?_
            exact .inl ⟨want_none, does_move ((hf.keeps 14 (by kernel_rfl)).trans rfl) ⟨Below.refl _ _, rfl⟩⟩
          | 3, _ =>
            refine StepAt.by rfl fun a' W hf hb hd => ?_
            refine .inl ⟨want_none, ?_⟩
            obtain ⟨B1, m1, d1, us1, e1, ht1⟩ := hd 1 (by kernel_rfl)
            have hm1 : m1 = m6 := by rw [ht1.1.1, ht1.2.1, List.length_map]; exact hnx.symm
            subst hm1
            obtain ⟨b1, o1, av, rfl, hbl, hav, hcl⟩ := Row.at ht1.1 hlt
            exact does_run (run_indexA e1 (hd 2 (by kernel_rfl)) hlt) ⟨Below.refl _ _, b1, o1 + k * 7, av, rfl, hbl, hcl, ht1.2.2 k av x.act hav (by rw [List.getElem?_map, hxk.out]; rfl)⟩
          | 4, _ =>
            refine StepAt.by rfl fun a' W hf hb hd => ?_
            refine .inl ⟨want_none, ?_⟩
            obtain ⟨b1, o1, av, e1, hbl, hcl, hca⟩ := hd 3 (by kernel_rfl)
            exact does_run (run_loadA e1 hcl) ⟨Below.refl _ _, av, rfl, hca⟩
          | 5, _ =>
            refine StepAt.by rfl fun a' W hf hb hd => ?_
            exact .inl ⟨want_none, does_run (run_fieldR0 ((hf.keeps 15 (by kernel_rfl)).trans rfl)) ⟨Below.refl _ _, rfl⟩⟩
          | 6, _ =>
            refine StepAt.by rfl fun a' W hf hb hd => ?_
            exact .inl ⟨want_none, does_run (run_loadA (hd 5 (by kernel_rfl)) (RecAt.act (HBV W hb))) ⟨Below.refl _ _, rfl⟩⟩
          | 7, _ =>
            refine StepAt.by rfl fun a' W hf hb hd => ?_
            refine .inl ⟨want_none, ?_⟩
            obtain ⟨av, e1, hca⟩ := hd 4 (by kernel_rfl)
            exact does_call2 (enters_of Try.func25 (by kernel_rfl) (by kernel_rfl)) e1 (hd 6 (by kernel_rfl)) ((sameAct_any _ _ x.act W hca (HCV W hb)).mono fun e W' ⟨he, hb'⟩ => ⟨_, he, hb', rfl⟩)
          | 8, _ =>
            refine StepAt.by rfl fun a' W hf hb hd => ?_
            exact .inl ⟨want_none, does_not (hd 7 (by kernel_rfl)) ⟨Below.refl _ _, rfl⟩⟩
          | 9, _ =>
            refine StepAt.by rfl fun a' W hf hb hd => ?_
            exact .inl ⟨want_none, does_move (hd 8 (by kernel_rfl)) ⟨Below.refl _ _, rfl⟩⟩
          | 10, _ =>
            refine StepAt.by rfl fun a' W hf hb hd => ?_
            exact .inl ⟨want_some (k := 9) (t := 83) rfl (hd 9 (by kernel_rfl)), does_move ((hf.keeps 13 (by kernel_rfl)).trans rfl) ⟨Below.refl _ _, rfl⟩⟩
          | 11, _ =>
            refine StepAt.by rfl fun a' W hf hb hd => ?_
            exact .inl ⟨want_some (k := 9) (t := 83) rfl (hd 9 (by kernel_rfl)), does_move ((hf.keeps 14 (by kernel_rfl)).trans rfl) ⟨Below.refl _ _, rfl⟩⟩
          | 12, _ =>
            refine StepAt.by rfl fun a' W hf hb hd => ?_
            exact .inl ⟨want_some (k := 9) (t := 83) rfl (hd 9 (by kernel_rfl)), does_run (run_indexR (hd 10 (by kernel_rfl)) (hd 11 (by kernel_rfl)) (by omega)) ⟨Below.refl _ _, rfl⟩⟩
          | 13, _ =>
            refine StepAt.by rfl fun a' W hf hb hd => ?_
            exact .inl ⟨want_some (k := 9) (t := 83) rfl (hd 9 (by kernel_rfl)), does_run (run_fieldR0 (hd 12 (by kernel_rfl))) ⟨Below.refl _ _, rfl⟩⟩
          | 14, _ =>
            refine StepAt.by rfl fun a' W hf hb hd => ?_
            exact .inl ⟨want_some (k := 9) (t := 83) rfl (hd 9 (by kernel_rfl)), does_run (run_loadA (hd 13 (by kernel_rfl)) (RecAt.act (HRU W hb))) ⟨Below.refl _ _, rfl⟩⟩
          | 15, _ =>
            refine StepAt.by rfl fun a' W hf hb hd => ?_
            exact .inl ⟨want_some (k := 9) (t := 83) rfl (hd 9 (by kernel_rfl)), does_run (run_loadA ((hf.keeps 16 (by kernel_rfl)).trans rfl) (HBT W hb)) ⟨Below.refl _ _, rfl⟩⟩
          | 16, _ =>
            refine StepAt.by rfl fun a' W hf hb hd => ?_
            refine .inl ⟨want_some (k := 9) (t := 83) rfl (hd 9 (by kernel_rfl)), ?_⟩
            exact does_call2 (enters_of Try.func25 (by kernel_rfl) (by kernel_rfl)) (hd 14 (by kernel_rfl)) (hd 15 (by kernel_rfl)) ((sameAct_any _ _ (turnA x.act f t) W (HCU W hb) (HCT W hb)).mono fun e W' ⟨he, hb'⟩ => ⟨_, he, hb', rfl⟩)
          | 17, _ =>
            refine StepAt.by rfl fun a' W hf hb hd => ?_
            exact .inl ⟨want_some (k := 9) (t := 83) rfl (hd 9 (by kernel_rfl)), does_not (hd 16 (by kernel_rfl)) ⟨Below.refl _ _, rfl⟩⟩
          | 18, _ =>
            refine StepAt.by rfl fun a' W hf hb hd => ?_
            exact .inl ⟨want_none, does_pick (b := false) (hd 9 (by kernel_rfl)) (hd 17 (by kernel_rfl)) ⟨Below.refl _ _, rfl⟩⟩
          | 19, _ =>
            refine StepAt.by rfl fun a' W hf hb hd => ?_
            exact .inl ⟨want_none, does_move (hd 18 (by kernel_rfl)) ⟨Below.refl _ _, rfl⟩⟩
          | 20, _ =>
            refine StepAt.by rfl fun a' W hf hb hd => ?_
            exact .inl ⟨want_some (k := 19) (t := 93) rfl (hd 19 (by kernel_rfl)), does_move ((hf.keeps 13 (by kernel_rfl)).trans rfl) ⟨Below.refl _ _, rfl⟩⟩
          | 21, _ =>
            refine StepAt.by rfl fun a' W hf hb hd => ?_
            exact .inl ⟨want_some (k := 19) (t := 93) rfl (hd 19 (by kernel_rfl)), does_move ((hf.keeps 14 (by kernel_rfl)).trans rfl) ⟨Below.refl _ _, rfl⟩⟩
          | 22, _ =>
            refine StepAt.by rfl fun a' W hf hb hd => ?_
            exact .inl ⟨want_some (k := 19) (t := 93) rfl (hd 19 (by kernel_rfl)), does_run (run_indexR (hd 20 (by kernel_rfl)) (hd 21 (by kernel_rfl)) (by omega)) ⟨Below.refl _ _, rfl⟩⟩
          | 23, _ =>
            refine StepAt.by rfl fun a' W hf hb hd => ?_
            exact .inl ⟨want_some (k := 19) (t := 93) rfl (hd 19 (by kernel_rfl)), does_run (run_fieldR1 (hd 22 (by kernel_rfl))) ⟨Below.refl _ _, rfl⟩⟩
          | 24, _ =>
            refine StepAt.by rfl fun a' W hf hb hd => ?_
            exact .inl ⟨want_some (k := 19) (t := 93) rfl (hd 19 (by kernel_rfl)), does_run (run_load3 (hd 23 (by kernel_rfl)) ((HRU W hb) 7 _ rfl)) ⟨Below.refl _ _, rfl⟩⟩
          | 25, _ =>
            refine StepAt.by rfl fun a' W hf hb hd => ?_
            exact .inl ⟨want_some (k := 19) (t := 93) rfl (hd 19 (by kernel_rfl)), does_run (run_fieldR1 ((hf.keeps 15 (by kernel_rfl)).trans rfl)) ⟨Below.refl _ _, rfl⟩⟩
          | 26, _ =>
            refine StepAt.by rfl fun a' W hf hb hd => ?_
            exact .inl ⟨want_some (k := 19) (t := 93) rfl (hd 19 (by kernel_rfl)), does_run (run_load3 (hd 25 (by kernel_rfl)) ((HBV W hb) 7 _ rfl)) ⟨Below.refl _ _, rfl⟩⟩
          | 27, _ =>
            refine StepAt.by rfl fun a' W hf hb hd => ?_
            exact .inl ⟨want_some (k := 19) (t := 93) rfl (hd 19 (by kernel_rfl)), does_run (run_neqI (hd 24 (by kernel_rfl)) (hd 26 (by kernel_rfl))) ⟨Below.refl _ _, by show Value.bool _ = _; rw [r1]⟩⟩
          | 28, _ =>
            refine StepAt.by rfl fun a' W hf hb hd => ?_
            exact .inl ⟨want_none, does_pick (b := false) (hd 19 (by kernel_rfl)) (hd 27 (by kernel_rfl)) ⟨Below.refl _ _, rfl⟩⟩
          | 29, _ =>
            refine StepAt.by rfl fun a' W hf hb hd => ?_
            exact .inl ⟨want_none, does_move (hd 28 (by kernel_rfl)) ⟨Below.refl _ _, rfl⟩⟩
          | 30, _ =>
            refine StepAt.by rfl fun a' W hf hb hd => ?_
            exact .inl ⟨want_some (k := 29) (t := 103) rfl (hd 29 (by kernel_rfl)), does_move ((hf.keeps 13 (by kernel_rfl)).trans rfl) ⟨Below.refl _ _, rfl⟩⟩
          | 31, _ =>
            refine StepAt.by rfl fun a' W hf hb hd => ?_
            exact .inl ⟨want_some (k := 29) (t := 103) rfl (hd 29 (by kernel_rfl)), does_move ((hf.keeps 14 (by kernel_rfl)).trans rfl) ⟨Below.refl _ _, rfl⟩⟩
          | 32, _ =>
            refine StepAt.by rfl fun a' W hf hb hd => ?_
            exact .inl ⟨want_some (k := 29) (t := 103) rfl (hd 29 (by kernel_rfl)), does_run (run_indexR (hd 30 (by kernel_rfl)) (hd 31 (by kernel_rfl)) (by omega)) ⟨Below.refl _ _, rfl⟩⟩
          | 33, _ =>
            refine StepAt.by rfl fun a' W hf hb hd => ?_
            exact .inl ⟨want_some (k := 29) (t := 103) rfl (hd 29 (by kernel_rfl)), does_run (run_fieldR2 (hd 32 (by kernel_rfl))) ⟨Below.refl _ _, rfl⟩⟩
          | 34, _ =>
            refine StepAt.by rfl fun a' W hf hb hd => ?_
            exact .inl ⟨want_some (k := 29) (t := 103) rfl (hd 29 (by kernel_rfl)), does_run (run_load3 (hd 33 (by kernel_rfl)) ((HRU W hb) 8 _ rfl)) ⟨Below.refl _ _, rfl⟩⟩
          | 35, _ =>
            refine StepAt.by rfl fun a' W hf hb hd => ?_
            exact .inl ⟨want_some (k := 29) (t := 103) rfl (hd 29 (by kernel_rfl)), does_run (run_fieldR2 ((hf.keeps 15 (by kernel_rfl)).trans rfl)) ⟨Below.refl _ _, rfl⟩⟩
          | 36, _ =>
            refine StepAt.by rfl fun a' W hf hb hd => ?_
            exact .inl ⟨want_some (k := 29) (t := 103) rfl (hd 29 (by kernel_rfl)), does_run (run_load3 (hd 35 (by kernel_rfl)) ((HBV W hb) 8 _ rfl)) ⟨Below.refl _ _, rfl⟩⟩
          | 37, _ =>
            refine StepAt.by rfl fun a' W hf hb hd => ?_
            exact .inl ⟨want_some (k := 29) (t := 103) rfl (hd 29 (by kernel_rfl)), does_run (run_neqI (hd 34 (by kernel_rfl)) (hd 36 (by kernel_rfl))) ⟨Below.refl _ _, by show Value.bool _ = _; rw [r2]⟩⟩
          | 38, _ =>
            refine StepAt.by rfl fun a' W hf hb hd => ?_
            exact .inl ⟨want_none, does_pick (b := false) (hd 29 (by kernel_rfl)) (hd 37 (by kernel_rfl)) ⟨Below.refl _ _, rfl⟩⟩
          | 39, _ =>
            refine StepAt.by rfl fun a' W hf hb hd => ?_
            exact .inl ⟨want_none, does_move (hd 38 (by kernel_rfl)) ⟨Below.refl _ _, rfl⟩⟩
          | 40, _ =>
            refine StepAt.by rfl fun a' W hf hb hd => ?_
            exact .inl ⟨want_some (k := 39) (t := 113) rfl (hd 39 (by kernel_rfl)), does_run (run_fieldR0 ((hf.keeps 15 (by kernel_rfl)).trans rfl)) ⟨Below.refl _ _, rfl⟩⟩
          | 41, _ =>
            refine StepAt.by rfl fun a' W hf hb hd => ?_
            exact .inl ⟨want_some (k := 39) (t := 113) rfl (hd 39 (by kernel_rfl)), does_run (run_loadA (hd 40 (by kernel_rfl)) (RecAt.act (HBV W hb))) ⟨Below.refl _ _, rfl⟩⟩
          | 42, _ =>
            refine StepAt.by rfl fun a' W hf hb hd => ?_
            exact .inl ⟨want_some (k := 39) (t := 113) rfl (hd 39 (by kernel_rfl)), does_move ((hf.keeps 2 (by kernel_rfl)).trans rfl) ⟨Below.refl _ _, rfl⟩⟩
          | 43, _ =>
            refine StepAt.by rfl fun a' W hf hb hd => ?_
            exact .inl ⟨want_some (k := 39) (t := 113) rfl (hd 39 (by kernel_rfl)), does_move ((hf.keeps 3 (by kernel_rfl)).trans rfl) ⟨Below.refl _ _, rfl⟩⟩
          | 44, _ =>
            refine StepAt.by rfl fun a' W hf hb hd => ?_
            refine .inl ⟨want_some (k := 39) (t := 113) rfl (hd 39 (by kernel_rfl)), ?_⟩
            exact does_call3 (enters_of Try.func26 (by kernel_rfl) (by kernel_rfl)) (hd 41 (by kernel_rfl)) (hd 42 (by kernel_rfl)) (hd 43 (by kernel_rfl)) ((turn_any v.a x.act f t W (HCV W hb) HSX.out).mono fun e W' ⟨a', he, ho, hb'⟩ => ⟨_, he, hb', a', rfl, ho.cont⟩)
          | 45, _ =>
            refine StepAt.by rfl fun a' W hf hb hd => ?_
            exact .inl ⟨want_some (k := 39) (t := 113) rfl (hd 39 (by kernel_rfl)), does_run (run_loadA ((hf.keeps 16 (by kernel_rfl)).trans rfl) (HBT W hb)) ⟨Below.refl _ _, rfl⟩⟩
          | 46, _ =>
            refine StepAt.by rfl fun a' W hf hb hd => ?_
            refine .inl ⟨want_some (k := 39) (t := 113) rfl (hd 39 (by kernel_rfl)), ?_⟩
            obtain ⟨av, e1, hca⟩ := hd 44 (by kernel_rfl)
            exact does_call2 (enters_of Try.func25 (by kernel_rfl) (by kernel_rfl)) e1 (hd 45 (by kernel_rfl)) ((sameAct_any _ _ (turnA x.act f t) W hca (HCT W hb)).mono fun e W' ⟨he, hb'⟩ => ⟨_, he, hb', rfl⟩)
          | 47, _ =>
            refine StepAt.by rfl fun a' W hf hb hd => ?_
            exact .inl ⟨want_some (k := 39) (t := 113) rfl (hd 39 (by kernel_rfl)), does_not (hd 46 (by kernel_rfl)) ⟨Below.refl _ _, rfl⟩⟩
          | 48, _ =>
            refine StepAt.by rfl fun a' W hf hb hd => ?_
            exact .inl ⟨want_none, does_pick (b := false) (hd 39 (by kernel_rfl)) (hd 47 (by kernel_rfl)) ⟨Below.refl _ _, rfl⟩⟩
          | k + 49, hi => exact absurd hi (Nat.not_lt.2 (Nat.le_add_left _ _))
        · intro a' W hf hb0 hv
          have hlast : a'.eval (.tmp 122) = .bool false := hv 48 (by decide)
          have hl := hf.lit (fun t => decide (74 ≤ t) && decide (t ≤ 122)) (by kernel_rfl)
          simp only [overL, Nat.reduceAdd, Nat.reduceLeDiff, decide_true, decide_false, Bool.and_true, Bool.and_false] at hl
          rw [hl]
          clear hl
          have HBW : Hid _ := HEND.out W hb0
          clear hf hb0 hv
          go_wp2_with (fail)
          go_meet
          case rel => exact ⟨hlast, HBW.out⟩
      obtain ⟨rfl, hbc⟩ := hcut
      rename World => w10
      have H10 : Hid (Below w7.heap.size w7 w10) := hbc
      clear hbc
      go_wp2_with (fail)
      go_roundw
      case rel => exact ⟨k + 1, by omega, by go_num, H10.out⟩
      case measure => simp [intOf]; omega
    · go_wp2
      go_ret
      exact ⟨rfl, hbw⟩
end Go.Proofs.Ytlegjdlmcphhlab
