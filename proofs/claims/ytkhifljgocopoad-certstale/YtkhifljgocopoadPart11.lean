/- TEXTS LAID TOGETHER: Certj, Certk, Roots, Alive6, Doesc, Doesv -/
import Derived.Test.YtkhifljgocopoadPart10
import Derived.Test.YtkhifljgocopoadPart8
import Derived.Lib.SlBytesConst
import Derived.Test.YtkhifljgocopoadPart9
/-
  PACKAGE cert: a record is judged.
-/
namespace Go.Proofs.Ytkhifljgocopoad
open Go.RowKit
open Go.ChangeMaps (setBlock)

theorem step_append_row {α : Type} {cs : α → List Value} {k : Nat} {P : Program} {w : World} {ops : Array Oper} {o : Oper} {a : Act} {K : Act → World → Prop} {Q : Exit → Act → World → Prop} {E : Prop} (hgd : o.guard = none) (s x : Operand) (t : TypeId)
    (ho : o.op = .call { callee := .builtin .append, args := #[s, x], argTypes := #[t, t] })
    (B : Nat) (e : TypeId) (i : TypeInfo) (z : Value) (bytes : Nat) (ht : P.underlying t = some (.slice e)) (hi : P.info? e = some i) (hz : i.zero = some z)
    (hsize : i.size = k) (hby : i.bytes = bytes) (hzs : z.cells.size = k) (hsz : 0 < k) (v : Value) (n : Nat) (xs : List Value) (hs : a.eval s = v) (hown : w.ownsRow B e k v n xs)
    (A : Option Addr) (m c : Nat) (vs : List α) (hx : a.eval x = .slice A m c) (hrow : Row k cs w A m vs) (hk : ∀ v, (cs v).length = k) (h1 : ∀ v, ∀ u ∈ cs v, u.oneCell' = true)
    (h63 : n + m ≤ maxLen) (hbytes : (n + m) * bytes ≤ 140737488355328) (hbase : B ≤ w.heap.size)
    (h : ∀ v' w', w'.ownsRow B e k v' (n + m) (xs ++ vs.flatMap cs) → w.grownBy w' v.ownBlock → K (a.put o.dst v') w') :
    if Region.wanted o (yielded ops a.tmps) = true then Oper.wp P o a w K Q else E := by
  have hw : Region.wanted o (yielded ops a.tmps) = true := by simp [Region.wanted, hgd]
  rw [if_pos hw]
  obtain ⟨v', w', hr, h2, h3⟩ := run_append_row (P := P) w B t o.type e i z bytes ht hi hz hsize hby hzs hsz v n xs hown A m c vs hrow hk h1 h63 hbytes hbase
  unfold Oper.wp execOp
  simp only [ho, resolve, invoke, builtin, Sem.run_bind, Sem.run_pure, Result.andThen_ok, List.map_toArray, List.map_cons, List.map_nil, hs, hx, hr]
  exact h v' w' h2 h3
theorem KeepE.setNew {e : TypeId} {w W : World} (h : KeepE e w W) {s : Nat} (hs : w.heap.size ≤ s) (o : Nat) (u : Value) : KeepE e w (W.setCell ⟨s, o, none⟩ u) := fun g cur hg => by
  rw [Below.heap_setCell _ _ _ _ (fun k => by have h1 := lt_of_block hg; have h2 : g = s := k; omega)]
  exact h g cur hg
theorem StM.other {w : World} {B sb : Nat} {s : M.St} {A : Option Addr} {n c : Nat} {us : List NV} {D : Option Addr} {p q : Nat} {avs : List AV} {b1 b2 b3 : Nat} (h : StM w B sb s A n c us D p q avs b1 b2 b3) {g : Nat} {cs : Array Value} {fz : Nat × Nat} (hs : w.heap[g]? = some (.cells cs 45 fz)) (o : Nat) (u : Value) : StM (w.setCell ⟨g, o, none⟩ u) B sb s A n c us D p q avs b1 b2 b3 := by
  have hne : sb ≠ g := by rintro rfl; rw [h.box] at hs; injection hs with hs; injection hs with _ hs _; exact absurd hs (by decide)
  exact ⟨by rw [Below.heap_setCell _ _ _ _ (by exact hne)]; exact h.box, h.tree.keep (.setCell hs (by decide) o u) (.setCell hs (by decide) o u) (.setCell hs (by decide) o u), h.acts.keep (.setCell hs (by decide) o u) (.setCell hs (by decide) o u), h.m1.setCell hs o u, h.m2.setCell hs o u, h.m3.setCell hs o u, h.lo, h.ne⟩
theorem StM.drew {w : World} {B sb : Nat} {s : M.St} {A : Option Addr} {n c : Nat} {us : List NV} {D : Option Addr} {p q : Nat} {avs : List AV} {b1 b2 b3 : Nat} (h : StM w B sb s A n c us D p q avs b1 b2 b3) : StM w.drew B sb s A n c us D p q avs b1 b2 b3 := h.below (Nat.le_refl _) ((Below.refl _ _).drew)
/-- where judge is: its boxes, the act as it is here, the tree that came of it -/
structure JudgeI (w W : World) (B g : Nat) (r : RV) (a : AV) (ac : M.Act) (A : Option Addr) (m d : Nat) (us : List NV) (ys : List M.Nd) : Prop where
  below : Below B w W
  keep : KeepE 45 w W
  rcd : BoxR W w.heap.size r
  ver : W.heap[w.heap.size + 1]? = some (.cells #[.int .i64 0, .int .i64 0] 45 (0, 0))
  box : BoxA W g a
  own : OwnA W (w.heap.size + 2) a ac
  tree : OwnT W (w.heap.size + 2) A m d us ys
  hg : w.heap.size + 2 ≤ g
theorem JudgeI.next {w W W' : World} {B g : Nat} {r : RV} {a : AV} {ac : M.Act} {A : Option Addr} {m d : Nat} {us : List NV} {ys : List M.Nd} (h : JudgeI w W B g r a ac A m d us ys) (hb : Below B W W') (hk : ∀ e, e ≠ 57 → KeepE e W W') : JudgeI w W' B g r a ac A m d us ys :=
  ⟨h.below.trans hb, h.keep.trans (hk _ (by decide)), hk _ (by decide) _ _ h.rcd, hk _ (by decide) _ _ h.ver, hk _ (by decide) _ _ h.box, h.own.keep (hk _ (by decide)), h.tree.keep (hk _ (by decide)) (hk _ (by decide)) (hk _ (by decide)), h.hg⟩
theorem JudgeI.call {w W W' : World} {B g : Nat} {r : RV} {a : AV} {ac : M.Act} {A : Option Addr} {m d : Nat} {us : List NV} {ys : List M.Nd} (h : JudgeI w W B g r a ac A m d us ys) (hb : Below W.heap.size W W') (hB : B ≤ w.heap.size) : JudgeI w W' B g r a ac A m d us ys :=
  h.next (hb.mono (Nat.le_trans hB h.below.size)) fun _ _ => .below hb (Nat.le_refl _)
theorem judge_start (w : World) (r : RV) : ∀ W, W = (w.alloc (.cells #[.int .i64 r.a.kind, .int .i64 r.a.fid, .int .i64 r.a.dir, .string r.a.name, .int .i64 r.a.to, .string r.a.toName, .slice r.a.dA r.a.dn r.a.dc, .int .i64 r.ver, .int .i64 r.id] 38)).alloc (.cells #[.int .i64 0, .int .i64 0] 45) →
    Below w.heap.size w W ∧ BoxR W w.heap.size r ∧ W.heap[w.heap.size + 1]? = some (.cells #[.int .i64 0, .int .i64 0] 45 (0, 0)) ∧ W.heap.size = w.heap.size + 2 := by
  rintro W rfl
  refine ⟨((Below.refl _ _).alloc (Nat.le_refl _) _).alloc (by simp) _, (BoxR.new w r).alloc _, ?_, by simp⟩
  have := heap_alloc_new (w.alloc (.cells #[.int .i64 r.a.kind, .int .i64 r.a.fid, .int .i64 r.a.dir, .string r.a.name, .int .i64 r.a.to, .string r.a.toName, .slice r.a.dA r.a.dn r.a.dc, .int .i64 r.ver, .int .i64 r.id] 38)) (.cells #[.int .i64 0, .int .i64 0] 45)
  rw [World.size_alloc] at this
  exact this
/-- what judge answers -/
def JudgePost (w : World) (B sb : Nat) (b1 b2 b3 : Nat) (s : M.St) (x : M.Rec) (e : Ending) (w' : World) : Prop :=
  e = .returned (.agg #[.int .i64 (M.verdS s x).1, .int .i64 (M.verdS s x).2]) ∧ (∃ (A : Option Addr) (n c : Nat) (us : List NV) (D : Option Addr) (p q : Nat) (avs : List AV), StM w' B sb (M.stepS s x) A n c us D p q avs b1 b2 b3) ∧ Below B w w' ∧ KeepE 45 w w'
theorem JudgeI.vfacts {w W : World} {B g : Nat} {r : RV} {a : AV} {ac : M.Act} {A : Option Addr} {m d : Nat} {us : List NV} {ys : List M.Nd} (h : JudgeI w W B g r a ac A m d us ys) : W.cell? ⟨w.heap.size + 1, 0, none⟩ = some (.int .i64 0) ∧ W.cell? ⟨w.heap.size + 1, 1, none⟩ = some (.int .i64 0) ∧ ∀ o, W.frozen? ⟨w.heap.size + 1, o, none⟩ = false :=
  ⟨by simp [World.cell?, h.ver], by simp [World.cell?, h.ver], fun o => by simp [World.frozen?, h.ver]⟩
theorem judge_end {w W : World} {B g : Nat} {r : RV} {a : AV} {ac : M.Act} {A' : Option Addr} {m' d' : Nat} {us' : List NV} {ys' : List M.Nd} {sb : Nat} {s : M.St} {A : Option Addr} {n c : Nat} {us : List NV} {D : Option Addr} {p q : Nat} {avs : List AV} {b1 b2 b3 : Nat} (h : JudgeI w W B g r a ac A' m' d' us' ys') (hs : StM W B sb s A n c us D p q avs b1 b2 b3) (hB : B ≤ w.heap.size) (u v : Value) :
    ∀ W', W' = (W.setCell ⟨w.heap.size + 1, 0, none⟩ u).setCell ⟨w.heap.size + 1, 1, none⟩ v → StM W' B sb s A n c us D p q avs b1 b2 b3 ∧ Below B w W' ∧ KeepE 45 w W' := by
  rintro W' rfl
  have h1 := heap_setCell_same W (w.heap.size + 1) 0 _ 45 u h.ver
  exact ⟨(hs.other h.ver 0 u).other h1 1 v, (h.below.setCell (p := ⟨w.heap.size + 1, 0, none⟩) (by show B ≤ w.heap.size + 1; omega) u).setCell (p := ⟨w.heap.size + 1, 1, none⟩) (by show B ≤ w.heap.size + 1; omega) v, (h.keep.setNew (Nat.le_succ _) 0 u).setNew (Nat.le_succ _) 1 v⟩
theorem JudgeI.grown {w W W' : World} {B g : Nat} {r : RV} {a : AV} {ac : M.Act} {A : Option Addr} {m d : Nat} {us : List NV} {ys : List M.Nd} (h : JudgeI w W B g r a ac A m d us ys) {B' k' : Nat} {v' : Value} {n' : Nat} {xs' : List Value} (h' : W.ownsRow B' 36 k' v' n' xs') (hlt : ∀ k, v'.ownBlock = some k → B ≤ k ∧ k < w.heap.size) (hB : B ≤ w.heap.size) (hg : W.grownBy W' v'.ownBlock) : JudgeI w W' B g r a ac A m d us ys :=
  ⟨h.below.grown hg (Nat.le_trans hB h.below.size) fun k hk => (hlt k hk).1, h.keep.trans (.grown h' (by decide) hg), KeepE.grown h' (by decide) hg _ _ h.rcd, KeepE.grown h' (by decide) hg _ _ h.ver, by unfold BoxA; rw [hg.block g (lt_of_block h.box) (fun e => by have := hlt g e.symm; have := h.hg; omega)]; exact h.box, h.own.keep (.grown h' (by decide) hg), h.tree.keep (.grown h' (by decide) hg) (.grown h' (by decide) hg) (.grown h' (by decide) hg), h.hg⟩
theorem StM.push {w w8 : World} {B sb : Nat} {s : M.St} {A : Option Addr} {n c : Nat} {us : List NV} {D : Option Addr} {p q : Nat} {avs : List AV} {b1 b2 b3 : Nat} (h : StM w B sb s A n c us D p q avs b1 b2 b3) {a : AV} {ac : M.Act} (ha : OwnA w B a ac) {A2 : Option Addr} {m2 d2 : Nat} {us2 : List NV} {ys : List M.Nd} (ht : OwnT w8 B A2 m2 d2 us2 ys) {D' : Option Addr} {q' : Nat} (ho : w8.ownsRow B 36 7 (.slice D' (p + 1) q') (p + 1) (avs.flatMap AV.cells ++ [a].flatMap AV.cells)) (hg : w.grownBy w8 (Value.slice D p q).ownBlock) :
    ∀ W, W = (w8.setCell ⟨sb, 0, none⟩ (.slice A2 m2 d2)).setCell ⟨sb, 3, none⟩ (.slice D' (p + 1) q') → StM W B sb { s with tr := ys, done := s.done ++ [ac] } A2 m2 d2 us2 D' (p + 1) q' (avs ++ [a]) b1 b2 b3 ∧ Below B w8 W ∧ ∀ e, e ≠ 57 → KeepE e w8 W := by
  rintro W rfl
  obtain ⟨e1, e2, e3, e4, e5, e6⟩ := h.grown h.acts.1 hg
  have hA : OwnAs w8 B D' (p + 1) q' (avs ++ [a]) (s.done ++ [ac]) := h.acts.snoc ha (by simpa using ho) hg
  have h1 := heap_setCell_same w8 sb 0 _ 57 (.slice A2 m2 d2) e1
  have kp : ∀ e, e ≠ 57 → KeepE e w8 ((w8.setCell ⟨sb, 0, none⟩ (.slice A2 m2 d2)).setCell ⟨sb, 3, none⟩ (.slice D' (p + 1) q')) := fun e he => (KeepE.setCell e1 (fun k => he k.symm) 0 _).trans (KeepE.setCell h1 (fun k => he k.symm) 3 _)
  refine ⟨⟨by rw [heap_setCell_same _ _ _ _ _ _ h1]; rfl, ht.keep (kp _ (by decide)) (kp _ (by decide)) (kp _ (by decide)), hA.keep (kp _ (by decide)) (kp _ (by decide)), (e3.setCell e1 0 _).setCell h1 3 _, (e4.setCell e1 0 _).setCell h1 3 _, (e5.setCell e1 0 _).setCell h1 3 _, h.lo, h.ne⟩, ((Below.refl _ _).setCell (p := ⟨sb, 0, none⟩) h.lo.1 _).setCell (p := ⟨sb, 3, none⟩) h.lo.1 _, kp⟩
theorem smallA_here (s : M.St) {a : M.Act} (h : SmallA a) : SmallA (M.hereS s a) := h

set_option maxRecDepth 8000 in
set_option maxHeartbeats 8000000 in
theorem judge_any (s : M.St) (r : RV) (x : M.Rec) (B sb : Nat) (A : Option Addr) (n c : Nat) (us : List NV) (D : Option Addr) (p q : Nat) (avs : List AV) (b1 b2 b3 : Nat) (w : World) (h : StM w B sb s A n c us D p q avs b1 b2 b3) (hg : Good s.tr) (hr : ContR w r x) (hsx : SmallA x.act) (hB : B ≤ w.heap.size)
    (hn0 : 0 ≤ s.next) (hn1 : s.next ≤ 4611686018427387904) (hv0 : 0 ≤ s.ver) (hv1 : s.ver ≤ 4611686018427387904) (hp : (p + 1) * 88 ≤ 140737488355328) :
    Calls Try.prog 10 #[.pointer (some ⟨sb, 0, none⟩), r.val] w (JudgePost w B sb b1 b2 b3 s x) := by
  have HS : Hid (StM w B sb s A n c us D p q avs b1 b2 b3 ∧ ContR w r x ∧ Good s.tr ∧ SmallA x.act) := ⟨h, hr, hg, hsx⟩
  have HB : Hid (B ≤ w.heap.size) := hB
  have HW : Hid _ := judge_start w r
  clear h hr hg hsx hB
  go_enter Try.func10, Try.ntmps10
  go_wp2_with (fail)
  obtain ⟨q1, q2, q3, q4⟩ := HW.out _ rfl
  refine (here_any s r.a x.act B sb A n c us D p q avs b1 b2 b3 _ (HS.out.1.below (Nat.le_refl _) q1) (HS.out.2.1.1.below (Nat.le_refl _) q1) HS.out.2.2.2.2.2).mono ?_
  rintro e w1 ⟨a1, rfl, ho, hb1⟩
  rw [q4] at ho
  have hz1 := hb1.size
  rw [q4] at hz1
  have H1 : Hid (Below w.heap.size w w1 ∧ BoxR w1 w.heap.size r ∧ w1.heap[w.heap.size + 1]? = some (.cells #[.int .i64 0, .int .i64 0] 45 (0, 0)) ∧ OwnA w1 (w.heap.size + 2) a1 (M.hereS s x.act) ∧ w.heap.size + 2 ≤ w1.heap.size) :=
    ⟨q1.trans (hb1.mono (by omega)), q2.below hb1 (by omega), by rw [hb1.block _ (by omega)]; exact q3, ho, hz1⟩
  have HW2 : Hid _ := boxA_start w1 a1
  obtain ⟨r0, r1, r2, r3, r4, r5, r6, r7, r8, rf, rz⟩ := H1.out.2.1.facts
  clear q1 q2 q3 q4 ho hb1 hz1 HW
  go_wp2_with (fail)
  obtain ⟨q1, q2, q3⟩ := HW2.out _ rfl
  have hbw : Below w.heap.size w (w1.alloc (.cells #[.int .i64 a1.kind, .int .i64 a1.fid, .int .i64 a1.dir, .string a1.name, .int .i64 a1.to, .string a1.toName, .slice a1.dA a1.dn a1.dc] 36)) := H1.out.1.trans (q1.mono H1.out.1.size)
  refine (try_any s r x a1 B sb A n c us D p q avs b1 b2 b3 _ (HS.out.1.below (Nat.le_refl _) hbw) HS.out.2.2.1 (HS.out.2.1.below (Nat.le_refl _) hbw) (H1.out.2.2.2.1.cont.below (Nat.le_refl _) q1) (smallA_here s HS.out.2.2.2)).mono ?_
  rintro e w2 ⟨A2, m2, d2, us2, rfl, ho2, hb2⟩
  rw [q3] at ho2
  have hb12 : Below w1.heap.size w1 w2 := q1.trans (hb2.mono (by rw [q3]; omega))
  have hbw2 : Below w.heap.size w w2 := H1.out.1.trans (hb12.mono H1.out.1.size)
  have HJ : Hid (JudgeI w w2 B w1.heap.size r a1 (M.hereS s x.act) A2 m2 d2 us2 (M.tryS s x).2) := ⟨hbw2.mono HB.out, .below hbw2 (Nat.le_refl _), H1.out.2.1.below hb12 (by have := H1.out.2.2.2.2; omega), by rw [hb12.block _ (by have := H1.out.2.2.2.2; omega)]; exact H1.out.2.2.1, q2.below hb2 (by rw [q3]; omega), H1.out.2.2.2.1.below (Nat.le_refl _) hb12, ho2.mono (by have := H1.out.2.2.2.2; omega), H1.out.2.2.2.2⟩
  have HST : Hid (StM w2 B sb s A n c us D p q avs b1 b2 b3) := HS.out.1.below (Nat.le_refl _) hbw2
  clear q1 q2 q3 hbw ho2 hb2 hb12 hbw2 HW2 r0 r1 r2 r3 r4 r5 r6 r7 r8 rf
  by_cases h0 : (M.tryS s x).1 = 0
  case' neg =>
    have HSTEP : Hid (M.verdS s x = ((M.tryS s x).1, 0) ∧ M.stepS s x = M.noS s x) := ⟨M.verd_no h0, M.step_no h0⟩
    have hne : ((M.tryS s x).1 != 0) = true := by simp [h0]
    clear h0
    generalize (M.tryS s x).1 = er at HSTEP hne ⊢
    obtain ⟨f0, f1, f2, f3, f4, f5, f6, ff, fz⟩ := HST.out.facts
    obtain ⟨r0, r1, r2, r3, r4, r5, r6, r7, r8, rf, rz⟩ := HJ.out.rcd.facts
    obtain ⟨o, hl, hst, hbl, hkp⟩ := HST.out.drew.refuse r.a.fid
    have HJ3 : Hid (JudgeI w (setBlock w2.drew b3 o) B w1.heap.size r a1 (M.hereS s x.act) A2 m2 d2 us2 (M.tryS s x).2) := ((HJ.out.call ((Below.refl _ _).drew) HB.out).next hbl fun e _ => hkp e)
    obtain ⟨v0, v1, vf⟩ := HJ3.out.vfacts
    have HP : Hid (∀ W, W = ((setBlock w2.drew b3 o).setCell ⟨w.heap.size + 1, 0, none⟩ (.int .i64 er)).setCell ⟨w.heap.size + 1, 1, none⟩ (.int .i64 0) → JudgePost w B sb b1 b2 b3 s x (.returned (.agg #[.int .i64 er, .int .i64 0])) W) := by
      intro W hW
      obtain ⟨e1, e2, e3⟩ := judge_end HJ3.out hst HB.out _ _ W hW
      refine ⟨by rw [HSTEP.out.1], ⟨A, n, c, us, D, p, q, avs, ?_⟩, e2, e3⟩
      rw [HSTEP.out.2]
      unfold M.noS
      rw [← HS.out.2.1.1.2.1]
      exact e1
    clear hst hbl hkp
    go_wp2_with (fail)
    go_region
    all_goals
      go_wp2_with (fail)
      exact bodyPost_ret (v := .agg #[.int .i64 er, .int .i64 0]) (by simp [results, Try.results10, go_sem, v0, v1]) rfl (HP.out _ rfl)
  have HSTEP : Hid (M.verdS s x = (0, (M.hereS s x.act).fid) ∧ M.stepS s x = M.yesS s x (M.tryS s x).2) := ⟨M.verd_yes h0, M.step_yes h0⟩
  rw [h0]
  clear h0
  generalize (M.tryS s x).2 = ys at HSTEP HJ
  have HM : Hid ((decide (a1.kind = 1) || decide (a1.kind = 2)) = M.makeB x.act) := by show _ = _; rw [HJ.out.own.1]; rfl
  have hE : ∃ s1 : M.St, s1 = { s with next := if M.makeB x.act then s.next + 1 else s.next, made := if M.makeB x.act then M.updM s.made x.act.fid (M.hereS s x.act).fid else s.made } := ⟨_, rfl⟩
  obtain ⟨s1, hs1⟩ := hE
  have HS1 : Hid (s1 = { s with next := if M.makeB x.act then s.next + 1 else s.next, made := if M.makeB x.act then M.updM s.made x.act.fid (M.hereS s x.act).fid else s.made }) := hs1
  clear hs1
  obtain ⟨a0, a1', a2, a3, a4, a5, a6, af, az⟩ := HJ.out.box.facts
  go_upto_if 34 with (go_at_call 14; refine (making_any a1 w2).mono ?_; rintro e w3 ⟨rfl, hb3⟩; rw [HM.out]; have H3 : Hid (StM w3 B sb s A n c us D p q avs b1 b2 b3 ∧ JudgeI w w3 B w1.heap.size r a1 (M.hereS s x.act) A2 m2 d2 us2 ys) := ⟨HST.out.below (Nat.le_refl _) hb3, HJ.out.call hb3 HB.out⟩; clear hb3 a0 a1' a2 a3 a4 a5 a6 af az)
  go_cut [] from 34 to 50 (fun W => Hid (StM W B sb s1 A n c us D p q avs b1 b2 b3 ∧ JudgeI w W B w1.heap.size r a1 (M.hereS s x.act) A2 m2 d2 us2 ys))
  case first =>
    cases hm : M.makeB x.act
    · have HE : Hid (s1 = s) := by show _ = _; rw [HS1.out, hm]; rfl
      clear hm
      go_wp2_with (fail)
      go_meet
      case rel => rw [HE.out]; exact H3.out
    · have HE : Hid (s1 = { s with made := M.updM s.made x.act.fid (M.hereS s x.act).fid, next := s.next + 1 }) := by show _ = _; rw [HS1.out, hm]; rfl
      clear hm
      obtain ⟨f0, f1, f2, f3, f4, f5, f6, ff, fz⟩ := H3.out.1.facts
      obtain ⟨r0, r1, r2, r3, r4, r5, r6, r7, r8, rf, rz⟩ := H3.out.2.rcd.facts
      obtain ⟨a0, a1', a2, a3, a4, a5, a6, af, az⟩ := H3.out.2.box.facts
      obtain ⟨o, hl, hst, hbl, hkp⟩ := H3.out.1.drew.made1 r.a.fid a1.fid
      have hst4 := hst.next1 (s.next + 1)
      have HF4 : Hid (∀ W, W = (setBlock w3.drew b1 o).setCell ⟨sb, 1, none⟩ (.int .i64 (s.next + 1)) → StM W B sb s1 A n c us D p q avs b1 b2 b3 ∧ JudgeI w W B w1.heap.size r a1 (M.hereS s x.act) A2 m2 d2 us2 ys) := by
        rintro W rfl
        have hc := hst.cell 1 (.int .i64 (s.next + 1))
        refine ⟨?_, ((H3.out.2.call ((Below.refl _ _).drew) HB.out).next hbl fun e _ => hkp e).next hc.2.2.2.2.2.1 hc.2.2.2.2.2.2⟩
        rw [HE.out, ← HS.out.2.1.1.2.1, ← HJ.out.own.2.1]
        exact hst4
      obtain ⟨g0, g1, g2, g3, g4, g5, g6, gf, gz⟩ := hst.facts
      simp only at g1
      clear hst hst4 hbl hkp
      go_wp2_with (fail)
      go_region
      all_goals
        go_wp2_with (fail)
        go_meet
        case rel => exact HF4.out _ rfl
  rename World => w5
  have H5 : Hid (StM w5 B sb s1 A n c us D p q avs b1 b2 b3 ∧ JudgeI w w5 B w1.heap.size r a1 (M.hereS s x.act) A2 m2 d2 us2 ys) := hcut
  clear hcut HJ HST H1
  obtain ⟨a0, a1', a2, a3, a4, a5, a6, af, az⟩ := H5.out.2.box.facts
  go_wp2_with (fail)
  refine (fids_any a1 (M.hereS s x.act) w5 H5.out.2.own.cont).mono ?_
  rintro e w6 ⟨Fa, fc, rfl, hfo, hb6⟩
  have HFL : Hid ((M.fidsS (M.hereS s x.act)).length ≤ 3) := fids_len3 _
  have H6 : Hid (StM w6 B sb s1 A n c us D p q avs b1 b2 b3 ∧ JudgeI w w6 B w1.heap.size r a1 (M.hereS s x.act) A2 m2 d2 us2 ys ∧ w6.ownsRow w5.heap.size 3 1 (.slice Fa (M.fidsS (M.hereS s x.act)).length fc) (M.fidsS (M.hereS s x.act)).length ((M.fidsS (M.hereS s x.act)).map fun f => Value.int .i64 f)) := ⟨H5.out.1.below (Nat.le_refl _) hb6, H5.out.2.call hb6 HB.out, hfo⟩
  have hF : ∃ fs, fs = M.fidsS (M.hereS s x.act) := ⟨_, rfl⟩
  obtain ⟨fs, hfs⟩ := hF
  have HFS : Hid (fs = M.fidsS (M.hereS s x.act)) := hfs
  rw [← hfs] at HFL H6 ⊢
  have hn3 : fs.length ≤ 3 := HFL.out
  clear hfs hb6 hfo H5 a0 a1' a2 a3 a4 a5 a6 af az
  go_wp2_with (fail)
  go_loopw [54] (fun i wr => ∃ k : Nat, k ≤ fs.length ∧ i = .int .i64 k ∧ Hid (StM wr B sb { s1 with tch := M.updB s1.tch (fs.take k) } A n c us D p q avs b1 b2 b3 ∧ JudgeI w wr B w1.heap.size r a1 (M.hereS s x.act) A2 m2 d2 us2 ys ∧ wr.ownsRow w5.heap.size 3 1 (.slice Fa fs.length fc) fs.length (fs.map fun f => Value.int .i64 f))) (fun i _ => fs.length - (intOf i).toNat)
  case atStart => exact ⟨0, Nat.zero_le _, rfl, by rw [List.take_zero, updB_nil]; exact H6.out⟩
  case round =>
    obtain ⟨k, hk, rfl, HK⟩ := hrel
    by_cases hlt : k < fs.length
    · have hrow : Row 1 (fun f : Int => [Value.int .i64 f]) wr Fa fs.length fs := Row.ofOwn (fun _ => rfl) (by decide) (by rw [fm_ints]; exact HK.out.2.2)
      obtain ⟨b, o, fx, rfl, _, hx, hc⟩ := Row.at hrow hlt
      have c0 := hc 0 _ rfl
      simp only [Nat.mul_one, Nat.add_zero] at c0
      obtain ⟨o2, hl, hst, hbl, hkp⟩ := HK.out.1.touch fx
      have HN : Hid (StM (setBlock wr b2 o2) B sb { s1 with tch := M.updB s1.tch (fs.take (k + 1)) } A n c us D p q avs b1 b2 b3 ∧ JudgeI w (setBlock wr b2 o2) B w1.heap.size r a1 (M.hereS s x.act) A2 m2 d2 us2 ys ∧ (setBlock wr b2 o2).ownsRow w5.heap.size 3 1 (.slice (some ⟨b, o, none⟩) fs.length fc) fs.length (fs.map fun f => Value.int .i64 f)) := by
        refine ⟨?_, HK.out.2.1.next hbl fun e _ => hkp e, own_keep HK.out.2.2 (hkp 3)⟩
        rw [take_step hx, ← updB_snoc]
        exact hst
      obtain ⟨f0, f1, f2, f3, f4, f5, f6, ff, fz⟩ := HK.out.1.facts
      clear hrow hx hc hst hbl hkp
      go_wp2_with (fail)
      go_roundw
      case rel => exact ⟨k + 1, by omega, by go_num, HN⟩
      case measure => simp [intOf]; omega
    · have HK2 : Hid (StM wr B sb { s1 with tch := M.updB s1.tch fs } A n c us D p q avs b1 b2 b3 ∧ JudgeI w wr B w1.heap.size r a1 (M.hereS s x.act) A2 m2 d2 us2 ys) := by
        have h := HK.out
        rw [List.take_of_length_le (by omega)] at h
        exact ⟨h.1, h.2.1⟩
      rename World => w7
      clear HK H6
      obtain ⟨iA, hiA, hzA, hsA, hbA⟩ := info_parts infoA
      have HBL : Hid (∀ k, (Value.slice D p q).ownBlock = some k → B ≤ k ∧ k < w.heap.size) := fun k hk => HS.out.1.acts.1.lt k hk
      have HAL : Hid (∀ W, W = (w7.alloc (.cells #[.int .i64 a1.kind, .int .i64 a1.fid, .int .i64 a1.dir, .string a1.name, .int .i64 a1.to, .string a1.toName, .slice a1.dA a1.dn a1.dc] 36)).drew → Below w7.heap.size w7 W ∧ BoxA W w7.heap.size a1 ∧ W.heap.size = w7.heap.size + 1) := by
        rintro W rfl
        exact ⟨((Below.refl _ _).alloc (Nat.le_refl _) _).drew, BoxA.new w7 a1, by simp⟩
      go_wp2_with (fail)
      go_cut [] from 65 to 78 (fun W => ∃ (D' : Option Addr) (q' : Nat), Hid (StM W B sb { s1 with tch := M.updB s1.tch fs, tr := ys, done := s1.done ++ [M.hereS s x.act] } A2 m2 d2 us2 D' (p + 1) q' (avs ++ [a1]) b1 b2 b3 ∧ JudgeI w W B w1.heap.size r a1 (M.hereS s x.act) A2 m2 d2 us2 ys))
      case first =>
        obtain ⟨f0, f1, f2, f3, f4, f5, f6, ff, fz⟩ := HK2.out.1.facts
        obtain ⟨a0, a1', a2, a3, a4, a5, a6, af, az⟩ := HK2.out.2.box.facts
        go_region_law (refine step_append_row (by rfl) (.tmp 71) (.tmp 73) 27 (by rfl) B 36 iA _ 88 Try.underlying27 hiA hzA hsA hbA rfl (by decide) (.slice D p q) p (avs.flatMap AV.cells) (by simp [Act.eval]) (HK2.out.1.acts.below (Nat.le_refl _) (HAL.out _ rfl).1).1 (some ⟨w7.heap.size, 0, none⟩) 1 1 [a1] (by simp [Act.eval]) (rowA_box (HAL.out _ rfl).2.1) act_len act_one (by unfold maxLen; omega) hp (by have h1 := (HAL.out _ rfl).1.size; have h2 := HK2.out.2.below.size; have h3 := HB.out; omega) ?_; intro v8 w8 hown8 hg8; obtain ⟨D8, q8, rfl, _, _⟩ := own_form hown8; have hsl := HK2.out.1.below (Nat.le_refl _) (HAL.out _ rfl).1; have hjl := HK2.out.2.call (HAL.out _ rfl).1 HB.out; have e8 := hsl.grown hsl.acts.1 hg8; have hj8 := hjl.grown hsl.acts.1 HBL.out HB.out hg8; have HP := hsl.push (hjl.own.mono (by have h3 := HB.out; omega)) (hj8.tree.mono (by have h3 := HB.out; omega)) hown8 hg8; have HR : Hid (∀ W, W = (w8.setCell ⟨sb, 0, none⟩ (.slice A2 m2 d2)).setCell ⟨sb, 3, none⟩ (.slice D8 (p + 1) q8) → StM W B sb { s1 with tch := M.updB s1.tch fs, tr := ys, done := s1.done ++ [M.hereS s x.act] } A2 m2 d2 us2 D8 (p + 1) q8 (avs ++ [a1]) b1 b2 b3 ∧ JudgeI w W B w1.heap.size r a1 (M.hereS s x.act) A2 m2 d2 us2 ys) := (fun W hW => ⟨(HP W hW).1, hj8.next (HP W hW).2.1 (HP W hW).2.2⟩); have k0 : w8.cell? ⟨sb, 0, none⟩ = some (.slice A n c) := (by simp [World.cell?, e8.1]); have k3 : w8.cell? ⟨sb, 3, none⟩ = some (.slice D p q) := (by simp [World.cell?, e8.1]); have kf : ∀ o, w8.frozen? ⟨sb, o, none⟩ = false := (fun o => by simp [World.frozen?, e8.1]); clear hown8 hg8 hsl hjl e8 hj8 HP)
        all_goals
          go_wp2_with (fail)
          go_meet
          case rel => exact ⟨D8, q8, HR.out _ rfl⟩
      obtain ⟨D8, q8, H8⟩ := hcut
      rename World => w8
      have hsv : s1.ver = s.ver := by rw [HS1.out]
      have h1v0 : 0 ≤ s1.ver := by rw [hsv]; exact hv0
      have h1v1 : s1.ver ≤ 4611686018427387904 := by rw [hsv]; exact hv1
      have HFIN : Hid (({ s1 with tch := M.updB s1.tch fs, tr := ys, done := s1.done ++ [M.hereS s x.act], ver := s1.ver + 1 } : M.St) = M.stepS s x) := by
        show _ = _
        rw [HSTEP.out.2, HS1.out, HFS.out]
        rfl
      have HVD : Hid (M.verdS s x = (0, a1.fid)) := by show _ = _; rw [HSTEP.out.1, H8.out.2.own.2.1]
      have hst9 := H8.out.1.ver1 (s1.ver + 1)
      have hc9 := H8.out.1.cell 2 (.int .i64 (s1.ver + 1))
      have hj9 := H8.out.2.next hc9.2.2.2.2.2.1 hc9.2.2.2.2.2.2
      have HP : Hid (∀ W, W = ((w8.setCell ⟨sb, 2, none⟩ (.int .i64 (s1.ver + 1))).setCell ⟨w.heap.size + 1, 0, none⟩ (.int .i64 0)).setCell ⟨w.heap.size + 1, 1, none⟩ (.int .i64 a1.fid) → JudgePost w B sb b1 b2 b3 s x (.returned (.agg #[.int .i64 0, .int .i64 a1.fid])) W) := by
        intro W hW
        obtain ⟨e1, e2, e3⟩ := judge_end hj9 hst9 HB.out _ _ W hW
        exact ⟨by rw [HVD.out], ⟨_, _, _, _, _, _, _, _, by rw [← HFIN.out]; exact e1⟩, e2, e3⟩
      obtain ⟨v0, v1, vf⟩ := hj9.vfacts
      obtain ⟨f0, f1, f2, f3, f4, f5, f6, ff, fz⟩ := H8.out.1.facts
      simp only at f2
      obtain ⟨g0, g1, g2, g3, g4, g5, g6, gf, gz⟩ := hst9.facts
      obtain ⟨a0, a1', a2, a3, a4, a5, a6, af, az⟩ := hj9.box.facts
      clear hsv hst9 hc9 hj9 HK2 HAL HBL HSTEP HS1 HFIN HVD H8
      go_wp2_with (fail)
      exact bodyPost_ret (v := .agg #[.int .i64 0, .int .i64 a1.fid]) (by simp [results, Try.results10, go_sem, v0, v1]) rfl (HP.out _ rfl)
end Go.Proofs.Ytkhifljgocopoad
/-
  PACKAGE cert: Judge.
-/
namespace Go.Proofs.Ytkhifljgocopoad
open Go.RowKit
open Go.ChangeMaps (setBlock)

theorem infoVd : (Try.prog.info? 45).map (fun i => (i.zero, i.size, i.bytes)) = some (some (.agg #[.int .i64 0, .int .i64 0]), 2, 16) := by kernel_rfl
def vdCells (v : Int × Int) : List Value := [.int .i64 v.1, .int .i64 v.2]
theorem vd_len (v : Int × Int) : (vdCells v).length = 2 := rfl
theorem vd_one (v : Int × Int) : ∀ u ∈ vdCells v, u.oneCell' = true := by intro u hu; simp [vdCells] at hu; rcases hu with rfl | rfl <;> rfl
theorem rowV_new (w : World) (a b : Int) : ∀ W, W = w.alloc (.cells #[.int .i64 a, .int .i64 b] 45) → Below w.heap.size w W ∧ Row 2 vdCells W (some ⟨w.heap.size, 0, none⟩) 1 [(a, b)] ∧ W.heap.size = w.heap.size + 1 := by
  rintro W rfl
  have h := World.ownsRow_lit (e := 45) (size := 2) (base := w.heap.size) w #[.int .i64 a, .int .i64 b] 1 (Nat.le_refl _) (by decide) rfl
  exact ⟨(Below.refl _ _).alloc (Nat.le_refl _) _, Row.ofOwn (cs := vdCells) (vs := [(a, b)]) vd_len (by decide) h, by simp⟩
theorem StM.grownV {w w' : World} {B sb : Nat} {s : M.St} {A : Option Addr} {n c : Nat} {us : List NV} {D : Option Addr} {p q : Nat} {avs : List AV} {b1 b2 b3 : Nat} (h : StM w B sb s A n c us D p q avs b1 b2 b3) {B' k' : Nat} {v' : Value} {n' : Nat} {xs' : List Value} (h' : w.ownsRow B' 45 k' v' n' xs') (hg : w.grownBy w' v'.ownBlock) : StM w' B sb s A n c us D p q avs b1 b2 b3 :=
  ⟨KeepE.grown h' (by decide) hg _ _ h.box, h.tree.keep (.grown h' (by decide) hg) (.grown h' (by decide) hg) (.grown h' (by decide) hg), h.acts.keep (.grown h' (by decide) hg) (.grown h' (by decide) hg), h.m1.grown h' hg, h.m2.grown h' hg, h.m3.grown h' hg, h.lo, h.ne⟩

theorem boxR_one (w : World) (r : RV) : ∀ W, W = w.alloc (.cells #[.int .i64 r.a.kind, .int .i64 r.a.fid, .int .i64 r.a.dir, .string r.a.name, .int .i64 r.a.to, .string r.a.toName, .slice r.a.dA r.a.dn r.a.dc, .int .i64 r.ver, .int .i64 r.id] 38) → Below w.heap.size w W ∧ BoxR W w.heap.size r ∧ W.heap.size = w.heap.size + 1 := by
  rintro W rfl
  exact ⟨(Below.refl _ _).alloc (Nat.le_refl _) _, BoxR.new w r, by simp⟩
theorem begin_end {w w1 : World} {A : Option Addr} {n c : Nat} {us : List NV} {xs : List M.Nd} (next ver : Int) (hb : Below w.heap.size w w1) (ht : OwnT w1 w.heap.size A n c us xs) :
    ∀ W, W = (((w1.alloc (.map #[] 0)).alloc (.map #[] 0)).alloc (.map #[] 0)).alloc (.cells #[.slice A n c, .int .i64 next, .int .i64 ver, .slice none 0 0, .map (some w1.heap.size), .map (some (w1.heap.size + 1)), .map (some (w1.heap.size + 1 + 1))] 57) →
      StM W w.heap.size (w1.heap.size + 1 + 1 + 1) (M.begS xs next ver) A n c us none 0 0 [] w1.heap.size (w1.heap.size + 1) (w1.heap.size + 1 + 1) ∧ Below w.heap.size w W := by
  rintro W rfl
  have hz := hb.size
  have e1 : intF (fun _ => none) = fun _ => none := rfl
  have e2 : setF (fun _ => false) = fun _ => none := by funext k; simp [setF]
  have i1 := IMap.new w1
  have i2 := IMap.new (w1.alloc (.map #[] 0))
  have i3 := IMap.new ((w1.alloc (.map #[] 0)).alloc (.map #[] 0))
  rw [World.size_alloc] at i2
  rw [World.size_alloc, World.size_alloc] at i3
  have ba : ∀ (W : World) (o : Obj), Below W.heap.size W (W.alloc o) := fun W o => (Below.refl _ _).alloc (Nat.le_refl _) o
  have hbx := heap_alloc_new (((w1.alloc (.map #[] 0)).alloc (.map #[] 0)).alloc (.map #[] 0)) (.cells #[.slice A n c, .int .i64 next, .int .i64 ver, .slice none 0 0, .map (some w1.heap.size), .map (some (w1.heap.size + 1)), .map (some (w1.heap.size + 1 + 1))] 57)
  simp only [World.size_alloc] at hbx
  refine ⟨⟨hbx, (((ht.below (Nat.le_refl _) (ba _ _)).below (Nat.le_refl _) (ba _ _)).below (Nat.le_refl _) (ba _ _)).below (Nat.le_refl _) (ba _ _), ⟨World.ownsRow_nil _ _ _ _, All2.nil⟩, ?_, ?_, ?_, by omega, by omega⟩, ?_⟩
  · exact ((i1.below (Nat.le_refl _) (ba _ _)).below (Nat.le_refl _) (ba _ _)).below (Nat.le_refl _) (ba _ _)
  · show IMap _ _ (setF fun _ => false)
    rw [e2]
    exact (i2.below (Nat.le_refl _) (ba _ _)).below (Nat.le_refl _) (ba _ _)
  · show IMap _ _ (setF fun _ => false)
    rw [e2]
    exact i3.below (Nat.le_refl _) (ba _ _)
  · exact (((hb.alloc hz _).alloc (by simp; omega) _).alloc (by simp; omega) _).alloc (by simp; omega) _

set_option maxRecDepth 8000 in
set_option maxHeartbeats 2000000 in
theorem begin_any (A : Option Addr) (n c : Nat) (vs : List NV) (xs : List M.Nd) (next ver : Int) (w : World) (ht : Tree w A n vs xs) (hn : n * 72 ≤ 140737488355328) (hs : ∀ x ∈ xs, Small x) :
    Calls Try.prog 9 #[.slice A n c, .int .i64 next, .int .i64 ver] w fun e w' => ∃ (sb : Nat) (A' : Option Addr) (n' c' : Nat) (us : List NV) (b1 b2 b3 : Nat), e = .returned (.pointer (some ⟨sb, 0, none⟩)) ∧ StM w' w.heap.size sb (M.begS xs next ver) A' n' c' us none 0 0 [] b1 b2 b3 ∧ Below w.heap.size w w' := by
  have HT : Hid (Tree w A n vs xs ∧ ∀ x ∈ xs, Small x) := ⟨ht, hs⟩
  have hmm := @run_makeMap Try.prog
  clear ht hs
  go_enter Try.func9, Try.ntmps9
  go_wp2_with (fail)
  refine (own_any A n c vs xs w HT.out.1 hn HT.out.2).mono ?_
  rintro e w1 ⟨g, us, rfl, ho, hb1⟩
  have HE : Hid _ := begin_end next ver hb1 ho
  clear ho hb1
  go_wp2_with (fail)
  go_ret
  exact ⟨_, _, _, _, _, _, _, _, rfl, HE.out _ rfl⟩

/-- what Judge answers -/
def JudgedPost (w : World) (s : M.St) (vs : List (Int × Int)) (e : Ending) (w' : World) : Prop :=
  ∃ (V : Option Addr) (m d : Nat) (D : Option Addr) (p q : Nat) (avs : List AV) (A : Option Addr) (n c : Nat) (us : List NV), e = .returned (.tuple #[.slice V m d, .slice D p q, .slice A n c, .int .i64 s.next]) ∧ w'.ownsRow w.heap.size 45 2 (.slice V m d) m (vs.flatMap vdCells) ∧ OwnAs w' w.heap.size D p q avs s.done ∧ OwnT w' w.heap.size A n c us s.tr ∧ Below w.heap.size w w'
/-- where Judge is, behind k records -/
def JudgesI (w : World) (xs : List M.Nd) (next ver : Int) (recs : List M.Rec) (sb b1 b2 b3 : Nat) (k : Nat) (V : Option Addr) (m d : Nat) (wr : World) : Prop :=
  (∃ (A : Option Addr) (n c : Nat) (us : List NV) (D : Option Addr) (p q : Nat) (avs : List AV), StM wr w.heap.size sb (M.judS (M.begS xs next ver) (recs.take k)) A n c us D p q avs b1 b2 b3) ∧ wr.ownsRow w.heap.size 45 2 (.slice V m d) m ((M.verS (M.begS xs next ver) (recs.take k)).flatMap vdCells) ∧ Below w.heap.size w wr
theorem near_all (xs : List M.Nd) (n v : Int) : ∀ (l : List M.Rec) {s : M.St} {k : Nat}, Near n v k s → Near n v (k + l.length) (M.judS s l)
  | [], _, _, h => h
  | r :: l, s, k, h => by
    have := near_all xs n v l (near_step h r)
    rw [List.length_cons, show k + (l.length + 1) = k + 1 + l.length by omega]
    exact this

set_option maxRecDepth 8000 in
set_option maxHeartbeats 4000000 in
theorem judge_all (A C : Option Addr) (n c p q : Nat) (vs : List NV) (xs : List M.Nd) (next ver : Int) (rvs : List RV) (recs : List M.Rec) (w : World) (ht : Tree w A n vs xs) (hg : Good xs) (hr : TreeR w C p rvs recs) (hsr : ∀ x ∈ recs, SmallA x.act) (hp : p * 104 ≤ 140737488355328) (hn0 : 0 ≤ next) (hn1 : next ≤ 1000000) (hv0 : 0 ≤ ver) (hv1 : ver ≤ 1000000) :
    Calls Try.prog 6 #[.slice A n c, .int .i64 next, .int .i64 ver, .slice C p q] w (JudgedPost w (M.judS (M.begS xs next ver) recs) (M.verS (M.begS xs next ver) recs)) := by
  have hn72 : n * 72 ≤ 140737488355328 := by have h1 := ht.1.1; have h2 := ht.2.1; have h3 := hg.2.2; omega
  have HT : Hid (Tree w A n vs xs ∧ Good xs ∧ TreeR w C p rvs recs ∧ ∀ x ∈ recs, SmallA x.act) := ⟨ht, hg, hr, hsr⟩
  have HLN : Hid (p = recs.length) := hr.len
  have HNV : Hid (0 ≤ next ∧ next ≤ 1000000 ∧ 0 ≤ ver ∧ ver ≤ 1000000) := ⟨hn0, hn1, hv0, hv1⟩
  obtain ⟨iV, hiV, hzV, hsV, hbV⟩ := info_parts infoVd
  have hbn : iV.bytes * p ≤ 281474976710656 := by rw [hbV]; omega
  clear ht hg hr hsr hn0 hn1 hv0 hv1
  go_enter Try.func6, Try.ntmps6
  go_wp2_with (fail)
  refine (begin_any A n c vs xs next ver w HT.out.1 hn72 HT.out.2.1.2.1).mono ?_
  rintro e w1 ⟨sb, A1, n1, c1, us1, b1, b2, b3, rfl, hst, hb1⟩
  have hz1 := hb1.size
  have H1 : Hid (StM w1 w.heap.size sb (M.begS xs next ver) A1 n1 c1 us1 none 0 0 [] b1 b2 b3 ∧ Below w.heap.size w w1) := ⟨hst, hb1⟩
  clear hst hb1
  go_wp2_with (at_make; refine wpList_make_own _ (by rfl) (.const (.int .i64 0)) (.tmp 21) 26 (by rfl) w.heap.size 45 iV _ 2 Try.underlying26 hiV hzV hsV .i64 .i64 _ p rfl rfl rfl hbn (by unfold maxLen; omega) hz1 ?_; intro w2 hown hg2; have hb2 := grown_below hg2; clear hg2)
  have H2 : Hid (JudgesI w xs next ver recs sb b1 b2 b3 0 (some ⟨w1.heap.size, 0, none⟩) 0 p w2) := ⟨⟨_, _, _, _, _, _, _, _, H1.out.1.below (Nat.le_refl _) hb2⟩, by simpa [M.verS] using hown, H1.out.2.trans (hb2.mono hz1)⟩
  clear hown hb2 hbn hz1 H1
  go_loopw [13, 25] (fun v i wr => ∃ (k : Nat) (V : Option Addr) (m d : Nat), k ≤ p ∧ i = .int .i64 k ∧ v = .slice V m d ∧ Hid (JudgesI w xs next ver recs sb b1 b2 b3 k V m d wr)) (fun _ i _ => p - (intOf i).toNat)
  case atStart => exact ⟨0, _, 0, p, Nat.zero_le _, rfl, rfl, H2⟩
  case round =>
    obtain ⟨k, V, m, d, hk, rfl, rfl, HK⟩ := hrel
    have hb := HK.out.2.2
    have hsz := hb.size
    have hmk : m = k := by
      have h := own_len vd_len (by decide) HK.out.2.1
      rw [M.ver_len, List.length_take] at h
      have := HLN.out
      omega
    subst hmk
    by_cases hlt : m < p
    · have htr := HT.out.2.2.1.below (Nat.le_refl _) hb
      obtain ⟨g, o, v, rfl, hgb, hvk, c0, c1', c2, c3, c4, c5, c6, c7, c8⟩ := htr.1.at hlt
      obtain ⟨x, hx, hcx⟩ := htr.2.at hvk
      have HX : Hid (recs[m]? = some x ∧ ContR wr v x ∧ SmallA x.act) := ⟨hx, hcx, HT.out.2.2.2 x (List.mem_of_getElem? hx)⟩
      have HWA : Hid _ := boxR_one wr v
      have HNR : Hid (Near next ver m (M.judS (M.begS xs next ver) (recs.take m))) := by
        have h := near_all xs next ver (recs.take m) (near_beg xs next ver)
        rw [List.length_take, Nat.min_eq_left (by rw [← HLN.out]; omega), Nat.zero_add] at h
        exact h
      obtain ⟨A3, n3, c3', us3, D3, p3, q3, avs3, hst3⟩ := HK.out.1
      have HST : Hid (StM wr w.heap.size sb (M.judS (M.begS xs next ver) (recs.take m)) A3 n3 c3' us3 D3 p3 q3 avs3 b1 b2 b3) := hst3
      have hp3 : p3 ≤ m := by rw [actsLen hst3.acts]; exact HNR.out.len
      clear hvk htr hx hcx hst3
      go_wp2_with (fail)
      obtain ⟨q1, q2, q3'⟩ := HWA.out _ rfl
      refine (judge_any (M.judS (M.begS xs next ver) (recs.take m)) v x w.heap.size sb A3 n3 c3' us3 D3 p3 q3 avs3 b1 b2 b3 _ (HST.out.below (Nat.le_refl _) q1) (good_jud _ HT.out.2.1) (HX.out.2.1.below (Nat.le_refl _) q1) HX.out.2.2 (Nat.le_trans hsz q1.size) (by have h1 := HNR.out.nlo; have h2 := HNV.out.1; omega) (by have h1 := HNR.out.nhi; have h2 := HNV.out.2.1; omega) (by have h1 := HNR.out.vlo; have h2 := HNV.out.2.2.1; omega) (by have h1 := HNR.out.vhi; have h2 := HNV.out.2.2.2; omega) (by omega)).mono ?_
      rintro e w4 ⟨rfl, ⟨A4, n4, c4', us4, D4, p4, q4, avs4, hst4⟩, hb4, hk4⟩
      have hpos := Below.trans (q1.mono hsz) hb4
      have H4 : Hid (StM w4 w.heap.size sb (M.stepS (M.judS (M.begS xs next ver) (recs.take m)) x) A4 n4 c4' us4 D4 p4 q4 avs4 b1 b2 b3 ∧ w4.ownsRow w.heap.size 45 2 (.slice V m d) m ((M.verS (M.begS xs next ver) (recs.take m)).flatMap vdCells) ∧ Below w.heap.size w w4) := ⟨hst4, own_keep HK.out.2.1 ((KeepE.below q1 (Nat.le_refl _)).trans hk4), hb.trans hpos⟩
      have HWB : Hid _ := rowV_new w4 (M.verdS (M.judS (M.begS xs next ver) (recs.take m)) x).1 (M.verdS (M.judS (M.begS xs next ver) (recs.take m)) x).2
      have HV : Hid (M.verS (M.begS xs next ver) (recs.take (m + 1)) = M.verS (M.begS xs next ver) (recs.take m) ++ [M.verdS (M.judS (M.begS xs next ver) (recs.take m)) x] ∧ M.judS (M.begS xs next ver) (recs.take (m + 1)) = M.stepS (M.judS (M.begS xs next ver) (recs.take m)) x) := by rw [take_step HX.out.1]; exact ⟨M.ver_snoc _ _ _, M.jud_snoc _ _ _⟩
      clear q1 q2 q3' hst4 hb4 hk4 hpos HWA HNR HST hb c0 c1' c2 c3 c4 c5 c6 c7 c8
      generalize M.verdS (M.judS (M.begS xs next ver) (recs.take m)) x = vd at HV HWB ⊢
      go_wp2_with (at_builtin; refine wpList_append_row _ (by rfl) (.tmp 29) (.tmp 33) 26 (by rfl) w.heap.size 45 iV _ 16 Try.underlying26 hiV hzV hsV hbV rfl (by decide) _ m _ (by rfl) (own_below H4.out.2.1 (HWB.out _ rfl).1 (Nat.le_refl _)) (some ⟨w4.heap.size, 0, none⟩) 1 1 [(vd.1, vd.2)] (by rfl) (HWB.out _ rfl).2.1 vd_len vd_one (by unfold maxLen; omega) (by omega) (by have h1 := H4.out.2.2.size; simp; omega) ?_; intro v5 w5 hown5 hg5; obtain ⟨V5, d5, rfl, _, _⟩ := own_form hown5; have HR : Hid (JudgesI w xs next ver recs sb b1 b2 b3 (m + 1) V5 (m + 1) d5 w5) := ⟨(by rw [HV.out.2]; exact ⟨_, _, _, _, _, _, _, _, (H4.out.1.below (Nat.le_refl _) (HWB.out _ rfl).1).grownV (own_below H4.out.2.1 (HWB.out _ rfl).1 (Nat.le_refl _)) hg5⟩), (by rw [HV.out.1, List.flatMap_append]; exact hown5), Below.grown (H4.out.2.2.trans ((HWB.out _ rfl).1.mono H4.out.2.2.size)) hg5 (by have h1 := H4.out.2.2.size; have h2 := (HWB.out _ rfl).1.size; omega) (fun j hj => ((own_below H4.out.2.1 (HWB.out _ rfl).1 (Nat.le_refl _)).lt j hj).1)⟩; clear hown5 hg5)
      go_roundw
      case rel => exact ⟨m + 1, V5, m + 1, d5, by omega, by go_num, rfl, HR⟩
      case measure => simp [intOf]; omega
    · have HL : Hid (recs.take m = recs) := by show _ = _; exact List.take_of_length_le (by rw [← HLN.out]; omega)
      obtain ⟨A3, n3, c3', us3, D3, p3, q3, avs3, hst3⟩ := HK.out.1
      rw [HL.out] at hst3
      have hvs := HK.out.2.1
      rw [HL.out] at hvs
      obtain ⟨f0, f1, f2, f3, f4, f5, f6, ff, fz⟩ := hst3.facts
      have HP : Hid (∀ N : Nat, JudgedPost w (M.judS (M.begS xs next ver) recs) (M.verS (M.begS xs next ver) recs) (.returned (.tuple #[.slice V m d, .slice D3 p3 q3, .slice A3 n3 c3', .int .i64 (M.judS (M.begS xs next ver) recs).next])) (wr.drewN N)) := by
        intro N
        have hd : Below wr.heap.size wr (wr.drewN N) := ⟨rfl, rfl, rfl, Nat.le_refl _, fun _ _ => rfl⟩
        have h4 := hst3.below (Nat.le_refl _) hd
        exact ⟨V, m, d, D3, p3, q3, avs3, A3, n3, c3', us3, rfl, own_below hvs hd (Nat.le_refl _), h4.acts, h4.tree, hb.trans (hd.mono hsz)⟩
      clear hst3 hvs HK HL
      go_wp2_with (fail)
      go_quiet (fail)
      go_wp2_with (fail)
      exact bodyPost_ret (v := .tuple #[.slice V m d, .slice D3 p3 q3, .slice A3 n3 c3', .int .i64 (M.judS (M.begS xs next ver) recs).next]) (by simp [results, Try.results6, go_sem]) rfl (HP.out _)
end Go.Proofs.Ytkhifljgocopoad
/-
  A TREE that has but the root; a byte that is written out.
-/
namespace Go.Proofs.Ytkhifljgocopoad
open Go.RowKit

def txA : ByteArray := ⟨#[97]⟩
def rootR : List M.Nd := [⟨0, true, [], [], 0⟩]
theorem rise_root : M.Rise rootR := ⟨List.pairwise_singleton _ _, fun x hx => by rw [List.mem_singleton.1 hx]; exact List.Pairwise.nil⟩
theorem good_root : Good rootR := ⟨rise_root, fun x hx => by rw [List.mem_singleton.1 hx]; exact ⟨by simp, by simp⟩, by decide⟩
theorem tree_root (w : World) : ∀ W, W = w.alloc (.cells #[.int .i64 0, .bool true, .slice none 0 0, .slice none 0 0, .int .i64 0] 41) → Tree W (some ⟨w.heap.size, 0, none⟩) 1 [⟨0, true, none, 0, 0, none, 0, 0, 0⟩] rootR ∧ Below w.heap.size w W ∧ W.heap.size = w.heap.size + 1 := by
  rintro W rfl
  have ho : OwnT (w.alloc (.cells #[.int .i64 0, .bool true, .slice none 0 0, .slice none 0 0, .int .i64 0] 41)) w.heap.size (some ⟨w.heap.size, 0, none⟩) 1 1 [⟨0, true, none, 0, 0, none, 0, 0, 0⟩] rootR :=
    ⟨World.ownsRow_lit w #[.int .i64 0, .bool true, .slice none 0 0, .slice none 0 0, .int .i64 0] 1 (Nat.le_refl _) (by decide) rfl, All2.one ⟨rfl, rfl, rfl, World.ownsRow_nil _ _ _ _, World.ownsRow_nil _ _ _ _⟩⟩
  exact ⟨ho.tree, (Below.refl _ _).alloc (Nat.le_refl _) _, by simp⟩

theorem byts_lit (w : World) (u : UInt8) : Byts (w.alloc (.cells #[.int .u8 (u.toNat : Int)] 5 (1, 2))) (some ⟨w.heap.size, 0, none⟩) 1 [u] := by
  refine ⟨rfl, .inr ⟨w.heap.size, 0, rfl, by simp, fun j v hv i c hc => ?_⟩⟩
  cases j with
  | succ j => cases hv
  | zero =>
    cases hv
    cases i with
    | succ i => cases hc
    | zero =>
      cases hc
      have h := heap_alloc_new w (.cells #[.int .u8 (u.toNat : Int)] 5 (1, 2))
      show World.cell? _ ⟨w.heap.size, 0, none⟩ = _
      unfold World.cell?
      rw [h]
      rfl
end Go.Proofs.Ytkhifljgocopoad
/-
  alive: the closed fact of chapter 6's laws.
-/
namespace Go.Proofs.Ytkhifljgocopoad
open Go.RowKit

theorem eqVd (x y : Int × Int) (w : World) : (binOp .eql 45 (.agg #[.int .i64 x.1, .int .i64 x.2]) (.agg #[.int .i64 y.1, .int .i64 y.2])).run Try.prog w = .ok (.bool (decide (x = y))) w := by
  have u3 := Try.underlying3
  have a3 := Try.isAgg3
  have z3 := Try.sizeOf3
  have hS : Try.prog.underlying 45 = some (.struct (Try.prog.fieldsOf 45)) := by kernel_rfl
  have hp : Try.prog.stoodInHeld 45 = false := by kernel_rfl
  rw [run_eql_struct, show (10000 : Nat) = 9999 + 1 from rfl, run_equalIn_agg w 9999 45 _ _ hS hp]
  simp only [Program.fieldsOf, Try.underlying45]
  go_simp
  obtain ⟨x1, x2⟩ := x
  obtain ⟨y1, y2⟩ := y
  by_cases h1 : x1 = y1 <;> by_cases h2 : x2 = y2 <;> simp [h1, h2]
theorem neqVd (x y : Int × Int) (w : World) : (binOp .neq 45 (.agg #[.int .i64 x.1, .int .i64 x.2]) (.agg #[.int .i64 y.1, .int .i64 y.2])).run Try.prog w = .ok (.bool (!decide (x = y))) w := by
  have u3 := Try.underlying3
  have a3 := Try.isAgg3
  have z3 := Try.sizeOf3
  have hS : Try.prog.underlying 45 = some (.struct (Try.prog.fieldsOf 45)) := by kernel_rfl
  have hp : Try.prog.stoodInHeld 45 = false := by kernel_rfl
  rw [run_neq_struct, show (10000 : Nat) = 9999 + 1 from rfl, run_equalIn_agg w 9999 45 _ _ hS hp]
  simp only [Program.fieldsOf, Try.underlying45]
  go_simp
  obtain ⟨x1, x2⟩ := x
  obtain ⟨y1, y2⟩ := y
  by_cases h1 : x1 = y1 <;> by_cases h2 : x2 = y2 <;> simp [h1, h2]
theorem guardVdE (x y : Operand) (xs ys : Array Value) (w : World) : (eqGuard .eql 45 x y (.agg xs) (.agg ys)).run Try.prog w = .ok () w := run_eqGuard_agg w .eql 45 x y xs ys (by kernel_rfl)
theorem guardVdN (x y : Operand) (xs ys : Array Value) (w : World) : (eqGuard .neq 45 x y (.agg xs) (.agg ys)).run Try.prog w = .ok () w := run_eqGuard_agg w .neq 45 x y xs ys (by kernel_rfl)

def r6a : M.Rec := ⟨⟨1, -1, 0, txA, 0, ⟨#[]⟩, []⟩, -1, 0⟩
def r6b : M.Rec := ⟨⟨3, -1, 0, ⟨#[]⟩, 0, ⟨#[]⟩, [122]⟩, -1, 0⟩
def a6a : M.Act := ⟨1, 5, 0, txA, 0, ⟨#[]⟩, []⟩
def a6b : M.Act := ⟨3, 5, 0, ⟨#[]⟩, 0, ⟨#[]⟩, [122]⟩
def t6a : List M.Nd := [⟨0, true, [], [(txA, 5)], 9⟩, ⟨5, false, [], [], 9⟩]
def t6b : List M.Nd := [⟨0, true, [], [(txA, 5)], 9⟩, ⟨5, false, [122], [], 10⟩]
def s6 : M.St := M.begS rootR 5 9
theorem here6a : M.hereS s6 r6a.act = a6a := by rfl
theorem apply6a : M.applyS rootR a6a 9 = (0, t6a) := by
  have h2 : M.freeS ⟨0, true, [], [], 0⟩ txA = 0 := by decide
  unfold M.applyS
  rw [if_pos (.inl rfl)]
  rw [bring_ok (by rfl) (by exact h2) (by decide) (by decide)]
  rfl
theorem try6a : M.tryS s6 r6a = (0, t6a) := by
  have h1 : M.restS s6 r6a.act = false := by unfold M.restS M.fidsS; rfl
  have h2 : (M.makeB r6a.act && !M.freshS s6 r6a.act.fid) = false := by rfl
  have h3 : M.staleS s6 (M.hereS s6 r6a.act) r6a.ver = false := by rfl
  unfold M.tryS
  rw [if_neg (by rw [h1]; decide), if_neg (by rw [h2]; decide), if_neg (by rw [h3]; decide), here6a]
  exact apply6a
def s6a : M.St := M.yesS s6 r6a t6a
theorem step6a : M.stepS s6 r6a = s6a := by rw [M.step_yes (by rw [try6a]), try6a]; rfl
theorem here6b : M.hereS s6a r6b.act = a6b := by rfl
theorem apply6b : M.applyS t6a a6b 10 = (0, t6b) := by
  unfold M.applyS
  rw [if_neg (by decide), if_pos (show a6b.kind = 3 from rfl)]
  rfl
theorem try6b : M.tryS s6a r6b = (0, t6b) := by
  have h1 : M.restS s6a r6b.act = false := by unfold M.restS M.fidsS; rfl
  have h2 : (M.makeB r6b.act && !M.freshS s6a r6b.act.fid) = false := by rfl
  have h3 : M.staleS s6a (M.hereS s6a r6b.act) r6b.ver = false := by rfl
  unfold M.tryS
  rw [if_neg (by rw [h1]; decide), if_neg (by rw [h2]; decide), if_neg (by rw [h3]; decide), here6b]
  exact apply6b
theorem jud6 : (M.judS s6 [r6a, r6b]).tr = t6b ∧ (M.judS s6 [r6a, r6b]).done = [a6a, a6b] ∧ (M.judS s6 [r6a, r6b]).next = 6 := by
  have e : M.judS s6 [r6a, r6b] = M.yesS s6a r6b t6b := by
    show M.stepS (M.stepS s6 r6a) r6b = _
    rw [step6a, M.step_yes (by rw [try6b]), try6b]
  rw [e]
  exact ⟨rfl, rfl, rfl⟩
theorem ver6 : M.verS s6 [r6a, r6b] = [(0, 5), (0, 5)] := by
  show [M.verdS s6 r6a, M.verdS (M.stepS s6 r6a) r6b] = _
  rw [step6a, M.verd_yes (by rw [try6a]), M.verd_yes (by rw [try6b]), here6a, here6b]
  rfl
theorem small6 : ∀ x ∈ [r6a, r6b], SmallA x.act := by
  intro x hx
  simp at hx
  rcases hx with rfl | rfl
  · exact ⟨by decide, by decide, by decide⟩
  · exact ⟨by decide, by decide, by decide⟩
theorem recs_two (w : World) : ∀ W, W = ((w.alloc (.cells #[.int .i64 0, .bool true, .slice none 0 0, .slice none 0 0, .int .i64 0] 41)).alloc (.cells #[.int .u8 122] 5 (1, 2))).alloc (.cells #[.int .i64 1, .int .i64 (-1), .int .i64 0, .string ⟨#[97]⟩, .int .i64 0, .string ⟨#[]⟩, .slice none 0 0, .int .i64 (-1), .int .i64 0, .int .i64 3, .int .i64 (-1), .int .i64 0, .string ⟨#[]⟩, .int .i64 0, .string ⟨#[]⟩, .slice (some ⟨w.heap.size + 1, 0, none⟩) 1 1, .int .i64 (-1), .int .i64 0] 38) →
    Tree W (some ⟨w.heap.size, 0, none⟩) 1 [⟨0, true, none, 0, 0, none, 0, 0, 0⟩] rootR ∧ TreeR W (some ⟨w.heap.size + 1 + 1, 0, none⟩) 2 [⟨⟨1, -1, 0, txA, 0, ⟨#[]⟩, none, 0, 0⟩, -1, 0⟩, ⟨⟨3, -1, 0, ⟨#[]⟩, 0, ⟨#[]⟩, some ⟨w.heap.size + 1, 0, none⟩, 1, 1⟩, -1, 0⟩] [r6a, r6b] ∧ Below w.heap.size w W ∧ W.heap.size = w.heap.size + 3 := by
  rintro W rfl
  obtain ⟨q1, q2, q3⟩ := tree_root w _ rfl
  have r2 := (Below.refl (w.alloc (.cells #[.int .i64 0, .bool true, .slice none 0 0, .slice none 0 0, .int .i64 0] 41)).heap.size (w.alloc (.cells #[.int .i64 0, .bool true, .slice none 0 0, .slice none 0 0, .int .i64 0] 41))).alloc (Nat.le_refl _) (.cells #[.int .u8 122] 5 (1, 2))
  have b2 := byts_lit (w.alloc (.cells #[.int .i64 0, .bool true, .slice none 0 0, .slice none 0 0, .int .i64 0] 41)) 122
  generalize hW2 : (w.alloc (.cells #[.int .i64 0, .bool true, .slice none 0 0, .slice none 0 0, .int .i64 0] 41)).alloc (.cells #[.int .u8 122] 5 (1, 2)) = W2 at r2
  have hz2 : W2.heap.size = w.heap.size + 2 := by rw [← hW2]; simp
  have b2' : Byts W2 (some ⟨w.heap.size + 1, 0, none⟩) 1 [122] := by rw [← hW2]; rw [World.size_alloc] at b2; exact b2
  have r3 := (Below.refl W2.heap.size W2).alloc (Nat.le_refl _) (.cells #[.int .i64 1, .int .i64 (-1), .int .i64 0, .string ⟨#[97]⟩, .int .i64 0, .string ⟨#[]⟩, .slice none 0 0, .int .i64 (-1), .int .i64 0, .int .i64 3, .int .i64 (-1), .int .i64 0, .string ⟨#[]⟩, .int .i64 0, .string ⟨#[]⟩, .slice (some ⟨w.heap.size + 1, 0, none⟩) 1 1, .int .i64 (-1), .int .i64 0] 38)
  have ho := World.ownsRow_lit (e := 38) (size := 9) (base := W2.heap.size) W2 #[.int .i64 1, .int .i64 (-1), .int .i64 0, .string ⟨#[97]⟩, .int .i64 0, .string ⟨#[]⟩, .slice none 0 0, .int .i64 (-1), .int .i64 0, .int .i64 3, .int .i64 (-1), .int .i64 0, .string ⟨#[]⟩, .int .i64 0, .string ⟨#[]⟩, .slice (some ⟨w.heap.size + 1, 0, none⟩) 1 1, .int .i64 (-1), .int .i64 0] 2 (Nat.le_refl _) (by decide) rfl
  have hrow := Row.ofOwn (cs := RV.cells) (vs := [⟨⟨1, -1, 0, txA, 0, ⟨#[]⟩, none, 0, 0⟩, -1, 0⟩, ⟨⟨3, -1, 0, ⟨#[]⟩, 0, ⟨#[]⟩, some ⟨w.heap.size + 1, 0, none⟩, 1, 1⟩, -1, 0⟩]) rec_len (by decide) ho
  rw [hz2] at hrow
  refine ⟨(q1.below (Nat.le_refl _) r2).below (Nat.le_refl _) r3, ⟨hrow, All2.cons ⟨⟨rfl, rfl, rfl, rfl, rfl, rfl, ⟨rfl, .inl rfl⟩⟩, rfl, rfl⟩ (All2.one ⟨⟨rfl, rfl, rfl, rfl, rfl, rfl, b2'.below (Nat.le_refl _) r3⟩, rfl, rfl⟩)⟩, (q2.trans (r2.mono (by simp))).trans (r3.mono (by omega)), by simp [hz2]⟩

set_option maxRecDepth 8000 in
set_option maxHeartbeats 4000000 in
theorem alive6_any (w : World) : Calls Try.prog 4 #[] w fun e w' => e = .returned (.bool true) ∧ Below w.heap.size w w' := by
  have hcs := Lib.run_convert_bytes_const (P := Try.prog) (w.alloc (.cells #[.int .i64 0, .bool true, .slice none 0 0, .slice none 0 0, .int .i64 0] 41)) 34 5 #[.int .u8 122] 1 1 Try.underlying34 Try.underlying5
  rw [World.size_alloc] at hcs
  go_enter Try.func4, Try.ntmps4
  go_wp2_with (fail)
  obtain ⟨q1, q2, q3, q4⟩ := recs_two w _ rfl
  refine (judge_all (some ⟨w.heap.size, 0, none⟩) (some ⟨w.heap.size + 1 + 1, 0, none⟩) 1 1 2 2 _ rootR 5 9 _ [r6a, r6b] _ q1 good_root q2 small6 (by decide) (by decide) (by decide) (by decide) (by decide)).mono ?_
  rintro e w1 ⟨V, m, d, D, p, q, avs, A, n, c, us, rfl, hv, ha, ht, hb⟩
  have e1 : M.begS rootR 5 9 = s6 := rfl
  rw [e1] at hv ha ht ⊢
  rw [ver6] at hv
  rw [jud6.2.1] at ha
  rw [jud6.1] at ht
  rw [jud6.2.2]
  have hm : m = 2 := own_len vd_len (by decide) hv
  subst hm
  have hp : p = 2 := actsLen ha
  subst hp
  have hn : n = 2 := by rw [ht.tree.1.1, ht.tree.2.1]; rfl
  subst hn
  have H1 : Hid (Below w.heap.size w w1) := q3.trans (hb.mono q3.size)
  obtain ⟨g1, o1, v1, rfl, _, hv1, hc1⟩ := Row.at (Row.ofOwn (cs := vdCells) vd_len (by decide) hv) (j := 1) (by decide)
  cases hv1
  have x0 := hc1 0 _ rfl
  have x1 := hc1 1 _ rfl
  obtain ⟨g2, o2, v2, rfl, _, hv2, c0, c1, c2, c3, c4, c5, c6⟩ := Acts.at ha.tree.1 (j := 1) (by decide)
  have hf2 : v2.fid = 5 := (ha.tree.2.2 1 v2 _ hv2 rfl).2.1
  obtain ⟨g3, o3, v3, rfl, _, hv3, d0, d1, d2, d3, d4⟩ := Nodes.at ht.tree.1 (j := 1) (by decide)
  have hf3 : v3.ver = 10 := (ht.tree.2.2 1 v3 _ hv3 rfl).2.2.1
  rw [hf2] at c1
  rw [hf3] at d4
  simp only [Nat.one_mul, Nat.add_zero] at x0 x1 c0 c1 d4
  have hq := eqVd (0, 5) (0, 5)
  have hqg := guardVdE
  simp only [decide_true] at hq
  clear q1 q2 q3 q4 hv ha ht hb hc1 hv2 hv3 hf2 hf3 c0 c2 c3 c4 c5 c6 d0 d1 d2 d3
  go_wp2_with (fail)
  go_ret
  exact ⟨rfl, H1.out⟩
end Go.Proofs.Ytkhifljgocopoad
/-
  WHAT SINGLE OPERATIONS DO, further: records, acts, indices, numbers (for regions that draw their order).
-/
namespace Go.Proofs.Ytkhifljgocopoad
open Go.RowKit

theorem does_run {a : Act} {w w' : World} {R : Value → World → Prop} {o : Oper} {v : Value} (h : (execOp a.eval o).run Try.prog w = .ok (.value v) w') (hR : R v w') : Does Try.prog o a w R := .inl ⟨v, w', h, hR⟩
/-- the value is this -/
def IsW (c : Value) : Value → World → Prop := fun v _ => v = c
/-- cells of a record that begins here -/
def RecAt (w : World) (b o : Nat) (r : RV) : Prop := ∀ i c, r.cells[i]? = some c → w.cell? ⟨b, o + i, none⟩ = some c
def ActAt (w : World) (b o : Nat) (r : AV) : Prop := ∀ i c, r.cells[i]? = some c → w.cell? ⟨b, o + i, none⟩ = some c
theorem RecAt.act {w : World} {b o : Nat} {r : RV} (h : RecAt w b o r) : ActAt w b o r.a := fun i c hc => h i c (by
  match i, hc with
  | 0, hc => exact hc
  | 1, hc => exact hc
  | 2, hc => exact hc
  | 3, hc => exact hc
  | 4, hc => exact hc
  | 5, hc => exact hc
  | 6, hc => exact hc
  | i + 7, hc => cases hc)
theorem RecAt.below {w w' : World} {b o B : Nat} {r : RV} (h : RecAt w b o r) (hb : Below B w w') (hs : b < B) : RecAt w' b o r := fun i c hc => by
  rw [hb.cell (p := ⟨b, o + i, none⟩) hs]; exact h i c hc
theorem ActAt.below {w w' : World} {b o B : Nat} {r : AV} (h : ActAt w b o r) (hb : Below B w w') (hs : b < B) : ActAt w' b o r := fun i c hc => by
  rw [hb.cell (p := ⟨b, o + i, none⟩) hs]; exact h i c hc
theorem BoxR.at_ {w : World} {s : Nat} {r : RV} (h : BoxR w s r) : RecAt w s 0 r := fun i c hc => by
  obtain ⟨b0, b1, b2, b3, b4, b5, b6, b7, b8, bf, bz⟩ := h.facts
  rw [Nat.zero_add]
  match i, hc with
  | 0, hc => cases hc; exact b0
  | 1, hc => cases hc; exact b1
  | 2, hc => cases hc; exact b2
  | 3, hc => cases hc; exact b3
  | 4, hc => cases hc; exact b4
  | 5, hc => cases hc; exact b5
  | 6, hc => cases hc; exact b6
  | 7, hc => cases hc; exact b7
  | 8, hc => cases hc; exact b8
  | i + 9, hc => cases hc
theorem BoxA.at_ {w : World} {s : Nat} {r : AV} (h : BoxA w s r) : ActAt w s 0 r := fun i c hc => by
  obtain ⟨b0, b1, b2, b3, b4, b5, b6, bf, bz⟩ := h.facts
  rw [Nat.zero_add]
  match i, hc with
  | 0, hc => cases hc; exact b0
  | 1, hc => cases hc; exact b1
  | 2, hc => cases hc; exact b2
  | 3, hc => cases hc; exact b3
  | 4, hc => cases hc; exact b4
  | 5, hc => cases hc; exact b5
  | 6, hc => cases hc; exact b6
  | i + 7, hc => cases hc
theorem Recs.recAt {w : World} {b o n : Nat} {vs : List RV} (h : Recs w (some ⟨b, o, none⟩) n vs) {j : Nat} {v : RV} (hv : vs[j]? = some v) : RecAt w b (o + j * 9) v := by
  have hj : j < n := by rw [h.1]; exact (List.getElem?_eq_some_iff.1 hv).1
  obtain ⟨b', o', v', e, _, hv', c0, c1, c2, c3, c4, c5, c6, c7, c8⟩ := h.at hj
  cases e
  rw [hv] at hv'
  cases hv'
  intro i c hc
  match i, hc with
  | 0, hc => cases hc; exact c0
  | 1, hc => cases hc; exact c1
  | 2, hc => cases hc; exact c2
  | 3, hc => cases hc; exact c3
  | 4, hc => cases hc; exact c4
  | 5, hc => cases hc; exact c5
  | 6, hc => cases hc; exact c6
  | 7, hc => cases hc; exact c7
  | 8, hc => cases hc; exact c8
  | i + 9, hc => cases hc

theorem want_undef {ops : Array Oper} {a : Act} {d : Option Tmp} {ty : TypeId} {pos : String} {af : Array Edge} {op : Op} {k t : Nat} {want : Bool} (hk : (ops[k]?).bind (·.dst) = some t) (h : a.eval (.tmp t) = undef) : Region.wanted ⟨d, op, ty, pos, af, some (k, want)⟩ (yielded ops a.tmps) = false := by
  have ht : a.tmps[t]? = some undef ∨ a.tmps[t]? = none := by
    have h : a.tmps.getD t undef = undef := h
    rw [Array.getD_eq_getD_getElem?] at h
    cases hx : a.tmps[t]? with
    | none => exact .inr rfl
    | some v => rw [hx] at h; exact .inl (congrArg some h)
  unfold Region.wanted yielded
  simp only [hk, Option.bind_some]
  rcases ht with ht | ht
  · rw [ht]; rfl
  · rw [ht]; rfl

section
variable {w : World} {R : Value → World → Prop} {d : Option Tmp} {ty : TypeId} {pos : String} {af : Array Edge} {g : Option (Nat × Bool)} {x y : Operand}
theorem run_loadR {ρ : Operand → Value} {b o : Nat} {v : RV} (hx : ρ x = .pointer (some ⟨b, o, none⟩)) (h : RecAt w b o v) : (execOp ρ ⟨d, .load 38 x, ty, pos, af, g⟩).run Try.prog w = .ok (.value v.val) w := by
  have c0 := h 0 _ rfl
  have c1 := h 1 _ rfl
  have c2 := h 2 _ rfl
  have c3 := h 3 _ rfl
  have c4 := h 4 _ rfl
  have c5 := h 5 _ rfl
  have c6 := h 6 _ rfl
  have c7 := h 7 _ rfl
  have c8 := h 8 _ rfl
  simp only [Nat.add_zero] at c0
  simp [execOp, hx, go_sem, c0, c1, c2, c3, c4, c5, c6, c7, c8]
theorem run_loadA {ρ : Operand → Value} {b o : Nat} {v : AV} (hx : ρ x = .pointer (some ⟨b, o, none⟩)) (h : ActAt w b o v) : (execOp ρ ⟨d, .load 36 x, ty, pos, af, g⟩).run Try.prog w = .ok (.value v.val) w := by
  have c0 := h 0 _ rfl
  have c1 := h 1 _ rfl
  have c2 := h 2 _ rfl
  have c3 := h 3 _ rfl
  have c4 := h 4 _ rfl
  have c5 := h 5 _ rfl
  have c6 := h 6 _ rfl
  simp only [Nat.add_zero] at c0
  simp [execOp, hx, go_sem, c0, c1, c2, c3, c4, c5, c6]
theorem run_indexR {ρ : Operand → Value} {b o n c k : Nat} (hx : ρ x = .slice (some ⟨b, o, none⟩) n c) (hy : ρ y = .int .i64 (k : Int)) (hk : k < n) : (execOp ρ ⟨d, .indexAddr 23 x y, ty, pos, af, g⟩).run Try.prog w = .ok (.value (.pointer (some ⟨b, o + k * 9, none⟩))) w := by
  have h1 : (k : Int) < (n : Int) := by omega
  have h0 : (0 : Int) ≤ (k : Int) := by omega
  simp [execOp, hx, hy, go_sem, h1]
theorem run_indexA {ρ : Operand → Value} {b o n c k : Nat} (hx : ρ x = .slice (some ⟨b, o, none⟩) n c) (hy : ρ y = .int .i64 (k : Int)) (hk : k < n) : (execOp ρ ⟨d, .indexAddr 27 x y, ty, pos, af, g⟩).run Try.prog w = .ok (.value (.pointer (some ⟨b, o + k * 7, none⟩))) w := by
  have h1 : (k : Int) < (n : Int) := by omega
  have h0 : (0 : Int) ≤ (k : Int) := by omega
  simp [execOp, hx, hy, go_sem, h1]
theorem run_fieldR0 {ρ : Operand → Value} {b o : Nat} (hx : ρ x = .pointer (some ⟨b, o, none⟩)) : (execOp ρ ⟨d, .fieldAddr 38 x 0, ty, pos, af, g⟩).run Try.prog w = .ok (.value (.pointer (some ⟨b, o, none⟩))) w := by
  simp [execOp, hx, go_sem]
theorem run_fieldR1 {ρ : Operand → Value} {b o : Nat} (hx : ρ x = .pointer (some ⟨b, o, none⟩)) : (execOp ρ ⟨d, .fieldAddr 38 x 1, ty, pos, af, g⟩).run Try.prog w = .ok (.value (.pointer (some ⟨b, o + 7, none⟩))) w := by
  simp [execOp, hx, go_sem]
theorem run_fieldR2 {ρ : Operand → Value} {b o : Nat} (hx : ρ x = .pointer (some ⟨b, o, none⟩)) : (execOp ρ ⟨d, .fieldAddr 38 x 2, ty, pos, af, g⟩).run Try.prog w = .ok (.value (.pointer (some ⟨b, o + 8, none⟩))) w := by
  simp [execOp, hx, go_sem]
theorem run_fieldAo {ρ : Operand → Value} {s o k : Nat} (hx : ρ x = .pointer (some ⟨s, o, none⟩)) (hk : k < 7) : (execOp ρ ⟨d, .fieldAddr 36 x k, ty, pos, af, g⟩).run Try.prog w = .ok (.value (.pointer (some ⟨s, o + k, none⟩))) w := by
  match k, hk with
  | 0, _ => simp [execOp, hx, go_sem]
  | 1, _ => simp [execOp, hx, go_sem]
  | 2, _ => simp [execOp, hx, go_sem]
  | 3, _ => simp [execOp, hx, go_sem]
  | 4, _ => simp [execOp, hx, go_sem]
  | 5, _ => simp [execOp, hx, go_sem]
  | 6, _ => simp [execOp, hx, go_sem]
theorem run_eqI {ρ : Operand → Value} {b c : Int} (hx : ρ x = .int .i64 b) (hy : ρ y = .int .i64 c) : (execOp ρ ⟨d, .binOp .eql 3 x y 3, ty, pos, af, g⟩).run Try.prog w = .ok (.value (.bool (b == c))) w := by
  simp [execOp, hx, hy, go_sem]
theorem run_lssI {ρ : Operand → Value} {b c : Int} (hx : ρ x = .int .i64 b) (hy : ρ y = .int .i64 c) : (execOp ρ ⟨d, .binOp .lss 3 x y 3, ty, pos, af, g⟩).run Try.prog w = .ok (.value (.bool (decide (b < c)))) w := by
  simp [execOp, hx, hy, go_sem]
theorem run_gtrI {ρ : Operand → Value} {b c : Int} (hx : ρ x = .int .i64 b) (hy : ρ y = .int .i64 c) : (execOp ρ ⟨d, .binOp .gtr 3 x y 3, ty, pos, af, g⟩).run Try.prog w = .ok (.value (.bool (decide (c < b)))) w := by
  simp [execOp, hx, hy, go_sem]
theorem run_addN {ρ : Operand → Value} {m k : Nat} (hx : ρ x = .int .i64 (m : Int)) (hy : ρ y = .int .i64 (k : Int)) (h : m + k ≤ 9223372036854775807) : (execOp ρ ⟨d, .binOp .add 3 x y 3, ty, pos, af, g⟩).run Try.prog w = .ok (.value (.int .i64 ((m + k : Nat) : Int))) w := by
  have h1 : (m : Int) + (k : Int) ≤ 9223372036854775807 := by omega
  have h2 : (-9223372036854775808 : Int) ≤ (m : Int) + (k : Int) := by omega
  simp [execOp, hx, hy, go_sem, IntWalk.i64_in _ ⟨h2, h1⟩]
theorem run_subN {ρ : Operand → Value} {m k : Nat} (hx : ρ x = .int .i64 (m : Int)) (hy : ρ y = .int .i64 (k : Int)) (h : k ≤ m) (hm : m ≤ 9223372036854775807) : (execOp ρ ⟨d, .binOp .sub 3 x y 3, ty, pos, af, g⟩).run Try.prog w = .ok (.value (.int .i64 ((m - k : Nat) : Int))) w := by
  have h1 : (m : Int) - (k : Int) ≤ 9223372036854775807 := by omega
  have h2 : (-9223372036854775808 : Int) ≤ (m : Int) - (k : Int) := by omega
  have h3 : ((m - k : Nat) : Int) = (m : Int) - (k : Int) := by omega
  rw [h3]
  simp [execOp, hx, hy, go_sem, IntWalk.i64_in _ ⟨h2, h1⟩]
theorem run_lenS {ρ : Operand → Value} {A : Option Addr} {n c : Nat} {t : TypeId} (h : Try.prog.underlying t = some (.slice (Try.prog.elem t))) (hx : ρ x = .slice A n c) : (execOp ρ ⟨d, .call { callee := .builtin .len, args := #[x], argTypes := #[t] }, ty, pos, af, g⟩).run Try.prog w = .ok (.value (.int .i64 (n : Int))) w := by
  have hl := run_len_slice (P := Try.prog) (w := w) t ty A n c h
  clear h
  simp [hx, go_sem, hl]
theorem run_buildR {ρ : Operand → Value} {v : RV} (hx : ρ x = v.val) : (execOp ρ ⟨d, .buildSlice 23 1 #[(0, x)], ty, pos, af, g⟩).run Try.prog w = .ok (.value (.slice (some ⟨w.heap.size, 0, none⟩) 1 1)) (w.alloc v.obj) := by
  simp [execOp, hx, go_sem]
end
end Go.Proofs.Ytkhifljgocopoad
/-
  WHAT SINGLE OPERATIONS DO, further: verdicts (for regions that draw their order).
-/
namespace Go.Proofs.Ytkhifljgocopoad
open Go.RowKit
/-- cells of a verdict that begins here -/
def VdAt (w : World) (b o : Nat) (r : Int × Int) : Prop := ∀ i c, (vdCells r)[i]? = some c → w.cell? ⟨b, o + i, none⟩ = some c
theorem VdAt.below {w w' : World} {b o B : Nat} {r : Int × Int} (h : VdAt w b o r) (hb : Below B w w') (hs : b < B) : VdAt w' b o r := fun i c hc => by
  rw [hb.cell (p := ⟨b, o + i, none⟩) hs]; exact h i c hc
theorem vdAt_of {w : World} {b o n : Nat} {vs : List (Int × Int)} (h : Row 2 vdCells w (some ⟨b, o, none⟩) n vs) {j : Nat} {v : Int × Int} (hv : vs[j]? = some v) : VdAt w b (o + j * 2) v := by
  have hj : j < n := by rw [h.1]; exact (List.getElem?_eq_some_iff.1 hv).1
  obtain ⟨b', o', v', e, _, hv', hc⟩ := Row.at h hj
  cases e
  rw [hv] at hv'
  cases hv'
  exact hc
section
variable {w : World} {d : Option Tmp} {ty : TypeId} {pos : String} {af : Array Edge} {g : Option (Nat × Bool)} {x y : Operand}
theorem run_indexV {ρ : Operand → Value} {b o n c k : Nat} (hx : ρ x = .slice (some ⟨b, o, none⟩) n c) (hy : ρ y = .int .i64 (k : Int)) (hk : k < n) : (execOp ρ ⟨d, .indexAddr 26 x y, ty, pos, af, g⟩).run Try.prog w = .ok (.value (.pointer (some ⟨b, o + k * 2, none⟩))) w := by
  have h1 : (k : Int) < (n : Int) := by omega
  have h0 : (0 : Int) ≤ (k : Int) := by omega
  simp [execOp, hx, hy, go_sem, h1]
theorem run_fieldVo {ρ : Operand → Value} {s o k : Nat} (hx : ρ x = .pointer (some ⟨s, o, none⟩)) (hk : k < 2) : (execOp ρ ⟨d, .fieldAddr 45 x k, ty, pos, af, g⟩).run Try.prog w = .ok (.value (.pointer (some ⟨s, o + k, none⟩))) w := by
  match k, hk with
  | 0, _ => simp [execOp, hx, go_sem]
  | 1, _ => simp [execOp, hx, go_sem]
theorem run_loadErr {ρ : Operand → Value} {p : Addr} {i : Int} (hx : ρ x = .pointer (some p)) (hc : w.cell? p = some (.int .i64 i)) : (execOp ρ ⟨d, .load 43 x, ty, pos, af, g⟩).run Try.prog w = .ok (.value (.int .i64 i)) w := by
  simp [execOp, hx, go_sem, hc]
end
/-- a list of the fids of this act -/
def IsF (fs : List Int) : Value → World → Prop := fun v W => ∃ (A : Option Addr) (c : Nat), v = .slice A fs.length c ∧ ∃ B, W.ownsRow B 3 1 (.slice A fs.length c) fs.length (fs.map fun f => Value.int .i64 f)
theorem isF_below {fs : List Int} {v : Value} {W W' : World} (hb : Below W.heap.size W W') (h : IsF fs v W) : IsF fs v W' := by
  obtain ⟨A, c, e, B, ho⟩ := h
  exact ⟨A, c, e, B, own_below ho hb (Nat.le_refl _)⟩
end Go.Proofs.Ytkhifljgocopoad
