/- TEXTS LAID TOGETHER: Certj, Certk, Setb, Mathp -/
import Derived.Test.YtcjobmbbikfnaacPart14
import Derived.Test.YtcjobmbbikfnaacPart13
import Derived.Test.YtcjobmbbikfnaacPart6
import Derived.Test.YtcjobmbbikfnaacPart10
/-
  PACKAGE cert: a record is judged.
-/
namespace Go.Proofs.Ytcjobmbbikfnaac
open Go.RowKit
open Go.ChangeMaps (setBlock)

theorem step_append_row {α : Type} {cs : α → List Value} {k : Nat} {P : Program} {w : World} {ops : Array Oper} {o : Oper} {a : Act} {K : Act → World → Prop} {Q : Exit → Act → World → Prop} {E : Prop} (hgd : o.guard = none) (s x : Operand) (t : TypeId)
    (ho : o.op = .call { callee := .builtin .append, args := #[s, x], argTypes := #[t, t] })
    (B : Nat) (e : TypeId) (i : TypeInfo) (z : Value) (bytes : Nat) (ht : P.underlying t = some (.slice e)) (hi : P.info? e = some i) (hz : i.zero = some z)
    (hsize : i.size = k) (hby : i.bytes = bytes) (hzs : z.cells.size = k) (hsz : 0 < k) (v : Value) (n : Nat) (xs : List Value) (hs : a.eval s = v) (hown : w.ownsRow B e k v n xs)
    (A : Option Addr) (m c : Nat) (vs : List α) (hx : a.eval x = .slice A m c) (hrow : Row k cs w A m vs) (hk : ∀ v, (cs v).length = k) (h1 : ∀ v, ∀ u ∈ cs v, u.oneCell' = true)
    (h63 : n + m ≤ maxLen) (hbytes : (n + m) * bytes ≤ 140737488355328) (hbase : B ≤ w.heap.size)
    (h : ∀ v' w', w'.ownsRow B e k v' (n + m) (xs ++ vs.flatMap cs) → w.grownBy w' v.ownBlock → K (a.put o.dst v') w') :
    if Region.wanted o (yielded ops a.tmps) = true then Oper.wp P o a w K Q else E := by
  have hw : Region.wanted o (yielded ops a.tmps) = true := by simp [Region.wanted, hgd]
  rw [if_pos hw]
  obtain ⟨v', w', hr, h2, h3⟩ := run_append_row (P := P) w B t o.type e i z bytes ht hi hz hsize hby hzs hsz v n xs hown A m c vs hrow hk h1 h63 hbytes hbase
  unfold Oper.wp execOp
  simp only [ho, resolve, invoke, builtin, Sem.run_bind, Sem.run_pure, Result.andThen_ok, List.map_toArray, List.map_cons, List.map_nil, hs, hx, hr]
  exact h v' w' h2 h3
theorem KeepE.setNew {e : TypeId} {w W : World} (h : KeepE e w W) {s : Nat} (hs : w.heap.size ≤ s) (o : Nat) (u : Value) : KeepE e w (W.setCell ⟨s, o, none⟩ u) := fun g cur hg => by
  rw [Below.heap_setCell _ _ _ _ (fun k => by have h1 := lt_of_block hg; have h2 : g = s := k; omega)]
  exact h g cur hg
theorem StM.other {w : World} {B sb : Nat} {s : M.St} {A : Option Addr} {n c : Nat} {us : List NV} {D : Option Addr} {p q : Nat} {avs : List AV} {b1 b2 b3 : Nat} (h : StM w B sb s A n c us D p q avs b1 b2 b3) {g : Nat} {cs : Array Value} {fz : Nat × Nat} (hs : w.heap[g]? = some (.cells cs 48 fz)) (o : Nat) (u : Value) : StM (w.setCell ⟨g, o, none⟩ u) B sb s A n c us D p q avs b1 b2 b3 := by
  have hne : sb ≠ g := by rintro rfl; rw [h.box] at hs; injection hs with hs; injection hs with _ hs _; exact absurd hs (by decide)
  exact ⟨by rw [Below.heap_setCell _ _ _ _ (by exact hne)]; exact h.box, h.tree.keep (.setCell hs (by decide) o u) (.setCell hs (by decide) o u) (.setCell hs (by decide) o u), h.acts.keep (.setCell hs (by decide) o u) (.setCell hs (by decide) o u), h.m1.setCell hs o u, h.m2.setCell hs o u, h.m3.setCell hs o u, h.lo, h.ne⟩
theorem StM.drew {w : World} {B sb : Nat} {s : M.St} {A : Option Addr} {n c : Nat} {us : List NV} {D : Option Addr} {p q : Nat} {avs : List AV} {b1 b2 b3 : Nat} (h : StM w B sb s A n c us D p q avs b1 b2 b3) : StM w.drew B sb s A n c us D p q avs b1 b2 b3 := h.below (Nat.le_refl _) ((Below.refl _ _).drew)
/-- where judge is: its boxes, the act as it is here, the tree that came of it -/
structure JudgeI (w W : World) (B g : Nat) (r : RV) (a : AV) (ac : M.Act) (A : Option Addr) (m d : Nat) (us : List NV) (ys : List M.Nd) : Prop where
  below : Below B w W
  keep : KeepE 48 w W
  rcd : BoxR W w.heap.size r
  ver : W.heap[w.heap.size + 1]? = some (.cells #[.int .i64 0, .int .i64 0] 48 (0, 0))
  box : BoxA W g a
  own : OwnA W (w.heap.size + 2) a ac
  tree : OwnT W (w.heap.size + 2) A m d us ys
  hg : w.heap.size + 2 ≤ g
theorem JudgeI.next {w W W' : World} {B g : Nat} {r : RV} {a : AV} {ac : M.Act} {A : Option Addr} {m d : Nat} {us : List NV} {ys : List M.Nd} (h : JudgeI w W B g r a ac A m d us ys) (hb : Below B W W') (hk : ∀ e, e ≠ 65 → KeepE e W W') : JudgeI w W' B g r a ac A m d us ys :=
  ⟨h.below.trans hb, h.keep.trans (hk _ (by decide)), hk _ (by decide) _ _ h.rcd, hk _ (by decide) _ _ h.ver, hk _ (by decide) _ _ h.box, h.own.keep (hk _ (by decide)), h.tree.keep (hk _ (by decide)) (hk _ (by decide)) (hk _ (by decide)), h.hg⟩
theorem JudgeI.call {w W W' : World} {B g : Nat} {r : RV} {a : AV} {ac : M.Act} {A : Option Addr} {m d : Nat} {us : List NV} {ys : List M.Nd} (h : JudgeI w W B g r a ac A m d us ys) (hb : Below W.heap.size W W') (hB : B ≤ w.heap.size) : JudgeI w W' B g r a ac A m d us ys :=
  h.next (hb.mono (Nat.le_trans hB h.below.size)) fun _ _ => .below hb (Nat.le_refl _)
theorem judge_start (w : World) (r : RV) : ∀ W, W = (w.alloc (.cells #[.int .i64 r.a.kind, .int .i64 r.a.fid, .int .i64 r.a.dir, .string r.a.name, .int .i64 r.a.to, .string r.a.toName, .slice r.a.dA r.a.dn r.a.dc, .int .i64 r.ver, .int .i64 r.id] 53)).alloc (.cells #[.int .i64 0, .int .i64 0] 48) →
    Below w.heap.size w W ∧ BoxR W w.heap.size r ∧ W.heap[w.heap.size + 1]? = some (.cells #[.int .i64 0, .int .i64 0] 48 (0, 0)) ∧ W.heap.size = w.heap.size + 2 := by
  rintro W rfl
  refine ⟨((Below.refl _ _).alloc (Nat.le_refl _) _).alloc (by simp) _, (BoxR.new w r).alloc _, ?_, by simp⟩
  have := heap_alloc_new (w.alloc (.cells #[.int .i64 r.a.kind, .int .i64 r.a.fid, .int .i64 r.a.dir, .string r.a.name, .int .i64 r.a.to, .string r.a.toName, .slice r.a.dA r.a.dn r.a.dc, .int .i64 r.ver, .int .i64 r.id] 53)) (.cells #[.int .i64 0, .int .i64 0] 48)
  rw [World.size_alloc] at this
  exact this
/-- what judge answers -/
def JudgePost (w : World) (B sb : Nat) (b1 b2 b3 : Nat) (s : M.St) (x : M.Rec) (e : Ending) (w' : World) : Prop :=
  e = .returned (.agg #[.int .i64 (M.verdS s x).1, .int .i64 (M.verdS s x).2]) ∧ (∃ (A : Option Addr) (n c : Nat) (us : List NV) (D : Option Addr) (p q : Nat) (avs : List AV), StM w' B sb (M.stepS s x) A n c us D p q avs b1 b2 b3) ∧ Below B w w' ∧ KeepE 48 w w'
theorem JudgeI.vfacts {w W : World} {B g : Nat} {r : RV} {a : AV} {ac : M.Act} {A : Option Addr} {m d : Nat} {us : List NV} {ys : List M.Nd} (h : JudgeI w W B g r a ac A m d us ys) : W.cell? ⟨w.heap.size + 1, 0, none⟩ = some (.int .i64 0) ∧ W.cell? ⟨w.heap.size + 1, 1, none⟩ = some (.int .i64 0) ∧ ∀ o, W.frozen? ⟨w.heap.size + 1, o, none⟩ = false :=
  ⟨by simp [World.cell?, h.ver], by simp [World.cell?, h.ver], fun o => by simp [World.frozen?, h.ver]⟩
theorem judge_end {w W : World} {B g : Nat} {r : RV} {a : AV} {ac : M.Act} {A' : Option Addr} {m' d' : Nat} {us' : List NV} {ys' : List M.Nd} {sb : Nat} {s : M.St} {A : Option Addr} {n c : Nat} {us : List NV} {D : Option Addr} {p q : Nat} {avs : List AV} {b1 b2 b3 : Nat} (h : JudgeI w W B g r a ac A' m' d' us' ys') (hs : StM W B sb s A n c us D p q avs b1 b2 b3) (hB : B ≤ w.heap.size) (u v : Value) :
    ∀ W', W' = (W.setCell ⟨w.heap.size + 1, 0, none⟩ u).setCell ⟨w.heap.size + 1, 1, none⟩ v → StM W' B sb s A n c us D p q avs b1 b2 b3 ∧ Below B w W' ∧ KeepE 48 w W' := by
  rintro W' rfl
  have h1 := heap_setCell_same W (w.heap.size + 1) 0 _ 48 u h.ver
  exact ⟨(hs.other h.ver 0 u).other h1 1 v, (h.below.setCell (p := ⟨w.heap.size + 1, 0, none⟩) (by show B ≤ w.heap.size + 1; omega) u).setCell (p := ⟨w.heap.size + 1, 1, none⟩) (by show B ≤ w.heap.size + 1; omega) v, (h.keep.setNew (Nat.le_succ _) 0 u).setNew (Nat.le_succ _) 1 v⟩
theorem JudgeI.grown {w W W' : World} {B g : Nat} {r : RV} {a : AV} {ac : M.Act} {A : Option Addr} {m d : Nat} {us : List NV} {ys : List M.Nd} (h : JudgeI w W B g r a ac A m d us ys) {B' k' : Nat} {v' : Value} {n' : Nat} {xs' : List Value} (h' : W.ownsRow B' 43 k' v' n' xs') (hlt : ∀ k, v'.ownBlock = some k → B ≤ k ∧ k < w.heap.size) (hB : B ≤ w.heap.size) (hg : W.grownBy W' v'.ownBlock) : JudgeI w W' B g r a ac A m d us ys :=
  ⟨h.below.grown hg (Nat.le_trans hB h.below.size) fun k hk => (hlt k hk).1, h.keep.trans (.grown h' (by decide) hg), KeepE.grown h' (by decide) hg _ _ h.rcd, KeepE.grown h' (by decide) hg _ _ h.ver, by unfold BoxA; rw [hg.block g (lt_of_block h.box) (fun e => by have := hlt g e.symm; have := h.hg; omega)]; exact h.box, h.own.keep (.grown h' (by decide) hg), h.tree.keep (.grown h' (by decide) hg) (.grown h' (by decide) hg) (.grown h' (by decide) hg), h.hg⟩
theorem StM.push {w w8 : World} {B sb : Nat} {s : M.St} {A : Option Addr} {n c : Nat} {us : List NV} {D : Option Addr} {p q : Nat} {avs : List AV} {b1 b2 b3 : Nat} (h : StM w B sb s A n c us D p q avs b1 b2 b3) {a : AV} {ac : M.Act} (ha : OwnA w B a ac) {A2 : Option Addr} {m2 d2 : Nat} {us2 : List NV} {ys : List M.Nd} (ht : OwnT w8 B A2 m2 d2 us2 ys) {D' : Option Addr} {q' : Nat} (ho : w8.ownsRow B 43 7 (.slice D' (p + 1) q') (p + 1) (avs.flatMap AV.cells ++ [a].flatMap AV.cells)) (hg : w.grownBy w8 (Value.slice D p q).ownBlock) :
    ∀ W, W = (w8.setCell ⟨sb, 0, none⟩ (.slice A2 m2 d2)).setCell ⟨sb, 3, none⟩ (.slice D' (p + 1) q') → StM W B sb { s with tr := ys, done := s.done ++ [ac] } A2 m2 d2 us2 D' (p + 1) q' (avs ++ [a]) b1 b2 b3 ∧ Below B w8 W ∧ ∀ e, e ≠ 65 → KeepE e w8 W := by
  rintro W rfl
  obtain ⟨e1, e2, e3, e4, e5, e6⟩ := h.grown h.acts.1 hg
  have hA : OwnAs w8 B D' (p + 1) q' (avs ++ [a]) (s.done ++ [ac]) := h.acts.snoc ha (by simpa using ho) hg
  have h1 := heap_setCell_same w8 sb 0 _ 65 (.slice A2 m2 d2) e1
  have kp : ∀ e, e ≠ 65 → KeepE e w8 ((w8.setCell ⟨sb, 0, none⟩ (.slice A2 m2 d2)).setCell ⟨sb, 3, none⟩ (.slice D' (p + 1) q')) := fun e he => (KeepE.setCell e1 (fun k => he k.symm) 0 _).trans (KeepE.setCell h1 (fun k => he k.symm) 3 _)
  refine ⟨⟨by rw [heap_setCell_same _ _ _ _ _ _ h1]; rfl, ht.keep (kp _ (by decide)) (kp _ (by decide)) (kp _ (by decide)), hA.keep (kp _ (by decide)) (kp _ (by decide)), (e3.setCell e1 0 _).setCell h1 3 _, (e4.setCell e1 0 _).setCell h1 3 _, (e5.setCell e1 0 _).setCell h1 3 _, h.lo, h.ne⟩, ((Below.refl _ _).setCell (p := ⟨sb, 0, none⟩) h.lo.1 _).setCell (p := ⟨sb, 3, none⟩) h.lo.1 _, kp⟩
theorem smallA_here (s : M.St) {a : M.Act} (h : SmallA a) : SmallA (M.hereS s a) := h

set_option maxRecDepth 8000 in
set_option maxHeartbeats 8000000 in
theorem judge_any (s : M.St) (r : RV) (x : M.Rec) (B sb : Nat) (A : Option Addr) (n c : Nat) (us : List NV) (D : Option Addr) (p q : Nat) (avs : List AV) (b1 b2 b3 : Nat) (w : World) (h : StM w B sb s A n c us D p q avs b1 b2 b3) (hg : Good s.tr) (hr : ContR w r x) (hsx : SmallA x.act) (hB : B ≤ w.heap.size)
    (hn0 : 0 ≤ s.next) (hn1 : s.next ≤ 4611686018427387904) (hv0 : 0 ≤ s.ver) (hv1 : s.ver ≤ 4611686018427387904) (hp : (p + 1) * 88 ≤ 140737488355328) :
    Calls Try.prog 19 #[.pointer (some ⟨sb, 0, none⟩), r.val] w (JudgePost w B sb b1 b2 b3 s x) := by
  have HS : Hid (StM w B sb s A n c us D p q avs b1 b2 b3 ∧ ContR w r x ∧ Good s.tr ∧ SmallA x.act) := ⟨h, hr, hg, hsx⟩
  have HB : Hid (B ≤ w.heap.size) := hB
  have HW : Hid _ := judge_start w r
  clear h hr hg hsx hB
  go_enter Try.func19, Try.ntmps19
  go_wp2_with (fail)
  obtain ⟨q1, q2, q3, q4⟩ := HW.out _ rfl
  refine (here_any s r.a x.act B sb A n c us D p q avs b1 b2 b3 _ (HS.out.1.below (Nat.le_refl _) q1) (HS.out.2.1.1.below (Nat.le_refl _) q1) HS.out.2.2.2.2.2).mono ?_
  rintro e w1 ⟨a1, rfl, ho, hb1⟩
  rw [q4] at ho
  have hz1 := hb1.size
  rw [q4] at hz1
  have H1 : Hid (Below w.heap.size w w1 ∧ BoxR w1 w.heap.size r ∧ w1.heap[w.heap.size + 1]? = some (.cells #[.int .i64 0, .int .i64 0] 48 (0, 0)) ∧ OwnA w1 (w.heap.size + 2) a1 (M.hereS s x.act) ∧ w.heap.size + 2 ≤ w1.heap.size) :=
    ⟨q1.trans (hb1.mono (by omega)), q2.below hb1 (by omega), by rw [hb1.block _ (by omega)]; exact q3, ho, hz1⟩
  have HW2 : Hid _ := boxA_start w1 a1
  obtain ⟨r0, r1, r2, r3, r4, r5, r6, r7, r8, rf, rz⟩ := H1.out.2.1.facts
  clear q1 q2 q3 q4 ho hb1 hz1 HW
  go_wp2_with (fail)
  obtain ⟨q1, q2, q3⟩ := HW2.out _ rfl
  have hbw : Below w.heap.size w (w1.alloc (.cells #[.int .i64 a1.kind, .int .i64 a1.fid, .int .i64 a1.dir, .string a1.name, .int .i64 a1.to, .string a1.toName, .slice a1.dA a1.dn a1.dc] 43)) := H1.out.1.trans (q1.mono H1.out.1.size)
  refine (try_any s r x a1 B sb A n c us D p q avs b1 b2 b3 _ (HS.out.1.below (Nat.le_refl _) hbw) HS.out.2.2.1 (HS.out.2.1.below (Nat.le_refl _) hbw) (H1.out.2.2.2.1.cont.below (Nat.le_refl _) q1) (smallA_here s HS.out.2.2.2)).mono ?_
  rintro e w2 ⟨A2, m2, d2, us2, rfl, ho2, hb2⟩
  rw [q3] at ho2
  have hb12 : Below w1.heap.size w1 w2 := q1.trans (hb2.mono (by rw [q3]; omega))
  have hbw2 : Below w.heap.size w w2 := H1.out.1.trans (hb12.mono H1.out.1.size)
  have HJ : Hid (JudgeI w w2 B w1.heap.size r a1 (M.hereS s x.act) A2 m2 d2 us2 (M.tryS s x).2) := ⟨hbw2.mono HB.out, .below hbw2 (Nat.le_refl _), H1.out.2.1.below hb12 (by have := H1.out.2.2.2.2; omega), by rw [hb12.block _ (by have := H1.out.2.2.2.2; omega)]; exact H1.out.2.2.1, q2.below hb2 (by rw [q3]; omega), H1.out.2.2.2.1.below (Nat.le_refl _) hb12, ho2.mono (by have := H1.out.2.2.2.2; omega), H1.out.2.2.2.2⟩
  have HST : Hid (StM w2 B sb s A n c us D p q avs b1 b2 b3) := HS.out.1.below (Nat.le_refl _) hbw2
  clear q1 q2 q3 hbw ho2 hb2 hb12 hbw2 HW2 r0 r1 r2 r3 r4 r5 r6 r7 r8 rf
  by_cases h0 : (M.tryS s x).1 = 0
  case' neg =>
    have HSTEP : Hid (M.verdS s x = ((M.tryS s x).1, 0) ∧ M.stepS s x = M.noS s x) := ⟨M.verd_no h0, M.step_no h0⟩
    have hne : ((M.tryS s x).1 != 0) = true := by simp [h0]
    clear h0
    generalize (M.tryS s x).1 = er at HSTEP hne ⊢
    obtain ⟨f0, f1, f2, f3, f4, f5, f6, ff, fz⟩ := HST.out.facts
    obtain ⟨r0, r1, r2, r3, r4, r5, r6, r7, r8, rf, rz⟩ := HJ.out.rcd.facts
    obtain ⟨o, hl, hst, hbl, hkp⟩ := HST.out.drew.refuse r.a.fid
    have HJ3 : Hid (JudgeI w (setBlock w2.drew b3 o) B w1.heap.size r a1 (M.hereS s x.act) A2 m2 d2 us2 (M.tryS s x).2) := ((HJ.out.call ((Below.refl _ _).drew) HB.out).next hbl fun e _ => hkp e)
    obtain ⟨v0, v1, vf⟩ := HJ3.out.vfacts
    have HP : Hid (∀ W, W = ((setBlock w2.drew b3 o).setCell ⟨w.heap.size + 1, 0, none⟩ (.int .i64 er)).setCell ⟨w.heap.size + 1, 1, none⟩ (.int .i64 0) → JudgePost w B sb b1 b2 b3 s x (.returned (.agg #[.int .i64 er, .int .i64 0])) W) := by
      intro W hW
      obtain ⟨e1, e2, e3⟩ := judge_end HJ3.out hst HB.out _ _ W hW
      refine ⟨by rw [HSTEP.out.1], ⟨A, n, c, us, D, p, q, avs, ?_⟩, e2, e3⟩
      rw [HSTEP.out.2]
      unfold M.noS
      rw [← HS.out.2.1.1.2.1]
      exact e1
    clear hst hbl hkp
    go_wp2_with (fail)
    go_region
    all_goals
      go_wp2_with (fail)
      exact bodyPost_ret (v := .agg #[.int .i64 er, .int .i64 0]) (by simp [results, Try.results19, go_sem, v0, v1]) rfl (HP.out _ rfl)
  have HSTEP : Hid (M.verdS s x = (0, (M.hereS s x.act).fid) ∧ M.stepS s x = M.yesS s x (M.tryS s x).2) := ⟨M.verd_yes h0, M.step_yes h0⟩
  rw [h0]
  clear h0
  generalize (M.tryS s x).2 = ys at HSTEP HJ
  have HM : Hid ((decide (a1.kind = 1) || decide (a1.kind = 2)) = M.makeB x.act) := by show _ = _; rw [HJ.out.own.1]; rfl
  have hE : ∃ s1 : M.St, s1 = { s with next := if M.makeB x.act then s.next + 1 else s.next, made := if M.makeB x.act then M.updM s.made x.act.fid (M.hereS s x.act).fid else s.made } := ⟨_, rfl⟩
  obtain ⟨s1, hs1⟩ := hE
  have HS1 : Hid (s1 = { s with next := if M.makeB x.act then s.next + 1 else s.next, made := if M.makeB x.act then M.updM s.made x.act.fid (M.hereS s x.act).fid else s.made }) := hs1
  clear hs1
  obtain ⟨a0, a1', a2, a3, a4, a5, a6, af, az⟩ := HJ.out.box.facts
  go_upto_if 34 with (go_at_call 35; refine (making_any a1 w2).mono ?_; rintro e w3 ⟨rfl, hb3⟩; rw [HM.out]; have H3 : Hid (StM w3 B sb s A n c us D p q avs b1 b2 b3 ∧ JudgeI w w3 B w1.heap.size r a1 (M.hereS s x.act) A2 m2 d2 us2 ys) := ⟨HST.out.below (Nat.le_refl _) hb3, HJ.out.call hb3 HB.out⟩; clear hb3 a0 a1' a2 a3 a4 a5 a6 af az)
  go_cut [] from 34 to 50 (fun W => Hid (StM W B sb s1 A n c us D p q avs b1 b2 b3 ∧ JudgeI w W B w1.heap.size r a1 (M.hereS s x.act) A2 m2 d2 us2 ys))
  case first =>
    cases hm : M.makeB x.act
    · have HE : Hid (s1 = s) := by show _ = _; rw [HS1.out, hm]; rfl
      clear hm
      go_wp2_with (fail)
      go_meet
      case rel => rw [HE.out]; exact H3.out
    · have HE : Hid (s1 = { s with made := M.updM s.made x.act.fid (M.hereS s x.act).fid, next := s.next + 1 }) := by show _ = _; rw [HS1.out, hm]; rfl
      clear hm
      obtain ⟨f0, f1, f2, f3, f4, f5, f6, ff, fz⟩ := H3.out.1.facts
      obtain ⟨r0, r1, r2, r3, r4, r5, r6, r7, r8, rf, rz⟩ := H3.out.2.rcd.facts
      obtain ⟨a0, a1', a2, a3, a4, a5, a6, af, az⟩ := H3.out.2.box.facts
      obtain ⟨o, hl, hst, hbl, hkp⟩ := H3.out.1.drew.made1 r.a.fid a1.fid
      have hst4 := hst.next1 (s.next + 1)
      have HF4 : Hid (∀ W, W = (setBlock w3.drew b1 o).setCell ⟨sb, 1, none⟩ (.int .i64 (s.next + 1)) → StM W B sb s1 A n c us D p q avs b1 b2 b3 ∧ JudgeI w W B w1.heap.size r a1 (M.hereS s x.act) A2 m2 d2 us2 ys) := by
        rintro W rfl
        have hc := hst.cell 1 (.int .i64 (s.next + 1))
        refine ⟨?_, ((H3.out.2.call ((Below.refl _ _).drew) HB.out).next hbl fun e _ => hkp e).next hc.2.2.2.2.2.1 hc.2.2.2.2.2.2⟩
        rw [HE.out, ← HS.out.2.1.1.2.1, ← HJ.out.own.2.1]
        exact hst4
      obtain ⟨g0, g1, g2, g3, g4, g5, g6, gf, gz⟩ := hst.facts
      simp only at g1
      clear hst hst4 hbl hkp
      go_wp2_with (fail)
      go_region
      all_goals
        go_wp2_with (fail)
        go_meet
        case rel => exact HF4.out _ rfl
  rename World => w5
  have H5 : Hid (StM w5 B sb s1 A n c us D p q avs b1 b2 b3 ∧ JudgeI w w5 B w1.heap.size r a1 (M.hereS s x.act) A2 m2 d2 us2 ys) := hcut
  clear hcut HJ HST H1
  obtain ⟨a0, a1', a2, a3, a4, a5, a6, af, az⟩ := H5.out.2.box.facts
  go_wp2_with (fail)
  refine (fids_any a1 (M.hereS s x.act) w5 H5.out.2.own.cont).mono ?_
  rintro e w6 ⟨Fa, fc, rfl, hfo, hb6⟩
  have HFL : Hid ((M.fidsS (M.hereS s x.act)).length ≤ 3) := fids_len3 _
  have H6 : Hid (StM w6 B sb s1 A n c us D p q avs b1 b2 b3 ∧ JudgeI w w6 B w1.heap.size r a1 (M.hereS s x.act) A2 m2 d2 us2 ys ∧ w6.ownsRow w5.heap.size 3 1 (.slice Fa (M.fidsS (M.hereS s x.act)).length fc) (M.fidsS (M.hereS s x.act)).length ((M.fidsS (M.hereS s x.act)).map fun f => Value.int .i64 f)) := ⟨H5.out.1.below (Nat.le_refl _) hb6, H5.out.2.call hb6 HB.out, hfo⟩
  have hF : ∃ fs, fs = M.fidsS (M.hereS s x.act) := ⟨_, rfl⟩
  obtain ⟨fs, hfs⟩ := hF
  have HFS : Hid (fs = M.fidsS (M.hereS s x.act)) := hfs
  rw [← hfs] at HFL H6 ⊢
  have hn3 : fs.length ≤ 3 := HFL.out
  clear hfs hb6 hfo H5 a0 a1' a2 a3 a4 a5 a6 af az
  go_wp2_with (fail)
  go_loopw [54] (fun i wr => ∃ k : Nat, k ≤ fs.length ∧ i = .int .i64 k ∧ Hid (StM wr B sb { s1 with tch := M.updB s1.tch (fs.take k) } A n c us D p q avs b1 b2 b3 ∧ JudgeI w wr B w1.heap.size r a1 (M.hereS s x.act) A2 m2 d2 us2 ys ∧ wr.ownsRow w5.heap.size 3 1 (.slice Fa fs.length fc) fs.length (fs.map fun f => Value.int .i64 f))) (fun i _ => fs.length - (intOf i).toNat)
  case atStart => exact ⟨0, Nat.zero_le _, rfl, by rw [List.take_zero, updB_nil]; exact H6.out⟩
  case round =>
    obtain ⟨k, hk, rfl, HK⟩ := hrel
    by_cases hlt : k < fs.length
    · have hrow : Row 1 (fun f : Int => [Value.int .i64 f]) wr Fa fs.length fs := Row.ofOwn (fun _ => rfl) (by decide) (by rw [fm_ints]; exact HK.out.2.2)
      obtain ⟨b, o, fx, rfl, _, hx, hc⟩ := Row.at hrow hlt
      have c0 := hc 0 _ rfl
      simp only [Nat.mul_one, Nat.add_zero] at c0
      obtain ⟨o2, hl, hst, hbl, hkp⟩ := HK.out.1.touch fx
      have HN : Hid (StM (setBlock wr b2 o2) B sb { s1 with tch := M.updB s1.tch (fs.take (k + 1)) } A n c us D p q avs b1 b2 b3 ∧ JudgeI w (setBlock wr b2 o2) B w1.heap.size r a1 (M.hereS s x.act) A2 m2 d2 us2 ys ∧ (setBlock wr b2 o2).ownsRow w5.heap.size 3 1 (.slice (some ⟨b, o, none⟩) fs.length fc) fs.length (fs.map fun f => Value.int .i64 f)) := by
        refine ⟨?_, HK.out.2.1.next hbl fun e _ => hkp e, own_keep HK.out.2.2 (hkp 3)⟩
        rw [take_step hx, ← updB_snoc]
        exact hst
      obtain ⟨f0, f1, f2, f3, f4, f5, f6, ff, fz⟩ := HK.out.1.facts
      clear hrow hx hc hst hbl hkp
      go_wp2_with (fail)
      go_roundw
      case rel => exact ⟨k + 1, by omega, by go_num, HN⟩
      case measure => simp [intOf]; omega
    · have HK2 : Hid (StM wr B sb { s1 with tch := M.updB s1.tch fs } A n c us D p q avs b1 b2 b3 ∧ JudgeI w wr B w1.heap.size r a1 (M.hereS s x.act) A2 m2 d2 us2 ys) := by
        have h := HK.out
        rw [List.take_of_length_le (by omega)] at h
        exact ⟨h.1, h.2.1⟩
      rename World => w7
      clear HK H6
      obtain ⟨iA, hiA, hzA, hsA, hbA⟩ := info_parts infoA
      have HBL : Hid (∀ k, (Value.slice D p q).ownBlock = some k → B ≤ k ∧ k < w.heap.size) := fun k hk => HS.out.1.acts.1.lt k hk
      have HAL : Hid (∀ W, W = (w7.alloc (.cells #[.int .i64 a1.kind, .int .i64 a1.fid, .int .i64 a1.dir, .string a1.name, .int .i64 a1.to, .string a1.toName, .slice a1.dA a1.dn a1.dc] 43)).drew → Below w7.heap.size w7 W ∧ BoxA W w7.heap.size a1 ∧ W.heap.size = w7.heap.size + 1) := by
        rintro W rfl
        exact ⟨((Below.refl _ _).alloc (Nat.le_refl _) _).drew, BoxA.new w7 a1, by simp⟩
      go_wp2_with (fail)
      go_cut [] from 65 to 78 (fun W => ∃ (D' : Option Addr) (q' : Nat), Hid (StM W B sb { s1 with tch := M.updB s1.tch fs, tr := ys, done := s1.done ++ [M.hereS s x.act] } A2 m2 d2 us2 D' (p + 1) q' (avs ++ [a1]) b1 b2 b3 ∧ JudgeI w W B w1.heap.size r a1 (M.hereS s x.act) A2 m2 d2 us2 ys))
      case first =>
        obtain ⟨f0, f1, f2, f3, f4, f5, f6, ff, fz⟩ := HK2.out.1.facts
        obtain ⟨a0, a1', a2, a3, a4, a5, a6, af, az⟩ := HK2.out.2.box.facts
        go_region_law (refine step_append_row (by rfl) (.tmp 71) (.tmp 73) 26 (by rfl) B 43 iA _ 88 Try.underlying26 hiA hzA hsA hbA rfl (by decide) (.slice D p q) p (avs.flatMap AV.cells) (by simp [Act.eval]) (HK2.out.1.acts.below (Nat.le_refl _) (HAL.out _ rfl).1).1 (some ⟨w7.heap.size, 0, none⟩) 1 1 [a1] (by simp [Act.eval]) (rowA_box (HAL.out _ rfl).2.1) act_len act_one (by unfold maxLen; omega) hp (by have h1 := (HAL.out _ rfl).1.size; have h2 := HK2.out.2.below.size; have h3 := HB.out; omega) ?_; intro v8 w8 hown8 hg8; obtain ⟨D8, q8, rfl, _, _⟩ := own_form hown8; have hsl := HK2.out.1.below (Nat.le_refl _) (HAL.out _ rfl).1; have hjl := HK2.out.2.call (HAL.out _ rfl).1 HB.out; have e8 := hsl.grown hsl.acts.1 hg8; have hj8 := hjl.grown hsl.acts.1 HBL.out HB.out hg8; have HP := hsl.push (hjl.own.mono (by have h3 := HB.out; omega)) (hj8.tree.mono (by have h3 := HB.out; omega)) hown8 hg8; have HR : Hid (∀ W, W = (w8.setCell ⟨sb, 0, none⟩ (.slice A2 m2 d2)).setCell ⟨sb, 3, none⟩ (.slice D8 (p + 1) q8) → StM W B sb { s1 with tch := M.updB s1.tch fs, tr := ys, done := s1.done ++ [M.hereS s x.act] } A2 m2 d2 us2 D8 (p + 1) q8 (avs ++ [a1]) b1 b2 b3 ∧ JudgeI w W B w1.heap.size r a1 (M.hereS s x.act) A2 m2 d2 us2 ys) := (fun W hW => ⟨(HP W hW).1, hj8.next (HP W hW).2.1 (HP W hW).2.2⟩); have k0 : w8.cell? ⟨sb, 0, none⟩ = some (.slice A n c) := (by simp [World.cell?, e8.1]); have k3 : w8.cell? ⟨sb, 3, none⟩ = some (.slice D p q) := (by simp [World.cell?, e8.1]); have kf : ∀ o, w8.frozen? ⟨sb, o, none⟩ = false := (fun o => by simp [World.frozen?, e8.1]); clear hown8 hg8 hsl hjl e8 hj8 HP)
        all_goals
          go_wp2_with (fail)
          go_meet
          case rel => exact ⟨D8, q8, HR.out _ rfl⟩
      obtain ⟨D8, q8, H8⟩ := hcut
      rename World => w8
      have hsv : s1.ver = s.ver := by rw [HS1.out]
      have h1v0 : 0 ≤ s1.ver := by rw [hsv]; exact hv0
      have h1v1 : s1.ver ≤ 4611686018427387904 := by rw [hsv]; exact hv1
      have HFIN : Hid (({ s1 with tch := M.updB s1.tch fs, tr := ys, done := s1.done ++ [M.hereS s x.act], ver := s1.ver + 1 } : M.St) = M.stepS s x) := by
        show _ = _
        rw [HSTEP.out.2, HS1.out, HFS.out]
        rfl
      have HVD : Hid (M.verdS s x = (0, a1.fid)) := by show _ = _; rw [HSTEP.out.1, H8.out.2.own.2.1]
      have hst9 := H8.out.1.ver1 (s1.ver + 1)
      have hc9 := H8.out.1.cell 2 (.int .i64 (s1.ver + 1))
      have hj9 := H8.out.2.next hc9.2.2.2.2.2.1 hc9.2.2.2.2.2.2
      have HP : Hid (∀ W, W = ((w8.setCell ⟨sb, 2, none⟩ (.int .i64 (s1.ver + 1))).setCell ⟨w.heap.size + 1, 0, none⟩ (.int .i64 0)).setCell ⟨w.heap.size + 1, 1, none⟩ (.int .i64 a1.fid) → JudgePost w B sb b1 b2 b3 s x (.returned (.agg #[.int .i64 0, .int .i64 a1.fid])) W) := by
        intro W hW
        obtain ⟨e1, e2, e3⟩ := judge_end hj9 hst9 HB.out _ _ W hW
        exact ⟨by rw [HVD.out], ⟨_, _, _, _, _, _, _, _, by rw [← HFIN.out]; exact e1⟩, e2, e3⟩
      obtain ⟨v0, v1, vf⟩ := hj9.vfacts
      obtain ⟨f0, f1, f2, f3, f4, f5, f6, ff, fz⟩ := H8.out.1.facts
      simp only at f2
      obtain ⟨g0, g1, g2, g3, g4, g5, g6, gf, gz⟩ := hst9.facts
      obtain ⟨a0, a1', a2, a3, a4, a5, a6, af, az⟩ := hj9.box.facts
      clear hsv hst9 hc9 hj9 HK2 HAL HBL HSTEP HS1 HFIN HVD H8
      go_wp2_with (fail)
      exact bodyPost_ret (v := .agg #[.int .i64 0, .int .i64 a1.fid]) (by simp [results, Try.results19, go_sem, v0, v1]) rfl (HP.out _ rfl)
end Go.Proofs.Ytcjobmbbikfnaac
/-
  PACKAGE cert: Judge.
-/
namespace Go.Proofs.Ytcjobmbbikfnaac
open Go.RowKit
open Go.ChangeMaps (setBlock)

theorem infoVd : (Try.prog.info? 48).map (fun i => (i.zero, i.size, i.bytes)) = some (some (.agg #[.int .i64 0, .int .i64 0]), 2, 16) := by kernel_rfl
def vdCells (v : Int × Int) : List Value := [.int .i64 v.1, .int .i64 v.2]
theorem vd_len (v : Int × Int) : (vdCells v).length = 2 := rfl
theorem vd_one (v : Int × Int) : ∀ u ∈ vdCells v, u.oneCell' = true := by intro u hu; simp [vdCells] at hu; rcases hu with rfl | rfl <;> rfl
theorem rowV_new (w : World) (a b : Int) : ∀ W, W = w.alloc (.cells #[.int .i64 a, .int .i64 b] 48) → Below w.heap.size w W ∧ Row 2 vdCells W (some ⟨w.heap.size, 0, none⟩) 1 [(a, b)] ∧ W.heap.size = w.heap.size + 1 := by
  rintro W rfl
  have h := World.ownsRow_lit (e := 48) (size := 2) (base := w.heap.size) w #[.int .i64 a, .int .i64 b] 1 (Nat.le_refl _) (by decide) rfl
  exact ⟨(Below.refl _ _).alloc (Nat.le_refl _) _, Row.ofOwn (cs := vdCells) (vs := [(a, b)]) vd_len (by decide) h, by simp⟩
theorem StM.grownV {w w' : World} {B sb : Nat} {s : M.St} {A : Option Addr} {n c : Nat} {us : List NV} {D : Option Addr} {p q : Nat} {avs : List AV} {b1 b2 b3 : Nat} (h : StM w B sb s A n c us D p q avs b1 b2 b3) {B' k' : Nat} {v' : Value} {n' : Nat} {xs' : List Value} (h' : w.ownsRow B' 48 k' v' n' xs') (hg : w.grownBy w' v'.ownBlock) : StM w' B sb s A n c us D p q avs b1 b2 b3 :=
  ⟨KeepE.grown h' (by decide) hg _ _ h.box, h.tree.keep (.grown h' (by decide) hg) (.grown h' (by decide) hg) (.grown h' (by decide) hg), h.acts.keep (.grown h' (by decide) hg) (.grown h' (by decide) hg), h.m1.grown h' hg, h.m2.grown h' hg, h.m3.grown h' hg, h.lo, h.ne⟩

theorem boxR_one (w : World) (r : RV) : ∀ W, W = w.alloc (.cells #[.int .i64 r.a.kind, .int .i64 r.a.fid, .int .i64 r.a.dir, .string r.a.name, .int .i64 r.a.to, .string r.a.toName, .slice r.a.dA r.a.dn r.a.dc, .int .i64 r.ver, .int .i64 r.id] 53) → Below w.heap.size w W ∧ BoxR W w.heap.size r ∧ W.heap.size = w.heap.size + 1 := by
  rintro W rfl
  exact ⟨(Below.refl _ _).alloc (Nat.le_refl _) _, BoxR.new w r, by simp⟩
theorem begin_end {w w1 : World} {A : Option Addr} {n c : Nat} {us : List NV} {xs : List M.Nd} (next ver : Int) (hb : Below w.heap.size w w1) (ht : OwnT w1 w.heap.size A n c us xs) :
    ∀ W, W = (((w1.alloc (.map #[] 0)).alloc (.map #[] 0)).alloc (.map #[] 0)).alloc (.cells #[.slice A n c, .int .i64 next, .int .i64 ver, .slice none 0 0, .map (some w1.heap.size), .map (some (w1.heap.size + 1)), .map (some (w1.heap.size + 1 + 1))] 65) →
      StM W w.heap.size (w1.heap.size + 1 + 1 + 1) (M.begS xs next ver) A n c us none 0 0 [] w1.heap.size (w1.heap.size + 1) (w1.heap.size + 1 + 1) ∧ Below w.heap.size w W := by
  rintro W rfl
  have hz := hb.size
  have e1 : intF (fun _ => none) = fun _ => none := rfl
  have e2 : setF (fun _ => false) = fun _ => none := by funext k; simp [setF]
  have i1 := IMap.new w1
  have i2 := IMap.new (w1.alloc (.map #[] 0))
  have i3 := IMap.new ((w1.alloc (.map #[] 0)).alloc (.map #[] 0))
  rw [World.size_alloc] at i2
  rw [World.size_alloc, World.size_alloc] at i3
  have ba : ∀ (W : World) (o : Obj), Below W.heap.size W (W.alloc o) := fun W o => (Below.refl _ _).alloc (Nat.le_refl _) o
  have hbx := heap_alloc_new (((w1.alloc (.map #[] 0)).alloc (.map #[] 0)).alloc (.map #[] 0)) (.cells #[.slice A n c, .int .i64 next, .int .i64 ver, .slice none 0 0, .map (some w1.heap.size), .map (some (w1.heap.size + 1)), .map (some (w1.heap.size + 1 + 1))] 65)
  simp only [World.size_alloc] at hbx
  refine ⟨⟨hbx, (((ht.below (Nat.le_refl _) (ba _ _)).below (Nat.le_refl _) (ba _ _)).below (Nat.le_refl _) (ba _ _)).below (Nat.le_refl _) (ba _ _), ⟨World.ownsRow_nil _ _ _ _, All2.nil⟩, ?_, ?_, ?_, by omega, by omega⟩, ?_⟩
  · exact ((i1.below (Nat.le_refl _) (ba _ _)).below (Nat.le_refl _) (ba _ _)).below (Nat.le_refl _) (ba _ _)
  · show IMap _ _ (setF fun _ => false)
    rw [e2]
    exact (i2.below (Nat.le_refl _) (ba _ _)).below (Nat.le_refl _) (ba _ _)
  · show IMap _ _ (setF fun _ => false)
    rw [e2]
    exact i3.below (Nat.le_refl _) (ba _ _)
  · exact (((hb.alloc hz _).alloc (by simp; omega) _).alloc (by simp; omega) _).alloc (by simp; omega) _

set_option maxRecDepth 8000 in
set_option maxHeartbeats 2000000 in
theorem begin_any (A : Option Addr) (n c : Nat) (vs : List NV) (xs : List M.Nd) (next ver : Int) (w : World) (ht : Tree w A n vs xs) (hn : n * 72 ≤ 140737488355328) (hs : ∀ x ∈ xs, Small x) :
    Calls Try.prog 18 #[.slice A n c, .int .i64 next, .int .i64 ver] w fun e w' => ∃ (sb : Nat) (A' : Option Addr) (n' c' : Nat) (us : List NV) (b1 b2 b3 : Nat), e = .returned (.pointer (some ⟨sb, 0, none⟩)) ∧ StM w' w.heap.size sb (M.begS xs next ver) A' n' c' us none 0 0 [] b1 b2 b3 ∧ Below w.heap.size w w' := by
  have HT : Hid (Tree w A n vs xs ∧ ∀ x ∈ xs, Small x) := ⟨ht, hs⟩
  have hmm := @run_makeMap Try.prog
  clear ht hs
  go_enter Try.func18, Try.ntmps18
  go_wp2_with (fail)
  refine (own_any A n c vs xs w HT.out.1 hn HT.out.2).mono ?_
  rintro e w1 ⟨g, us, rfl, ho, hb1⟩
  have HE : Hid _ := begin_end next ver hb1 ho
  clear ho hb1
  go_wp2_with (fail)
  go_ret
  exact ⟨_, _, _, _, _, _, _, _, rfl, HE.out _ rfl⟩

/-- what Judge answers -/
def JudgedPost (w : World) (s : M.St) (vs : List (Int × Int)) (e : Ending) (w' : World) : Prop :=
  ∃ (V : Option Addr) (m d : Nat) (D : Option Addr) (p q : Nat) (avs : List AV) (A : Option Addr) (n c : Nat) (us : List NV), e = .returned (.tuple #[.slice V m d, .slice D p q, .slice A n c, .int .i64 s.next]) ∧ w'.ownsRow w.heap.size 48 2 (.slice V m d) m (vs.flatMap vdCells) ∧ OwnAs w' w.heap.size D p q avs s.done ∧ OwnT w' w.heap.size A n c us s.tr ∧ Below w.heap.size w w'
/-- where Judge is, behind k records -/
def JudgesI (w : World) (xs : List M.Nd) (next ver : Int) (recs : List M.Rec) (sb b1 b2 b3 : Nat) (k : Nat) (V : Option Addr) (m d : Nat) (wr : World) : Prop :=
  (∃ (A : Option Addr) (n c : Nat) (us : List NV) (D : Option Addr) (p q : Nat) (avs : List AV), StM wr w.heap.size sb (M.judS (M.begS xs next ver) (recs.take k)) A n c us D p q avs b1 b2 b3) ∧ wr.ownsRow w.heap.size 48 2 (.slice V m d) m ((M.verS (M.begS xs next ver) (recs.take k)).flatMap vdCells) ∧ Below w.heap.size w wr
theorem near_all (xs : List M.Nd) (n v : Int) : ∀ (l : List M.Rec) {s : M.St} {k : Nat}, Near n v k s → Near n v (k + l.length) (M.judS s l)
  | [], _, _, h => h
  | r :: l, s, k, h => by
    have := near_all xs n v l (near_step h r)
    rw [List.length_cons, show k + (l.length + 1) = k + 1 + l.length by omega]
    exact this

set_option maxRecDepth 8000 in
set_option maxHeartbeats 4000000 in
theorem judge_wide (A C : Option Addr) (n c p q : Nat) (vs : List NV) (xs : List M.Nd) (next ver : Int) (rvs : List RV) (recs : List M.Rec) (w : World) (ht : Tree w A n vs xs) (hg : Good xs) (hr : TreeR w C p rvs recs) (hsr : ∀ x ∈ recs, SmallA x.act) (hp : p * 104 ≤ 140737488355328) (hn0 : 0 ≤ next) (hn1 : next ≤ 1000000000000) (hv0 : 0 ≤ ver) (hv1 : ver ≤ 1000000000000) :
    Calls Try.prog 7 #[.slice A n c, .int .i64 next, .int .i64 ver, .slice C p q] w (JudgedPost w (M.judS (M.begS xs next ver) recs) (M.verS (M.begS xs next ver) recs)) := by
  have hn72 : n * 72 ≤ 140737488355328 := by have h1 := ht.1.1; have h2 := ht.2.1; have h3 := hg.2.2; omega
  have HT : Hid (Tree w A n vs xs ∧ Good xs ∧ TreeR w C p rvs recs ∧ ∀ x ∈ recs, SmallA x.act) := ⟨ht, hg, hr, hsr⟩
  have HLN : Hid (p = recs.length) := hr.len
  have HNV : Hid (0 ≤ next ∧ next ≤ 1000000000000 ∧ 0 ≤ ver ∧ ver ≤ 1000000000000) := ⟨hn0, hn1, hv0, hv1⟩
  obtain ⟨iV, hiV, hzV, hsV, hbV⟩ := info_parts infoVd
  have hbn : iV.bytes * p ≤ 281474976710656 := by rw [hbV]; omega
  clear ht hg hr hsr hn0 hn1 hv0 hv1
  go_enter Try.func7, Try.ntmps7
  go_wp2_with (fail)
  refine (begin_any A n c vs xs next ver w HT.out.1 hn72 HT.out.2.1.2.1).mono ?_
  rintro e w1 ⟨sb, A1, n1, c1, us1, b1, b2, b3, rfl, hst, hb1⟩
  have hz1 := hb1.size
  have H1 : Hid (StM w1 w.heap.size sb (M.begS xs next ver) A1 n1 c1 us1 none 0 0 [] b1 b2 b3 ∧ Below w.heap.size w w1) := ⟨hst, hb1⟩
  clear hst hb1
  go_wp2_with (at_make; refine wpList_make_own _ (by rfl) (.const (.int .i64 0)) (.tmp 21) 25 (by rfl) w.heap.size 48 iV _ 2 Try.underlying25 hiV hzV hsV .i64 .i64 _ p rfl rfl rfl hbn (by unfold maxLen; omega) hz1 ?_; intro w2 hown hg2; have hb2 := grown_below hg2; clear hg2)
  have H2 : Hid (JudgesI w xs next ver recs sb b1 b2 b3 0 (some ⟨w1.heap.size, 0, none⟩) 0 p w2) := ⟨⟨_, _, _, _, _, _, _, _, H1.out.1.below (Nat.le_refl _) hb2⟩, by simpa [M.verS] using hown, H1.out.2.trans (hb2.mono hz1)⟩
  clear hown hb2 hbn hz1 H1
  go_loopw [13, 25] (fun v i wr => ∃ (k : Nat) (V : Option Addr) (m d : Nat), k ≤ p ∧ i = .int .i64 k ∧ v = .slice V m d ∧ Hid (JudgesI w xs next ver recs sb b1 b2 b3 k V m d wr)) (fun _ i _ => p - (intOf i).toNat)
  case atStart => exact ⟨0, _, 0, p, Nat.zero_le _, rfl, rfl, H2⟩
  case round =>
    obtain ⟨k, V, m, d, hk, rfl, rfl, HK⟩ := hrel
    have hb := HK.out.2.2
    have hsz := hb.size
    have hmk : m = k := by
      have h := own_len vd_len (by decide) HK.out.2.1
      rw [M.ver_len, List.length_take] at h
      have := HLN.out
      omega
    subst hmk
    by_cases hlt : m < p
    · have htr := HT.out.2.2.1.below (Nat.le_refl _) hb
      obtain ⟨g, o, v, rfl, hgb, hvk, c0, c1', c2, c3, c4, c5, c6, c7, c8⟩ := htr.1.at hlt
      obtain ⟨x, hx, hcx⟩ := htr.2.at hvk
      have HX : Hid (recs[m]? = some x ∧ ContR wr v x ∧ SmallA x.act) := ⟨hx, hcx, HT.out.2.2.2 x (List.mem_of_getElem? hx)⟩
      have HWA : Hid _ := boxR_one wr v
      have HNR : Hid (Near next ver m (M.judS (M.begS xs next ver) (recs.take m))) := by
        have h := near_all xs next ver (recs.take m) (near_beg xs next ver)
        rw [List.length_take, Nat.min_eq_left (by rw [← HLN.out]; omega), Nat.zero_add] at h
        exact h
      obtain ⟨A3, n3, c3', us3, D3, p3, q3, avs3, hst3⟩ := HK.out.1
      have HST : Hid (StM wr w.heap.size sb (M.judS (M.begS xs next ver) (recs.take m)) A3 n3 c3' us3 D3 p3 q3 avs3 b1 b2 b3) := hst3
      have hp3 : p3 ≤ m := by rw [actsLen hst3.acts]; exact HNR.out.len
      clear hvk htr hx hcx hst3
      go_wp2_with (fail)
      obtain ⟨q1, q2, q3'⟩ := HWA.out _ rfl
      refine (judge_any (M.judS (M.begS xs next ver) (recs.take m)) v x w.heap.size sb A3 n3 c3' us3 D3 p3 q3 avs3 b1 b2 b3 _ (HST.out.below (Nat.le_refl _) q1) (good_jud _ HT.out.2.1) (HX.out.2.1.below (Nat.le_refl _) q1) HX.out.2.2 (Nat.le_trans hsz q1.size) (by have h1 := HNR.out.nlo; have h2 := HNV.out.1; omega) (by have h1 := HNR.out.nhi; have h2 := HNV.out.2.1; omega) (by have h1 := HNR.out.vlo; have h2 := HNV.out.2.2.1; omega) (by have h1 := HNR.out.vhi; have h2 := HNV.out.2.2.2; omega) (by omega)).mono ?_
      rintro e w4 ⟨rfl, ⟨A4, n4, c4', us4, D4, p4, q4, avs4, hst4⟩, hb4, hk4⟩
      have hpos := Below.trans (q1.mono hsz) hb4
      have H4 : Hid (StM w4 w.heap.size sb (M.stepS (M.judS (M.begS xs next ver) (recs.take m)) x) A4 n4 c4' us4 D4 p4 q4 avs4 b1 b2 b3 ∧ w4.ownsRow w.heap.size 48 2 (.slice V m d) m ((M.verS (M.begS xs next ver) (recs.take m)).flatMap vdCells) ∧ Below w.heap.size w w4) := ⟨hst4, own_keep HK.out.2.1 ((KeepE.below q1 (Nat.le_refl _)).trans hk4), hb.trans hpos⟩
      have HWB : Hid _ := rowV_new w4 (M.verdS (M.judS (M.begS xs next ver) (recs.take m)) x).1 (M.verdS (M.judS (M.begS xs next ver) (recs.take m)) x).2
      have HV : Hid (M.verS (M.begS xs next ver) (recs.take (m + 1)) = M.verS (M.begS xs next ver) (recs.take m) ++ [M.verdS (M.judS (M.begS xs next ver) (recs.take m)) x] ∧ M.judS (M.begS xs next ver) (recs.take (m + 1)) = M.stepS (M.judS (M.begS xs next ver) (recs.take m)) x) := by rw [take_step HX.out.1]; exact ⟨M.ver_snoc _ _ _, M.jud_snoc _ _ _⟩
      clear q1 q2 q3' hst4 hb4 hk4 hpos HWA HNR HST hb c0 c1' c2 c3 c4 c5 c6 c7 c8
      generalize M.verdS (M.judS (M.begS xs next ver) (recs.take m)) x = vd at HV HWB ⊢
      go_wp2_with (at_builtin; refine wpList_append_row _ (by rfl) (.tmp 29) (.tmp 33) 25 (by rfl) w.heap.size 48 iV _ 16 Try.underlying25 hiV hzV hsV hbV rfl (by decide) _ m _ (by rfl) (own_below H4.out.2.1 (HWB.out _ rfl).1 (Nat.le_refl _)) (some ⟨w4.heap.size, 0, none⟩) 1 1 [(vd.1, vd.2)] (by rfl) (HWB.out _ rfl).2.1 vd_len vd_one (by unfold maxLen; omega) (by omega) (by have h1 := H4.out.2.2.size; simp; omega) ?_; intro v5 w5 hown5 hg5; obtain ⟨V5, d5, rfl, _, _⟩ := own_form hown5; have HR : Hid (JudgesI w xs next ver recs sb b1 b2 b3 (m + 1) V5 (m + 1) d5 w5) := ⟨(by rw [HV.out.2]; exact ⟨_, _, _, _, _, _, _, _, (H4.out.1.below (Nat.le_refl _) (HWB.out _ rfl).1).grownV (own_below H4.out.2.1 (HWB.out _ rfl).1 (Nat.le_refl _)) hg5⟩), (by rw [HV.out.1, List.flatMap_append]; exact hown5), Below.grown (H4.out.2.2.trans ((HWB.out _ rfl).1.mono H4.out.2.2.size)) hg5 (by have h1 := H4.out.2.2.size; have h2 := (HWB.out _ rfl).1.size; omega) (fun j hj => ((own_below H4.out.2.1 (HWB.out _ rfl).1 (Nat.le_refl _)).lt j hj).1)⟩; clear hown5 hg5)
      go_roundw
      case rel => exact ⟨m + 1, V5, m + 1, d5, by omega, by go_num, rfl, HR⟩
      case measure => simp [intOf]; omega
    · have HL : Hid (recs.take m = recs) := by show _ = _; exact List.take_of_length_le (by rw [← HLN.out]; omega)
      obtain ⟨A3, n3, c3', us3, D3, p3, q3, avs3, hst3⟩ := HK.out.1
      rw [HL.out] at hst3
      have hvs := HK.out.2.1
      rw [HL.out] at hvs
      obtain ⟨f0, f1, f2, f3, f4, f5, f6, ff, fz⟩ := hst3.facts
      have HP : Hid (∀ N : Nat, JudgedPost w (M.judS (M.begS xs next ver) recs) (M.verS (M.begS xs next ver) recs) (.returned (.tuple #[.slice V m d, .slice D3 p3 q3, .slice A3 n3 c3', .int .i64 (M.judS (M.begS xs next ver) recs).next])) (wr.drewN N)) := by
        intro N
        have hd : Below wr.heap.size wr (wr.drewN N) := ⟨rfl, rfl, rfl, Nat.le_refl _, fun _ _ => rfl⟩
        have h4 := hst3.below (Nat.le_refl _) hd
        exact ⟨V, m, d, D3, p3, q3, avs3, A3, n3, c3', us3, rfl, own_below hvs hd (Nat.le_refl _), h4.acts, h4.tree, hb.trans (hd.mono hsz)⟩
      clear hst3 hvs HK HL
      go_wp2_with (fail)
      go_quiet (fail)
      go_wp2_with (fail)
      exact bodyPost_ret (v := .tuple #[.slice V m d, .slice D3 p3 q3, .slice A3 n3 c3', .int .i64 (M.judS (M.begS xs next ver) recs).next]) (by simp [results, Try.results7, go_sem]) rfl (HP.out _)
theorem judge_all (A C : Option Addr) (n c p q : Nat) (vs : List NV) (xs : List M.Nd) (next ver : Int) (rvs : List RV) (recs : List M.Rec) (w : World) (ht : Tree w A n vs xs) (hg : Good xs) (hr : TreeR w C p rvs recs) (hsr : ∀ x ∈ recs, SmallA x.act) (hp : p * 104 ≤ 140737488355328) (hn0 : 0 ≤ next) (hn1 : next ≤ 1000000) (hv0 : 0 ≤ ver) (hv1 : ver ≤ 1000000) :
    Calls Try.prog 7 #[.slice A n c, .int .i64 next, .int .i64 ver, .slice C p q] w (JudgedPost w (M.judS (M.begS xs next ver) recs) (M.verS (M.begS xs next ver) recs)) :=
  judge_wide A C n c p q vs xs next ver rvs recs w ht hg hr hsr hp hn0 (by omega) hv0 (by omega)
end Go.Proofs.Ytcjobmbbikfnaac
/-
  SETS OF NUMBERS, as maps to true.
-/
namespace Go.Proofs.Ytcjobmbbikfnaac
open Go.RowKit
open Go.ChangeMaps (setBlock)

/-- a set of numbers, as a map to true -/
def setBf (f : Int → Bool) : Int → Option Value := fun k => if f k then some (.bool true) else none
theorem setBf_upd (f : Int → Bool) (k : Int) : updF (setBf f) k (.bool true) = setBf (M.updB f [k]) := by
  funext q
  unfold updF setBf M.updB
  by_cases h : q = k
  · rw [if_pos h]; simp [h]
  · rw [if_neg h]; simp [h]
theorem infoBo : (Try.prog.info? 4).map (fun i => (i.zero, i.size, i.bytes)) = some (some (.bool false), 1, 1) := by kernel_rfl
theorem zeroBo (w : World) : (zeroValue 4).run Try.prog w = .ok (.bool false) w := by
  obtain ⟨i3, hi3, hz3, hs3, hb3⟩ := info_parts infoBo
  simp [zeroValue, typeInfo, hi3, hz3]
theorem ask_bool {w : World} {b : Nat} {f : Int → Bool} (h : IMap w b (setBf f)) (k : Int) :
    (Instr.lookup 66 (.map (some b)) (.int .i64 k) false).run Try.prog w = .ok (.bool (f k)) w := by
  rw [run_lookup_map 66 4 Try.underlying66 (zeroBo w) h k false]
  unfold setBf
  cases f k <;> rfl
theorem mark_bool {w : World} {b : Nat} {f : Int → Bool} (h : IMap w b (setBf f)) (k : Int) :
    ∃ o : Obj, (Instr.mapUpdate 66 (.map (some b)) (.int .i64 k) (.bool true)).run Try.prog w = .ok () (setBlock w b o) ∧ IMap (setBlock w b o) b (setBf (M.updB f [k])) ∧ ∀ e, KeepE e w (setBlock w b o) := by
  obtain ⟨o, hr, hi⟩ := run_update_map 66 4 Try.underlying66 h k (.bool true)
  rw [setBf_upd] at hi
  exact ⟨o, hr, hi, fun _ => .setBlock h o⟩
end Go.Proofs.Ytcjobmbbikfnaac
/-
  PLAIN MATHEMATICS: an act makes at most one entry more.
-/
namespace Go.Proofs.Ytcjobmbbikfnaac
open M

/-- how many entries there are in all -/
def cnt (xs : List Nd) : Nat := (allF xs).length
theorem cnt_nil : cnt [] = 0 := rfl
theorem cnt_cons (x : Nd) (xs : List Nd) : cnt (x :: xs) = x.ents.length + cnt xs := by unfold cnt allF; rw [List.flatMap_cons, List.length_append, List.length_map]
theorem cnt_append (xs ys : List Nd) : cnt (xs ++ ys) = cnt xs + cnt ys := by unfold cnt allF; rw [List.flatMap_append, List.length_append]
theorem cnt_filter_le (p : Nd → Bool) : ∀ xs : List Nd, cnt (xs.filter p) ≤ cnt xs
  | [] => Nat.le_refl _
  | x :: xs => by
    have ih := cnt_filter_le p xs
    rw [cnt_cons, List.filter_cons]
    split
    · rw [cnt_cons]; omega
    · omega
theorem cnt_mem {xs : List Nd} {x : Nd} (h : x ∈ xs) : x.ents.length ≤ cnt xs := by
  induction xs with
  | nil => cases h
  | cons y ys ih =>
    rw [cnt_cons]
    rcases List.mem_cons.1 h with h | h
    · subst h; omega
    · have := ih h; omega
theorem ltI_no (a : Int) : ltI a a = false := by simp [ltI]
theorem ltI_asym {a b : Int} (h : ltI a b = true) : ltI b a = false := by
  simp only [ltI, decide_eq_true_eq] at h
  simp only [ltI, decide_eq_false_iff_not]
  omega
theorem cnt_two (k : Int) : ∀ xs : List Nd, cnt (xs.filter fun y => ltI y.fid k) + cnt (xs.filter fun y => ltI k y.fid) ≤ cnt xs
  | [] => Nat.le_refl _
  | x :: xs => by
    have ih := cnt_two k xs
    rw [cnt_cons, List.filter_cons, List.filter_cons]
    cases h1 : ltI x.fid k
    · cases h2 : ltI k x.fid
      · simp only [Bool.false_eq_true, if_false]; omega
      · simp only [Bool.false_eq_true, if_false, if_true]; rw [cnt_cons]; omega
    · rw [ltI_asym h1]
      simp only [Bool.false_eq_true, if_false, if_true]; rw [cnt_cons]; omega
theorem cnt_three (k : Int) : ∀ {xs : List Nd} {y : Nd}, y ∈ xs → y.fid = k → cnt (xs.filter fun y => ltI y.fid k) + cnt (xs.filter fun y => ltI k y.fid) + y.ents.length ≤ cnt xs
  | [], y, h, _ => by cases h
  | x :: xs, y, h, hk => by
    rw [cnt_cons, List.filter_cons, List.filter_cons]
    by_cases hxk : x.fid = k
    · rw [hxk, ltI_no]
      simp only [Bool.false_eq_true, if_false]
      rcases List.mem_cons.1 h with h | h
      · subst h; have := cnt_two k xs; omega
      · have := cnt_three k h hk; omega
    · have hyx : y ∈ xs := by
        rcases List.mem_cons.1 h with h | h
        · subst h; exact absurd hk hxk
        · exact h
      have ih := cnt_three k hyx hk
      cases h1 : ltI x.fid k
      · cases h2 : ltI k x.fid
        · simp only [Bool.false_eq_true, if_false]; omega
        · simp only [Bool.false_eq_true, if_false, if_true]; rw [cnt_cons]; omega
      · rw [ltI_asym h1]
        simp only [Bool.false_eq_true, if_false, if_true]; rw [cnt_cons]; omega
theorem putN_eq (xs : List Nd) (x : Nd) : putN xs x = xs.filter (fun y => ltI y.fid x.fid) ++ x :: xs.filter (fun y => ltI x.fid y.fid) := rfl
/-- in the place of one with no fewer entries, but for k -/
theorem cnt_put {xs : List Nd} {x y : Nd} {k : Nat} (hy : find xs x.fid = some y) (h : x.ents.length ≤ y.ents.length + k) : cnt (putN xs x) ≤ cnt xs + k := by
  have := cnt_three x.fid (find_mem hy).1 (find_mem hy).2
  rw [putN_eq, cnt_append, cnt_cons]
  omega
theorem cnt_put0 (xs : List Nd) {x : Nd} (h : x.ents = []) : cnt (putN xs x) ≤ cnt xs := by
  have := cnt_two x.fid xs
  rw [putN_eq, cnt_append, cnt_cons, h]
  simp only [List.length_nil]
  omega
theorem cnt_bring {xs : List Nd} (ac : M.Act) (v : Int) : cnt (M.bringS xs ac v).2 ≤ cnt xs + 1 := by
  by_cases h1 : (M.dirS xs ac.dir).1 = 0
  case' neg => rw [bring_dir h1]; exact Nat.zero_le _
  by_cases h2 : M.freeS (M.dirS xs ac.dir).2 ac.name = 0
  case' neg => rw [bring_free h1 h2]; exact Nat.zero_le _
  by_cases h3 : ac.fid = 0 ∨ (M.find xs ac.fid).isSome
  case' pos => rw [bring_stale h1 h2 h3]; exact Nat.zero_le _
  by_cases h4 : 24 ≤ xs.length
  case' pos => rw [bring_many h1 h2 h3 h4]; exact Nat.zero_le _
  rw [bring_ok h1 h2 h3 h4]
  have hd := M.dir_ok h1
  have e1 : (M.dirS xs ac.dir).2.fid = ac.dir := (M.find_mem hd.1).2
  refine Nat.le_trans (cnt_put0 _ rfl) (cnt_put (y := (M.dirS xs ac.dir).2) ?_ (M.putE_len _ _))
  show M.find xs (M.dirS xs ac.dir).2.fid = _
  rw [e1]; exact hd.1
theorem cnt_store {xs : List Nd} (ac : M.Act) (v : Int) : cnt (M.storeS xs ac v).2 ≤ cnt xs + 1 := by
  unfold M.storeS
  cases hx : M.find xs ac.fid with
  | none => exact Nat.zero_le _
  | some x =>
    simp only
    split
    · exact Nat.zero_le _
    · split
      · exact Nat.zero_le _
      · refine cnt_put (y := x) ?_ (Nat.le_succ _)
        show M.find xs x.fid = _
        rw [(M.find_mem hx).2]; exact hx
theorem cnt_remove {xs : List Nd} (ac : M.Act) (v : Int) : cnt (M.removeS xs ac v).2 ≤ cnt xs + 1 := by
  by_cases h1 : (M.holdS xs ac.dir ac.name ac.fid).1 = 0
  case' neg => rw [remove_hold h1]; exact Nat.zero_le _
  cases hx : M.find xs ac.fid with
  | none => rw [remove_away h1 hx]; exact Nat.zero_le _
  | some x =>
    by_cases he : 0 < x.ents.length
    case' pos => rw [remove_full h1 hx he]; exact Nat.zero_le _
    rw [remove_ok h1 hx he]
    have ho := hold_ok h1
    have hd := M.dir_ok (xs := xs) (f := ac.dir) (by rw [ho.1])
    rw [ho.1] at hd
    refine Nat.le_trans (cnt_filter_le _ _) (cnt_put (y := (M.holdS xs ac.dir ac.name ac.fid).2) ?_ ?_)
    · show M.find xs (M.holdS xs ac.dir ac.name ac.fid).2.fid = _
      rw [(M.find_mem hd.1).2]; exact hd.1
    · exact Nat.le_trans (List.length_filter_le _ _) (Nat.le_succ _)
theorem cnt_rename {xs : List Nd} (h : Good xs) (ac : M.Act) (v : Int) : cnt (M.renameS xs ac v).2 ≤ cnt xs + 1 := by
  by_cases h1 : (M.holdS xs ac.dir ac.name ac.fid).1 = 0
  case' neg => rw [rename_hold h1]; exact Nat.zero_le _
  by_cases h2 : (M.dirS xs ac.to).1 = 0
  case' neg => rw [rename_dir h1 h2]; exact Nat.zero_le _
  by_cases h3 : M.freeS (M.toS xs ac) ac.toName = 0
  case' neg => rw [rename_free h1 h2 h3]; exact Nat.zero_le _
  by_cases h4 : M.find xs ac.fid = none
  case' pos => rw [rename_away h1 h2 h3 h4]; exact Nat.zero_le _
  by_cases h5 : M.Reach xs ac.fid ac.to
  case' pos => rw [rename_loop h1 h2 h3 h4 h5]; exact Nat.zero_le _
  rw [rename_ok h1 h2 h3 h4 h5]
  have hf := from_good h h1
  have ht := to_good h h1 h2
  have c1 : cnt (M.putN xs (M.withV (M.fromS xs ac) v)) ≤ cnt xs + 0 := cnt_put (y := (M.holdS xs ac.dir ac.name ac.fid).2) hf.1 (List.length_filter_le _ _)
  refine Nat.le_trans ?_ (Nat.add_le_add_right c1 1)
  have e0 : (M.withV (withE (M.toS xs ac) (M.putE (M.toS xs ac).ents (ac.toName, ac.fid))) v).fid = ac.to := ht.2.1
  by_cases e : ac.to = ac.dir
  · refine cnt_put (y := M.withV (M.fromS xs ac) v) ?_ ?_
    · have e1 : (M.withV (M.fromS xs ac) v).fid = ac.to := hf.2.1.trans e.symm
      rw [e0, ← e1]
      exact M.put_find (fun y : Nd => y.fid) xs M.ordI (M.withV (M.fromS xs ac) v)
    · have e2 : M.toS xs ac = M.fromS xs ac := by unfold M.toS; rw [if_pos e]
      rw [e2]
      exact M.putE_len _ _
  · have hd := M.dir_ok h2
    have e2 : M.toS xs ac = (M.dirS xs ac.to).2 := by unfold M.toS; rw [if_neg e]
    refine cnt_put (y := (M.dirS xs ac.to).2) ?_ ?_
    · rw [e0]
      have := M.put_find_other (fun y : Nd => y.fid) xs M.ordI (M.withV (M.fromS xs ac) v) ac.to (by show ac.to ≠ (M.fromS xs ac).fid; rw [hf.2.1]; exact e)
      unfold M.find M.putN at *
      rw [this]; exact hd.1
    · rw [e2]
      exact M.putE_len _ _
theorem cnt_apply {xs : List Nd} (h : Good xs) (ac : M.Act) (v : Int) : cnt (M.applyS xs ac v).2 ≤ cnt xs + 1 := by
  unfold M.applyS
  split
  · exact cnt_bring ac v
  · split
    · exact cnt_store ac v
    · split
      · exact cnt_remove ac v
      · split
        · exact cnt_rename h ac v
        · exact Nat.zero_le _
/-- a tree that is fit for all that is asked of it -/
def Fit (xs : List Nd) (N : Nat) : Prop := Good xs ∧ cnt xs ≤ N
theorem Fit.next {xs : List Nd} {N : Nat} (h : Fit xs N) (ac : M.Act) (v : Int) : Fit (M.applyS xs ac v).2 (N + 1) := ⟨good_apply h.1 ac v, Nat.le_trans (cnt_apply h.1 ac v) (Nat.add_le_add_right h.2 1)⟩
theorem Fit.mono {xs : List Nd} {N N' : Nat} (h : Fit xs N) (hn : N ≤ N') : Fit xs N' := ⟨h.1, Nat.le_trans h.2 hn⟩
theorem Fit.wide {xs : List Nd} {N : Nat} (h : Fit xs N) (hN : N ≤ 4000000) : (∀ x ∈ xs, (x.ents.length + 1) * 24 ≤ 140737488355328) ∧ ((allF xs).length + 2) * 8 ≤ 140737488355328 := by
  have h2 : (allF xs).length ≤ N := h.2
  refine ⟨fun x hx => ?_, by omega⟩
  have := cnt_mem hx
  have := h.2
  omega
end Go.Proofs.Ytcjobmbbikfnaac
