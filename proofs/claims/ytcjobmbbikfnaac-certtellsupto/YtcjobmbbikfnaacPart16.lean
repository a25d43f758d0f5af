/- TEXTS LAID TOGETHER: Crefa, Crefb -/
import Derived.Test.YtcjobmbbikfnaacPart13
import Derived.Test.YtcjobmbbikfnaacPart15
/-
  THE REFERENCE's Judge: its memory, as it is written.
-/
namespace Go.Proofs.Ytcjobmbbikfnaac
open Go.RowKit
open Go.ChangeMaps (setBlock)

/-- a map holds one thing -/
theorem IMap.one {w : World} {b : Nat} {f g : Int → Option Value} (h : IMap w b f) (k : IMap w b g) : f = g := by
  obtain ⟨es, c, hb, hh, _⟩ := h
  obtain ⟨es2, c2, hb2, hh2, _⟩ := k
  rw [hb] at hb2
  cases hb2
  funext q
  rw [← holds_pos hh q, ← holds_pos hh2 q]
/-- a tree's map, of a tree that has something, is no map of numbers, and no set -/
theorem TMap.noInt {w : World} {b b' : Nat} {xs : List M.Nd} {f : Int → Option Int} (h : TMap w b xs) {k : Int} {x : M.Nd} (hx : M.find xs k = some x) (hm : IMap w b' (intF f)) : b ≠ b' := by
  rintro rfl
  obtain ⟨g, hi, ha⟩ := h
  have e := hi.one hm
  rcases ha k with ⟨_, h2⟩ | ⟨v, y, h1, _, _⟩
  · rw [hx] at h2; cases h2
  · rw [e] at h1
    unfold intF at h1
    cases hf : f k with
    | none => rw [hf] at h1; cases h1
    | some z => rw [hf] at h1; cases h1
theorem TMap.noSet {w : World} {b b' : Nat} {xs : List M.Nd} {f : Int → Bool} (h : TMap w b xs) {k : Int} {x : M.Nd} (hx : M.find xs k = some x) (hm : IMap w b' (setBf f)) : b ≠ b' := by
  rintro rfl
  obtain ⟨g, hi, ha⟩ := h
  have e := hi.one hm
  rcases ha k with ⟨_, h2⟩ | ⟨v, y, h1, _, _⟩
  · rw [hx] at h2; cases h2
  · rw [e] at h1
    unfold setBf at h1
    cases hf : f k with
    | false => rw [hf] at h1; cases h1
    | true => rw [hf] at h1; cases h1
namespace M
/-- what comes of an act has something -/
theorem applied_some {xs : List Nd} {b : Act} {v : Int} (h : (applyS xs b v).1 = 0) : ∃ k x, find (applyS xs b v).2 k = some x := by
  rcases apply_cases h with ⟨hmk, h3, h5, e⟩ | ⟨h3, e⟩ | ⟨h4, e⟩ | ⟨h5, e⟩
  · rw [e] at h ⊢
    obtain ⟨h1, h2, h6, h7⟩ := bring_inv h
    rw [bring_ok h1 h2 h6 h7]
    exact ⟨b.fid, _, by rw [findN_if, if_pos rfl]⟩
  · rw [e] at h ⊢
    obtain ⟨x, hx, _, _, e2⟩ := store_inv h
    rw [e2]
    exact ⟨x.fid, _, by rw [findN_if]; exact if_pos rfl⟩
  · rw [e] at h ⊢
    obtain ⟨h1, x, hx, he⟩ := remove_inv h
    obtain ⟨D, hD0, hD, hDd, hDf, hDl⟩ := hold_at h1
    rw [remove_ok h1 hx he, hD0]
    refine ⟨b.dir, ?_⟩
    by_cases hc : b.dir = b.fid
    · exfalso
      rw [hc, hx] at hD
      cases hD
      have hn : x.ents = [] := List.eq_nil_of_length_eq_zero (by omega)
      rw [hn] at hDl
      cases hDl
    · have hf : b.dir = D.fid := by rw [hDf]
      exact ⟨_, by rw [findD_if, if_neg hc, findN_if]; exact if_pos hf⟩
  · rw [e] at h ⊢
    obtain ⟨h1, h2, h3, h4, h6⟩ := rename_inv h
    rw [rename_ok h1 h2 h3 h4 h6]
    exact ⟨_, _, by rw [findN_if]; exact if_pos rfl⟩
end M

/-- where the reference's Judge is: what it has, and the maps of its own -/
structure RefM [Inhabited BaseN] (w W : World) (ob hb bh bl bo : Nat) (s : M.St) (vds : List (Int × Int)) (V : Option Addr) (m d : Nat) (D : Option Addr) (p q : Nat) (davs : List AV) (bt : Nat) : Prop where
  below : Below w.heap.size w W
  out : W.heap[ob]? = some (.cells #[.slice V m d, .slice D p q, .map (some bt), .int .i64 s.next] 32 (0, 0))
  here : W.heap[hb]? = some (.cells #[.map (some bh)] 62 (0, 0))
  mh : IMap W bh (intF s.made)
  ml : IMap W bl (setBf s.ref)
  mo : IMap W bo (setBf s.tch)
  vd : W.ownsRow w.heap.size 48 2 (.slice V m d) m (vds.flatMap vdCells)
  dn : W.ownsRow w.heap.size 43 7 (.slice D p q) p (davs.flatMap AV.cells)
  ac : All2 (ContA w) davs s.done
  t : TMapK W bt s.tr
  lo : kbase ≤ w.heap.size ∧ w.heap.size ≤ ob ∧ w.heap.size ≤ bh ∧ w.heap.size ≤ bl ∧ w.heap.size ≤ bo
  ne : bh ≠ bl ∧ bh ≠ bo ∧ bl ≠ bo ∧ bt ≠ bh ∧ bt ≠ bl ∧ bt ≠ bo
  res : W.heap[w.heap.size]? = some (.cells #[.slice none 0 0, .slice none 0 0, .map none, .int .i64 0] 32 (0, 0)) ∧ w.heap.size < ob
section
variable [Inhabited BaseN] {w W W' : World} {ob hb bh bl bo : Nat} {s : M.St} {vds : List (Int × Int)} {V : Option Addr} {m d : Nat} {D : Option Addr} {p q : Nat} {davs : List AV} {bt : Nat}
theorem RefM.call (h : RefM w W ob hb bh bl bo s vds V m d D p q davs bt) (hb' : Below W.heap.size W W') : RefM w W' ob hb bh bl bo s vds V m d D p q davs bt :=
  ⟨h.below.trans (hb'.mono h.below.size), by rw [hb'.block _ (lt_of_block h.out)]; exact h.out, by rw [hb'.block _ (lt_of_block h.here)]; exact h.here, h.mh.below (Nat.le_refl _) hb', h.ml.below (Nat.le_refl _) hb', h.mo.below (Nat.le_refl _) hb', own_below h.vd hb' (Nat.le_refl _), own_below h.dn hb' (Nat.le_refl _), h.ac, h.t.below (Nat.le_refl _) hb', h.lo, h.ne, by rw [hb'.block _ (lt_of_block h.res.1)]; exact h.res.1, h.res.2⟩
theorem RefM.facts (h : RefM w W ob hb bh bl bo s vds V m d D p q davs bt) : W.cell? ⟨ob, 0, none⟩ = some (.slice V m d) ∧ W.cell? ⟨ob, 1, none⟩ = some (.slice D p q) ∧ W.cell? ⟨ob, 2, none⟩ = some (.map (some bt)) ∧ W.cell? ⟨ob, 3, none⟩ = some (.int .i64 s.next) ∧ (∀ o, W.frozen? ⟨ob, o, none⟩ = false) ∧ W.cell? ⟨hb, 0, none⟩ = some (.map (some bh)) := by
  have h1 := h.out
  have h2 := h.here
  exact ⟨by simp [World.cell?, h1], by simp [World.cell?, h1], by simp [World.cell?, h1], by simp [World.cell?, h1], fun o => by simp [World.frozen?, h1], by simp [World.cell?, h2]⟩
/-- a cell of what it answers is written: what stays -/
theorem RefM.cell (h : RefM w W ob hb bh bl bo s vds V m d D p q davs bt) (o : Nat) (u : Value) :
    Below w.heap.size w (W.setCell ⟨ob, o, none⟩ u) ∧ (∀ e, e ≠ 32 → KeepE e W (W.setCell ⟨ob, o, none⟩ u)) ∧ (W.setCell ⟨ob, o, none⟩ u).heap[hb]? = some (.cells #[.map (some bh)] 62 (0, 0)) ∧ IMap (W.setCell ⟨ob, o, none⟩ u) bh (intF s.made) ∧ IMap (W.setCell ⟨ob, o, none⟩ u) bl (setBf s.ref) ∧ IMap (W.setCell ⟨ob, o, none⟩ u) bo (setBf s.tch) ∧ (∀ b xs, TMapK W b xs → TMapK (W.setCell ⟨ob, o, none⟩ u) b xs) := by
  have kp : ∀ e, e ≠ 32 → KeepE e W (W.setCell ⟨ob, o, none⟩ u) := fun e he => .setCell h.out (fun k => he k.symm) o u
  refine ⟨h.below.setCell (p := ⟨ob, o, none⟩) h.lo.2.1 u, kp, kp _ (by decide) _ _ h.here, h.mh.setCell h.out o u, h.ml.setCell h.out o u, h.mo.setCell h.out o u, fun b xs ht => ?_⟩
  obtain ⟨f, hi, ha⟩ := ht
  have hbl : Below kbase W (W.setCell ⟨ob, o, none⟩ u) := (Below.refl _ _).setCell (p := ⟨ob, o, none⟩) (Nat.le_trans h.lo.1 h.lo.2.1) u
  have hm : (W.setCell ⟨ob, o, none⟩ u).heap[b]? = W.heap[b]? := by
    obtain ⟨es, c, hb1, _⟩ := hi
    exact Below.heap_setCell _ _ _ _ (fun e => by have e : b = ob := e; rw [e, h.out] at hb1; cases hb1)
  exact TMapK.keep ⟨f, hi, ha⟩ hm hbl (kp _ (by decide)) (kp _ (by decide))
theorem RefM.setT (h : RefM w W ob hb bh bl bo s vds V m d D p q davs bt) {bm : Nat} {ys : List M.Nd} (ht : TMapK W bm ys) (hne : bm ≠ bh ∧ bm ≠ bl ∧ bm ≠ bo) : RefM w (W.setCell ⟨ob, 2, none⟩ (.map (some bm))) ob hb bh bl bo { s with tr := ys } vds V m d D p q davs bm := by
  obtain ⟨k1, k2, k3, k4, k5, k6, k7⟩ := h.cell 2 (.map (some bm))
  exact ⟨k1, by rw [heap_setCell_same _ _ _ _ _ _ h.out]; rfl, k3, k4, k5, k6, own_keep h.vd (k2 _ (by decide)), own_keep h.dn (k2 _ (by decide)), h.ac, k7 _ _ ht, h.lo, ⟨h.ne.1, h.ne.2.1, h.ne.2.2.1, hne⟩, by rw [Below.heap_setCell _ _ _ _ (by show w.heap.size ≠ ob; have := h.res.2; omega)]; exact h.res.1, h.res.2⟩
theorem RefM.next1 (h : RefM w W ob hb bh bl bo s vds V m d D p q davs bt) (x : Int) : RefM w (W.setCell ⟨ob, 3, none⟩ (.int .i64 x)) ob hb bh bl bo { s with next := x } vds V m d D p q davs bt := by
  obtain ⟨k1, k2, k3, k4, k5, k6, k7⟩ := h.cell 3 (.int .i64 x)
  exact ⟨k1, by rw [heap_setCell_same _ _ _ _ _ _ h.out]; rfl, k3, k4, k5, k6, own_keep h.vd (k2 _ (by decide)), own_keep h.dn (k2 _ (by decide)), h.ac, k7 _ _ h.t, h.lo, h.ne, by rw [Below.heap_setCell _ _ _ _ (by show w.heap.size ≠ ob; have := h.res.2; omega)]; exact h.res.1, h.res.2⟩
theorem TMapK.setBlock {b c : Nat} {xs : List M.Nd} {f : Int → Option Value} (h : TMapK W b xs) (hc : IMap W c f) (hk : kbase ≤ c) (hne : b ≠ c) (o : Obj) : TMapK (setBlock W c o) b xs :=
  h.keep (setBlock_other hne) (setBlock_below (Below.refl _ _) hk o) (.setBlock hc o) (.setBlock hc o)
theorem RefM.ours1 (h : RefM w W ob hb bh bl bo s vds V m d D p q davs bt) (k : Int) : ∃ o : Obj, (Instr.mapUpdate 66 (.map (some bo)) (.int .i64 k) (.bool true)).run Try.prog W = .ok () (setBlock W bo o) ∧ RefM w (setBlock W bo o) ob hb bh bl bo { s with tch := M.updB s.tch [k] } vds V m d D p q davs bt ∧ ∀ e, KeepE e W (setBlock W bo o) := by
  obtain ⟨o, hr, hi, hk⟩ := mark_bool h.mo k
  exact ⟨o, hr, ⟨setBlock_below h.below h.lo.2.2.2.2 o, hk _ _ _ h.out, hk _ _ _ h.here, h.mh.setBlock h.ne.2.1 o, h.ml.setBlock h.ne.2.2.1 o, hi, own_keep h.vd (hk _), own_keep h.dn (hk _), h.ac, h.t.setBlock h.mo (Nat.le_trans h.lo.1 h.lo.2.2.2.2) h.ne.2.2.2.2.2 o, h.lo, h.ne, hk _ _ _ h.res.1, h.res.2⟩, hk⟩
theorem RefM.lost1 (h : RefM w W ob hb bh bl bo s vds V m d D p q davs bt) (k : Int) : ∃ o : Obj, (Instr.mapUpdate 66 (.map (some bl)) (.int .i64 k) (.bool true)).run Try.prog W = .ok () (setBlock W bl o) ∧ RefM w (setBlock W bl o) ob hb bh bl bo { s with ref := M.updB s.ref [k] } vds V m d D p q davs bt ∧ ∀ e, KeepE e W (setBlock W bl o) := by
  obtain ⟨o, hr, hi, hk⟩ := mark_bool h.ml k
  exact ⟨o, hr, ⟨setBlock_below h.below h.lo.2.2.2.1 o, hk _ _ _ h.out, hk _ _ _ h.here, h.mh.setBlock h.ne.1 o, hi, h.mo.setBlock (Ne.symm h.ne.2.2.1) o, own_keep h.vd (hk _), own_keep h.dn (hk _), h.ac, h.t.setBlock h.ml (Nat.le_trans h.lo.1 h.lo.2.2.2.1) h.ne.2.2.2.2.1 o, h.lo, h.ne, hk _ _ _ h.res.1, h.res.2⟩, hk⟩
theorem RefM.here1 (h : RefM w W ob hb bh bl bo s vds V m d D p q davs bt) (k v : Int) : ∃ o : Obj, (Instr.mapUpdate 62 (.map (some bh)) (.int .i64 k) (.int .i64 v)).run Try.prog W = .ok () (setBlock W bh o) ∧ RefM w (setBlock W bh o) ob hb bh bl bo { s with made := M.updM s.made k v } vds V m d D p q davs bt ∧ ∀ e, KeepE e W (setBlock W bh o) := by
  obtain ⟨o, hr, hi⟩ := run_update_map 62 3 Try.underlying62 h.mh k (.int .i64 v)
  rw [intF_upd] at hi
  have hk : ∀ e, KeepE e W (setBlock W bh o) := fun _ => .setBlock h.mh o
  exact ⟨o, hr, ⟨setBlock_below h.below h.lo.2.2.1 o, hk _ _ _ h.out, hk _ _ _ h.here, hi, h.ml.setBlock (Ne.symm h.ne.1) o, h.mo.setBlock (Ne.symm h.ne.2.1) o, own_keep h.vd (hk _), own_keep h.dn (hk _), h.ac, h.t.setBlock h.mh (Nat.le_trans h.lo.1 h.lo.2.2.1) h.ne.2.2.2.1 o, h.lo, h.ne, hk _ _ _ h.res.1, h.res.2⟩, hk⟩
/-- a map that grows elsewhere -/
theorem TMapK.grown {b : Nat} {xs : List M.Nd} (h : TMapK W b xs) {e' : TypeId} {B' k' : Nat} {v' : Value} {n' : Nat} {xs' : List Value} (h' : W.ownsRow B' e' k' v' n' xs') (hB : kbase ≤ B') (h5 : 5 ≠ e') (hE : 58 ≠ e') (hs : kbase ≤ W.heap.size) (hg : W.grownBy W' v'.ownBlock) : TMapK W' b xs := by
  obtain ⟨f, hi, ha⟩ := h
  have hm : W'.heap[b]? = W.heap[b]? := by
    refine hg.block b hi.lt (fun k => ?_)
    obtain ⟨es, c, hb, _⟩ := hi
    rcases h'.2 with ⟨rfl, _⟩ | ⟨g', cap, cur', rfl, _, hh, _⟩
    · cases k
    · cases k
      rw [hh] at hb
      cases hb
  exact TMapK.keep ⟨f, hi, ha⟩ hm ((Below.refl _ _).grown hg hs (fun k hk => Nat.le_trans hB (h'.lt k hk).1)) (.grown h' h5 hg) (.grown h' hE hg)
/-- an act is laid behind those that were done -/
theorem RefM.pushD (h : RefM w W ob hb bh bl bo s vds V m d D p q davs bt) {a : AV} {ac : M.Act} (ha : ContA w a ac) {D' : Option Addr} {q' : Nat} (ho : W'.ownsRow w.heap.size 43 7 (.slice D' (p + 1) q') (p + 1) (davs.flatMap AV.cells ++ [a].flatMap AV.cells)) (hg : W.grownBy W' (Value.slice D p q).ownBlock) :
    W'.heap[ob]? = some (.cells #[.slice V m d, .slice D p q, .map (some bt), .int .i64 s.next] 32 (0, 0)) ∧ (∀ e, e ≠ 43 → KeepE e W W') ∧
    (∀ W2, W2 = W'.setCell ⟨ob, 1, none⟩ (.slice D' (p + 1) q') → RefM w W2 ob hb bh bl bo { s with done := s.done ++ [ac] } vds V m d D' (p + 1) q' (davs ++ [a]) bt ∧ ∀ e, e ≠ 32 → KeepE e W' W2) := by
  have kp : ∀ e, e ≠ 43 → KeepE e W W' := fun e he => .grown h.dn he hg
  have hout := kp _ (by decide) _ _ h.out
  refine ⟨hout, kp, ?_⟩
  rintro W2 rfl
  have kp2 : ∀ e, e ≠ 32 → KeepE e W' (W'.setCell ⟨ob, 1, none⟩ (.slice D' (p + 1) q')) := fun e he => .setCell hout (fun k => he k.symm) 1 _
  have hbw : Below w.heap.size w W' := h.below.grown hg h.below.size (fun k hk => (h.dn.lt k hk).1)
  have hsz := h.below.size
  have ht1 : TMapK W' bt s.tr := h.t.grown h.dn h.lo.1 (by decide) (by decide) (Nat.le_trans h.lo.1 hsz) hg
  have hm2 : (W'.setCell ⟨ob, 1, none⟩ (.slice D' (p + 1) q')).heap[bt]? = W'.heap[bt]? := by
    obtain ⟨f, ⟨es, c, hb1, _⟩, _⟩ := ht1
    exact Below.heap_setCell _ _ _ _ (fun e => by have e : bt = ob := e; rw [e, hout] at hb1; cases hb1)
  refine ⟨⟨hbw.setCell (p := ⟨ob, 1, none⟩) h.lo.2.1 _, by rw [heap_setCell_same _ _ _ _ _ _ hout]; rfl, kp2 _ (by decide) _ _ (kp _ (by decide) _ _ h.here), (h.mh.grown h.dn hg).setCell hout 1 _, (h.ml.grown h.dn hg).setCell hout 1 _, (h.mo.grown h.dn hg).setCell hout 1 _, own_keep (own_keep h.vd (kp _ (by decide))) (kp2 _ (by decide)), own_keep (by rw [List.flatMap_append]; exact ho) (kp2 _ (by decide)), h.ac.append (All2.one ha), ht1.keep hm2 ((Below.refl _ _).setCell (p := ⟨ob, 1, none⟩) (Nat.le_trans h.lo.1 h.lo.2.1) _) (kp2 _ (by decide)) (kp2 _ (by decide)), h.lo, h.ne, by rw [Below.heap_setCell _ _ _ _ (by show w.heap.size ≠ ob; have := h.res.2; omega)]; exact kp _ (by decide) _ _ h.res.1, h.res.2⟩, kp2⟩
/-- a verdict is laid behind the others -/
theorem RefM.pushV (h : RefM w W ob hb bh bl bo s vds V m d D p q davs bt) (x : Int × Int) {V' : Option Addr} {d' : Nat} (ho : W'.ownsRow w.heap.size 48 2 (.slice V' (m + 1) d') (m + 1) (vds.flatMap vdCells ++ [x].flatMap vdCells)) (hg : W.grownBy W' (Value.slice V m d).ownBlock) :
    W'.heap[ob]? = some (.cells #[.slice V m d, .slice D p q, .map (some bt), .int .i64 s.next] 32 (0, 0)) ∧ (∀ e, e ≠ 48 → KeepE e W W') ∧
    (∀ W2, W2 = W'.setCell ⟨ob, 0, none⟩ (.slice V' (m + 1) d') → RefM w W2 ob hb bh bl bo s (vds ++ [x]) V' (m + 1) d' D p q davs bt ∧ ∀ e, e ≠ 32 → KeepE e W' W2) := by
  have kp : ∀ e, e ≠ 48 → KeepE e W W' := fun e he => .grown h.vd he hg
  have hout := kp _ (by decide) _ _ h.out
  refine ⟨hout, kp, ?_⟩
  rintro W2 rfl
  have kp2 : ∀ e, e ≠ 32 → KeepE e W' (W'.setCell ⟨ob, 0, none⟩ (.slice V' (m + 1) d')) := fun e he => .setCell hout (fun k => he k.symm) 0 _
  have hbw : Below w.heap.size w W' := h.below.grown hg h.below.size (fun k hk => (h.vd.lt k hk).1)
  have hsz := h.below.size
  have ht1 : TMapK W' bt s.tr := h.t.grown h.vd h.lo.1 (by decide) (by decide) (Nat.le_trans h.lo.1 hsz) hg
  have hm2 : (W'.setCell ⟨ob, 0, none⟩ (.slice V' (m + 1) d')).heap[bt]? = W'.heap[bt]? := by
    obtain ⟨f, ⟨es, c, hb1, _⟩, _⟩ := ht1
    exact Below.heap_setCell _ _ _ _ (fun e => by have e : bt = ob := e; rw [e, hout] at hb1; cases hb1)
  refine ⟨⟨hbw.setCell (p := ⟨ob, 0, none⟩) h.lo.2.1 _, by rw [heap_setCell_same _ _ _ _ _ _ hout]; rfl, kp2 _ (by decide) _ _ (kp _ (by decide) _ _ h.here), (h.mh.grown h.vd hg).setCell hout 0 _, (h.ml.grown h.vd hg).setCell hout 0 _, (h.mo.grown h.vd hg).setCell hout 0 _, own_keep (by rw [List.flatMap_append]; exact ho) (kp2 _ (by decide)), own_keep (own_keep h.dn (kp _ (by decide))) (kp2 _ (by decide)), h.ac, ht1.keep hm2 ((Below.refl _ _).setCell (p := ⟨ob, 0, none⟩) (Nat.le_trans h.lo.1 h.lo.2.1) _) (kp2 _ (by decide)) (kp2 _ (by decide)), h.lo, h.ne, by rw [Below.heap_setCell _ _ _ _ (by show w.heap.size ≠ ob; have := h.res.2; omega)]; exact kp _ (by decide) _ _ h.res.1, h.res.2⟩, kp2⟩
/-- the version is no matter of memory -/
theorem RefM.ver1 (h : RefM w W ob hb bh bl bo s vds V m d D p q davs bt) (v : Int) : RefM w W ob hb bh bl bo { s with ver := v } vds V m d D p q davs bt :=
  ⟨h.below, h.out, h.here, h.mh, h.ml, h.mo, h.vd, h.dn, h.ac, h.t, h.lo, h.ne, h.res⟩
/-- what it answers, while its own block is written -/
def JudD (w W : World) (s : M.St) (vds : List (Int × Int)) (V : Option Addr) (m d : Nat) (D : Option Addr) (p q : Nat) (davs : List AV) (bt : Nat) : Prop :=
  Below w.heap.size w W ∧ kbase ≤ w.heap.size ∧ W.ownsRow w.heap.size 48 2 (.slice V m d) m (vds.flatMap vdCells) ∧ W.ownsRow w.heap.size 43 7 (.slice D p q) p (davs.flatMap AV.cells) ∧ All2 (ContA w) davs s.done ∧ TMapK W bt s.tr
theorem RefM.jud (h : RefM w W ob hb bh bl bo s vds V m d D p q davs bt) : JudD w W s vds V m d D p q davs bt := ⟨h.below, h.lo.1, h.vd, h.dn, h.ac, h.t⟩
theorem JudD.set (h : JudD w W s vds V m d D p q davs bt) {cs : Array Value} (hr : W.heap[w.heap.size]? = some (.cells cs 32 (0, 0))) (o : Nat) (u : Value) :
    JudD w (W.setCell ⟨w.heap.size, o, none⟩ u) s vds V m d D p q davs bt ∧ (W.setCell ⟨w.heap.size, o, none⟩ u).heap[w.heap.size]? = some (.cells (cs.setIfInBounds o u) 32 (0, 0)) := by
  have kp : ∀ e, e ≠ 32 → KeepE e W (W.setCell ⟨w.heap.size, o, none⟩ u) := fun e he => .setCell hr (fun k => he k.symm) o u
  obtain ⟨h1, h2, h3, h4, h5, f, hi, ha⟩ := h
  have hm : (W.setCell ⟨w.heap.size, o, none⟩ u).heap[bt]? = W.heap[bt]? := by
    obtain ⟨es, c, hb1, _⟩ := hi
    exact Below.heap_setCell _ _ _ _ (fun e => by have e : bt = w.heap.size := e; rw [e, hr] at hb1; cases hb1)
  have hbl : Below w.heap.size W (W.setCell ⟨w.heap.size, o, none⟩ u) := (Below.refl _ _).setCell (p := ⟨w.heap.size, o, none⟩) (Nat.le_refl _) u
  exact ⟨⟨h1.setCell (p := ⟨w.heap.size, o, none⟩) (Nat.le_refl _) u, h2, own_keep h3 (kp _ (by decide)), own_keep h4 (kp _ (by decide)), h5, TMapK.keep ⟨f, hi, ha⟩ hm (hbl.mono h2) (kp _ (by decide)) (kp _ (by decide))⟩, heap_setCell_same _ _ _ _ _ _ hr⟩
/-- what the reference's Judge answers -/
def RefJudged (w : World) (s : M.St) (vds : List (Int × Int)) (e : Ending) (w' : World) : Prop :=
  ∃ (V : Option Addr) (m d : Nat) (D : Option Addr) (p q : Nat) (davs : List AV) (bt : Nat), e = .returned (.agg #[.slice V m d, .slice D p q, .map (some bt), .int .i64 s.next]) ∧ JudD w w' s vds V m d D p q davs bt
theorem RefM.last (h : RefM w W ob hb bh bl bo s vds V m d D p q davs bt) : ∀ W', W' = (((W.setCell ⟨w.heap.size, 0, none⟩ (.slice V m d)).setCell ⟨w.heap.size, 1, none⟩ (.slice D p q)).setCell ⟨w.heap.size, 2, none⟩ (.map (some bt))).setCell ⟨w.heap.size, 3, none⟩ (.int .i64 s.next) → RefJudged w s vds (.returned (.agg #[.slice V m d, .slice D p q, .map (some bt), .int .i64 s.next])) W' := by
  rintro W' rfl
  obtain ⟨j1, h1⟩ := h.jud.set h.res.1 0 (.slice V m d)
  obtain ⟨j2, h2⟩ := j1.set h1 1 (.slice D p q)
  obtain ⟨j3, h3⟩ := j2.set h2 2 (.map (some bt))
  obtain ⟨j4, h4⟩ := j3.set h3 3 (.int .i64 s.next)
  exact ⟨V, m, d, D, p, q, davs, bt, rfl, j4⟩
theorem RefM.rfacts (h : RefM w W ob hb bh bl bo s vds V m d D p q davs bt) : W.cell? ⟨w.heap.size, 0, none⟩ = some (.slice none 0 0) ∧ W.cell? ⟨w.heap.size, 1, none⟩ = some (.slice none 0 0) ∧ W.cell? ⟨w.heap.size, 2, none⟩ = some (.map none) ∧ W.cell? ⟨w.heap.size, 3, none⟩ = some (.int .i64 0) ∧ ∀ o, W.frozen? ⟨w.heap.size, o, none⟩ = false := by
  have h1 := h.res.1
  exact ⟨by simp [World.cell?, h1], by simp [World.cell?, h1], by simp [World.cell?, h1], by simp [World.cell?, h1], fun o => by simp [World.frozen?, h1]⟩
end
end Go.Proofs.Ytcjobmbbikfnaac
/-
  THE REFERENCE's Judge: a fid as it is here, and the boxes of a round.
-/
namespace Go.Proofs.Ytcjobmbbikfnaac
open Go.RowKit
open Go.ChangeMaps (setBlock)

theorem refAt_any [Inhabited BaseN] (f : Int) (w W : World) (ob hb bh bl bo : Nat) (s : M.St) (vds : List (Int × Int)) (V : Option Addr) (m d : Nat) (D : Option Addr) (p q : Nat) (davs : List AV) (bt : Nat) (h : RefM w W ob hb bh bl bo s vds V m d D p q davs bt) :
    Calls Try.prog 20 #[.int .i64 f, .pointer (some ⟨hb, 0, none⟩)] W fun e w' => e = .returned (.int .i64 ((s.made f).getD f)) ∧ w' = W := by
  obtain ⟨f0, f1, f2, f3, ff, f4⟩ := h.facts
  have hl := ask_int h.mh f
  cases hmd : s.made f with
  | none =>
    rw [hmd] at hl
    clear hmd h
    go_enter Try.func20, Try.ntmps20
    go_wp2
    go_ret
    exact ⟨rfl, rfl⟩
  | some y =>
    rw [hmd] at hl
    clear hmd h
    go_enter Try.func20, Try.ntmps20
    go_wp2
    go_ret
    exact ⟨rfl, rfl⟩

/-- what lies past N, and was there, stays -/
def Past (N : Nat) (w w' : World) : Prop := w.heap.size ≤ w'.heap.size ∧ ∀ g, N ≤ g → g < w.heap.size → w'.heap[g]? = w.heap[g]?
theorem Past.refl (N : Nat) (w : World) : Past N w w := ⟨Nat.le_refl _, fun _ _ _ => rfl⟩
theorem Past.trans {N : Nat} {a b c : World} (h : Past N a b) (k : Past N b c) : Past N a c := ⟨Nat.le_trans h.1 k.1, fun g h1 h2 => by rw [k.2 g h1 (Nat.lt_of_lt_of_le h2 h.1), h.2 g h1 h2]⟩
theorem Past.below {N : Nat} {w w' : World} (h : Below w.heap.size w w') : Past N w w' := ⟨h.size, fun g _ h2 => h.block g h2⟩
theorem Past.setCell {N b : Nat} {w : World} (h : b < N) (o : Nat) (u : Value) : Past N w (w.setCell ⟨b, o, none⟩ u) := by
  have hb : Below 0 w (w.setCell ⟨b, o, none⟩ u) := (Below.refl _ _).setCell (p := ⟨b, o, none⟩) (Nat.zero_le _) u
  exact ⟨hb.size, fun g h1 _ => Below.heap_setCell _ _ _ _ (by show g ≠ b; omega)⟩
theorem Past.setBlock {N b : Nat} {w : World} (h : b < N) (o : Obj) : Past N w (setBlock w b o) := by
  have hb : Below 0 w (Go.ChangeMaps.setBlock w b o) := setBlock_below (Below.refl _ _) (Nat.zero_le _) o
  exact ⟨hb.size, fun g h1 _ => setBlock_other (by omega)⟩
theorem Past.grown {N : Nat} {w w' : World} {v : Value} (hg : w.grownBy w' v.ownBlock) (h : ∀ k, v.ownBlock = some k → k < N) : Past N w w' := by
  have hb : Below 0 w w' := (Below.refl 0 w).grown hg (Nat.zero_le _) (fun _ _ => Nat.zero_le _)
  exact ⟨hb.size, fun g h1 h2 => hg.block g h2 (fun e => by have := h g e.symm; omega)⟩
theorem BoxA.past {N g : Nat} {w w' : World} {a : AV} (h : BoxA w g a) (hN : N ≤ g) (hp : Past N w w') : BoxA w' g a := by
  unfold BoxA at h ⊢
  rw [hp.2 g hN (lt_of_block h)]
  exact h
theorem BoxR.past {N g : Nat} {w w' : World} {r : RV} (h : BoxR w g r) (hN : N ≤ g) (hp : Past N w w') : BoxR w' g r := by
  unfold BoxR at h ⊢
  rw [hp.2 g hN (lt_of_block h)]
  exact h
namespace M
/-- how often it was done -/
theorem ver_done {s : St} {v : Int} (h : s.ver = v + s.done.length) (r : Rec) : (stepS s r).ver = v + (stepS s r).done.length := by
  unfold stepS
  split
  · show s.ver + 1 = v + (s.done ++ [hereS s r.act]).length
    rw [List.length_append, h]
    simp
    omega
  · exact h
theorem ver_dones {v : Int} : ∀ (l : List Rec) {s : St}, s.ver = v + s.done.length → (judS s l).ver = v + (judS s l).done.length
  | [], _, h => h
  | r :: l, _, h => ver_dones l (ver_done h r)
end M
theorem fit_step {s : M.St} {N : Nat} (h : Fit s.tr N) (r : M.Rec) : Fit (M.stepS s r).tr (N + 1) := by
  by_cases h0 : (M.tryS s r).1 = 0
  · rw [M.step_yes h0]
    show Fit (M.tryS s r).2 (N + 1)
    rw [(M.try_ok h0).2.2.2]
    exact h.next _ _
  · rw [M.step_no h0]
    exact h.mono (Nat.le_succ _)
theorem fit_jud : ∀ (l : List M.Rec) {s : M.St} {N : Nat}, Fit s.tr N → Fit (M.judS s l).tr (N + l.length)
  | [], _, _, h => h
  | r :: l, s, N, h => by
    have := fit_jud l (fit_step h r)
    rw [List.length_cons, show N + (l.length + 1) = N + 1 + l.length by omega]
    exact this
/-- where the reference begins -/
theorem ref_start [Inhabited BaseN] (w : World) (bt : Nat) (xs : List M.Nd) (next ver : Int) (ht : TMapK w bt xs) (hk : kbase ≤ w.heap.size) :
    ∀ W, W = (((((w.alloc (.cells #[.slice none 0 0, .slice none 0 0, .map none, .int .i64 0] 32)).alloc (.cells #[.slice none 0 0, .slice none 0 0, .map (some bt), .int .i64 next] 32)).alloc (.map #[] 0)).alloc (.cells #[.map (some (w.heap.size + 1 + 1))] 62)).alloc (.map #[] 0)).alloc (.map #[] 0) →
      RefM w W (w.heap.size + 1) (w.heap.size + 1 + 1 + 1) (w.heap.size + 1 + 1) (w.heap.size + 1 + 1 + 1 + 1) (w.heap.size + 1 + 1 + 1 + 1 + 1) (M.begS xs next ver) [] none 0 0 none 0 0 [] bt := by
  rintro W rfl
  have e1 : intF (fun _ => none) = fun _ => none := rfl
  have e2 : setBf (fun _ => false) = fun _ => none := by funext k; simp [setBf]
  have ba : ∀ (W : World) (o : Obj), Below W.heap.size W (W.alloc o) := fun W o => (Below.refl _ _).alloc (Nat.le_refl _) o
  generalize hw1 : w.alloc (.cells #[.slice none 0 0, .slice none 0 0, .map none, .int .i64 0] 32) = w1
  have z1 : w1.heap.size = w.heap.size + 1 := by rw [← hw1, World.size_alloc]
  have b1 : Below w.heap.size w w1 := by rw [← hw1]; exact ba _ _
  have r1 : w1.heap[w.heap.size]? = some (.cells #[.slice none 0 0, .slice none 0 0, .map none, .int .i64 0] 32 (0, 0)) := by rw [← hw1]; exact heap_alloc_new w _
  generalize hw2 : w1.alloc (.cells #[.slice none 0 0, .slice none 0 0, .map (some bt), .int .i64 next] 32) = w2
  have z2 : w2.heap.size = w.heap.size + 1 + 1 := by rw [← hw2, World.size_alloc, z1]
  have b2 : Below w1.heap.size w1 w2 := by rw [← hw2]; exact ba _ _
  have r2 : w2.heap[w1.heap.size]? = some (.cells #[.slice none 0 0, .slice none 0 0, .map (some bt), .int .i64 next] 32 (0, 0)) := by rw [← hw2]; exact heap_alloc_new w1 _
  generalize hw3 : w2.alloc (.map #[] 0) = w3
  have z3 : w3.heap.size = w.heap.size + 1 + 1 + 1 := by rw [← hw3, World.size_alloc, z2]
  have b3 : Below w2.heap.size w2 w3 := by rw [← hw3]; exact ba _ _
  have i3 : IMap w3 w2.heap.size (fun _ => none) := by rw [← hw3]; exact IMap.new w2
  generalize hw4 : w3.alloc (.cells #[.map (some (w.heap.size + 1 + 1))] 62) = w4
  have z4 : w4.heap.size = w.heap.size + 1 + 1 + 1 + 1 := by rw [← hw4, World.size_alloc, z3]
  have b4 : Below w3.heap.size w3 w4 := by rw [← hw4]; exact ba _ _
  have r4 : w4.heap[w3.heap.size]? = some (.cells #[.map (some (w.heap.size + 1 + 1))] 62 (0, 0)) := by rw [← hw4]; exact heap_alloc_new w3 _
  generalize hw5 : w4.alloc (.map #[] 0) = w5
  have z5 : w5.heap.size = w.heap.size + 1 + 1 + 1 + 1 + 1 := by rw [← hw5, World.size_alloc, z4]
  have b5 : Below w4.heap.size w4 w5 := by rw [← hw5]; exact ba _ _
  have i5 : IMap w5 w4.heap.size (fun _ => none) := by rw [← hw5]; exact IMap.new w4
  generalize hw6 : w5.alloc (.map #[] 0) = w6
  have b6 : Below w5.heap.size w5 w6 := by rw [← hw6]; exact ba _ _
  have i6 : IMap w6 w5.heap.size (fun _ => none) := by rw [← hw6]; exact IMap.new w5
  clear hw1 hw2 hw3 hw4 hw5 hw6
  have c26 : Below w2.heap.size w2 w6 := ((b3.trans (b4.mono (by omega))).trans (b5.mono (by omega))).trans (b6.mono (by omega))
  have c16 : Below w1.heap.size w1 w6 := b2.trans (c26.mono (by omega))
  have c06 : Below w.heap.size w w6 := b1.trans (c16.mono (by omega))
  have c36 : Below w3.heap.size w3 w6 := (b4.trans (b5.mono (by omega))).trans (b6.mono (by omega))
  have c46 : Below w4.heap.size w4 w6 := b5.trans (b6.mono (by omega))
  have hbt : bt < w.heap.size := by obtain ⟨f, hi, _⟩ := ht; exact hi.lt
  refine ⟨c06, ?_, ?_, ?_, ?_, ?_, World.ownsRow_nil _ _ _ _, World.ownsRow_nil _ _ _ _, All2.nil, ht.below (Nat.le_refl _) c06, by omega, by omega, ?_, by omega⟩
  · rw [← z1, c26.block _ (by omega)]; exact r2
  · rw [← z3, c46.block _ (by omega)]; exact r4
  · show IMap _ _ (intF fun _ => none)
    rw [e1, ← z2]
    exact i3.below (Nat.le_refl _) c36
  · show IMap _ _ (setBf fun _ => false)
    rw [e2, ← z4]
    exact i5.below (Nat.le_refl _) b6
  · show IMap _ _ (setBf fun _ => false)
    rw [e2, ← z5]
    exact i6
  · rw [c16.block _ (by omega)]; exact r1

/-- a round's own boxes -/
structure RoI (w W : World) (r : RV) : Prop where
  below : Below w.heap.size w W
  rcd : BoxR W w.heap.size r
  act : BoxA W (w.heap.size + 1) r.a
theorem RoI.next {w W W' : World} {r : RV} (h : RoI w W r) (hb : Below W.heap.size W W') : RoI w W' r :=
  ⟨h.below.trans (hb.mono h.below.size), h.rcd.below hb (lt_of_block h.rcd), h.act.below hb (lt_of_block h.act)⟩
/-- and the act as it is here -/
structure RoB (w W : World) (r : RV) (gb : Nat) (b : AV) : Prop where
  ri : RoI w W r
  box : BoxA W gb b
  lo : w.heap.size + 2 ≤ gb
theorem RoB.next {w W W' : World} {r : RV} {gb : Nat} {b : AV} (h : RoB w W r gb b) (hb : Below W.heap.size W W') : RoB w W' r gb b := ⟨h.ri.next hb, h.box.below hb (lt_of_block h.box), h.lo⟩
theorem RoB.set {w W : World} {r : RV} {gb : Nat} {b b' : AV} (h : RoB w W r gb b) (o : Nat) (u : Value) (hb : BoxA (W.setCell ⟨gb, o, none⟩ u) gb b') : RoB w (W.setCell ⟨gb, o, none⟩ u) r gb b' := by
  have hh : ∀ q, q ≠ gb → (W.setCell ⟨gb, o, none⟩ u).heap[q]? = W.heap[q]? := fun q hq => Below.heap_setCell _ _ _ _ (by exact hq)
  have hl := h.lo
  refine ⟨⟨h.ri.below.setCell (p := ⟨gb, o, none⟩) (by show _ ≤ gb; omega) u, ?_, ?_⟩, hb, hl⟩
  · unfold BoxR; rw [hh _ (by omega)]; exact h.ri.rcd
  · unfold BoxA; rw [hh _ (by omega)]; exact h.ri.act
theorem boxA_one (w : World) (a : AV) : ∀ W, W = w.alloc (.cells #[.int .i64 a.kind, .int .i64 a.fid, .int .i64 a.dir, .string a.name, .int .i64 a.to, .string a.toName, .slice a.dA a.dn a.dc] 43) → Below w.heap.size w W ∧ BoxA W w.heap.size a := by
  rintro W rfl
  exact ⟨(Below.refl _ _).alloc (Nat.le_refl _) _, BoxA.new w a⟩
/-- the act as it is here, and what it holds -/
def bHere (s : M.St) (r : RV) (x : M.Rec) : AV := ⟨r.a.kind, (M.hereS s x.act).fid, (M.hereS s x.act).dir, r.a.name, (M.hereS s x.act).to, r.a.toName, r.a.dA, r.a.dn, r.a.dc⟩
theorem bHere_cont {w : World} {s : M.St} {r : RV} {x : M.Rec} (h : ContR w r x) : ContA w (bHere s r x) (M.hereS s x.act) :=
  ⟨h.1.1, rfl, rfl, h.1.2.2.2.1, rfl, h.1.2.2.2.2.2.1, h.1.2.2.2.2.2.2⟩
/-- what is wrong ahead of Apply -/
def errS (s : M.St) (x : M.Rec) : Int := if M.restS s x.act = true then 14 else if (M.makeB x.act && !M.freshS s x.act.fid) = true then 2 else 0
theorem errS_no {s : M.St} {x : M.Rec} (h : errS s x ≠ 0) : M.tryS s x = (errS s x, []) := by
  unfold errS M.tryS at *
  by_cases h1 : M.restS s x.act = true
  · rw [if_pos h1, if_pos h1]
  · rw [if_neg h1] at h ⊢
    rw [if_neg h1]
    by_cases h2 : (M.makeB x.act && !M.freshS s x.act.fid) = true
    · rw [if_pos h2, if_pos h2]
    · rw [if_neg h2] at h; exact absurd rfl h
theorem errS_yes {s : M.St} {x : M.Rec} (h : errS s x = 0) : M.tryS s x = if M.staleS s (M.hereS s x.act) x.ver = true then (13, []) else M.applyS s.tr (M.hereS s x.act) s.ver := by
  unfold errS at h
  unfold M.tryS
  by_cases h1 : M.restS s x.act = true
  · rw [if_pos h1] at h; cases h
  · rw [if_neg h1] at h ⊢
    by_cases h2 : (M.makeB x.act && !M.freshS s x.act.fid) = true
    · rw [if_pos h2] at h; cases h
    · rw [if_neg h2]
/-- a round, ahead of its last test -/
def MidI [Inhabited BaseN] (w wr W : World) (ob hb bh bl bo : Nat) (s : M.St) (vds : List (Int × Int)) (r : RV) (x : M.Rec) (er : Int) (V : Option Addr) (m d : Nat) (D : Option Addr) (p q : Nat) (davs : List AV) (bt : Nat) : Prop :=
  (M.tryS s x).1 = er ∧ BoxA W (wr.heap.size + 1) r.a ∧ Below w.heap.size w W ∧
  ((er = 0 ∧ RefM w W ob hb bh bl bo (M.stepS s x) (vds ++ [M.verdS s x]) V m d D p q davs bt) ∨ (er ≠ 0 ∧ RefM w W ob hb bh bl bo s vds V m d D p q davs bt))
end Go.Proofs.Ytcjobmbbikfnaac
