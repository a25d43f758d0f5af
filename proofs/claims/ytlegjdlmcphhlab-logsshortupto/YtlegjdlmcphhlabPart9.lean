/- TEXTS LAID TOGETHER: Mathm, Mathg, Mathn, Rwithin -/
import Derived.Test.YtlegjdlmcphhlabPart7
import Derived.Test.YtlegjdlmcphhlabPart8
import Derived.Deep.LoopGhost
/-
  PLAIN MATHEMATICS of chapter 4, further: SHORT IS ENOUGH.
-/
namespace Go.Proofs.Ytlegjdlmcphhlab
open M

/-- a coat: it changes neither fid, nor kind, nor names -/
structure Coat (φ : Nd → Nd) : Prop where
  fid : ∀ x, (φ x).fid = x.fid
  dir : ∀ x, (φ x).dir = x.dir
  ents : ∀ x, (φ x).ents = x.ents
  upd : ∀ x E, φ (withV (withE x E) 0) = withV (withE (φ x) E) 0
  new : ∀ f k, φ ⟨f, k, [], [], 0⟩ = ⟨f, k, [], [], 0⟩
section
variable {φ : Nd → Nd} (c : Coat φ)
include c
theorem coat_dir (xs : List Nd) (t : Int) : (dirS (xs.map φ) t).1 = (dirS xs t).1 ∧ ((dirS xs t).1 = 0 → (dirS (xs.map φ) t).2 = φ (dirS xs t).2) := by
  unfold dirS
  rw [find_map c.fid]
  cases find xs t with
  | none => exact ⟨rfl, fun h => by simp at h⟩
  | some x =>
    simp only [Option.map_some, c.dir]
    by_cases hd : x.dir = true
    · rw [if_pos hd, if_pos hd]; exact ⟨rfl, fun _ => rfl⟩
    · rw [if_neg hd, if_neg hd]; exact ⟨rfl, fun h => by simp at h⟩
theorem coat_free (x : Nd) (s : ByteArray) : freeS (φ x) s = freeS x s := by unfold freeS; rw [c.ents]
theorem coat_hold (xs : List Nd) (d : Int) (s : ByteArray) (f : Int) : (holdS (xs.map φ) d s f).1 = (holdS xs d s f).1 ∧ ((holdS xs d s f).1 = 0 → (holdS (xs.map φ) d s f).2 = φ (holdS xs d s f).2) := by
  obtain ⟨h1, h2⟩ := coat_dir c xs d
  unfold holdS
  rw [h1]
  by_cases h0 : (dirS xs d).1 = 0
  · rw [if_pos h0, if_pos h0, h2 h0, c.ents]
    cases M.look (dirS xs d).2.ents s with
    | none => exact ⟨rfl, fun h => by simp at h⟩
    | some e =>
      simp only
      by_cases he : e.2 = f
      · rw [if_pos he, if_pos he]; exact ⟨rfl, fun _ => rfl⟩
      · rw [if_neg he, if_neg he]; exact ⟨rfl, fun h => by simp at h⟩
  · rw [if_neg h0, if_neg h0]; exact ⟨rfl, fun h => absurd h h0⟩
theorem coat_reach (xs : List Nd) (a b : Int) : M.Reach (xs.map φ) a b ↔ M.Reach xs a b := by
  constructor
  · intro h
    induction h with
    | refl => exact .refl
    | step _ hf he ih =>
      rw [find_map c.fid] at hf
      obtain ⟨y, hy, rfl⟩ := Option.map_eq_some_iff.1 hf
      rw [c.ents] at he
      exact .step ih hy he
  · intro h
    induction h with
    | refl => exact .refl
    | step _ hf he ih => exact .step ih (by rw [find_map c.fid, hf]; rfl) (by rw [c.ents]; exact he)
theorem coat_bring {xs : List Nd} {a : M.Act} (h : (bringS xs a 0).1 = 0) : (bringS (xs.map φ) a 0).1 = 0 ∧ (bringS (xs.map φ) a 0).2 = (bringS xs a 0).2.map φ := by
  obtain ⟨h1, h2, h3, h4⟩ := bring_inv h
  obtain ⟨d1, d2⟩ := coat_dir c xs a.dir
  rw [bring_ok h1 h2 h3 h4, bring_ok (by rw [d1]; exact h1) (by rw [d2 h1, coat_free c]; exact h2) (by rw [find_map c.fid]; simpa using h3) (by simpa using h4)]
  refine ⟨rfl, ?_⟩
  rw [d2 h1, c.ents]
  show putN (putN (xs.map φ) _) _ = (putN (putN xs _) _).map φ
  rw [← c.upd, ← c.new, putN_map c.fid, putN_map c.fid, c.new]
theorem coat_remove {xs : List Nd} {a : M.Act} (h : (removeS xs a 0).1 = 0) : (removeS (xs.map φ) a 0).1 = 0 ∧ (removeS (xs.map φ) a 0).2 = (removeS xs a 0).2.map φ := by
  obtain ⟨h1, x, hx, he⟩ := remove_inv h
  obtain ⟨d1, d2⟩ := coat_hold c xs a.dir a.name a.fid
  rw [remove_ok h1 hx he, remove_ok (by rw [d1]; exact h1) (x := φ x) (by rw [find_map c.fid, hx]; rfl) (by rw [c.ents]; exact he)]
  refine ⟨rfl, ?_⟩
  rw [d2 h1, c.ents]
  show dropN (putN (xs.map φ) _) _ = (dropN (putN xs _) _).map φ
  rw [← c.upd, putN_map c.fid, dropN_map c.fid]
theorem coat_rename {xs : List Nd} {a : M.Act} (h : (renameS xs a 0).1 = 0) : (renameS (xs.map φ) a 0).1 = 0 ∧ (renameS (xs.map φ) a 0).2 = (renameS xs a 0).2.map φ := by
  obtain ⟨h1, h2, h3, h4, h5⟩ := rename_inv h
  obtain ⟨d1, d2⟩ := coat_hold c xs a.dir a.name a.fid
  obtain ⟨t1, t2⟩ := coat_dir c xs a.to
  have ef : fromS (xs.map φ) a = withE (φ (holdS xs a.dir a.name a.fid).2) (dropE (holdS xs a.dir a.name a.fid).2.ents a.name) := by unfold fromS; rw [d2 h1, c.ents]; rfl
  have eF : fromS xs a = withE (holdS xs a.dir a.name a.fid).2 (dropE (holdS xs a.dir a.name a.fid).2.ents a.name) := rfl
  have et : (toS (xs.map φ) a).ents = (toS xs a).ents := by
    unfold toS
    by_cases e : a.to = a.dir
    · rw [if_pos e, if_pos e, ef, eF]; rfl
    · rw [if_neg e, if_neg e, t2 h2, c.ents]
  have hw : ∀ E, withV (withE (toS (xs.map φ) a) E) 0 = φ (withV (withE (toS xs a) E) 0) := by
    intro E
    rw [c.upd]
    unfold toS
    by_cases e : a.to = a.dir
    · rw [if_pos e, if_pos e, ef, eF]
      have := c.upd (holdS xs a.dir a.name a.fid).2 E
      rw [← c.upd]
      show withV (withE (φ (holdS xs a.dir a.name a.fid).2) E) 0 = φ (withV (withE (holdS xs a.dir a.name a.fid).2 E) 0)
      rw [c.upd]
    · rw [if_neg e, if_neg e, t2 h2]
  have hfr : freeS (toS (xs.map φ) a) a.toName = freeS (toS xs a) a.toName := by unfold freeS; rw [et]
  rw [rename_ok h1 h2 h3 h4 h5, rename_ok (by rw [d1]; exact h1) (by rw [t1]; exact h2) (by rw [hfr]; exact h3) (by rw [find_map c.fid]; simpa using h4) (by rw [coat_reach c]; exact h5)]
  refine ⟨rfl, ?_⟩
  show putN (putN (xs.map φ) (withV (fromS (xs.map φ) a) 0)) (withV (withE (toS (xs.map φ) a) (putE (toS (xs.map φ) a).ents (a.toName, a.fid))) 0) = (putN (putN xs (withV (fromS xs a) 0)) (withV (withE (toS xs a) (putE (toS xs a).ents (a.toName, a.fid))) 0)).map φ
  rw [et, hw, ef, ← c.upd, putN_map c.fid, putN_map c.fid]
  rfl
theorem coat_apply {xs : List Nd} {a : M.Act} (hst : a.kind = 3 → ∀ x, x.fid = a.fid → φ (withV { x with data := a.data } 0) = withV { φ x with data := a.data } 0) (h : (applyS xs a 0).1 = 0) :
    (applyS (xs.map φ) a 0).1 = 0 ∧ (applyS (xs.map φ) a 0).2 = (applyS xs a 0).2.map φ := by
  rcases apply_cases h with ⟨hm, h3, h5, e⟩ | ⟨h3, e⟩ | ⟨h4, e⟩ | ⟨h5, e⟩
  · have e2 : applyS (xs.map φ) a 0 = bringS (xs.map φ) a 0 := by unfold makeB at hm; unfold applyS; rw [if_pos (by simpa using hm)]
    rw [e] at h ⊢; rw [e2]; exact coat_bring c h
  · have e2 : applyS (xs.map φ) a 0 = storeS (xs.map φ) a 0 := by unfold applyS; rw [if_neg (by omega), if_pos h3]
    rw [e] at h ⊢
    rw [e2]
    obtain ⟨x, hx, hd, hl, e3⟩ := store_inv h
    rw [e3, store_yes (x := φ x) (by rw [find_map c.fid, hx]; rfl) (by rw [c.dir]; exact hd) hl]
    refine ⟨rfl, ?_⟩
    rw [← hst h3 x (find_mem hx).2]
    exact putN_map c.fid _ _
  · have e2 : applyS (xs.map φ) a 0 = removeS (xs.map φ) a 0 := by unfold applyS; rw [if_neg (by omega), if_neg (by omega), if_pos h4]
    rw [e] at h ⊢; rw [e2]; exact coat_remove c h
  · have e2 : applyS (xs.map φ) a 0 = renameS (xs.map φ) a 0 := by unfold applyS; rw [if_neg (by omega), if_neg (by omega), if_neg (by omega), if_pos h5]
    rw [e] at h ⊢; rw [e2]; exact coat_rename c h
end
theorem bare_coat : Coat bare := ⟨fun _ => rfl, fun _ => rfl, fun _ => rfl, fun _ _ => rfl, fun _ _ => rfl⟩
/-- without the bytes of one -/
def blank (f : Int) (x : Nd) : Nd := if x.fid = f then { x with data := [] } else x
theorem blank_coat (f : Int) : Coat (blank f) := by
  refine ⟨fun x => ?_, fun x => ?_, fun x => ?_, fun x E => ?_, fun g k => ?_⟩
  · unfold blank; split <;> rfl
  · unfold blank; split <;> rfl
  · unfold blank; split <;> rfl
  · unfold blank
    by_cases h : x.fid = f
    · rw [if_pos h, if_pos (by exact h)]; rfl
    · rw [if_neg h, if_neg (by exact h)]
  · unfold blank; split <;> rfl
theorem good_run : ∀ {bs : List M.Act} {xs ys : List Nd}, Good xs → runS xs bs = some ys → Good ys
  | [], xs, ys, hg, h => by rw [runS] at h; cases h; exact hg
  | a :: bs, xs, ys, hg, h => by obtain ⟨_, h2⟩ := run_cons h; exact good_run (good_apply hg a 0) h2
theorem bare_run : ∀ {bs : List M.Act} {xs ys : List Nd}, runS xs bs = some ys → runS (xs.map bare) bs = some (ys.map bare)
  | [], xs, ys, h => by rw [runS] at h ⊢; cases h; rfl
  | a :: bs, xs, ys, h => by
    obtain ⟨h1, h2⟩ := run_cons h
    obtain ⟨c1, c2⟩ := coat_apply bare_coat (fun _ _ _ => rfl) h1
    rw [run_of c1, c2]
    exact bare_run h2

/-- whether an act stores f -/
def storeB (f : Int) (a : M.Act) : Bool := decide (a.kind = 3) && decide (a.fid = f)
theorem store_blank {xs : List Nd} {a : M.Act} {f : Int} (hs : storeB f a = true) (h : (applyS xs a 0).1 = 0) (hr : RsN xs) (hb : ∀ x ∈ xs, x.ver = 0) : (applyS xs a 0).2.map (blank f) = xs.map (blank f) := by
  unfold storeB at hs
  simp at hs
  have e : applyS xs a 0 = storeS xs a 0 := by unfold applyS; rw [if_neg (by omega), if_pos hs.1]
  rw [e] at h ⊢
  obtain ⟨x, hx, hd, hl, e3⟩ := store_inv h
  rw [e3]
  have hxf := (find_mem hx).2
  have hx0 := hb x (find_mem hx).1
  have hbl : blank f (withV { x with data := a.data } 0) = blank f x := by
    unfold blank withV
    rw [if_pos (by show x.fid = f; rw [hxf]; exact hs.2), if_pos (by rw [hxf]; exact hs.2)]
    cases x; simp at hx0 ⊢; exact hx0.symm
  show (putN xs (withV { x with data := a.data } 0)).map (blank f) = _
  rw [← putN_map (blank_coat f).fid, hbl, putN_map (blank_coat f).fid]
  congr 1
  exact put_self (fun y : Nd => y.fid) ordI x xs hr (find_mem hx).1
theorem bare_apply {xs : List Nd} {a : M.Act} (hb : ∀ x ∈ xs, x.ver = 0) (h : (applyS xs a 0).1 = 0) : ∀ x ∈ (applyS xs a 0).2, x.ver = 0 := by
  have e : xs.map bare = xs := by
    conv => rhs; rw [← List.map_id xs]
    exact List.map_congr_left fun x hx => by have := hb x hx; cases x; simp at this; subst this; rfl
  obtain ⟨c1, c2⟩ := coat_apply bare_coat (fun _ _ _ => rfl) h
  rw [e] at c2
  intro x hx
  rw [c2] at hx
  obtain ⟨y, _, rfl⟩ := List.mem_map.1 hx
  rfl
/-- stores of f that are left out are missed by f's bytes alone -/
theorem run_blank {f : Int} : ∀ {bs : List M.Act} {xs xs' ys : List Nd}, Good xs → (∀ x ∈ xs, x.ver = 0) → xs.map (blank f) = xs'.map (blank f) → runS xs bs = some ys → ∃ ys', runS xs' (bs.filter fun a => !storeB f a) = some ys' ∧ ys.map (blank f) = ys'.map (blank f)
  | [], xs, xs', ys, _, _, he, h => by rw [runS] at h; cases h; exact ⟨xs', rfl, he⟩
  | a :: bs, xs, xs', ys, hg, hb, he, h => by
    obtain ⟨h1, h2⟩ := run_cons h
    cases hs : storeB f a
    · rw [List.filter_cons_of_pos (by simp [hs])]
      have hst : a.kind = 3 → ∀ x : Nd, x.fid = a.fid → blank f (withV { x with data := a.data } 0) = withV { blank f x with data := a.data } 0 := by
        intro h3 x hx
        have hne : x.fid ≠ f := by
          intro e
          unfold storeB at hs
          simp [h3] at hs
          exact hs (by rw [← hx]; exact e)
        unfold blank
        rw [if_neg hne, if_neg (by exact hne)]
      obtain ⟨c1, c2⟩ := coat_apply (blank_coat f) hst h1
      -- the same, back
      have h1' : (applyS xs' a 0).1 = 0 := by
        rcases apply_cases h1 with ⟨hm, h3, h5, e⟩ | ⟨h3, e⟩ | ⟨h4, e⟩ | ⟨h5, e⟩
        all_goals skip
        · have e2 : ∀ zs : List Nd, applyS zs a 0 = bringS zs a 0 := fun zs => by unfold makeB at hm; unfold applyS; rw [if_pos (by simpa using hm)]
          rw [e2, he] at c1
          rw [e2]
          obtain ⟨q1, q2, q3, q4⟩ := bring_inv c1
          obtain ⟨d1, d2⟩ := coat_dir (blank_coat f) xs' a.dir
          rw [d1] at q1
          rw [d2 q1, coat_free (blank_coat f)] at q2
          rw [find_map (blank_coat f).fid] at q3
          rw [bring_ok q1 q2 (by simpa using q3) (by simpa using q4)]
        · have e2 : ∀ zs : List Nd, applyS zs a 0 = storeS zs a 0 := fun zs => by unfold applyS; rw [if_neg (by omega), if_pos h3]
          rw [e2, he] at c1
          rw [e2]
          obtain ⟨x, hx, hd, hl, _⟩ := store_inv c1
          rw [find_map (blank_coat f).fid] at hx
          obtain ⟨y, hy, rfl⟩ := Option.map_eq_some_iff.1 hx
          rw [(blank_coat f).dir] at hd
          rw [store_yes hy hd hl]
        · have e2 : ∀ zs : List Nd, applyS zs a 0 = removeS zs a 0 := fun zs => by unfold applyS; rw [if_neg (by omega), if_neg (by omega), if_pos h4]
          rw [e2, he] at c1
          rw [e2]
          obtain ⟨q1, x, hx, hl⟩ := remove_inv c1
          rw [(coat_hold (blank_coat f) xs' a.dir a.name a.fid).1] at q1
          rw [find_map (blank_coat f).fid] at hx
          obtain ⟨y, hy, rfl⟩ := Option.map_eq_some_iff.1 hx
          rw [(blank_coat f).ents] at hl
          rw [remove_ok q1 hy hl]
        · have e2 : ∀ zs : List Nd, applyS zs a 0 = renameS zs a 0 := fun zs => by unfold applyS; rw [if_neg (by omega), if_neg (by omega), if_neg (by omega), if_pos h5]
          rw [e2, he] at c1
          rw [e2]
          obtain ⟨q1, q2, q3, q4, q5⟩ := rename_inv c1
          obtain ⟨d1, d2⟩ := coat_hold (blank_coat f) xs' a.dir a.name a.fid
          obtain ⟨t1, t2⟩ := coat_dir (blank_coat f) xs' a.to
          rw [d1] at q1
          rw [t1] at q2
          have et : (toS (xs'.map (blank f)) a).ents = (toS xs' a).ents := by
            unfold toS fromS
            by_cases e : a.to = a.dir
            · rw [if_pos e, if_pos e, d2 q1, (blank_coat f).ents]
            · rw [if_neg e, if_neg e, t2 q2, (blank_coat f).ents]
          have q3' : freeS (toS xs' a) a.toName = 0 := by unfold freeS at q3 ⊢; rw [et] at q3; exact q3
          rw [find_map (blank_coat f).fid] at q4
          rw [coat_reach (blank_coat f)] at q5
          rw [rename_ok q1 q2 q3' (by simpa using q4) q5]
      obtain ⟨_, c2'⟩ := coat_apply (blank_coat f) hst h1'
      rw [run_of h1']
      exact run_blank (good_apply hg a 0) (bare_apply hb h1) (by rw [← c2, ← c2', he]) h2
    · rw [List.filter_cons_of_neg (by simp [hs])]
      exact run_blank (good_apply hg a 0) (bare_apply hb h1) ((store_blank hs h1 hg.1.1 hb).trans he) h2

/-- without a name of d, and without f -/
def hideN (d : Int) (s : ByteArray) (x : Nd) : Nd := if x.fid = d then lvS x s else x
def hide (d : Int) (s : ByteArray) (f : Int) (xs : List Nd) : List Nd := dropN (xs.map (hideN d s)) f
theorem hideN_fid (d : Int) (s : ByteArray) (x : Nd) : (hideN d s x).fid = x.fid := by unfold hideN; split <;> rfl
theorem hideN_dir (d : Int) (s : ByteArray) (x : Nd) : (hideN d s x).dir = x.dir := by unfold hideN; split <;> rfl
theorem hideN_no {d : Int} {s : ByteArray} {x : Nd} (h : x.fid ≠ d) : hideN d s x = x := by unfold hideN; rw [if_neg h]
theorem find_hide (d : Int) (s : ByteArray) (f : Int) (xs : List Nd) (t : Int) : find (hide d s f xs) t = if t = f then none else (find xs t).map (hideN d s) := by
  unfold hide; rw [findD_if, find_map (hideN_fid d s)]
theorem hide_put {d : Int} {s : ByteArray} {f : Int} (xs : List Nd) {x : Nd} (h : x.fid ≠ f) : hide d s f (putN xs x) = putN (hide d s f xs) (hideN d s x) := by
  unfold hide; rw [← putN_map (hideN_fid d s), dropN_putN _ _ _ (by rw [hideN_fid]; exact h)]
theorem hide_drop (d : Int) (s : ByteArray) (f g : Int) (xs : List Nd) : hide d s f (dropN xs g) = dropN (hide d s f xs) g := by
  unfold hide; rw [← dropN_map (hideN_fid d s), dropN_comm]
theorem hide_len (d : Int) (s : ByteArray) (f : Int) (xs : List Nd) : (hide d s f xs).length ≤ xs.length := by
  unfold hide dropN
  exact Nat.le_trans (List.length_filter_le _ _) (by simp)
theorem hide_rs {d : Int} {s : ByteArray} {f : Int} {xs : List Nd} (h : RsN xs) : RsN (hide d s f xs) := by
  unfold hide
  refine rs_drop f ?_
  have e : (xs.map (hideN d s)).map (·.fid) = xs.map (·.fid) := by rw [List.map_map]; exact List.map_congr_left fun x _ => hideN_fid d s x
  unfold RsN; rw [e]; exact h
theorem hide_reach {d : Int} {s : ByteArray} {f : Int} {xs : List Nd} {a b : Int} (h : M.Reach (hide d s f xs) a b) : M.Reach xs a b := by
  induction h with
  | refl => exact .refl
  | step _ hf he ih =>
    rw [find_hide] at hf
    split at hf
    · cases hf
    · obtain ⟨y, hy, rfl⟩ := Option.map_eq_some_iff.1 hf
      refine .step ih hy ?_
      unfold hideN at he
      split at he
      · exact (List.mem_filter.1 he).1
      · exact he
/-- the name s of d leads to f, which is there, and has none -/
def Alone (d : Int) (s : ByteArray) (f : Int) (xs : List Nd) : Prop := ∃ D x, find xs d = some D ∧ D.dir = true ∧ M.look D.ents s = some (s, f) ∧ find xs f = some x ∧ x.ents = []
theorem alone_ne {d : Int} {s : ByteArray} {f : Int} {xs : List Nd} (h : Alone d s f xs) : d ≠ f := by
  obtain ⟨D, x, h1, _, h3, h4, h5⟩ := h
  intro e
  subst e
  rw [h1] at h4
  cases h4
  rw [h5] at h3
  cases h3
theorem alone_put {d : Int} {s : ByteArray} {f : Int} {xs : List Nd} (h : Alone d s f xs) {y : Nd} (hf : y.fid ≠ f) (hd : y.fid = d → y.dir = true ∧ M.look y.ents s = some (s, f)) : Alone d s f (putN xs y) := by
  obtain ⟨D, x, h1, h2, h3, h4, h5⟩ := h
  by_cases e : y.fid = d
  · exact ⟨y, x, by rw [findN_if, if_pos e.symm], (hd e).1, (hd e).2, by rw [findN_if, if_neg (Ne.symm hf)]; exact h4, h5⟩
  · exact ⟨D, x, by rw [findN_if, if_neg (fun h => e h.symm)]; exact h1, h2, h3, by rw [findN_if, if_neg (Ne.symm hf)]; exact h4, h5⟩
theorem alone_drop {d : Int} {s : ByteArray} {f : Int} {xs : List Nd} (h : Alone d s f xs) {g : Int} (hf : g ≠ f) (hd : g ≠ d) : Alone d s f (dropN xs g) := by
  obtain ⟨D, x, h1, h2, h3, h4, h5⟩ := h
  exact ⟨D, x, by rw [findD_if, if_neg (Ne.symm hd)]; exact h1, h2, h3, by rw [findD_if, if_neg (Ne.symm hf)]; exact h4, h5⟩
/-- the remove comes to hiding -/
theorem remove_hide {d : Int} {s : ByteArray} {f : Int} {xs : List Nd} (h : Alone d s f xs) (hr : RsN xs) (hb : ∀ x ∈ xs, x.ver = 0) {a : M.Act} (hd : a.dir = d) (hn : a.name = s) (hf : a.fid = f) : removeS xs a 0 = (0, hide d s f xs) := by
  obtain ⟨D, x, h1, h2, h3, h4, h5⟩ := h
  subst hd hn hf
  have hh := hold_of h1 h2 h3
  rw [remove_ok (by rw [hh]) h4 (by rw [h5]; simp), hh]
  have hDf := (find_mem h1).2
  have hD0 := hb D (find_mem h1).1
  have e : hide a.dir a.name a.fid xs = dropN (putN xs (withV (withE D (dropE D.ents a.name)) 0)) a.fid := by
    refine ext_find (hide_rs hr) (rs_drop _ (rs_put _ hr)) fun t => ?_
    rw [find_hide, findD_if, findN_if]
    by_cases t1 : t = a.fid
    · rw [if_pos t1, if_pos t1]
    · rw [if_neg t1, if_neg t1]
      show _ = if t = D.fid then _ else _
      rw [hDf]
      by_cases t2 : t = a.dir
      · rw [if_pos t2, t2, h1, Option.map_some]
        unfold hideN lvS withV withE
        rw [if_pos hDf]
        cases D; simp at hD0 ⊢; exact hD0
      · rw [if_neg t2]
        cases hx : find xs t with
        | none => rfl
        | some y => rw [Option.map_some, hideN_no (by rw [(find_mem hx).2]; exact t2)]
  rw [e]
end Go.Proofs.Ytlegjdlmcphhlab
/-
  PLAIN MATHEMATICS of chapter 3: what is changed says so.
-/
namespace Go.Proofs.Ytlegjdlmcphhlab

/-- as it was; or of that version, and named -/
def Told (xs : List M.Nd) (ac : M.Act) (v : Int) (y : M.Nd) : Prop := M.find xs y.fid = some y ∨ (y.ver = v ∧ y.fid ∈ M.fidsS ac)
theorem told_put {xs ys : List M.Nd} {ac : M.Act} {v : Int} {x : M.Nd} (h : ∀ y ∈ ys, Told xs ac v y) (hv : x.ver = v) (hf : x.fid ∈ M.fidsS ac) : ∀ y ∈ M.putN ys x, Told xs ac v y := by
  intro y hy
  rcases M.put_mem hy with rfl | hy
  · exact .inr ⟨hv, hf⟩
  · exact h y hy
theorem told_self {xs : List M.Nd} (hr : M.RsN xs) (ac : M.Act) (v : Int) : ∀ y ∈ xs, Told xs ac v y := fun _ hy => .inl (mem_find hr hy)
theorem told_nil (xs : List M.Nd) (ac : M.Act) (v : Int) : ∀ y ∈ ([] : List M.Nd), Told xs ac v y := fun _ hy => by cases hy
theorem fid_mem (ac : M.Act) : ac.fid ∈ M.fidsS ac := List.mem_cons_self
theorem dir_mem {ac : M.Act} (h : ac.kind ≠ 3) : ac.dir ∈ M.fidsS ac := by unfold M.fidsS; rw [if_neg h]; simp
theorem to_mem {ac : M.Act} (h : ac.kind = 5) : ac.to ∈ M.fidsS ac := by unfold M.fidsS; rw [if_neg (by rw [h]; decide), if_pos h]; simp
theorem told {xs : List M.Nd} (hg : Good xs) (ac : M.Act) (v : Int) : ∀ y ∈ (M.applyS xs ac v).2, Told xs ac v y := by
  have hs := told_self hg.1.1 ac v
  unfold M.applyS
  split
  · rename_i hk
    have hk3 : ac.kind ≠ 3 := by rcases hk with h | h <;> rw [h] <;> decide
    by_cases h1 : (M.dirS xs ac.dir).1 = 0
    case' neg => rw [bring_dir h1]; exact told_nil _ _ _
    by_cases h2 : M.freeS (M.dirS xs ac.dir).2 ac.name = 0
    case' neg => rw [bring_free h1 h2]; exact told_nil _ _ _
    by_cases h3 : ac.fid = 0 ∨ (M.find xs ac.fid).isSome
    case' pos => rw [bring_stale h1 h2 h3]; exact told_nil _ _ _
    by_cases h4 : 24 ≤ xs.length
    case' pos => rw [bring_many h1 h2 h3 h4]; exact told_nil _ _ _
    rw [bring_ok h1 h2 h3 h4]
    have hd : (M.dirS xs ac.dir).2.fid = ac.dir := (M.find_mem (M.dir_ok h1).1).2
    exact told_put (told_put hs rfl (by show (M.dirS xs ac.dir).2.fid ∈ _; rw [hd]; exact dir_mem hk3)) rfl (fid_mem ac)
  · split
    · unfold M.storeS
      cases hx : M.find xs ac.fid with
      | none => exact told_nil _ _ _
      | some x =>
        simp only
        split
        · exact told_nil _ _ _
        · split
          · exact told_nil _ _ _
          · exact told_put hs rfl (by show x.fid ∈ _; rw [(M.find_mem hx).2]; exact fid_mem ac)
    · split
      · rename_i hk
        by_cases h1 : (M.holdS xs ac.dir ac.name ac.fid).1 = 0
        case' neg => rw [remove_hold h1]; exact told_nil _ _ _
        cases hx : M.find xs ac.fid with
        | none => rw [remove_away h1 hx]; exact told_nil _ _ _
        | some x =>
          by_cases he : 0 < x.ents.length
          case' pos => rw [remove_full h1 hx he]; exact told_nil _ _ _
          rw [remove_ok h1 hx he]
          have hf := from_good hg h1
          exact fun y hy => told_put hs rfl (by show (M.fromS xs ac).fid ∈ _; rw [hf.2.1]; exact dir_mem (by rw [hk]; decide)) y (List.mem_filter.1 hy).1
      · split
        · rename_i hk
          by_cases h1 : (M.holdS xs ac.dir ac.name ac.fid).1 = 0
          case' neg => rw [rename_hold h1]; exact told_nil _ _ _
          by_cases h2 : (M.dirS xs ac.to).1 = 0
          case' neg => rw [rename_dir h1 h2]; exact told_nil _ _ _
          by_cases h3 : M.freeS (M.toS xs ac) ac.toName = 0
          case' neg => rw [rename_free h1 h2 h3]; exact told_nil _ _ _
          by_cases h4 : M.find xs ac.fid = none
          case' pos => rw [rename_away h1 h2 h3 h4]; exact told_nil _ _ _
          by_cases h5 : M.Reach xs ac.fid ac.to
          case' pos => rw [rename_loop h1 h2 h3 h4 h5]; exact told_nil _ _ _
          rw [rename_ok h1 h2 h3 h4 h5]
          have hf := from_good hg h1
          have ht := to_good hg h1 h2
          exact told_put (told_put hs rfl (by show (M.fromS xs ac).fid ∈ _; rw [hf.2.1]; exact dir_mem (by rw [hk]; decide))) rfl (by show (M.toS xs ac).fid ∈ _; rw [ht.2.1]; exact to_mem hk)
        · exact told_nil _ _ _
end Go.Proofs.Ytlegjdlmcphhlab
/-
  PLAIN MATHEMATICS of chapter 4: SHORT IS ENOUGH.
-/
namespace Go.Proofs.Ytlegjdlmcphhlab
open M

theorem free_hide {d : Int} {s t : ByteArray} {x : Nd} (hst : x.fid = d → t ≠ s) (h : freeS x t = 0) : freeS (hideN d s x) t = 0 := by
  obtain ⟨h1, h2, h3⟩ := free_ok h
  unfold hideN
  by_cases e : x.fid = d
  · rw [if_pos e]
    refine free_yes ?_ h2 ?_
    · show M.look (dropE x.ents s) t = none
      rw [look_dropE _ (hst e)]; exact h1
    · have := drop_le x.ents s
      show (dropE x.ents s).length < 6
      omega
  · rw [if_neg e]; exact h
theorem hideN_put {d : Int} {s t : ByteArray} {x : Nd} (g : Int) (hst : x.fid = d → t ≠ s) : hideN d s (withV (withE x (putE x.ents (t, g))) 0) = withV (withE (hideN d s x) (putE (hideN d s x).ents (t, g))) 0 := by
  unfold hideN
  by_cases e : x.fid = d
  · rw [if_pos e, if_pos (by exact e)]
    unfold lvS withV withE
    simp only
    rw [dropE_putE _ _ (hst e)]
  · rw [if_neg e, if_neg (by exact e)]
theorem hideN_drop {d : Int} {s t : ByteArray} {x : Nd} : hideN d s (withV (withE x (dropE x.ents t)) 0) = withV (withE (hideN d s x) (dropE (hideN d s x).ents t)) 0 := by
  unfold hideN
  by_cases e : x.fid = d
  · rw [if_pos e, if_pos (by exact e)]
    unfold lvS withV withE
    simp only
    rw [dropE_comm]
  · rw [if_neg e, if_neg (by exact e)]
theorem look_hide {d : Int} {s t : ByteArray} {x : Nd} (hst : x.fid = d → t ≠ s) : M.look (hideN d s x).ents t = M.look x.ents t := by
  unfold hideN
  by_cases e : x.fid = d
  · rw [if_pos e]; exact look_dropE _ (hst e)
  · rw [if_neg e]
theorem dir_hide {d : Int} {s : ByteArray} {f t : Int} {xs : List Nd} (hne : t ≠ f) {D : Nd} (h : dirS xs t = (0, D)) : dirS (hide d s f xs) t = (0, hideN d s D) := by
  have hd := dir_ok (xs := xs) (f := t) (by rw [h])
  rw [h] at hd
  exact dir_yes (by rw [find_hide, if_neg hne, hd.1]; rfl) (by rw [hideN_dir]; exact hd.2)
theorem hold_hide {d : Int} {s : ByteArray} {f : Int} {xs : List Nd} {d2 : Int} {s2 : ByteArray} {g : Int} (hne : d2 ≠ f) (hst : d2 = d → s2 ≠ s) {D : Nd} (h : holdS xs d2 s2 g = (0, D)) : holdS (hide d s f xs) d2 s2 g = (0, hideN d s D) := by
  obtain ⟨E, h1, h2, h3, h4, h5⟩ := hold_at (xs := xs) (d := d2) (s := s2) (f := g) (by rw [h])
  rw [h] at h1
  cases h1
  refine hold_of (by rw [find_hide, if_neg hne, h2]; rfl) (by rw [hideN_dir]; exact h3) ?_
  rw [look_hide (by rw [h4]; exact hst)]
  exact h5
theorem not_names {b : M.Act} {f : Int} (h : nameFB b f = false) : b.fid ≠ f ∧ (b.kind ≠ 3 → b.dir ≠ f) ∧ (b.kind = 5 → b.to ≠ f) := by
  unfold nameFB at h
  simp only [decide_eq_false_iff_not] at h
  exact ⟨fun e => h (e ▸ fid_mem b), fun k e => h (e ▸ dir_mem k), fun k e => h (e ▸ to_mem k)⟩
theorem not_touches {b : M.Act} {d : Int} {s : ByteArray} (h : touchB b d s = false) : (makeB b = true ∨ b.kind = 4 ∨ b.kind = 5 → b.dir = d → b.name ≠ s) ∧ (b.kind = 5 → b.to = d → b.toName ≠ s) := by
  unfold touchB at h
  simp only [Bool.or_eq_false_iff] at h
  refine ⟨fun k e1 e2 => ?_, fun k e1 e2 => ?_⟩
  · have h1 := h.1
    rw [e1, e2] at h1
    simp at h1
    rcases k with k | k | k
    · rw [h1.1.1] at k; cases k
    · exact h1.1.2 k
    · exact h1.2 k
  · have h2 := h.2
    rw [e1, e2] at h2
    simp at h2
    exact h2 k

/-- what neither names f, nor does something to the name s of d, does the same where both are hidden -/
theorem hide_step {d : Int} {s : ByteArray} {f : Int} {xs : List Nd} (ha : Alone d s f xs) {b : M.Act} (hn : nameFB b f = false) (ht : touchB b d s = false) (h : (applyS xs b 0).1 = 0) :
    (applyS (hide d s f xs) b 0).1 = 0 ∧ (applyS (hide d s f xs) b 0).2 = hide d s f (applyS xs b 0).2 ∧ Alone d s f (applyS xs b 0).2 := by
  obtain ⟨n1, n2, n3⟩ := not_names hn
  obtain ⟨t1, t2⟩ := not_touches ht
  have ha0 := ha
  obtain ⟨D, x, a1, a2, a3, a4, a5⟩ := ha0
  have hDf := (find_mem a1).2
  rcases apply_cases h with ⟨hm, h3, h5, e⟩ | ⟨h3, e⟩ | ⟨h4, e⟩ | ⟨h5, e⟩
  · have e2 : ∀ zs : List Nd, applyS zs b 0 = bringS zs b 0 := fun zs => by unfold makeB at hm; unfold applyS; rw [if_pos (by simpa using hm)]
    rw [e2] at h ⊢
    rw [e2]
    have nd := n2 h3
    have td := t1 (.inl hm)
    obtain ⟨h1, h2, h6, h7⟩ := bring_inv h
    obtain ⟨E, hE0, hE, hEd, hEf⟩ := dir_at h1
    have hE1 := dir_hide (d := d) (s := s) nd hE0
    have hfn : find xs b.fid = none := by
      cases e : find xs b.fid with
      | none => rfl
      | some y => rw [e] at h6; exact absurd (.inr rfl) h6
    have hnd : b.fid ≠ d := fun e => by rw [e, a1] at hfn; cases hfn
    have ed : E.fid = d → b.name ≠ s := fun e => td (by rw [← hEf]; exact e)
    rw [bring_ok h1 h2 h6 h7, bring_ok (by rw [hE1]) (by rw [hE1]; exact free_hide ed (by rw [hE0] at h2; exact h2)) (by rw [find_hide, if_neg n1, hfn]; intro h; rcases h with h | h; exact h6 (.inl h); simp at h) (by have := hide_len d s f xs; omega)]
    rw [hE0, hE1]
    refine ⟨rfl, ?_, ?_⟩
    · show putN (putN (hide d s f xs) _) _ = hide d s f (putN (putN xs _) _)
      rw [hide_put (x := ⟨b.fid, decide (b.kind = 2), [], [], 0⟩) _ n1, hide_put (x := withV (withE E (putE E.ents (b.name, b.fid))) 0) _ (by show E.fid ≠ f; rw [hEf]; exact nd), hideN_put _ ed, hideN_no (x := ⟨b.fid, decide (b.kind = 2), [], [], 0⟩) hnd]
    · refine alone_put (y := ⟨b.fid, decide (b.kind = 2), [], [], 0⟩) (alone_put (y := withV (withE E (putE E.ents (b.name, b.fid))) 0) ha (by show E.fid ≠ f; rw [hEf]; exact nd) fun e => ⟨hEd, ?_⟩) n1 fun e => absurd e hnd
      have e' : E.fid = d := e
      have : E = D := by rw [hEf] at e'; rw [e', a1] at hE; cases hE; rfl
      subst this
      show M.look (putE E.ents (b.name, b.fid)) s = _
      rw [look_putE _ _ (Ne.symm (ed e'))]
      exact a3
  · have e2 : ∀ zs : List Nd, applyS zs b 0 = storeS zs b 0 := fun zs => by unfold applyS; rw [if_neg (by omega), if_pos h3]
    rw [e2] at h ⊢
    rw [e2]
    obtain ⟨y, hy, hd, hl, e3⟩ := store_inv h
    have hyf := (find_mem hy).2
    have hyd : y.fid ≠ d := fun e => by rw [hyf] at e; rw [e, a1] at hy; cases hy; rw [a2] at hd; cases hd
    rw [e3, store_yes (x := y) (by rw [find_hide, if_neg n1, hy, Option.map_some, hideN_no hyd]) hd hl]
    refine ⟨rfl, ?_, ?_⟩
    · show putN (hide d s f xs) _ = hide d s f (putN xs _)
      rw [hide_put _ (by show y.fid ≠ f; rw [hyf]; exact n1), hideN_no (by exact hyd)]
    · exact alone_put ha (by show y.fid ≠ f; rw [hyf]; exact n1) fun e => absurd e hyd
  · have e2 : ∀ zs : List Nd, applyS zs b 0 = removeS zs b 0 := fun zs => by unfold applyS; rw [if_neg (by omega), if_neg (by omega), if_pos h4]
    rw [e2] at h ⊢
    rw [e2]
    have nd := n2 (by omega)
    have td := t1 (.inr (.inl h4))
    obtain ⟨h1, y, hy, hye⟩ := remove_inv h
    obtain ⟨E, hE0, hE, hEd, hEf, hEl⟩ := hold_at h1
    have hE1 := hold_hide (d := d) (s := s) nd td hE0
    have hyf := (find_mem hy).2
    have hyd : b.fid ≠ d := fun e => by
      rw [e, a1] at hy
      cases hy
      have : D.ents = [] := List.eq_nil_of_length_eq_zero (by omega)
      rw [this] at a3
      cases a3
    rw [remove_ok h1 hy hye, remove_ok (by rw [hE1]) (x := y) (by rw [find_hide, if_neg n1, hy, Option.map_some, hideN_no (by rw [hyf]; exact hyd)]) hye]
    rw [hE0, hE1]
    refine ⟨rfl, ?_, ?_⟩
    · show dropN (putN (hide d s f xs) _) _ = hide d s f (dropN (putN xs _) _)
      rw [hide_drop, hide_put _ (by show E.fid ≠ f; rw [hEf]; exact nd), hideN_drop]
    · refine alone_drop (alone_put (y := withV (withE E (dropE E.ents b.name)) 0) ha (by show E.fid ≠ f; rw [hEf]; exact nd) fun e => ⟨hEd, ?_⟩) n1 hyd
      have e' : E.fid = d := e
      have : E = D := by rw [hEf] at e'; rw [e', a1] at hE; cases hE; rfl
      subst this
      show M.look (dropE E.ents b.name) s = _
      rw [look_dropE _ (Ne.symm (td (by rw [← hEf]; exact e')))]
      exact a3
  · have e2 : ∀ zs : List Nd, applyS zs b 0 = renameS zs b 0 := fun zs => by unfold applyS; rw [if_neg (by omega), if_neg (by omega), if_neg (by omega), if_pos h5]
    rw [e2] at h ⊢
    rw [e2]
    have nd := n2 (by omega)
    have nt := n3 h5
    have td := t1 (.inr (.inr h5))
    have tt := t2 h5
    obtain ⟨h1, h2, h3, h4, h6⟩ := rename_inv h
    obtain ⟨E, hE0, hE, hEd, hEf, hEl⟩ := hold_at h1
    obtain ⟨T, hT0, hT, hTd, hTf⟩ := dir_at h2
    have hE1 := hold_hide (d := d) (s := s) nd td hE0
    have hT1 := dir_hide (d := d) (s := s) nt hT0
    obtain ⟨y, hy⟩ := Option.ne_none_iff_exists'.1 h4
    have eF : fromS xs b = withE E (dropE E.ents b.name) := by unfold fromS; rw [hE0]; rfl
    have eF1 : fromS (hide d s f xs) b = withE (hideN d s E) (dropE (hideN d s E).ents b.name) := by unfold fromS; rw [hE1]; rfl
    have eFh : hideN d s (fromS xs b) = fromS (hide d s f xs) b := by
      rw [eF, eF1]
      unfold hideN
      by_cases e : E.fid = d
      · rw [if_pos e, if_pos (by exact e)]
        unfold lvS withE
        simp only
        rw [dropE_comm]
      · rw [if_neg e, if_neg (by exact e)]
    have eTh : hideN d s (toS xs b) = toS (hide d s f xs) b := by
      unfold toS
      by_cases e : b.to = b.dir
      · rw [if_pos e, if_pos e, eFh]
      · rw [if_neg e, if_neg e, hT0, hT1]
    have eTf : (toS xs b).fid = b.to := by
      unfold toS
      by_cases e : b.to = b.dir
      · rw [if_pos e, eF]; exact hEf.trans e.symm
      · rw [if_neg e, hT0]; exact hTf
    have eTd : (toS xs b).dir = true := by
      unfold toS
      by_cases e : b.to = b.dir
      · rw [if_pos e, eF]; exact hEd
      · rw [if_neg e, hT0]; exact hTd
    have ett : (toS xs b).fid = d → b.toName ≠ s := by rw [eTf]; exact tt
    have e24 : find (hide d s f xs) b.fid ≠ none := by rw [find_hide, if_neg n1, hy]; simp
    rw [rename_ok h1 h2 h3 h4 h6, rename_ok (by rw [hE1]) (by rw [hT1]) (by rw [← eTh]; exact free_hide ett h3) e24 (fun h => h6 (hide_reach h))]
    refine ⟨rfl, ?_, ?_⟩
    · show putN (putN (hide d s f xs) (withV (fromS (hide d s f xs) b) 0)) (withV (withE (toS (hide d s f xs) b) (putE (toS (hide d s f xs) b).ents (b.toName, b.fid))) 0) = hide d s f (putN (putN xs (withV (fromS xs b) 0)) (withV (withE (toS xs b) (putE (toS xs b).ents (b.toName, b.fid))) 0))
      rw [hide_put _ (by show (toS xs b).fid ≠ f; rw [eTf]; exact nt), hide_put _ (by show (fromS xs b).fid ≠ f; rw [eF]; show E.fid ≠ f; rw [hEf]; exact nd), hideN_put _ ett, eTh]
      congr 2
      rw [eF, eF1, hideN_drop]
    · have hl1 : (fromS xs b).fid = d → (fromS xs b).dir = true ∧ M.look (fromS xs b).ents s = some (s, f) := fun e => by
        rw [eF] at e ⊢
        have e' : E.fid = d := e
        have : E = D := by rw [hEf] at e'; rw [e', a1] at hE; cases hE; rfl
        subst this
        refine ⟨hEd, ?_⟩
        show M.look (dropE E.ents b.name) s = _
        rw [look_dropE _ (Ne.symm (td (by rw [← hEf]; exact e')))]
        exact a3
      have hl2 : (toS xs b).fid = d → M.look (toS xs b).ents s = some (s, f) := fun e => by
        unfold toS at e ⊢
        by_cases e3 : b.to = b.dir
        · rw [if_pos e3] at e ⊢; exact (hl1 e).2
        · rw [if_neg e3, hT0] at e ⊢
          have : T = D := by have e' : T.fid = d := e; rw [hTf] at e'; rw [e', a1] at hT; cases hT; rfl
          subst this
          exact a3
      refine alone_put (y := withV (withE (toS xs b) (putE (toS xs b).ents (b.toName, b.fid))) 0) (alone_put (y := withV (fromS xs b) 0) ha (by show (fromS xs b).fid ≠ f; rw [eF]; show E.fid ≠ f; rw [hEf]; exact nd) hl1) (by show (toS xs b).fid ≠ f; rw [eTf]; exact nt) fun e => ⟨eTd, ?_⟩
      show M.look (putE (toS xs b).ents (b.toName, b.fid)) s = _
      rw [look_putE _ _ (Ne.symm (ett e))]
      exact hl2 e
/-- a store of f itself is hidden -/
theorem hide_store {d : Int} {s : ByteArray} {f : Int} {xs : List Nd} (ha : Alone d s f xs) (hr : RsN xs) {b : M.Act} (h3 : b.kind = 3) (hf : b.fid = f) (h : (applyS xs b 0).1 = 0) :
    hide d s f (applyS xs b 0).2 = hide d s f xs ∧ Alone d s f (applyS xs b 0).2 := by
  have e2 : applyS xs b 0 = storeS xs b 0 := by unfold applyS; rw [if_neg (by omega), if_pos h3]
  rw [e2] at h ⊢
  obtain ⟨y, hy, hd, hl, e3⟩ := store_inv h
  have hyf := (find_mem hy).2
  rw [hf] at hyf
  rw [e3]
  have hne := alone_ne ha
  constructor
  · refine ext_find (hide_rs (rs_put _ hr)) (hide_rs hr) fun t => ?_
    rw [find_hide, find_hide]
    by_cases e : t = f
    · rw [if_pos e, if_pos e]
    · rw [if_neg e, if_neg e, findN_if, if_neg (by show t ≠ y.fid; rw [hyf]; exact e)]
  · obtain ⟨D, x, a1, a2, a3, a4, a5⟩ := ha
    rw [hf, a4] at hy
    cases hy
    exact ⟨D, withV { y with data := b.data } 0, by rw [findN_if, if_neg (by show d ≠ y.fid; rw [hyf]; exact hne)]; exact a1, a2, a3, by rw [findN_if, if_pos (by show f = y.fid; exact hyf.symm)], a5⟩
/-- all that is left does the same where f is hidden -/
theorem hide_run {d : Int} {s : ByteArray} {f : Int} : ∀ {bs : List M.Act} {xs ys : List Nd}, Good xs → Alone d s f xs → (∀ b ∈ bs, (!decide (b.kind = 3) && nameFB b f || touchB b d s) = false) → runS xs bs = some ys →
    runS (hide d s f xs) (bs.filter fun b => !nameFB b f) = some (hide d s f ys) ∧ Alone d s f ys
  | [], xs, ys, _, ha, _, h => by rw [runS] at h; cases h; exact ⟨rfl, ha⟩
  | b :: bs, xs, ys, hg, ha, hh, h => by
    obtain ⟨h1, h2⟩ := run_cons h
    have hb := hh b List.mem_cons_self
    rw [Bool.or_eq_false_iff] at hb
    have hh' := fun c hc => hh c (List.mem_cons_of_mem b hc)
    cases hn : nameFB b f
    · rw [List.filter_cons_of_pos (by simp [hn])]
      obtain ⟨c1, c2, c3⟩ := hide_step ha hn hb.2 h1
      rw [run_of c1, c2]
      exact hide_run (good_apply hg b 0) c3 hh' h2
    · rw [List.filter_cons_of_neg (by simp [hn])]
      have h3 : b.kind = 3 := by have := hb.1; rw [hn] at this; simpa using this
      have hf : b.fid = f := by
        unfold nameFB fidsS at hn
        rw [if_pos h3, if_neg (by omega)] at hn
        simp at hn
        exact hn.symm
      obtain ⟨c1, c2⟩ := hide_store ha hg.1.1 h3 hf h1
      rw [← c1]
      exact hide_run (good_apply hg b 0) c2 hh' h2
/-- what is made is alone, and hidden it is as it was -/
theorem make_hide {xs : List Nd} (hr : Rise xs) (hb : ∀ x ∈ xs, x.ver = 0) {b : M.Act} (hm : makeB b = true) (h : (applyS xs b 0).1 = 0) :
    Alone b.dir b.name b.fid (applyS xs b 0).2 ∧ hide b.dir b.name b.fid (applyS xs b 0).2 = xs := by
  have e2 : applyS xs b 0 = bringS xs b 0 := by unfold makeB at hm; unfold applyS; rw [if_pos (by simpa using hm)]
  rw [e2] at h ⊢
  obtain ⟨h1, h2, h6, h7⟩ := bring_inv h
  obtain ⟨E, hE0, hE, hEd, hEf⟩ := dir_at h1
  have hfn : find xs b.fid = none := by
    cases e : find xs b.fid with
    | none => rfl
    | some y => rw [e] at h6; exact absurd (.inr rfl) h6
  have hne : b.dir ≠ b.fid := fun e => by rw [e, hfn] at hE; cases hE
  have hfr := free_ok h2
  rw [hE0] at hfr
  have hE1 := hb E (find_mem hE).1
  have hre : RsE E.ents := hr.2 E (find_mem hE).1
  rw [bring_ok h1 h2 h6 h7, hE0]
  constructor
  · refine ⟨withV (withE E (putE E.ents (b.name, b.fid))) 0, ⟨b.fid, decide (b.kind = 2), [], [], 0⟩, ?_, hEd, look_put _ _ _, by rw [findN_if, if_pos rfl], rfl⟩
    rw [findN_if, if_neg (by exact hne), findN_if, if_pos (by exact hEf.symm)]
  · refine ext_find (hide_rs (rs_put _ (rs_put _ hr.1))) hr.1 fun t => ?_
    rw [find_hide]
    by_cases t1 : t = b.fid
    · rw [if_pos t1, t1, hfn]
    · rw [if_neg t1, findN_if, if_neg (by exact t1), findN_if]
      by_cases t2 : t = b.dir
      · rw [if_pos (by show t = E.fid; rw [hEf]; exact t2), t2, hE, Option.map_some]
        unfold hideN lvS withV withE
        rw [if_pos (by exact hEf)]
        simp only
        rw [drop_put hre hfr.1]
        cases E; simp at hE1 ⊢; exact hE1.symm
      · rw [if_neg (by show t ≠ E.fid; rw [hEf]; exact t2)]
        cases hx : find xs t with
        | none => rfl
        | some y => rw [Option.map_some, hideN_no (by rw [(find_mem hx).2]; exact t2)]
theorem none_run {f : Int} : ∀ {bs : List M.Act} {xs ys : List Nd}, find xs f = none → (∀ b ∈ bs, ¬ (makeB b = true ∧ b.fid = f)) → runS xs bs = some ys → find ys f = none ∧ ∀ b ∈ bs, nameFB b f = false
  | [], xs, ys, hf, _, h => by rw [runS] at h; cases h; exact ⟨hf, fun b hb => by cases hb⟩
  | b :: bs, xs, ys, hf, hm, h => by
    obtain ⟨h1, h2⟩ := run_cons h
    obtain ⟨r1, r2⟩ := none_run (none_stays h1 hf (hm b List.mem_cons_self)) (fun c hc => hm c (List.mem_cons_of_mem b hc)) h2
    refine ⟨r1, fun c hc => ?_⟩
    rcases List.mem_cons.1 hc with rfl | hc
    · unfold nameFB
      rw [decide_eq_false_iff_not]
      intro hg
      rcases names_there h1 hg with ⟨x, hx⟩ | ⟨k1, k2⟩
      · rw [hf] at hx; cases hx
      · exact hm c List.mem_cons_self ⟨k1, k2.symm⟩
    · exact r2 c hc
theorem bare_runs : ∀ {bs : List M.Act} {xs ys : List Nd}, (∀ x ∈ xs, x.ver = 0) → runS xs bs = some ys → ∀ y ∈ ys, y.ver = 0
  | [], xs, ys, hb, h => by rw [runS] at h; cases h; exact hb
  | b :: bs, xs, ys, hb, h => by obtain ⟨h1, h2⟩ := run_cons h; exact bare_runs (bare_apply hb h1) h2

/-- SHORT IS ENOUGH: one more act -/
theorem short_step {X T : List Nd} {log m : List Rec} {r : Rec} (hg : Good X) (hb : ∀ x ∈ X, x.ver = 0) (hX : ∀ x ∈ X, 0 ≤ x.fid) (hl : ∀ y ∈ log, makeB y.act = true → y.act.fid < 0)
    (hrun : runS X (log.map (·.act)) = some T) (hap : (applyS T r.act 0).1 = 0) (hadd : addS log r = (0, m)) : runS X (m.map (·.act)) = some (applyS T r.act 0).2 := by
  have hgT := good_run hg hrun
  have hbT := bare_runs hb hrun
  unfold addS at hadd
  by_cases hu : undoB log r.act = true
  · rw [if_pos hu] at hadd
    have hm : m = log.filter fun x => !nameFB x.act r.act.fid := (Prod.mk.inj hadd).2.symm
    rw [hm]
    unfold undoB at hu
    rw [Bool.and_eq_true, decide_eq_true_eq] at hu
    obtain ⟨h4, hu⟩ := hu
    cases hk : log.findIdx? (madeB r.act.fid) with
    | none => rw [hk] at hu; cases hu
    | some k =>
      rw [hk] at hu
      simp only at hu
      cases hq : log[k]? with
      | none => rw [hq] at hu; cases hu
      | some q =>
        rw [hq] at hu
        simp only [Bool.and_eq_true, decide_eq_true_eq, Bool.not_eq_true', List.any_eq_false] at hu
        obtain ⟨⟨hqd, hqn⟩, hno⟩ := hu
        obtain ⟨hkl, hqm, hbef⟩ := List.findIdx?_eq_some_iff_getElem.1 hk
        have hqe : log[k] = q := by rw [List.getElem?_eq_getElem hkl] at hq; exact Option.some.inj hq
        rw [hqe] at hqm
        unfold madeB at hqm
        rw [Bool.and_eq_true, decide_eq_true_eq] at hqm
        have hsplit : log = log.take k ++ q :: log.drop (k + 1) := by rw [← hqe, ← List.drop_eq_getElem_cons hkl, List.take_append_drop]
        have hpre : ∀ b ∈ (log.take k).map (·.act), ¬ (makeB b = true ∧ b.fid = r.act.fid) := by
          intro b hb2
          obtain ⟨y, hy, rfl⟩ := List.mem_map.1 hb2
          obtain ⟨i, hi⟩ := List.getElem?_of_mem hy
          rw [List.getElem?_take] at hi
          split at hi
          · rename_i hik
            have hil : i < log.length := by omega
            rw [List.getElem?_eq_getElem hil] at hi
            have h1 := hbef i hik
            rw [Option.some.inj hi] at h1
            intro ⟨e1, e2⟩
            apply h1
            unfold madeB
            rw [e1, e2]; simp
          · cases hi
        have hrun0 := hrun
        have e1 : log.map (·.act) = (log.take k).map (·.act) ++ q.act :: (log.drop (k + 1)).map (·.act) := by
          conv => lhs; rw [hsplit]
          simp
        rw [e1, run_append] at hrun
        obtain ⟨S, hS, hrun⟩ := Option.bind_eq_some_iff.1 hrun
        obtain ⟨hq1, hrun⟩ := run_cons hrun
        have hfX : find X r.act.fid = none := by
          cases e : find X r.act.fid with
          | none => rfl
          | some y =>
            have hy := find_mem e
            have h1 := hX y hy.1
            have h2 := hl q (by rw [hsplit]; simp) hqm.1
            rw [hqm.2, ← hy.2] at h2
            omega
        obtain ⟨hfS, hpn⟩ := none_run hfX hpre hS
        have hgS := good_run hg hS
        have hbS := bare_runs hb hS
        obtain ⟨hA, hH⟩ := make_hide hgS.1 hbS hqm.1 hq1
        rw [hqd, hqn, hqm.2] at hA hH
        obtain ⟨hr2, hA2⟩ := hide_run (good_apply hgS q.act 0) hA (by
          intro b hb2
          obtain ⟨y, hy, rfl⟩ := List.mem_map.1 hb2
          have := hno y hy
          unfold hinderB at this
          simpa using this) hrun
        rw [hH] at hr2
        have eR : applyS T r.act 0 = removeS T r.act 0 := by unfold applyS; rw [if_neg (by omega), if_neg (by omega), if_pos h4]
        have eq := remove_hide hA2 hgT.1.1 hbT (a := r.act) rfl rfl rfl
        have ef : (log.filter fun x => !nameFB x.act r.act.fid).map (·.act) = (log.take k).map (·.act) ++ ((log.drop (k + 1)).map (·.act)).filter fun b => !nameFB b r.act.fid := by
          have e0 : (log.filter fun x => !nameFB x.act r.act.fid).map (·.act) = (log.map (·.act)).filter fun b => !nameFB b r.act.fid := by rw [List.filter_map]; rfl
          rw [e0, e1, List.filter_append, List.filter_cons_of_neg (by unfold nameFB; rw [← hqm.2]; simp [fid_mem])]
          congr 1
          rw [List.filter_eq_self]
          intro b hb2
          rw [hpn b hb2]; rfl
        rw [ef, run_append, hS, Option.bind_some, hr2, eR, eq]
  · rw [if_neg hu] at hadd
    by_cases h20 : 20 ≤ (log.filter fun x => !overB r.act x.act).length
    · rw [if_pos h20] at hadd; simp at hadd
    · rw [if_neg h20] at hadd
      have hm : m = (log.filter fun x => !overB r.act x.act) ++ [r] := (Prod.mk.inj hadd).2.symm
      rw [hm, List.map_append, run_append]
      by_cases h3 : r.act.kind = 3
      · have e0 : (log.filter fun x => !overB r.act x.act).map (·.act) = (log.map (·.act)).filter fun b => !storeB r.act.fid b := by
          rw [List.filter_map]
          congr 2
          funext x
          unfold overB storeB
          simp [h3, eq_comm]
        rw [e0]
        obtain ⟨T2, hT2, hbl⟩ := run_blank (f := r.act.fid) hg hb rfl hrun
        rw [hT2, Option.bind_some]
        have hgT2 := good_run hg hT2
        have e2 : ∀ zs : List Nd, applyS zs r.act 0 = storeS zs r.act 0 := fun zs => by unfold applyS; rw [if_neg (by omega), if_pos h3]
        rw [e2] at hap
        obtain ⟨x, hx, hd, hlen, e3⟩ := store_inv hap
        have hfm : ∀ t, (find T t).map (blank r.act.fid) = (find T2 t).map (blank r.act.fid) := fun t => by
          rw [← find_map (blank_coat _).fid, ← find_map (blank_coat _).fid, hbl]
        have hf2 := hfm r.act.fid
        rw [hx, Option.map_some] at hf2
        obtain ⟨y, hy, hxy⟩ := Option.map_eq_some_iff.1 hf2.symm
        have hyd : y.dir = false := by rw [← (blank_coat r.act.fid).dir y, hxy, (blank_coat r.act.fid).dir]; exact hd
        have hxf := (find_mem hx).2
        have hyf := (find_mem hy).2
        have hxy2 : withV { y with data := r.act.data } 0 = withV { x with data := r.act.data } 0 := by
          unfold blank at hxy
          rw [if_pos hyf, if_pos hxf] at hxy
          cases x; cases y
          simp at hxy
          simp [withV, hxy]
        show runS T2 [r.act] = _
        rw [runS, e2, e2, store_yes hy hyd hlen, if_pos rfl, e3, runS, hxy2]
        congr 1
        refine ext_find (rs_put _ hgT2.1.1) (rs_put _ hgT.1.1) fun t => ?_
        rw [findN_if, findN_if]
        by_cases e : t = (withV { x with data := r.act.data } 0).fid
        · rw [if_pos e, if_pos e]
        · rw [if_neg e, if_neg e]
          have hne : t ≠ r.act.fid := fun e4 => e (by rw [e4]; exact hxf.symm)
          have h2 := hfm t
          have hbid : ∀ {zs : List Nd} {z : Nd}, find zs t = some z → blank r.act.fid z = z := fun hz => by unfold blank; rw [if_neg (by rw [(find_mem hz).2]; exact hne)]
          cases h5 : find T t with
          | none => rw [h5] at h2; cases h6 : find T2 t with
            | none => rfl
            | some z => rw [h6] at h2; cases h2
          | some z =>
            rw [h5, Option.map_some, hbid h5] at h2
            cases h6 : find T2 t with
            | none => rw [h6] at h2; cases h2
            | some z2 => rw [h6, Option.map_some, hbid h6] at h2; exact h2.symm
      · have e0 : (log.filter fun x => !overB r.act x.act) = log := by
          rw [List.filter_eq_self]
          intro x _
          unfold overB
          simp [h3]
        rw [e0, hrun, Option.bind_some]
        show runS T [r.act] = _
        rw [run_of hap]; rfl
end Go.Proofs.Ytlegjdlmcphhlab
/-
  THE REFERENCE's Within: all that can be seen from a fid on.
-/
namespace Go.Proofs.Ytlegjdlmcphhlab
open Go.RowKit
open Go.ChangeMaps (setBlock)

theorem len_le_of_nodup : ∀ {l m : List Int}, l.Nodup → (∀ x ∈ l, x ∈ m) → l.length ≤ m.length
  | [], _, _, _ => Nat.zero_le _
  | x :: l, m, hn, h => by
    rw [List.nodup_cons] at hn
    have hx : x ∈ m := h x List.mem_cons_self
    have ih := len_le_of_nodup (l := l) (m := m.erase x) hn.2 (fun y hy => by
      have hne : y ≠ x := fun e => hn.1 (e ▸ hy)
      exact (List.mem_erase_of_ne hne).2 (h y (List.mem_cons_of_mem _ hy)))
    have := List.length_erase_of_mem hx
    have := List.length_pos_of_mem hx
    rw [List.length_cons]
    omega
/-- the fids of all entries -/
def allF (xs : List M.Nd) : List Int := xs.flatMap fun x => x.ents.map (·.2)
/-- what the search keeps: those had, in turn; k of them are done -/
structure BI (xs : List M.Nd) (a : Int) (H : List Int) (k : Nat) : Prop where
  nd : H.Nodup
  ina : a ∈ H
  re : ∀ q ∈ H, M.Reach xs a q
  cl : ∀ (i : Nat) q x, i < k → H[i]? = some q → M.find xs q = some x → ∀ e ∈ x.ents, e.2 ∈ H
theorem BI.start (xs : List M.Nd) (a : Int) : BI xs a [a] 0 := ⟨by simp, by simp, fun q hq => by rw [List.mem_singleton.1 hq]; exact .refl, fun i q x hi => absurd hi (Nat.not_lt_zero _)⟩
theorem BI.len {xs : List M.Nd} {a : Int} {H : List Int} {k : Nat} (h : BI xs a H k) : H.length ≤ (allF xs).length + 1 := by
  have := len_le_of_nodup (m := a :: allF xs) h.nd (fun q hq => by
    have hr := h.re q hq
    cases hr with
    | refl => exact List.mem_cons_self
    | step _ hf he => exact List.mem_cons_of_mem _ (List.mem_flatMap.2 ⟨_, List.mem_of_find?_eq_some hf, List.mem_map.2 ⟨_, he, rfl⟩⟩))
  simpa using this
theorem BI.done {xs : List M.Nd} {a t : Int} {H : List Int} {k : Nat} (h : BI xs a H k) (hk : H.length ≤ k) : t ∈ H ↔ M.Reach xs a t := by
  refine ⟨h.re t, fun hr => ?_⟩
  induction hr with
  | refl => exact h.ina
  | step _ hf he ih =>
    obtain ⟨i, hi⟩ := List.getElem?_of_mem ih
    have := (List.getElem?_eq_some_iff.1 hi).1
    exact h.cl i _ _ (by omega) hi hf _ he
/-- one entry's fid is met -/
def meetH (H : List Int) (q : Int) : List Int := if q ∈ H then H else H ++ [q]
theorem meetH_pre (H : List Int) (q : Int) : ∃ S, meetH H q = H ++ S := by
  unfold meetH
  split
  · exact ⟨[], by simp⟩
  · exact ⟨[q], rfl⟩
theorem meetH_mem (H : List Int) (q : Int) : q ∈ meetH H q := by unfold meetH; split <;> simp_all
theorem foldH_pre : ∀ (ts : List Int) (H : List Int), ∃ S, ts.foldl meetH H = H ++ S
  | [], H => ⟨[], by simp⟩
  | t :: ts, H => by
    obtain ⟨S, hS⟩ := meetH_pre H t
    obtain ⟨R, hR⟩ := foldH_pre ts (meetH H t)
    exact ⟨S ++ R, by rw [List.foldl_cons, hR, hS, List.append_assoc]⟩
theorem foldH_mem : ∀ (ts : List Int) (H : List Int), ∀ t ∈ ts, t ∈ ts.foldl meetH H
  | [], _, _, h => by cases h
  | t :: ts, H, u, h => by
    rw [List.foldl_cons]
    rcases List.mem_cons.1 h with rfl | h
    · obtain ⟨R, hR⟩ := foldH_pre ts (meetH H u)
      rw [hR]; exact List.mem_append.2 (.inl (meetH_mem H u))
    · exact foldH_mem ts _ u h
theorem foldH_nd : ∀ (ts : List Int) (H : List Int), H.Nodup → (ts.foldl meetH H).Nodup
  | [], _, h => h
  | t :: ts, H, h => by
    rw [List.foldl_cons]
    refine foldH_nd ts _ ?_
    unfold meetH
    split
    · exact h
    · rename_i hn
      rw [List.nodup_append]
      exact ⟨h, by simp, fun x hx y hy e => by rw [List.mem_singleton.1 hy] at e; exact hn (e ▸ hx)⟩
theorem foldH_re {P : Int → Prop} : ∀ (ts : List Int) (H : List Int), (∀ q ∈ H, P q) → (∀ t ∈ ts, P t) → ∀ q ∈ ts.foldl meetH H, P q
  | [], _, h, _ => h
  | t :: ts, H, h, ht => by
    rw [List.foldl_cons]
    refine foldH_re ts _ (fun q hq => ?_) (fun u hu => ht u (List.mem_cons_of_mem _ hu))
    unfold meetH at hq
    split at hq
    · exact h q hq
    · rcases List.mem_append.1 hq with hq | hq
      · exact h q hq
      · rw [List.mem_singleton.1 hq]; exact ht t List.mem_cons_self
/-- one that was ahead is done -/
theorem BI.step {xs : List M.Nd} {a : Int} {H : List Int} {k : Nat} {q : Int} (h : BI xs a H k) (hq : H[k]? = some q) (es : List (ByteArray × Int)) (he : es = ((M.find xs q).map (·.ents)).getD []) (j : Nat) : BI xs a (((es.take j).map (·.2)).foldl meetH H) k ∧ BI xs a ((es.map (·.2)).foldl meetH H) (k + 1) := by
  have key : ∀ ts : List (ByteArray × Int), (∀ e ∈ ts, e ∈ es) → BI xs a ((ts.map (·.2)).foldl meetH H) k := by
    intro ts hts
    obtain ⟨S, hS⟩ := foldH_pre (ts.map (·.2)) H
    have hre : ∀ t ∈ ts.map (·.2), M.Reach xs a t := by
      intro t ht
      obtain ⟨e, he1, rfl⟩ := List.mem_map.1 ht
      have hee := hts e he1
      rw [he] at hee
      cases hf : M.find xs q with
      | none => rw [hf] at hee; cases hee
      | some x => rw [hf] at hee; exact .step (h.re q (List.mem_of_getElem? hq)) hf hee
    refine ⟨foldH_nd _ _ h.nd, by rw [hS]; exact List.mem_append.2 (.inl h.ina), foldH_re _ _ h.re hre, fun i p x hi hp hf e hex => ?_⟩
    have hil : i < H.length := by have := (List.getElem?_eq_some_iff.1 hq).1; omega
    rw [hS] at hp ⊢
    rw [List.getElem?_append_left hil] at hp
    exact List.mem_append.2 (.inl (h.cl i p x hi hp hf e hex))
  refine ⟨key _ (fun e he => List.mem_of_mem_take he), ?_⟩
  have h1 := key es (fun e he => he)
  obtain ⟨S, hS⟩ := foldH_pre (es.map (·.2)) H
  refine ⟨h1.nd, h1.ina, h1.re, fun i p x hi hp hf e hex => ?_⟩
  rcases Nat.lt_or_ge i k with hik | hik
  · exact h1.cl i p x hik hp hf e hex
  · have hik : i = k := by omega
    subst hik
    have hil : i < H.length := (List.getElem?_eq_some_iff.1 hq).1
    rw [hS, List.getElem?_append_left hil, hq] at hp
    cases hp
    rw [hf] at he
    have hex2 : e ∈ es := by rw [he]; exact hex
    exact foldH_mem _ _ _ (List.mem_map.2 ⟨e, hex2, rfl⟩)

/-- the search's memory -/
structure WM (w : World) (bm : Nat) (xs : List M.Nd) (H : List Int) (k g off c : Nat) (wr : World) : Prop where
  bel : Below w.heap.size w wr
  had : IMap wr w.heap.size (hadF H)
  que : Que wr (w.heap.size + 1) g off c (H.drop k)
theorem zero4 (w : World) : (zeroValue 4).run Try.prog w = .ok (.bool false) w := by
  obtain ⟨i, hi, hz, hs, hb⟩ := info_parts info4
  simp [zeroValue, typeInfo, hi, hz]
theorem had_ask {w : World} {b : Nat} {H : List Int} (h : IMap w b (hadF H)) (q : Int) : (Instr.lookup 69 (.map (some b)) (.int .i64 q) false).run Try.prog w = .ok (.bool (decide (q ∈ H))) w := by
  rw [run_lookup_map 69 4 Try.underlying69 (zero4 w) h q false, hadF_ask]
  rfl
theorem had_add {w : World} {b : Nat} {H : List Int} (h : IMap w b (hadF H)) (q : Int) : ∃ o : Obj, (Instr.mapUpdate 69 (.map (some b)) (.int .i64 q) (.bool true)).run Try.prog w = .ok () (setBlock w b o) ∧ IMap (setBlock w b o) b (hadF (H ++ [q])) := by
  obtain ⟨o, h1, h2⟩ := run_update_map 69 4 Try.underlying69 h q (.bool true)
  rw [hadF_add] at h2
  exact ⟨o, h1, h2⟩
theorem had_new (w : World) : IMap (w.alloc (.map #[] 0)) w.heap.size (hadF []) := by
  have h : (fun _ => none : Int → Option Value) = hadF [] := by funext q; simp [hadF]
  rw [← h]
  exact IMap.new w
theorem ents_of {w wr : World} {bm : Nat} {xs : List M.Nd} (h : TMap w bm xs) (hb : Below w.heap.size w wr) (hs : ∀ x ∈ xs, Small x) (q : Int) : ∃ (v : NV) (es : List (ByteArray × Int)), (Instr.lookup 35 (.map (some bm)) (.int .i64 q) false).run Try.prog wr = .ok v.val wr ∧ es = ((M.find xs q).map (·.ents)).getD [] ∧ Ents w v.eA v.en es ∧ v.en * 24 ≤ 140737488355328 := by
  obtain ⟨f, hi, ha⟩ := h
  have hr := run_lookup_map 35 40 Try.underlying35 (zero26 wr) (hi.below (Nat.le_refl _) hb) q false
  rcases ha q with ⟨h1, h2⟩ | ⟨v, x, h1, h2, h3⟩
  · rw [h1] at hr
    exact ⟨NV.zero, [], hr, by rw [h2]; rfl, ⟨rfl, .inl rfl⟩, by simp [NV.zero]⟩
  · rw [h1] at hr
    exact ⟨v, x.ents, hr, by rw [h2]; rfl, h3.2.2.2.2, by rw [h3.2.2.2.2.1]; exact (hs x (List.mem_of_find?_eq_some h2)).2⟩
theorem WM.box {w : World} {bm : Nat} {xs : List M.Nd} {H : List Int} {k g off c : Nat} {wr : World} (h : WM w bm xs H k g off c wr) (o : Obj) : WM w bm xs H k g off c (wr.alloc o) :=
  ⟨h.bel.alloc h.bel.size o, h.had.same (Below.heap_alloc _ _ _ h.had.lt), h.que.alloc o⟩
theorem WM.add {w : World} {bm : Nat} {xs : List M.Nd} {H : List Int} {k g off c : Nat} {wr W : World} {q : Int} {o E : Obj} {g' off' c' : Nat} (h : WM w bm xs H k g off c wr) (hm : IMap (setBlock wr w.heap.size o) w.heap.size (hadF (H ++ [q]))) (hk : k ≤ H.length)
    (hq : Que W (w.heap.size + 1) g' off' c' (H.drop k ++ [q])) (hg : ((setBlock wr w.heap.size o).alloc E).grownBy W (some g)) : WM w bm xs (H ++ [q]) k g' off' c' W := by
  have hgB := h.que.1
  have hlt : w.heap.size < wr.heap.size := h.had.lt
  refine ⟨Below.grown ((setBlock_below h.bel (Nat.le_refl _) o).alloc (by rw [setBlock_size]; omega) E) hg (by simp [setBlock_size]; omega) (fun k hk => by cases hk; omega), hm.same ?_, by rw [List.drop_append_of_le_length hk]; exact hq⟩
  rw [hg.block w.heap.size (by simp [setBlock_size]; omega) (by simp only [ne_eq, Option.some.injEq]; omega), Below.heap_alloc _ _ _ (by rw [setBlock_size]; omega)]
theorem fieldE (v : NV) (w : World) : (Instr.field 40 v.val 3).run Try.prog w = .ok (.slice v.eA v.en v.ec) w := by kernel_rfl

set_option maxRecDepth 4000 in
set_option maxHeartbeats 4000000 in
theorem refWithin_any (bm : Nat) (xs : List M.Nd) (t a : Int) (w : World) (ht : TMap w bm xs) (hs : ∀ x ∈ xs, Small x) (hN : ((allF xs).length + 2) * 8 ≤ 140737488355328) :
    Calls Try.prog 13 #[.map (some bm), .int .i64 t, .int .i64 a] w fun e w' => ∃ b : Bool, e = .returned (.bool b) ∧ (b = true ↔ M.Reach xs a t) ∧ Below w.heap.size w w' := by
  obtain ⟨i3, hi3, hz3, hs3, hb3⟩ := info_parts info3
  have HT : Hid (TMap w bm xs ∧ (∀ x ∈ xs, Small x)) := ⟨ht, hs⟩
  have hmm := @run_makeMap Try.prog
  obtain ⟨o0, hup, hm0⟩ := had_add (had_new w) a
  have H0 : Hid (WM w bm xs [a] 0 (w.heap.size + 1) 0 1 ((setBlock (w.alloc (.map #[] 0)) w.heap.size o0).alloc (.cells #[.int .i64 a] 3))) := by
    have hz : (setBlock (w.alloc (.map #[] 0)) w.heap.size o0).heap.size = w.heap.size + 1 := by rw [setBlock_size]; simp
    refine ⟨(setBlock_below ((Below.refl _ _).alloc (Nat.le_refl _) _) (Nat.le_refl _) o0).alloc (by rw [hz]; omega) _, hm0.same (Below.heap_alloc _ _ _ (by rw [hz]; omega)), ?_⟩
    have h := que_new (setBlock (w.alloc (.map #[] 0)) w.heap.size o0) (w.heap.size + 1) a (by rw [hz]; omega)
    rw [hz] at h
    exact h
  have hz0 : (setBlock (w.alloc (.map #[] 0)) w.heap.size o0).heap.size = w.heap.size + 1 := by rw [setBlock_size]; simp
  clear ht hs hm0
  go_enter Try.func13, Try.ntmps13
  go_wp2_with (fail)
  go_loopg [8] ((allF xs).length + 1) (fun gk v wr => ∃ (H : List Int) (k g off c n : Nat), v = .slice (some ⟨g, off, none⟩) n c ∧ Hid (n = H.length - k) ∧ k ≤ H.length ∧ (allF xs).length + 1 - k ≤ gk ∧ BI xs a H k ∧ WM w bm xs H k g off c wr)
  case atStart => exact ⟨[a], 0, w.heap.size + 1, 0, 1, 1, rfl, rfl, Nat.zero_le _, by omega, BI.start xs a, H0.out⟩
  case round =>
    obtain ⟨H, k, g, off, c, n, rfl, hn, hk, hgk, hbi, hwm⟩ := hrel
    rename World => wo
    have HB : Hid (BI xs a H k) := hbi
    have HM : Hid (WM w bm xs H k g off c wo) := hwm
    have hlen := hbi.len
    clear hbi hwm hup hmm hz0 H0
    by_cases hkn : k = H.length
    · have hn0 : n = 0 := by have h := hn.out; omega
      subst hn0
      have hlk := had_ask HM.out.had t
      have HR : Hid (t ∈ H ↔ M.Reach xs a t) := HB.out.done (by omega)
      clear hkn hk hn
      go_wp2
      go_ret
      exact ⟨_, rfl, by rw [decide_eq_true_eq]; exact HR.out, HM.out.bel⟩
    · have hkl : k < H.length := by omega
      have hq : H[k]? = some H[k] := List.getElem?_eq_getElem hkl
      have HQ : Hid (H[k]? = some H[k]) := hq
      have hc0 := HM.out.que.cell (j := 0) (f := H[k]) (by rw [List.getElem?_drop, Nat.add_zero]; exact hq)
      rw [Nat.add_zero] at hc0
      generalize H[k] = q at hq HQ hc0
      obtain ⟨v, es, hlk, hes, hent, hen⟩ := ents_of HT.out.1 HM.out.bel HT.out.2 q
      have HES : Hid (es = ((M.find xs q).map (·.ents)).getD []) := hes
      have HEN : Hid (Ents w v.eA v.en es) := hent
      have hfe := fieldE v
      have hn0 : (0 : Int) < (n : Int) := by have h := hn.out; omega
      have hnn : 0 < n := by have h := hn.out; omega
      clear hq hes hent
      go_wp2_with (fail)
      go_loopw [8, 26] (fun u i wq => ∃ (j g' off' c' n' : Nat), i = .int .i64 j ∧ j ≤ v.en ∧ u = .slice (some ⟨g', off', none⟩) n' c' ∧ Hid (n' = (((es.take j).map (·.2)).foldl meetH H).length - k) ∧ WM w bm xs (((es.take j).map (·.2)).foldl meetH H) k g' off' c' wq) (fun _ i _ => v.en - (intOf i).toNat)
      case atStart => exact ⟨0, g, off, c, n, rfl, Nat.zero_le _, rfl, hn, HM.out⟩
      case round =>
        obtain ⟨j, g', off', c', n', rfl, hj, rfl, hn', hwm⟩ := hrel
        have HMJ : Hid (WM w bm xs (((es.take j).map (·.2)).foldl meetH H) k g' off' c' wr) := hwm
        have hbij := (HB.out.step HQ.out es HES.out j).1
        have HPRE : Hid (k < (((es.take j).map (·.2)).foldl meetH H).length) := by
          obtain ⟨S, hS⟩ := foldH_pre ((es.take j).map (·.2)) H
          show k < _
          rw [hS, List.length_append]; omega
        have hlenj := hbij.len
        clear hwm hbij
        by_cases hjl : j < v.en
        · obtain ⟨b, o, e, hvA, _, hej, e0, e1⟩ := Ents.at (HEN.out.below (Nat.le_refl _) HMJ.out.bel) hjl
          have HF : Hid (((es.take (j + 1)).map (·.2)).foldl meetH H = meetH (((es.take j).map (·.2)).foldl meetH H) e.2) := by
            show _ = _
            rw [take_step hej, List.map_append, List.foldl_append]; rfl
          generalize ((es.take j).map (·.2)).foldl meetH H = HJ at HMJ HPRE hlenj HF hn'
          have hwb := HMJ.out.box (.cells #[.string e.1, .int .i64 e.2] 68)
          have hask := had_ask hwb.had e.2
          obtain ⟨ob, hupd, hmm⟩ := had_add hwb.had e.2
          have HWB : Hid (WM w bm xs HJ k g' off' c' (wr.alloc (.cells #[.string e.1, .int .i64 e.2] 68)) ∧ IMap (setBlock (wr.alloc (.cells #[.string e.1, .int .i64 e.2] 68)) w.heap.size ob) w.heap.size (hadF (HJ ++ [e.2]))) := ⟨hwb, hmm⟩
          have hjs : (j : Int) < (v.en : Int) := by omega
          have hj0 : (0 : Int) ≤ (j : Int) := by omega
          clear hwb hmm hej
          by_cases hin : e.2 ∈ HJ
          · have hd : decide (e.2 ∈ HJ) = true := decide_eq_true hin
            rw [hd] at hask
            have HI : Hid (meetH HJ e.2 = HJ) := by show _ = _; unfold meetH; rw [if_pos hin]
            clear hin hd hupd
            go_wp2
            go_roundw
            case rel => exact ⟨j + 1, g', off', c', n', by go_num, by omega, rfl, by rw [HF.out, HI.out]; exact hn', by rw [HF.out, HI.out]; exact HWB.out.1⟩
            case measure => simp [intOf]; omega
          · have hd : decide (e.2 ∈ HJ) = false := decide_eq_false hin
            rw [hd] at hask
            have HI : Hid (meetH HJ e.2 = HJ ++ [e.2]) := by show _ = _; unfold meetH; rw [if_neg hin]
            have hz2 : (setBlock (wr.alloc (.cells #[.string e.1, .int .i64 e.2] 68)) w.heap.size ob).heap.size = wr.heap.size + 1 := by rw [setBlock_size]; simp
            have hwr : w.heap.size < wr.heap.size := HMJ.out.had.lt
            have hcb : (setBlock (wr.alloc (.cells #[.string e.1, .int .i64 e.2] 68)) w.heap.size ob).cell? ⟨wr.heap.size, 1, none⟩ = some (.int .i64 e.2) := by
              have hb2 : (setBlock (wr.alloc (.cells #[.string e.1, .int .i64 e.2] 68)) w.heap.size ob).heap[wr.heap.size]? = some (.cells #[.string e.1, .int .i64 e.2] 68 (0, 0)) := by
                rw [setBlock_other (by omega)]; exact heap_alloc_new wr _
              simp [World.cell?, hb2]
            have HL : Hid (n' = (HJ.drop k).length ∧ (n' + 1) * 8 ≤ 140737488355328) := by
              refine ⟨by rw [List.length_drop]; exact hn'.out, ?_⟩
              have := hn'.out
              omega
            clear hin hd
            go_wp2_with (at_builtin; refine wpList_append_que _ (by rfl) (.tmp 38) (.tmp 41) 44 (by rfl) (w.heap.size + 1) i3 Try.underlying44 hi3 hz3 hs3 hb3 g' off' c' n' (HJ.drop k) HL.out.1 (by rfl) ((HWB.out.1.que.setBlock (by have := HWB.out.1.que.1; omega) ob).alloc _) ⟨wr.heap.size + 1, 0, none⟩ 1 e.2 (by rfl) (cell_new1 _ _ _ _ hz2.symm) (by rw [← HL.out.1]; exact HL.out.2) (by simp [setBlock_size]; omega) ?_; intro g2 off2 c2 W4 hq4 hg4; have HW4 : Hid (WM w bm xs (HJ ++ [e.2]) k g2 off2 c2 W4) := HWB.out.1.add HWB.out.2 (Nat.le_of_lt HPRE.out) hq4 hg4; clear hq4 hg4 hvA)
            go_roundw
            case rel => exact ⟨j + 1, g2, off2, c2, n' + 1, by go_num, by omega, by go_num, (by show n' + 1 = _; rw [HF.out, HI.out, List.length_append]; have h1 := hn'.out; have h2 := HPRE.out; simp; omega), by rw [HF.out, HI.out]; exact HW4.out⟩
            case measure => simp [intOf]; omega
        · have HEJ : Hid (es.take j = es) := by show _ = _; exact List.take_of_length_le (by rw [← HEN.out.1]; omega)
          rw [HEJ.out] at HMJ HPRE hn'
          have HB2 : Hid (BI xs a ((es.map (·.2)).foldl meetH H) (k + 1)) := (HB.out.step HQ.out es HES.out j).2
          generalize (es.map (·.2)).foldl meetH H = HJ at HMJ HPRE HB2 hn'
          have hlen2 := HB2.out.len
          have hjs : ¬ (j : Int) < (v.en : Int) := by omega
          obtain ⟨f0, l0, hl0⟩ : ∃ f0 l0, HJ.drop k = f0 :: l0 := ⟨HJ[k]'HPRE.out, HJ.drop (k + 1), List.drop_eq_getElem_cons HPRE.out⟩
          have hl1 : l0 = HJ.drop (k + 1) := by have h := congrArg List.tail hl0; rw [List.tail_drop] at h; exact h.symm
          have hqq := HMJ.out.que
          rw [hl0] at hqq
          have hn1 : 1 ≤ n' ∧ n' ≤ c' ∧ c' ≤ 9223372036854775807 := by
            have h1 := hn'.out
            have h2 := HPRE.out
            have h3 := HMJ.out.que.2.1
            have h4 := HMJ.out.que.2.2.1
            rw [List.length_drop] at h3
            unfold maxLen at h4
            exact ⟨by omega, by omega, by omega⟩
          obtain ⟨hn1, hn2, hn3⟩ := hn1
          have hn4 : (1 : Int) ≤ (n' : Int) := by omega
          by_cases hc1 : c' = 1
          · subst hc1
            have HQ2 : Hid (Que wr (w.heap.size + 1) g' off' 0 (HJ.drop (k + 1))) := by rw [← hl1]; exact hqq.tail1
            clear hqq hl0 hl1
            go_wp2
            go_roundg ((allF xs).length + 1 - (k + 1))
            case measure => have h2 := HPRE.out; omega
            case rel => exact ⟨HJ, k + 1, g', off', 0, n' - 1, by go_num, (by show n' - 1 = _; have h1 := hn'.out; omega), HPRE.out, Nat.le_refl _, HB2.out, ⟨HMJ.out.bel, HMJ.out.had, HQ2.out⟩⟩
          · have HQ2 : Hid (Que wr (w.heap.size + 1) g' (off' + 1) (c' - 1) (HJ.drop (k + 1))) := by rw [← hl1]; exact hqq.tail
            clear hqq hl0 hl1
            go_wp2
            go_roundg ((allF xs).length + 1 - (k + 1))
            case measure => have h2 := HPRE.out; omega
            case rel => exact ⟨HJ, k + 1, g', off' + 1, c' - 1, n' - 1, by go_num, (by show n' - 1 = _; have h1 := hn'.out; omega), HPRE.out, Nat.le_refl _, HB2.out, ⟨HMJ.out.bel, HMJ.out.had, HQ2.out⟩⟩
end Go.Proofs.Ytlegjdlmcphhlab
