/-
  PLAIN MATHEMATICS of chapter 3: made, and removed.
-/
import Derived.Test.YtlegjdlmcphhlabMathe
import Derived.Test.YtlegjdlmcphhlabRefb
namespace Go.Proofs.Ytlegjdlmcphhlab

/-- of no version -/
def bare (x : M.Nd) : M.Nd := M.withV x 0
theorem bare_alike {x y : M.Nd} (h : bare x = bare y) : sameNd false x y = true := by
  unfold bare M.withV at h
  simp only [M.Nd.mk.injEq] at h
  unfold sameNd alike
  simp [h.1, h.2.1, h.2.2.1, h.2.2.2.1]
theorem find_bare (xs : List M.Nd) (t : Int) : M.find (xs.map bare) t = (M.find xs t).map bare := by
  unfold M.find
  rw [List.find?_map]
  rfl
theorem rs_bare {xs : List M.Nd} (h : M.RsN xs) : M.RsN (xs.map bare) := by
  have e : (xs.map bare).map (·.fid) = xs.map (·.fid) := by rw [List.map_map]; rfl
  unfold M.RsN; rw [e]; exact h
theorem mem_find {xs : List M.Nd} (hr : M.RsN xs) {x : M.Nd} (h : x ∈ xs) : M.find xs x.fid = some x := by
  obtain ⟨i, hi⟩ := List.getElem?_of_mem h
  exact M.find_self hr hi
theorem ext_find {xs ys : List M.Nd} (hx : M.RsN xs) (hy : M.RsN ys) (h : ∀ t, M.find xs t = M.find ys t) : xs = ys := by
  refine rs_ext hx hy fun x => ⟨fun hm => ?_, fun hm => ?_⟩
  · have := mem_find hx hm; rw [h] at this; exact (M.find_mem this).1
  · have := mem_find hy hm; rw [← h] at this; exact (M.find_mem this).1
theorem allB_bare : ∀ {xs ys : List M.Nd}, xs.map bare = ys.map bare → allB (sameNd false) xs ys = true
  | [], [], _ => rfl
  | [], _ :: _, h => by cases h
  | _ :: _, [], h => by cases h
  | x :: xs, y :: ys, h => by
    rw [List.map_cons, List.map_cons] at h
    have h1 := List.cons.inj h
    rw [allB, bare_alike h1.1, allB_bare h1.2]; rfl
/-- alike, if what is found is -/
theorem same_of_find {xs ys : List M.Nd} (hx : M.RsN xs) (hy : M.RsN ys) (h : ∀ t, (M.find xs t).map bare = (M.find ys t).map bare) : allB (sameNd false) xs ys = true :=
  allB_bare (ext_find (rs_bare hx) (rs_bare hy) fun t => by rw [find_bare, find_bare, h])
theorem find_drop_other (xs : List M.Nd) (f t : Int) (h : t ≠ f) : M.find (M.dropN xs f) t = M.find xs t :=
  M.find_filter (fun y : M.Nd => y.fid) xs _ t (fun y _ e => by rw [e]; simp [h])
theorem look_put (es : List (ByteArray × Int)) (s : ByteArray) (f : Int) : M.look (M.putE es (s, f)) s = some (s, f) := M.put_find (fun y : ByteArray × Int => y.1) es M.ordB (s, f)
theorem look_none_ne {es : List (ByteArray × Int)} {s : ByteArray} (h : M.look es s = none) : ∀ e ∈ es, e.1 ≠ s := by
  intro e he
  unfold M.look at h
  rw [List.find?_eq_none] at h
  simpa using h e he
theorem drop_put {es : List (ByteArray × Int)} {s : ByteArray} {f : Int} (hr : M.RsE es) (h : M.look es s = none) : M.dropE (M.putE es (s, f)) s = es :=
  M.put_drop (fun y : ByteArray × Int => y.1) es M.ordB (s, f) hr (look_none_ne h)
theorem bring_inv {xs : List M.Nd} {ac : M.Act} {v : Int} (h : (M.bringS xs ac v).1 = 0) : (M.dirS xs ac.dir).1 = 0 ∧ M.freeS (M.dirS xs ac.dir).2 ac.name = 0 ∧ ¬ (ac.fid = 0 ∨ (M.find xs ac.fid).isSome) ∧ ¬ 24 ≤ xs.length := by
  by_cases h1 : (M.dirS xs ac.dir).1 = 0
  case' neg => rw [bring_dir h1] at h; exact absurd h h1
  by_cases h2 : M.freeS (M.dirS xs ac.dir).2 ac.name = 0
  case' neg => rw [bring_free h1 h2] at h; exact absurd h h2
  by_cases h3 : ac.fid = 0 ∨ (M.find xs ac.fid).isSome
  case' pos => rw [bring_stale h1 h2 h3] at h; simp at h
  by_cases h4 : 24 ≤ xs.length
  case' pos => rw [bring_many h1 h2 h3 h4] at h; simp at h
  exact ⟨h1, h2, h3, h4⟩

/-- made, and removed -/
theorem back {xs : List M.Nd} (hr : M.Rise xs) {ac rc : M.Act} {v u : Int} (h : (M.bringS xs ac v).1 = 0) (hf : rc.fid = ac.fid) (hd : rc.dir = ac.dir) (hn : rc.name = ac.name) :
    (M.removeS (M.bringS xs ac v).2 rc u).1 = 0 ∧ allB (sameNd false) (M.removeS (M.bringS xs ac v).2 rc u).2 xs = true := by
  obtain ⟨h1, h2, h3, h4⟩ := bring_inv h
  rw [bring_ok h1 h2 h3 h4]
  have hD := M.dir_ok h1
  generalize hd0 : (M.dirS xs ac.dir).2 = d at *
  have hfd : d.fid = ac.dir := (M.find_mem hD.1).2
  have hfr := M.free_ok h2
  have hre : M.RsE d.ents := hr.2 d (M.find_mem hD.1).1
  have hff : M.find xs ac.fid = none := by
    cases e : M.find xs ac.fid with
    | none => rfl
    | some y => rw [e] at h3; exact absurd (.inr rfl) h3
  have hne : ac.dir ≠ ac.fid := fun e => by rw [e, hff] at hD; cases hD.1
  generalize hd1 : M.withV (withE d (M.putE d.ents (ac.name, ac.fid))) v = d'
  generalize hn1 : (⟨ac.fid, decide (ac.kind = 2), [], [], v⟩ : M.Nd) = n'
  have e1 : d'.fid = ac.dir := by rw [← hd1]; exact hfd
  have e2 : n'.fid = ac.fid := by rw [← hn1]
  have f1 : M.find (M.putN (M.putN xs d') n') ac.dir = some d' := by rw [findN_other _ _ _ (by rw [e2]; exact hne), ← e1]; exact findN_put _ _
  have f2 : M.find (M.putN (M.putN xs d') n') ac.fid = some n' := by rw [← e2]; exact findN_put _ _
  have hdir : d'.dir = true := by rw [← hd1]; exact hD.2
  have hlk : M.look d'.ents ac.name = some (ac.name, ac.fid) := by rw [← hd1]; exact look_put _ _ _
  have hdp : M.dropE d'.ents ac.name = d.ents := by rw [← hd1]; exact drop_put hre hfr.1
  have hh : M.holdS (M.putN (M.putN xs d') n') rc.dir rc.name rc.fid = (0, d') := by rw [hd, hn, hf]; exact hold_yes (M.dir_yes f1 hdir) hlk rfl
  have hrm := remove_ok (xs := M.putN (M.putN xs d') n') (ac := rc) (v := u) (x := n') (by rw [hh]) (by rw [hf]; exact f2) (by rw [← hn1]; simp)
  rw [hrm]
  refine ⟨rfl, ?_⟩
  rw [hh, hn, hf]
  show allB (sameNd false) (M.dropN (M.putN (M.putN (M.putN xs d') n') (M.withV (withE d' (M.dropE d'.ents ac.name)) u)) ac.fid) xs = true
  rw [hdp]
  generalize hd2 : M.withV (withE d' d.ents) u = d2
  have e3 : d2.fid = ac.dir := by rw [← hd2]; exact e1
  have hb2 : bare d2 = bare d := by rw [← hd2, ← hd1]; rfl
  refine same_of_find (rs_drop _ (rs_put _ (rs_put _ (rs_put _ hr.1)))) hr.1 fun t => ?_
  by_cases t1 : t = ac.fid
  · rw [t1, findN_drop, hff]
  · rw [find_drop_other _ _ _ t1]
    by_cases t2 : t = ac.dir
    · rw [t2, ← e3, findN_put, e3, hD.1, Option.map_some, Option.map_some, hb2]
    · rw [findN_other _ _ _ (by rw [e3]; exact t2), findN_other _ _ _ (by rw [e2]; exact t1), findN_other _ _ _ (by rw [e1]; exact t2)]
end Go.Proofs.Ytlegjdlmcphhlab
