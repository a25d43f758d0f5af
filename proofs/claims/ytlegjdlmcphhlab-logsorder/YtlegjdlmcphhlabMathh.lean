/-
  PLAIN MATHEMATICS of chapter 3: moved, and back.
-/
import Derived.Test.YtlegjdlmcphhlabMathf
namespace Go.Proofs.Ytlegjdlmcphhlab
namespace M
section
variable {K X : Type} {lt : K → K → Bool} (f : X → K)
theorem put_self (o : Ordr lt) (x : X) : ∀ xs : List X, Rs lt (xs.map f) → x ∈ xs → put lt f xs x = xs
  | [], _, h => by cases h
  | y :: ys, hr, h => by
    have hr1 : ∀ z ∈ ys, lt (f y) (f z) = true := fun z hz => (List.pairwise_cons.1 hr).1 (f z) (List.mem_map.2 ⟨z, hz, rfl⟩)
    have hr2 : Rs lt (ys.map f) := (List.pairwise_cons.1 hr).2
    have anti : ∀ a b, lt a b = true → lt b a = false := fun a b hab => by
      cases hba : lt b a
      · rfl
      · have := o.tra _ _ _ hab hba; rw [o.irr] at this; cases this
    unfold put
    rw [List.filter_cons, List.filter_cons]
    rcases List.mem_cons.1 h with rfl | hx
    · rw [o.irr]
      have e1 : ys.filter (fun z => lt (f z) (f x)) = [] := by
        rw [List.filter_eq_nil_iff]
        intro z hz
        rw [anti _ _ (hr1 z hz)]; simp
      have e2 : ys.filter (fun z => lt (f x) (f z)) = ys := by rw [List.filter_eq_self]; exact hr1
      rw [e1, e2]; rfl
    · have ih := put_self o x ys hr2 hx
      unfold put at ih
      rw [if_pos (hr1 x hx), if_neg (by rw [anti _ _ (hr1 x hx)]; simp), List.cons_append, ih]
variable [DecidableEq K]
theorem put_filter (o : Ordr lt) (x : X) (xs : List X) : put lt f (xs.filter fun y => !decide (f y = f x)) x = put lt f xs x := by
  unfold put
  rw [List.filter_filter, List.filter_filter]
  congr 1
  · apply List.filter_congr
    intro y _
    by_cases h : f y = f x
    · rw [h, o.irr]; rfl
    · simp [h]
  · congr 1
    apply List.filter_congr
    intro y _
    by_cases h : f y = f x
    · rw [h, o.irr]; rfl
    · simp [h]
end
theorem put_of_drop {es : List (ByteArray × Int)} {s : ByteArray} {g : Int} (hr : RsE es) (h : look es s = some (s, g)) : putE (dropE es s) (s, g) = es := by
  have h1 := put_filter (fun y : ByteArray × Int => y.1) ordB (s, g) es
  have h2 := put_self (fun y : ByteArray × Int => y.1) ordB (s, g) es hr (List.mem_of_find?_eq_some h)
  rw [h2] at h1
  exact h1
theorem look_drop (es : List (ByteArray × Int)) (s : ByteArray) : look (dropE es s) s = none := find_filter_none (fun y : ByteArray × Int => y.1) es _ s (fun y _ e => by simp [e])
theorem drop_lt {es : List (ByteArray × Int)} {s : ByteArray} {g : Int} (h : look es s = some (s, g)) : (dropE es s).length < es.length := by
  unfold dropE
  have hm : (s, g) ∈ es := List.mem_of_find?_eq_some h
  rcases Nat.lt_or_ge (es.filter fun e => !decide (e.1 = s)).length es.length with h1 | h1
  · exact h1
  · have he := List.filter_eq_self.1 (List.Sublist.eq_of_length_le (List.filter_sublist (l := es)) h1) (s, g) hm
    simp at he
end M
theorem free_yes {x : M.Nd} {s : ByteArray} (h1 : M.look x.ents s = none) (h2 : M.nameB s.data.toList = true) (h3 : x.ents.length < 6) : M.freeS x s = 0 := by
  unfold M.freeS
  rw [h1, h2, if_neg (by simp), if_neg (by omega)]
theorem rename_inv {xs : List M.Nd} {ac : M.Act} {v : Int} (h : (M.renameS xs ac v).1 = 0) : (M.holdS xs ac.dir ac.name ac.fid).1 = 0 ∧ (M.dirS xs ac.to).1 = 0 ∧ M.freeS (M.toS xs ac) ac.toName = 0 ∧ M.find xs ac.fid ≠ none ∧ ¬ M.Reach xs ac.fid ac.to := by
  by_cases h1 : (M.holdS xs ac.dir ac.name ac.fid).1 = 0
  case' neg => rw [rename_hold h1] at h; exact absurd h h1
  by_cases h2 : (M.dirS xs ac.to).1 = 0
  case' neg => rw [rename_dir h1 h2] at h; exact absurd h h2
  by_cases h3 : M.freeS (M.toS xs ac) ac.toName = 0
  case' neg => rw [rename_free h1 h2 h3] at h; exact absurd h h3
  by_cases h4 : M.find xs ac.fid = none
  case' pos => rw [rename_away h1 h2 h3 h4] at h; simp at h
  by_cases h5 : M.Reach xs ac.fid ac.to
  case' pos => rw [rename_loop h1 h2 h3 h4 h5] at h; simp at h
  exact ⟨h1, h2, h3, h4, h5⟩
theorem reach_same {xs ys : List M.Nd} {a : Int} (h : ∀ q, M.Reach xs a q → M.find ys q = M.find xs q) : ∀ q, M.Reach ys a q → M.Reach xs a q := by
  intro q hq
  induction hq with
  | refl => exact .refl
  | step _ hf he ih => exact .step ih (by rw [← h _ ih]; exact hf) he

/-- moved, and back -/
theorem moved {xs : List M.Nd} (hr : M.Rise xs) {ac rc : M.Act} {v u : Int} (h : (M.renameS xs ac v).1 = 0) (hdr : ¬ M.Reach xs ac.fid ac.dir) (hnm : M.nameB ac.name.data.toList = true) (h6 : ∀ x ∈ xs, x.ents.length ≤ 6)
    (r1 : rc.fid = ac.fid) (r2 : rc.dir = ac.to) (r3 : rc.name = ac.toName) (r4 : rc.to = ac.dir) (r5 : rc.toName = ac.name) :
    (M.renameS (M.renameS xs ac v).2 rc u).1 = 0 ∧ allB (sameNd false) (M.renameS (M.renameS xs ac v).2 rc u).2 xs = true := by
  obtain ⟨h1, h2, h3, h4, h5⟩ := rename_inv h
  rw [rename_ok h1 h2 h3 h4 h5]
  obtain ⟨hh1, hh2⟩ := hold_ok h1
  have hD := M.dir_ok (xs := xs) (f := ac.dir) (by rw [hh1])
  rw [hh1] at hD
  have hT := M.dir_ok h2
  have hfrom : M.fromS xs ac = { (M.holdS xs ac.dir ac.name ac.fid).2 with ents := M.dropE (M.holdS xs ac.dir ac.name ac.fid).2.ents ac.name } := rfl
  have htoS : M.toS xs ac = if ac.to = ac.dir then M.fromS xs ac else (M.dirS xs ac.to).2 := rfl
  generalize (M.holdS xs ac.dir ac.name ac.fid).2 = D at *
  generalize (M.dirS xs ac.to).2 = T at *
  have hDf : D.fid = ac.dir := (M.find_mem hD.1).2
  have hDr : M.RsE D.ents := hr.2 D (M.find_mem hD.1).1
  have hD6 : D.ents.length ≤ 6 := h6 D (M.find_mem hD.1).1
  have hTf : T.fid = ac.to := (M.find_mem hT.1).2
  have hTr : M.RsE T.ents := hr.2 T (M.find_mem hT.1).1
  have hdl := M.drop_lt hh2
  have hfr : M.RsE (M.fromS xs ac).ents := by rw [hfrom]; exact drop_rise hDr
  have hfe : (M.fromS xs ac).ents = M.dropE D.ents ac.name := by rw [hfrom]
  have hff : (M.fromS xs ac).fid = ac.dir := by rw [hfrom]; exact hDf
  have hfd : (M.fromS xs ac).dir = true := by rw [hfrom]; exact hD.2
  have hfree := M.free_ok h3
  have htr : M.RsE (M.toS xs ac).ents := by
    rw [htoS]
    split
    · exact hfr
    · exact hTr
  have htf : (M.toS xs ac).fid = ac.to := by
    rw [htoS]
    split
    · rename_i e; rw [hff]; exact e.symm
    · exact hTf
  have htd : (M.toS xs ac).dir = true := by
    rw [htoS]
    split
    · exact hfd
    · exact hT.2
  generalize hF : M.fromS xs ac = F at *
  generalize hS : M.toS xs ac = S at *
  -- what is there behind the first one
  have f1 : M.find (M.putN (M.putN xs (M.withV F v)) (M.withV (withE S (M.putE S.ents (ac.toName, ac.fid))) v)) ac.to = some (M.withV (withE S (M.putE S.ents (ac.toName, ac.fid))) v) := by
    have := findN_put (M.putN xs (M.withV F v)) (M.withV (withE S (M.putE S.ents (ac.toName, ac.fid))) v)
    rw [show (M.withV (withE S (M.putE S.ents (ac.toName, ac.fid))) v).fid = ac.to from htf] at this
    exact this
  have f2 : ac.dir ≠ ac.to → M.find (M.putN (M.putN xs (M.withV F v)) (M.withV (withE S (M.putE S.ents (ac.toName, ac.fid))) v)) ac.dir = some (M.withV F v) := by
    intro hne
    rw [findN_other _ _ _ (by show ac.dir ≠ S.fid; rw [htf]; exact hne)]
    have := findN_put xs (M.withV F v)
    rw [show (M.withV F v).fid = ac.dir from hff] at this
    exact this
  have f3 : ∀ t, t ≠ ac.to → t ≠ ac.dir → M.find (M.putN (M.putN xs (M.withV F v)) (M.withV (withE S (M.putE S.ents (ac.toName, ac.fid))) v)) t = M.find xs t := by
    intro t t1 t2
    rw [findN_other _ _ _ (by show t ≠ S.fid; rw [htf]; exact t1), findN_other _ _ _ (by show t ≠ F.fid; rw [hff]; exact t2)]
  have hrs : M.RsN (M.putN (M.putN xs (M.withV F v)) (M.withV (withE S (M.putE S.ents (ac.toName, ac.fid))) v)) := rs_put _ (rs_put _ hr.1)
  generalize hY : M.putN (M.putN xs (M.withV F v)) (M.withV (withE S (M.putE S.ents (ac.toName, ac.fid))) v) = ys at *
  have hfd1 : ac.fid ≠ ac.dir := fun e => hdr (by rw [e]; exact .refl)
  have hft1 : ac.fid ≠ ac.to := fun e => h5 (by rw [e]; exact .refl)
  have g1 : M.holdS ys rc.dir rc.name rc.fid = (0, M.withV (withE S (M.putE S.ents (ac.toName, ac.fid))) v) := by
    rw [r1, r2, r3]
    exact hold_yes (M.dir_yes f1 htd) (look_put _ _ _) rfl
  have gf : M.fromS ys rc = M.withV (withE S S.ents) v := by
    unfold M.fromS
    rw [g1, r3]
    show M.withV (withE S (M.dropE (M.putE S.ents (ac.toName, ac.fid)) ac.toName)) v = _
    rw [drop_put htr hfree.1]
  have g2 : ∃ y, M.dirS ys rc.to = (0, y) ∧ (ac.to ≠ ac.dir → y = M.withV F v) := by
    rw [r4]
    by_cases e : ac.to = ac.dir
    · have hd' : (M.withV (withE S (M.putE S.ents (ac.toName, ac.fid))) v).dir = true := htd
      exact ⟨_, M.dir_yes (x := M.withV (withE S (M.putE S.ents (ac.toName, ac.fid))) v) (by rw [← e]; exact f1) hd', fun hne => absurd e hne⟩
    · have hd' : (M.withV F v).dir = true := hfd
      exact ⟨_, M.dir_yes (f2 fun h => e h.symm) hd', fun _ => rfl⟩
  obtain ⟨y, g2, g2'⟩ := g2
  have g3 : ∃ z, M.toS ys rc = z ∧ bare z = bare F := by
    unfold M.toS
    rw [r4, r2]
    by_cases e : ac.to = ac.dir
    · rw [if_pos e.symm]
      rw [if_pos e] at htoS
      rw [gf, htoS]
      exact ⟨_, rfl, rfl⟩
    · rw [r4] at g2
      rw [if_neg (fun h => e h.symm), g2, g2' e]
      exact ⟨_, rfl, rfl⟩
  obtain ⟨z, g3, hz⟩ := g3
  have hz' := hz
  unfold bare M.withV at hz'
  simp only [M.Nd.mk.injEq] at hz'
  obtain ⟨zf, zd, zt, ze, _⟩ := hz'
  have hze : z.ents = M.dropE D.ents ac.name := ze.trans hfe
  have g4 : M.freeS z rc.toName = 0 := by
    rw [r5]
    exact free_yes (by rw [hze]; exact M.look_drop _ _) hnm (by rw [hze]; omega)
  have g5 : M.find ys rc.fid ≠ none := by rw [r1, f3 _ hft1 hfd1]; exact h4
  have g6 : ¬ M.Reach ys rc.fid rc.to := by
    rw [r1, r4]
    intro hre
    refine hdr (reach_same (fun q hq => ?_) _ hre)
    exact f3 q (fun e => h5 (e ▸ hq)) (fun e => hdr (e ▸ hq))
  rw [rename_ok (by rw [g1]) (by rw [g2]) (by rw [g3]; exact g4) g5 g6]
  refine ⟨rfl, ?_⟩
  rw [g3, gf, r5, r1, hze, M.put_of_drop hDr hh2]
  have e1 : (M.withV (M.withV (withE S S.ents) v) u).fid = ac.to := htf
  have e2 : (M.withV (withE z D.ents) u).fid = ac.dir := zf.trans hff
  refine same_of_find (rs_put _ (rs_put _ hrs)) hr.1 fun t => ?_
  by_cases t1 : t = ac.dir
  · have hp := findN_put (M.putN ys (M.withV (M.withV (withE S S.ents) v) u)) (M.withV (withE z D.ents) u)
    rw [e2] at hp
    rw [t1, hp, hD.1, Option.map_some, Option.map_some]
    congr 1
    unfold bare M.withV withE
    simp only [M.Nd.mk.injEq, and_true]
    have hFd : F.data = D.data := by rw [hfrom]
    exact ⟨zf.trans (hff.trans hDf.symm), zd.trans (hfd.trans hD.2.symm), zt.trans hFd⟩
  · rw [findN_other _ _ _ (by rw [e2]; exact t1)]
    by_cases t2 : t = ac.to
    · have hne : ac.to ≠ ac.dir := fun e => t1 (t2.trans e)
      have hp := findN_put ys (M.withV (M.withV (withE S S.ents) v) u)
      rw [e1] at hp
      rw [if_neg hne] at htoS
      rw [t2, hp, hT.1, htoS]
      rfl
    · rw [findN_other _ _ _ (by rw [e1]; exact t2), f3 t t2 t1]
end Go.Proofs.Ytlegjdlmcphhlab
