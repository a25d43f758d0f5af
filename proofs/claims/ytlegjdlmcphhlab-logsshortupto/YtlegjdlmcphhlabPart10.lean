/- TEXTS LAID TOGETHER: Mathp, Mathq, Refe, Refx, With, Refc -/
import Derived.Test.YtlegjdlmcphhlabPart6
import Derived.Test.YtlegjdlmcphhlabPart9
import Derived.Test.YtlegjdlmcphhlabPart7
import Derived.Test.YtlegjdlmcphhlabPart8
import Derived.Test.YtlegjdlmcphhlabPart5
/-
  PLAIN MATHEMATICS: an act makes at most one entry more.
-/
namespace Go.Proofs.Ytlegjdlmcphhlab
open M

/-- how many entries there are in all -/
def cnt (xs : List Nd) : Nat := (allF xs).length
theorem cnt_nil : cnt [] = 0 := rfl
theorem cnt_cons (x : Nd) (xs : List Nd) : cnt (x :: xs) = x.ents.length + cnt xs := by unfold cnt allF; rw [List.flatMap_cons, List.length_append, List.length_map]
theorem cnt_append (xs ys : List Nd) : cnt (xs ++ ys) = cnt xs + cnt ys := by unfold cnt allF; rw [List.flatMap_append, List.length_append]
theorem cnt_filter_le (p : Nd → Bool) : ∀ xs : List Nd, cnt (xs.filter p) ≤ cnt xs
  | [] => Nat.le_refl _
  | x :: xs => by
    have ih := cnt_filter_le p xs
    rw [cnt_cons, List.filter_cons]
    split
    · rw [cnt_cons]; omega
    · omega
theorem cnt_mem {xs : List Nd} {x : Nd} (h : x ∈ xs) : x.ents.length ≤ cnt xs := by
  induction xs with
  | nil => cases h
  | cons y ys ih =>
    rw [cnt_cons]
    rcases List.mem_cons.1 h with h | h
    · subst h; omega
    · have := ih h; omega
theorem ltI_no (a : Int) : ltI a a = false := by simp [ltI]
theorem ltI_asym {a b : Int} (h : ltI a b = true) : ltI b a = false := by
  simp only [ltI, decide_eq_true_eq] at h
  simp only [ltI, decide_eq_false_iff_not]
  omega
theorem cnt_two (k : Int) : ∀ xs : List Nd, cnt (xs.filter fun y => ltI y.fid k) + cnt (xs.filter fun y => ltI k y.fid) ≤ cnt xs
  | [] => Nat.le_refl _
  | x :: xs => by
    have ih := cnt_two k xs
    rw [cnt_cons, List.filter_cons, List.filter_cons]
    cases h1 : ltI x.fid k
    · cases h2 : ltI k x.fid
      · simp only [Bool.false_eq_true, if_false]; omega
      · simp only [Bool.false_eq_true, if_false, if_true]; rw [cnt_cons]; omega
    · rw [ltI_asym h1]
      simp only [Bool.false_eq_true, if_false, if_true]; rw [cnt_cons]; omega
theorem cnt_three (k : Int) : ∀ {xs : List Nd} {y : Nd}, y ∈ xs → y.fid = k → cnt (xs.filter fun y => ltI y.fid k) + cnt (xs.filter fun y => ltI k y.fid) + y.ents.length ≤ cnt xs
  | [], y, h, _ => by cases h
  | x :: xs, y, h, hk => by
    rw [cnt_cons, List.filter_cons, List.filter_cons]
    by_cases hxk : x.fid = k
    · rw [hxk, ltI_no]
      simp only [Bool.false_eq_true, if_false]
      rcases List.mem_cons.1 h with h | h
      · subst h; have := cnt_two k xs; omega
      · have := cnt_three k h hk; omega
    · have hyx : y ∈ xs := by
        rcases List.mem_cons.1 h with h | h
        · subst h; exact absurd hk hxk
        · exact h
      have ih := cnt_three k hyx hk
      cases h1 : ltI x.fid k
      · cases h2 : ltI k x.fid
        · simp only [Bool.false_eq_true, if_false]; omega
        · simp only [Bool.false_eq_true, if_false, if_true]; rw [cnt_cons]; omega
      · rw [ltI_asym h1]
        simp only [Bool.false_eq_true, if_false, if_true]; rw [cnt_cons]; omega
theorem putN_eq (xs : List Nd) (x : Nd) : putN xs x = xs.filter (fun y => ltI y.fid x.fid) ++ x :: xs.filter (fun y => ltI x.fid y.fid) := rfl
/-- in the place of one with no fewer entries, but for k -/
theorem cnt_put {xs : List Nd} {x y : Nd} {k : Nat} (hy : find xs x.fid = some y) (h : x.ents.length ≤ y.ents.length + k) : cnt (putN xs x) ≤ cnt xs + k := by
  have := cnt_three x.fid (find_mem hy).1 (find_mem hy).2
  rw [putN_eq, cnt_append, cnt_cons]
  omega
theorem cnt_put0 (xs : List Nd) {x : Nd} (h : x.ents = []) : cnt (putN xs x) ≤ cnt xs := by
  have := cnt_two x.fid xs
  rw [putN_eq, cnt_append, cnt_cons, h]
  simp only [List.length_nil]
  omega
theorem cnt_bring {xs : List Nd} (ac : M.Act) (v : Int) : cnt (M.bringS xs ac v).2 ≤ cnt xs + 1 := by
  by_cases h1 : (M.dirS xs ac.dir).1 = 0
  case' neg => rw [bring_dir h1]; exact Nat.zero_le _
  by_cases h2 : M.freeS (M.dirS xs ac.dir).2 ac.name = 0
  case' neg => rw [bring_free h1 h2]; exact Nat.zero_le _
  by_cases h3 : ac.fid = 0 ∨ (M.find xs ac.fid).isSome
  case' pos => rw [bring_stale h1 h2 h3]; exact Nat.zero_le _
  by_cases h4 : 24 ≤ xs.length
  case' pos => rw [bring_many h1 h2 h3 h4]; exact Nat.zero_le _
  rw [bring_ok h1 h2 h3 h4]
  have hd := M.dir_ok h1
  have e1 : (M.dirS xs ac.dir).2.fid = ac.dir := (M.find_mem hd.1).2
  refine Nat.le_trans (cnt_put0 _ rfl) (cnt_put (y := (M.dirS xs ac.dir).2) ?_ (M.putE_len _ _))
  show M.find xs (M.dirS xs ac.dir).2.fid = _
  rw [e1]; exact hd.1
theorem cnt_store {xs : List Nd} (ac : M.Act) (v : Int) : cnt (M.storeS xs ac v).2 ≤ cnt xs + 1 := by
  unfold M.storeS
  cases hx : M.find xs ac.fid with
  | none => exact Nat.zero_le _
  | some x =>
    simp only
    split
    · exact Nat.zero_le _
    · split
      · exact Nat.zero_le _
      · refine cnt_put (y := x) ?_ (Nat.le_succ _)
        show M.find xs x.fid = _
        rw [(M.find_mem hx).2]; exact hx
theorem cnt_remove {xs : List Nd} (ac : M.Act) (v : Int) : cnt (M.removeS xs ac v).2 ≤ cnt xs + 1 := by
  by_cases h1 : (M.holdS xs ac.dir ac.name ac.fid).1 = 0
  case' neg => rw [remove_hold h1]; exact Nat.zero_le _
  cases hx : M.find xs ac.fid with
  | none => rw [remove_away h1 hx]; exact Nat.zero_le _
  | some x =>
    by_cases he : 0 < x.ents.length
    case' pos => rw [remove_full h1 hx he]; exact Nat.zero_le _
    rw [remove_ok h1 hx he]
    have ho := hold_ok h1
    have hd := M.dir_ok (xs := xs) (f := ac.dir) (by rw [ho.1])
    rw [ho.1] at hd
    refine Nat.le_trans (cnt_filter_le _ _) (cnt_put (y := (M.holdS xs ac.dir ac.name ac.fid).2) ?_ ?_)
    · show M.find xs (M.holdS xs ac.dir ac.name ac.fid).2.fid = _
      rw [(M.find_mem hd.1).2]; exact hd.1
    · exact Nat.le_trans (List.length_filter_le _ _) (Nat.le_succ _)
theorem cnt_rename {xs : List Nd} (h : Good xs) (ac : M.Act) (v : Int) : cnt (M.renameS xs ac v).2 ≤ cnt xs + 1 := by
  by_cases h1 : (M.holdS xs ac.dir ac.name ac.fid).1 = 0
  case' neg => rw [rename_hold h1]; exact Nat.zero_le _
  by_cases h2 : (M.dirS xs ac.to).1 = 0
  case' neg => rw [rename_dir h1 h2]; exact Nat.zero_le _
  by_cases h3 : M.freeS (M.toS xs ac) ac.toName = 0
  case' neg => rw [rename_free h1 h2 h3]; exact Nat.zero_le _
  by_cases h4 : M.find xs ac.fid = none
  case' pos => rw [rename_away h1 h2 h3 h4]; exact Nat.zero_le _
  by_cases h5 : M.Reach xs ac.fid ac.to
  case' pos => rw [rename_loop h1 h2 h3 h4 h5]; exact Nat.zero_le _
  rw [rename_ok h1 h2 h3 h4 h5]
  have hf := from_good h h1
  have ht := to_good h h1 h2
  have c1 : cnt (M.putN xs (M.withV (M.fromS xs ac) v)) ≤ cnt xs + 0 := cnt_put (y := (M.holdS xs ac.dir ac.name ac.fid).2) hf.1 (List.length_filter_le _ _)
  refine Nat.le_trans ?_ (Nat.add_le_add_right c1 1)
  have e0 : (M.withV (withE (M.toS xs ac) (M.putE (M.toS xs ac).ents (ac.toName, ac.fid))) v).fid = ac.to := ht.2.1
  by_cases e : ac.to = ac.dir
  · refine cnt_put (y := M.withV (M.fromS xs ac) v) ?_ ?_
    · have e1 : (M.withV (M.fromS xs ac) v).fid = ac.to := hf.2.1.trans e.symm
      rw [e0, ← e1]
      exact M.put_find (fun y : Nd => y.fid) xs M.ordI (M.withV (M.fromS xs ac) v)
    · have e2 : M.toS xs ac = M.fromS xs ac := by unfold M.toS; rw [if_pos e]
      rw [e2]
      exact M.putE_len _ _
  · have hd := M.dir_ok h2
    have e2 : M.toS xs ac = (M.dirS xs ac.to).2 := by unfold M.toS; rw [if_neg e]
    refine cnt_put (y := (M.dirS xs ac.to).2) ?_ ?_
    · rw [e0]
      have := M.put_find_other (fun y : Nd => y.fid) xs M.ordI (M.withV (M.fromS xs ac) v) ac.to (by show ac.to ≠ (M.fromS xs ac).fid; rw [hf.2.1]; exact e)
      unfold M.find M.putN at *
      rw [this]; exact hd.1
    · rw [e2]
      exact M.putE_len _ _
theorem cnt_apply {xs : List Nd} (h : Good xs) (ac : M.Act) (v : Int) : cnt (M.applyS xs ac v).2 ≤ cnt xs + 1 := by
  unfold M.applyS
  split
  · exact cnt_bring ac v
  · split
    · exact cnt_store ac v
    · split
      · exact cnt_remove ac v
      · split
        · exact cnt_rename h ac v
        · exact Nat.zero_le _
/-- a tree that is fit for all that is asked of it -/
def Fit (xs : List Nd) (N : Nat) : Prop := Good xs ∧ cnt xs ≤ N
theorem Fit.next {xs : List Nd} {N : Nat} (h : Fit xs N) (ac : M.Act) (v : Int) : Fit (M.applyS xs ac v).2 (N + 1) := ⟨good_apply h.1 ac v, Nat.le_trans (cnt_apply h.1 ac v) (Nat.add_le_add_right h.2 1)⟩
theorem Fit.mono {xs : List Nd} {N N' : Nat} (h : Fit xs N) (hn : N ≤ N') : Fit xs N' := ⟨h.1, Nat.le_trans h.2 hn⟩
theorem Fit.wide {xs : List Nd} {N : Nat} (h : Fit xs N) (hN : N ≤ 4000000) : (∀ x ∈ xs, (x.ents.length + 1) * 24 ≤ 140737488355328) ∧ ((allF xs).length + 2) * 8 ≤ 140737488355328 := by
  have h2 : (allF xs).length ≤ N := h.2
  refine ⟨fun x hx => ?_, by omega⟩
  have := cnt_mem hx
  have := h.2
  omega
end Go.Proofs.Ytlegjdlmcphhlab
/-
  PLAIN MATHEMATICS of chapter 4: SHORT IS ENOUGH, whatever versions the nodes had.
-/
namespace Go.Proofs.Ytlegjdlmcphhlab
open M

theorem bare_back {xs : List Nd} {a : M.Act} (h : (applyS (xs.map bare) a 0).1 = 0) : (applyS xs a 0).1 = 0 := by
  have c := bare_coat
  rcases apply_cases h with ⟨hm, h3, h5, e⟩ | ⟨h3, e⟩ | ⟨h4, e⟩ | ⟨h5, e⟩
  · have e2 : applyS xs a 0 = bringS xs a 0 := by unfold makeB at hm; unfold applyS; rw [if_pos (by simpa using hm)]
    rw [e] at h; rw [e2]
    obtain ⟨h1, h2, h3, h4⟩ := bring_inv h
    obtain ⟨d1, d2⟩ := coat_dir c xs a.dir
    rw [d1] at h1
    rw [d2 h1, coat_free c] at h2
    rw [find_map c.fid] at h3
    rw [bring_ok h1 h2 (by simpa using h3) (by simpa using h4)]
  · have e2 : applyS xs a 0 = storeS xs a 0 := by unfold applyS; rw [if_neg (by omega), if_pos h3]
    rw [e] at h; rw [e2]
    obtain ⟨x, hx, hd, hl, e3⟩ := store_inv h
    rw [find_map c.fid] at hx
    obtain ⟨y, hy, rfl⟩ := Option.map_eq_some_iff.1 hx
    rw [store_yes hy (by rw [← c.dir]; exact hd) hl]
  · have e2 : applyS xs a 0 = removeS xs a 0 := by unfold applyS; rw [if_neg (by omega), if_neg (by omega), if_pos h4]
    rw [e] at h; rw [e2]
    obtain ⟨h1, x, hx, he⟩ := remove_inv h
    obtain ⟨d1, d2⟩ := coat_hold c xs a.dir a.name a.fid
    rw [find_map c.fid] at hx
    obtain ⟨y, hy, rfl⟩ := Option.map_eq_some_iff.1 hx
    rw [remove_ok (by rw [← d1]; exact h1) hy (by rw [← c.ents]; exact he)]
  · have e2 : applyS xs a 0 = renameS xs a 0 := by unfold applyS; rw [if_neg (by omega), if_neg (by omega), if_neg (by omega), if_pos h5]
    rw [e] at h; rw [e2]
    obtain ⟨h1, h2, h3, h4, h5⟩ := rename_inv h
    obtain ⟨d1, d2⟩ := coat_hold c xs a.dir a.name a.fid
    obtain ⟨t1, t2⟩ := coat_dir c xs a.to
    rw [d1] at h1
    rw [t1] at h2
    have et : (toS (xs.map bare) a).ents = (toS xs a).ents := by
      unfold toS fromS
      by_cases e : a.to = a.dir
      · rw [if_pos e, if_pos e]
        show dropE _ _ = dropE _ _
        rw [d2 h1, c.ents]
      · rw [if_neg e, if_neg e, t2 h2, c.ents]
    have hfr : freeS (toS (xs.map bare) a) a.toName = freeS (toS xs a) a.toName := by unfold freeS; rw [et]
    rw [hfr] at h3
    rw [find_map c.fid] at h4
    rw [coat_reach c] at h5
    rw [rename_ok h1 h2 h3 (by simpa using h4) h5]
theorem runS_back : ∀ {bs : List M.Act} {xs zs : List Nd}, runS (xs.map bare) bs = some zs → ∃ ys, runS xs bs = some ys ∧ ys.map bare = zs
  | [], xs, zs, h => by rw [runS] at h; cases h; exact ⟨xs, rfl, rfl⟩
  | a :: bs, xs, zs, h => by
    obtain ⟨h1, h2⟩ := run_cons h
    have h3 := bare_back h1
    obtain ⟨_, c2⟩ := coat_apply bare_coat (fun _ _ _ => rfl) h3
    rw [c2] at h2
    obtain ⟨ys, h4, h5⟩ := runS_back h2
    exact ⟨ys, by rw [run_of h3]; exact h4, h5⟩
theorem good_bare {xs : List Nd} (h : Good xs) : Good (xs.map bare) := by
  refine ⟨⟨rs_bare h.1.1, fun x hx => ?_⟩, fun x hx => ?_, by rw [List.length_map]; exact h.2.2⟩
  · obtain ⟨y, hy, rfl⟩ := List.mem_map.1 hx; exact h.1.2 y hy
  · obtain ⟨y, hy, rfl⟩ := List.mem_map.1 hx; exact h.2.1 y hy
/-- what holds of tree and log behind some acts -/
structure LogOf (X T : List Nd) (log : List Rec) : Prop where
  run : runS (X.map bare) (log.map (·.act)) = some (T.map bare)
  own : ∀ y ∈ log, makeB y.act = true → y.act.fid < 0
  small : ∀ y ∈ log, SmallA y.act
theorem LogOf.nil (X : List Nd) : LogOf X X [] := ⟨rfl, (fun _ h => by cases h), (fun _ h => by cases h)⟩
theorem add_mem {log : List Rec} {r y : Rec} (h : y ∈ (addS log r).2) : y ∈ log ∨ y = r := by
  unfold addS at h
  split at h
  · exact .inl (List.mem_filter.1 h).1
  · split at h
    · cases h
    · rcases List.mem_append.1 h with h | h
      · exact .inl (List.mem_filter.1 h).1
      · exact .inr (List.mem_singleton.1 h)
theorem LogOf.next {X T : List Nd} {log : List Rec} {r : Rec} (h : LogOf X T log) (hg : Good X) (hX : ∀ x ∈ X, 0 ≤ x.fid) (hr : makeB r.act = true → r.act.fid < 0) (hs : SmallA r.act) (hap : (applyS T r.act 0).1 = 0) (hadd : (addS log r).1 = 0) : LogOf X (applyS T r.act 0).2 (addS log r).2 := by
  obtain ⟨c1, c2⟩ := coat_apply bare_coat (fun _ _ _ => rfl) hap
  refine ⟨?_, fun y hy => ?_, fun y hy => ?_⟩
  · rw [← c2]
    refine short_step (good_bare hg) (fun x hx => ?_) (fun x hx => ?_) h.own h.run c1 ?_
    · obtain ⟨y, _, rfl⟩ := List.mem_map.1 hx; rfl
    · obtain ⟨y, hy, rfl⟩ := List.mem_map.1 hx; exact hX y hy
    · rw [← hadd]
  · rcases add_mem hy with h1 | h1
    · exact h.own y h1
    · rw [h1]; exact hr
  · rcases add_mem hy with h1 | h1
    · exact h.small y h1
    · rw [h1]; exact hs
theorem add_len (log : List Rec) (r : Rec) : (addS log r).2.length ≤ log.length + 1 := by
  unfold addS
  split
  · exact Nat.le_trans (List.length_filter_le _ _) (Nat.le_succ _)
  · split
    · exact Nat.zero_le _
    · rw [List.length_append]; exact Nat.add_le_add_right (List.length_filter_le _ _) 1
/-- of a list, one behind the other -/
def ofS (xs : List Nd) : List Nd := xs.foldl putN []
theorem ofS_snoc (xs : List Nd) (x : Nd) : ofS (xs ++ [x]) = putN (ofS xs) x := by unfold ofS; rw [List.foldl_append]; rfl
theorem ofS_find {xs : List Nd} (hr : RsN xs) : ∀ k t, find (ofS (xs.take k)) t = find (xs.take k) t
  | 0, t => rfl
  | k + 1, t => by
    rcases Nat.lt_or_ge k xs.length with h | h
    · have h1 := rs_takeN (k + 1) hr
      rw [List.take_succ_eq_append_getElem h] at h1 ⊢
      rw [ofS_snoc, findN_if, find_snoc h1, ofS_find hr k t]
    · rw [List.take_of_length_le (by omega)]
      have := ofS_find hr k t
      rw [List.take_of_length_le h] at this
      exact this
theorem ofS_all {xs : List Nd} (hr : RsN xs) (t : Int) : find (ofS xs) t = find xs t := by
  have := ofS_find hr xs.length t
  rw [List.take_length] at this
  exact this
end Go.Proofs.Ytlegjdlmcphhlab
/-
  THE REFERENCE's Entry.
-/
namespace Go.Proofs.Ytlegjdlmcphhlab
open Go.RowKit

theorem look_none {es : List (ByteArray × Int)} {s : ByteArray} {k : Nat} (h : ∀ e ∈ es.take k, e.1 ≠ s) (hk : es.length ≤ k) : M.look es s = none := by
  rw [List.take_of_length_le hk] at h
  unfold M.look
  rw [List.find?_eq_none]
  intro e he
  simpa using h e he
theorem look_some {es : List (ByteArray × Int)} {s : ByteArray} {k : Nat} {a : ByteArray × Int} (h : ∀ e ∈ es.take k, e.1 ≠ s) (ha : es[k]? = some a) (hs : a.1 = s) : M.look es s = some a := by
  unfold M.look
  obtain ⟨hi, hx⟩ := List.getElem?_eq_some_iff.1 ha
  rw [List.find?_eq_some_iff_getElem]
  refine ⟨by simpa using hs, k, hi, hx, fun j hj => ?_⟩
  have := h es[j] (List.mem_take_iff_getElem.2 ⟨j, by omega, rfl⟩)
  simpa using this

set_option maxHeartbeats 2000000 in
theorem refEntry_any (v : NV) (x : M.Nd) (s : ByteArray) (w : World) (hc : Cont w v x) (hs : Small x) :
    Calls Try.prog 52 #[v.val, .string s] w fun e w' => e = .returned (.tuple #[.int .i64 (((M.look x.ents s).map (·.2)).getD 0), .bool (M.look x.ents s).isSome]) ∧ Below w.heap.size w w' := by
  have hwa : Below w.heap.size w (w.alloc (.cells #[.int .i64 v.fid, .bool v.dir, .slice v.dA v.dn v.dc, .slice v.eA v.en v.ec, .int .i64 v.ver] 40)) := (Below.refl _ _).alloc (Nat.le_refl _) _
  have HB : Hid (Box (w.alloc (.cells #[.int .i64 v.fid, .bool v.dir, .slice v.dA v.dn v.dc, .slice v.eA v.en v.ec, .int .i64 v.ver] 40)) w.heap.size v) := Box.new w v
  have HC : Hid (Cont w v x ∧ Small x) := ⟨hc, hs⟩
  have hen : v.en ≤ 140737488355328 := by have := hc.2.2.2.2.1; have := hs.2; omega
  have HL : Hid (v.en = x.ents.length) := hc.2.2.2.2.1
  clear hc hs
  go_enter Try.func52, Try.ntmps52
  go_wp2
  go_loopw [11] (fun i wr => ∃ k : Nat, k ≤ v.en ∧ i = .int .i64 k ∧ Hid (∀ e ∈ x.ents.take k, e.1 ≠ s) ∧ Box wr w.heap.size v ∧ Below w.heap.size w wr) (fun i _ => v.en - (intOf i).toNat)
  case atStart => exact ⟨0, Nat.zero_le _, rfl, (by intro e he; simp at he), HB.out, hwa⟩
  case round =>
    obtain ⟨k, hk, rfl, HE, hbx, hb⟩ := hrel
    have HBX : Hid (Box wr w.heap.size v) := hbx
    obtain ⟨p0, p1, p2, p3, p4, pf, pz⟩ := hbx.facts
    clear hbx p0 p1 p2 p4
    have hsz := hb.size
    by_cases hlt : k < v.en
    · obtain ⟨g, o, ⟨nm, fd⟩, ha, _, hak, a0, a1⟩ := Ents.at (HC.out.1.2.2.2.2.below (Nat.le_refl _) hb) hlt
      have HA : Hid (x.ents[k]? = some (nm, fd)) := hak
      dsimp only at a0 a1
      have hkn : (k : Int) < (v.en : Int) := by omega
      have hk0 : (0 : Int) ≤ (k : Int) := by omega
      have hba : Below wr.heap.size wr (wr.alloc (.cells #[.string nm, .int .i64 fd] 68)) := (Below.refl _ _).alloc (Nat.le_refl _) _
      have HR : Hid (Box (wr.alloc (.cells #[.string nm, .int .i64 fd] 68)) w.heap.size v ∧ Below w.heap.size w (wr.alloc (.cells #[.string nm, .int .i64 fd] 68))) := ⟨HBX.out.alloc _, hb.trans (hba.mono hsz)⟩
      clear hak hba p3
      by_cases hse : nm = s
      · have q : (nm.toList == s.toList) = true := by rw [raw_eq]; exact decide_eq_true hse
        have HSE : Hid (nm = s) := hse
        clear hse
        go_wp2
        go_ret2
        rw [look_some HE.out HA.out HSE.out]
        exact ⟨rfl, HR.out.2⟩
      · have q : (nm.toList == s.toList) = false := by rw [raw_eq]; exact decide_eq_false hse
        have HSE : Hid (nm ≠ s) := hse
        clear hse
        go_wp2
        go_roundw
        case rel => exact ⟨k + 1, by omega, by go_num, by intro e he; rw [take_step HA.out] at he; rcases List.mem_append.1 he with h1 | h1; exact HE.out e h1; rw [List.mem_singleton.1 h1]; exact HSE.out, HR.out.1, HR.out.2⟩
        case measure => simp [intOf]; omega
    · have HN : Hid (x.ents.length ≤ k) := by have := HL.out; show _ ≤ _; omega
      go_wp2
      go_ret2
      rw [look_none HE.out HN.out]
      exact ⟨rfl, hb⟩
end Go.Proofs.Ytlegjdlmcphhlab
/-
  THE REFERENCE's dir, room, and what sets a version.
-/
namespace Go.Proofs.Ytlegjdlmcphhlab
open Go.RowKit

set_option maxRecDepth 4000 in
set_option maxHeartbeats 1000000 in
theorem refDir_any (bm : Nat) (xs : List M.Nd) (t : Int) (w : World) (ht : TMap w bm xs) :
    Calls Try.prog 48 #[.map (some bm), .int .i64 t] w fun e w' => ∃ v : NV, e = .returned (.tuple #[v.val, .int .i64 (M.dirS xs t).1]) ∧ ((M.dirS xs t).1 = 0 → Cont w' v (M.dirS xs t).2) ∧ Below w.heap.size w w' := by
  obtain ⟨f, hi, ha⟩ := ht
  have hlk := run_lookup_map 35 40 Try.underlying35 (zero26 (w.alloc (.cells #[.int .i64 0, .bool false, .slice none 0 0, .slice none 0 0, .int .i64 0] 40))) (hi.below (Nat.le_refl _) ((Below.refl _ _).alloc (Nat.le_refl _) (.cells #[.int .i64 0, .bool false, .slice none 0 0, .slice none 0 0, .int .i64 0] 40))) t true
  rcases ha t with ⟨h1, hf⟩ | ⟨v, x, h1, hf, hcx⟩
  · rw [h1] at hlk
    simp only [if_true, Option.getD_none, Option.isSome_none] at hlk
    have HD : Hid (M.dirS xs t = (12, nd0)) := M.dir_none hf
    clear hf hi ha h1
    go_enter Try.func48, Try.ntmps48
    go_wp2
    exact bodyPost_ret (v := .tuple #[NV.zero.val, .int .i64 12]) (by simp [results, Try.results48, go_sem, NV.zero]) rfl ⟨NV.zero, by rw [HD.out], fun h => by rw [HD.out] at h; simp at h, ((Below.refl _ _).alloc (Nat.le_refl _) _).alloc (by simp) _⟩
  · rw [h1] at hlk
    simp only [if_true, Option.getD_some, Option.isSome_some] at hlk
    clear hi ha h1
    obtain ⟨fi, di, dA, dn, dc, eA, en, ec, ve⟩ := v
    cases di
    · have HD : Hid (M.dirS xs t = (8, nd0)) := M.dir_file hf hcx.2.1.symm
      clear hf hcx
      go_enter Try.func48, Try.ntmps48
      go_wp2
      exact bodyPost_ret (v := .tuple #[NV.val ⟨fi, false, dA, dn, dc, eA, en, ec, ve⟩, .int .i64 8]) (by simp [results, Try.results48, go_sem]) rfl ⟨⟨fi, false, dA, dn, dc, eA, en, ec, ve⟩, by rw [HD.out], fun h => by rw [HD.out] at h; simp at h, ((Below.refl _ _).alloc (Nat.le_refl _) _).alloc (by simp) _⟩
    · have HD : Hid (M.dirS xs t = (0, x)) := M.dir_yes hf hcx.2.1.symm
      have HC : Hid (Cont w ⟨fi, true, dA, dn, dc, eA, en, ec, ve⟩ x) := hcx
      clear hf hcx
      go_enter Try.func48, Try.ntmps48
      go_wp2
      exact bodyPost_ret (v := .tuple #[NV.val ⟨fi, true, dA, dn, dc, eA, en, ec, ve⟩, .int .i64 0]) (by simp [results, Try.results48, go_sem]) rfl ⟨⟨fi, true, dA, dn, dc, eA, en, ec, ve⟩, by rw [HD.out], fun _ => by rw [HD.out]; exact HC.out.below (Nat.le_refl _) (((Below.refl _ _).alloc (Nat.le_refl _) _).alloc (by simp) _), ((Below.refl _ _).alloc (Nat.le_refl _) _).alloc (by simp) _⟩

set_option maxHeartbeats 1000000 in
theorem refRoom_any (v : NV) (x : M.Nd) (s : ByteArray) (w : World) (hc : Cont w v x) (hs : Small x) (hl : s.size ≤ maxLen) :
    Calls Try.prog 49 #[v.val, .string s] w fun e w' => e = .returned (.int .i64 (M.freeS x s)) ∧ Below w.heap.size w w' := by
  have HT : Hid (Cont w v x ∧ Small x ∧ s.size ≤ maxLen) := ⟨hc, hs, hl⟩
  have HW : Hid (Below w.heap.size w (w.alloc (.cells #[.int .i64 v.fid, .bool v.dir, .slice v.dA v.dn v.dc, .slice v.eA v.en v.ec, .int .i64 v.ver] 40)) ∧ Box (w.alloc (.cells #[.int .i64 v.fid, .bool v.dir, .slice v.dA v.dn v.dc, .slice v.eA v.en v.ec, .int .i64 v.ver] 40)) w.heap.size v) := ⟨(Below.refl _ _).alloc (Nat.le_refl _) _, Box.new w v⟩
  clear hc hs hl
  go_enter Try.func49, Try.ntmps49
  go_wp2_with (fail)
  refine (refEntry_any v x s _ (HT.out.1.below (Nat.le_refl _) HW.out.1) HT.out.2.1).mono ?_
  rintro e w1 ⟨rfl, hb1⟩
  have HB : Hid (Below w.heap.size w w1 ∧ Box w1 w.heap.size v) := ⟨HW.out.1.trans (hb1.mono (by simp)), HW.out.2.below hb1 (by simp)⟩
  have HEN : Hid (v.en = x.ents.length) := HT.out.1.2.2.2.2.1
  obtain ⟨b, hbe⟩ : ∃ b : Bool, (M.look x.ents s).isSome = b := ⟨_, rfl⟩
  have HU : Hid (M.freeS x s = if b || !M.nameB s.data.toList then 7 else if 6 ≤ x.ents.length then 5 else 0) := by show _ = _; unfold M.freeS; rw [hbe]
  rw [hbe]
  generalize ((M.look x.ents s).map (·.2)).getD 0 = f
  clear hb1 HW hbe
  obtain ⟨z0, z1, z2, z3, z4, zf, zz⟩ := HB.out.2.facts
  cases b
  · cases hnb : M.nameB s.data.toList
    · have HV : Hid ((7 : Int) = M.freeS x s) := by show _ = _; rw [HU.out, hnb]; rfl
      go_wp2_with (go_at_call 15; refine (refName_any s _ HT.out.2.2).mono ?_; rintro e w2 ⟨rfl, hw⟩; rw [hw, hnb]; clear hw)
      go_ret
      exact ⟨ret_int HV.out, HB.out.1⟩
    · by_cases h6 : 6 ≤ v.en
      · have HV : Hid ((5 : Int) = M.freeS x s) := by show _ = _; rw [HU.out, hnb, ← HEN.out, if_neg (by simp), if_pos h6]
        have h6' : (6 : Int) ≤ (v.en : Int) := by omega
        go_wp2_with (go_at_call 15; refine (refName_any s _ HT.out.2.2).mono ?_; rintro e w2 ⟨rfl, hw⟩; rw [hw, hnb]; clear hw)
        go_ret
        exact ⟨ret_int HV.out, HB.out.1⟩
      · have HV : Hid ((0 : Int) = M.freeS x s) := by show _ = _; rw [HU.out, hnb, ← HEN.out, if_neg (by simp), if_neg h6]
        have h6' : ¬ (6 : Int) ≤ (v.en : Int) := by omega
        go_wp2_with (go_at_call 15; refine (refName_any s _ HT.out.2.2).mono ?_; rintro e w2 ⟨rfl, hw⟩; rw [hw, hnb]; clear hw)
        go_ret
        exact ⟨ret_int HV.out, HB.out.1⟩
  · have HV : Hid ((7 : Int) = M.freeS x s) := by show _ = _; rw [HU.out]; rfl
    go_wp2_with (fail)
    go_ret
    exact ⟨ret_int HV.out, HB.out.1⟩

theorem refVer_any (v : NV) (p : Nat) (ver : Int) (w : World) (hp : w.cell? ⟨p, 0, none⟩ = some (.int .i64 ver)) :
    Calls Try.prog 47 #[v.val, .pointer (some ⟨p, 0, none⟩)] w fun e w' => e = .returned (NV.val ⟨v.fid, v.dir, v.dA, v.dn, v.dc, v.eA, v.en, v.ec, ver⟩) ∧ Below w.heap.size w w' := by
  have hpl : p < w.heap.size := World.block_lt_of_cell? w _ hp
  go_enter Try.func47, Try.ntmps47
  go_wp2
  exact bodyPost_ret (v := NV.val ⟨v.fid, v.dir, v.dA, v.dn, v.dc, v.eA, v.en, v.ec, ver⟩) (by simp [results, Try.results47, go_sem]) rfl ⟨rfl, ((Below.refl _ _).alloc (Nat.le_refl _) _).alloc (by simp) _⟩
end Go.Proofs.Ytlegjdlmcphhlab
/-
  A MAP IS GONE THROUGH; the reference's With and Without.
-/
namespace Go.Proofs.Ytlegjdlmcphhlab
open Go.RowKit
open Go.ChangeMaps (setBlock)

/-- block r goes through the map at bm; all that was there in w0 is there -/
structure It (w0 : World) (r bm : Nat) (es : Array MapEntry) (clock : Nat) (seen : Array Nat) (wr : World) : Prop where
  it : ∃ c0, wr.heap[r]? = some (.mapIter (some bm) clock seen c0) ∧ clock ≤ c0
  at_ : w0.heap[bm]? = some (.map es clock)
  far : w0.heap.size ≤ r
  bel : Below w0.heap.size w0 wr
theorem It.below {w0 : World} {r bm : Nat} {es : Array MapEntry} {clock : Nat} {seen : Array Nat} {wr w' : World} (h : It w0 r bm es clock seen wr) (hb : Below wr.heap.size wr w') : It w0 r bm es clock seen w' := by
  obtain ⟨⟨c0, h1, h2⟩, h3, h4, h5⟩ := h
  exact ⟨⟨c0, by rw [hb.block r (lt_of_block h1)]; exact h1, h2⟩, h3, h4, h5.trans (hb.mono h5.size)⟩
theorem It.set {w0 : World} {r bm : Nat} {es : Array MapEntry} {clock : Nat} {seen : Array Nat} {wr : World} (h : It w0 r bm es clock seen wr) {b : Nat} (hb : w0.heap.size ≤ b) (hne : r ≠ b) (o : Obj) : It w0 r bm es clock seen (setBlock wr b o) := by
  obtain ⟨⟨c0, h1, h2⟩, h3, h4, h5⟩ := h
  exact ⟨⟨c0, by rw [setBlock_other hne]; exact h1, h2⟩, h3, h4, setBlock_below h5 hb o⟩
theorem It.seen {w0 : World} {r bm : Nat} {es : Array MapEntry} {clock : Nat} {seen : Array Nat} {wr : World} (h : It w0 r bm es clock seen wr) : wr.iterSeen r = seen := by
  obtain ⟨⟨c0, h1, _⟩, _⟩ := h
  simp [World.iterSeen, h1]

/-- the worlds behind 'next' -/
theorem It.next {w0 : World} {r bm : Nat} {es : Array MapEntry} {clock : Nat} {seen : Array Nat} {wr : World} (h : It w0 r bm es clock seen wr) (hn : (es.toList.map (·.born)).Nodup) (hc : ∀ e ∈ es.toList, e.born < clock) (ty : TypeId) :
    ((leftOf es seen).size = 0 ∧ (Instr.next (.pointer (some ⟨r, 0, none⟩)) false ty).run Try.prog wr = .ok (.tuple #[.bool false]) wr) ∨
    ∃ e ∈ (leftOf es seen).toList, ∃ W : World, (Instr.next (.pointer (some ⟨r, 0, none⟩)) false ty).run Try.prog wr = .ok (.tuple #[.bool true, e.key, e.val]) W ∧
      (Instr.entry (.pointer (some ⟨r, 0, none⟩))).run Try.prog W = .ok (.tuple #[e.key, e.val]) W ∧ It w0 r bm es clock (seen.push e.born) W ∧ W.heap.size = wr.heap.size ∧ ∀ c : Nat, c ≠ r → W.heap[c]? = wr.heap[c]? := by
  obtain ⟨⟨c0, h1, h2⟩, h3, h4, h5⟩ := h
  have hbm : bm < w0.heap.size := lt_of_block h3
  have hb : wr.heap[bm]? = some (.map es clock) := by rw [h5.block bm hbm]; exact h3
  rcases run_next_at (P := Try.prog) wr ty r bm clock c0 seen es clock h1 hb hc h2 with h | ⟨e, he, w1, hw1, hrun⟩
  · exact .inl h
  · right
    have hr1 : w1.heap[r]? = some (.mapIter (some bm) clock seen c0) := by rcases hw1 with rfl | rfl <;> exact h1
    have hsz : w1.heap.size = wr.heap.size := by rcases hw1 with rfl | rfl <;> rfl
    have hh : ∀ c : Nat, w1.heap[c]? = wr.heap[c]? := by rcases hw1 with rfl | rfl <;> exact fun _ => rfl
    have hb1 : Below w0.heap.size w0 w1 := by rcases hw1 with rfl | rfl; exact h5; exact h5.drew
    have hW : (setBlock w1 r (.mapIter (some bm) clock (seen.push e.born) clock)).heap[r]? = some (.mapIter (some bm) clock (seen.push e.born) clock) := setBlock_at hr1
    refine ⟨e, he, _, hrun, run_entry_at _ r bm clock seen es clock e hW (by rw [setBlock_other (by omega), hh]; exact hb) (mem_left he).1 hn, ⟨⟨clock, hW, Nat.le_refl _⟩, h3, h4, setBlock_below hb1 h4 _⟩, by rw [setBlock_size]; exact hsz, fun c hc => by rw [setBlock_other hc]; exact hh c⟩

/-- of what has been seen, and is asked for, g tells -/
def Seen (p : Int → Bool) (es : Array MapEntry) (seen : Array Nat) (g : Int → Option Value) : Prop :=
  ∀ k v, g k = some v ↔ ∃ e ∈ es.toList, seen.contains e.born = true ∧ e.key = .int .i64 k ∧ e.val = v ∧ p k = true
theorem seen_none (p : Int → Bool) (es : Array MapEntry) : Seen p es #[] (fun _ => none) := by
  intro k v
  constructor
  · intro h; cases h
  · rintro ⟨e, _, h, _⟩; simp at h
theorem key_one {L : List MapEntry} (hp : L.Pairwise fun a b => a.key ≠ b.key) {a b : MapEntry} (ha : a ∈ L) (hb : b ∈ L) (h : a.key = b.key) : a = b := by
  obtain ⟨i, hi, rfl⟩ := List.mem_iff_getElem.1 ha
  obtain ⟨j, hj, rfl⟩ := List.mem_iff_getElem.1 hb
  rw [List.pairwise_iff_getElem] at hp
  rcases Nat.lt_trichotomy i j with h1 | h1 | h1
  · exact absurd h (hp i j hi hj h1)
  · subst h1; rfl
  · exact absurd h.symm (hp j i hj hi h1)
theorem seen_step {p : Int → Bool} {es : Array MapEntry} {seen : Array Nat} {g f : Int → Option Value} {e : MapEntry} {k : Int} (h : Seen p es seen g) (hh : Holds es.toList f) (hn : (es.toList.map (·.born)).Nodup)
    (he : e ∈ es.toList) (hk : e.key = .int .i64 k) (hp : p k = true) : Seen p es (seen.push e.born) (updF g k e.val) := by
  intro q v
  unfold updF
  by_cases hq : q = k
  · rw [if_pos hq]
    subst hq
    constructor
    · intro h1
      injection h1 with h1
      exact ⟨e, he, by rw [contains_push]; simp, hk, h1, hp⟩
    · rintro ⟨x, hx, _, hxk, hxv, _⟩
      have := key_one hh.one hx he (by rw [hxk, hk])
      rw [← hxv, this]
  · rw [if_neg hq, h q v]
    constructor
    · rintro ⟨x, hx, hs, hr⟩
      exact ⟨x, hx, by rw [contains_push, hs]; rfl, hr⟩
    · rintro ⟨x, hx, hs, hxk, hr⟩
      refine ⟨x, hx, ?_, hxk, hr⟩
      rw [contains_push, Bool.or_eq_true] at hs
      rcases hs with hs | hs
      · exact hs
      · have hxe := born_inj hn hx he (by simpa using hs)
        subst hxe
        rw [hk] at hxk
        injection hxk with _ hxk
        exact absurd hxk.symm hq
theorem seen_skip {p : Int → Bool} {es : Array MapEntry} {seen : Array Nat} {g : Int → Option Value} {e : MapEntry} {k : Int} (h : Seen p es seen g) (hn : (es.toList.map (·.born)).Nodup)
    (he : e ∈ es.toList) (hk : e.key = .int .i64 k) (hp : p k = false) : Seen p es (seen.push e.born) g := by
  intro q v
  rw [h q v]
  constructor
  · rintro ⟨x, hx, hs, hr⟩
    exact ⟨x, hx, by rw [contains_push, hs]; rfl, hr⟩
  · rintro ⟨x, hx, hs, hxk, hxv, hpq⟩
    refine ⟨x, hx, ?_, hxk, hxv, hpq⟩
    rw [contains_push, Bool.or_eq_true] at hs
    rcases hs with hs | hs
    · exact hs
    · have hxe := born_inj hn hx he (by simpa using hs)
      subst hxe
      rw [hk] at hxk
      injection hxk with _ hxk
      subst hxk
      rw [hp] at hpq
      cases hpq
theorem seen_end {p : Int → Bool} {es : Array MapEntry} {seen : Array Nat} {g f : Int → Option Value} (h : Seen p es seen g) (hh : Holds es.toList f) (h0 : (leftOf es seen).size = 0) (k : Int) : g k = if p k then f k else none := by
  have hall := all_seen es seen h0
  cases hg : g k with
  | some v =>
    obtain ⟨e, he, _, hk, hv, hp⟩ := (h k v).1 hg
    rw [hp, if_pos rfl]
    obtain ⟨q, hq, hf⟩ := hh.key e he
    rw [hk] at hq
    injection hq with _ hq
    subst hq
    rw [hf, hv]
  | none =>
    cases hp : p k with
    | false => rfl
    | true =>
      rw [if_pos rfl]
      cases hf : f k with
      | none => rfl
      | some v =>
        obtain ⟨e, he, hk, hv⟩ := hh.all k v hf
        have := (h k v).2 ⟨e, he, hall e he, hk, hv, hp⟩
        rw [hg] at this
        cases this

/-- the map's copy, so far -/
def RI (w0 : World) (bm : Nat) (es : Array MapEntry) (clock : Nat) (p : Int → Bool) (seen : Array Nat) (wr : World) : Prop :=
  It w0 (w0.heap.size + 1) bm es clock seen wr ∧ ∃ g, IMap wr w0.heap.size g ∧ Seen p es seen g
theorem RI.start {w0 : World} {bm : Nat} {es : Array MapEntry} {clock : Nat} (p : Int → Bool) (hb : w0.heap[bm]? = some (.map es clock)) : RI w0 bm es clock p #[] ((w0.alloc (.map #[] 0)).alloc (.mapIter (some bm) clock #[] clock)) := by
  have h1 : ((w0.alloc (.map #[] 0)).alloc (.mapIter (some bm) clock #[] clock)).heap[w0.heap.size + 1]? = some (.mapIter (some bm) clock #[] clock) := by
    have := heap_alloc_new (w0.alloc (.map #[] 0)) (.mapIter (some bm) clock #[] clock)
    simpa using this
  refine ⟨⟨⟨clock, h1, Nat.le_refl _⟩, hb, by omega, ((Below.refl _ _).alloc (Nat.le_refl _) _).alloc (by simp) _⟩, fun _ => none, ?_, seen_none p es⟩
  exact (IMap.new w0).below (Nat.le_refl _) ((Below.refl _ _).alloc (Nat.le_refl _) _)
/-- what a round of the copy finds -/
theorem RI.round {w0 : World} {bm : Nat} {es : Array MapEntry} {clock : Nat} {p : Int → Bool} {seen : Array Nat} {wr : World} {f : Int → Option Value} {xs : List M.Nd} (h : RI w0 bm es clock p seen wr) (hh : Holds es.toList f) (hn : (es.toList.map (·.born)).Nodup) (hc : ∀ e ∈ es.toList, e.born < clock) (ha : Agree w0 f xs) (ty : TypeId) :
    ((leftOf es seen).size = 0 ∧ (Instr.next (.pointer (some ⟨w0.heap.size + 1, 0, none⟩)) false ty).run Try.prog wr = .ok (.tuple #[.bool false]) wr) ∨
    ∃ (b : Nat) (v : NV) (k : Int) (W : World), (leftOf es (seen.push b)).size < (leftOf es seen).size ∧ (Instr.next (.pointer (some ⟨w0.heap.size + 1, 0, none⟩)) false ty).run Try.prog wr = .ok (.tuple #[.bool true, .int .i64 k, v.val]) W ∧
      (Instr.entry (.pointer (some ⟨w0.heap.size + 1, 0, none⟩))).run Try.prog W = .ok (.tuple #[.int .i64 k, v.val]) W ∧
      (p k = false → RI w0 bm es clock p (seen.push b) (W.alloc (.cells #[.int .i64 v.fid, .bool v.dir, .slice v.dA v.dn v.dc, .slice v.eA v.en v.ec, .int .i64 v.ver] 40))) ∧
      (p k = true → ∃ o : Obj, (Instr.mapUpdate 35 (.map (some w0.heap.size)) (.int .i64 k) v.val).run Try.prog (W.alloc (.cells #[.int .i64 v.fid, .bool v.dir, .slice v.dA v.dn v.dc, .slice v.eA v.en v.ec, .int .i64 v.ver] 40)) = .ok () (setBlock (W.alloc (.cells #[.int .i64 v.fid, .bool v.dir, .slice v.dA v.dn v.dc, .slice v.eA v.en v.ec, .int .i64 v.ver] 40)) w0.heap.size o) ∧ RI w0 bm es clock p (seen.push b) (setBlock (W.alloc (.cells #[.int .i64 v.fid, .bool v.dir, .slice v.dA v.dn v.dc, .slice v.eA v.en v.ec, .int .i64 v.ver] 40)) w0.heap.size o)) := by
  obtain ⟨hit, g, hg, hs⟩ := h
  rcases hit.next hn hc ty with h1 | ⟨e, he, W, h1, h2, h3, h4, h5⟩
  · exact .inl h1
  · right
    obtain ⟨hem, _⟩ := mem_left he
    obtain ⟨k, hk, hf⟩ := hh.key e hem
    rcases ha k with ⟨h6, _⟩ | ⟨v, x, h6, _, _⟩
    · rw [h6] at hf; cases hf
    · rw [h6] at hf
      injection hf with hf
      have hgW : IMap W w0.heap.size g := hg.same (h5 _ (by omega))
      have hwa : Below W.heap.size W (W.alloc (.cells #[.int .i64 v.fid, .bool v.dir, .slice v.dA v.dn v.dc, .slice v.eA v.en v.ec, .int .i64 v.ver] 40)) := (Below.refl _ _).alloc (Nat.le_refl _) _
      refine ⟨e.born, v, k, W, left_shrinks es seen e he, by rw [h1, hk, hf], by rw [h2, hk, hf], fun hp => ?_, fun hp => ?_⟩
      · exact ⟨h3.below hwa, g, hgW.below (Nat.le_refl _) hwa, seen_skip hs hn hem hk hp⟩
      · obtain ⟨o, hr, hi⟩ := run_update_map 35 40 Try.underlying35 (hgW.below (Nat.le_refl _) hwa) k v.val
        refine ⟨o, hr, (h3.below hwa).set (Nat.le_refl _) (by omega) o, _, hi, ?_⟩
        have := seen_step hs hh hn hem hk hp
        rw [← hf] at this
        exact this

theorem find_putN (xs : List M.Nd) (x : M.Nd) (k : Int) : M.find (M.putN xs x) k = if k = x.fid then some x else M.find xs k := by
  by_cases hk : k = x.fid
  · rw [if_pos hk, hk]; exact findN_put xs x
  · rw [if_neg hk]; exact findN_other xs x k hk

set_option maxHeartbeats 2000000 in
theorem with_any (bm : Nat) (xs : List M.Nd) (v : NV) (x : M.Nd) (w : World) (ht : TMap w bm xs) (hc : Cont w v x) :
    Calls Try.prog 50 #[.map (some bm), v.val] w fun e w' => ∃ b, e = .returned (.map (some b)) ∧ TMap w' b (M.putN xs x) ∧ Below w.heap.size w w' := by
  obtain ⟨f, ⟨es, clock, hb, hh, hn, hcl⟩, ha⟩ := ht
  have hwa : Below w.heap.size w (w.alloc (.cells #[.int .i64 v.fid, .bool v.dir, .slice v.dA v.dn v.dc, .slice v.eA v.en v.ec, .int .i64 v.ver] 40)) := (Below.refl _ _).alloc (Nat.le_refl _) _
  have hbm : bm < w.heap.size := lt_of_block hb
  have H0 : Hid ((w.alloc (.cells #[.int .i64 v.fid, .bool v.dir, .slice v.dA v.dn v.dc, .slice v.eA v.en v.ec, .int .i64 v.ver] 40)).heap[bm]? = some (.map es clock) ∧ Box (w.alloc (.cells #[.int .i64 v.fid, .bool v.dir, .slice v.dA v.dn v.dc, .slice v.eA v.en v.ec, .int .i64 v.ver] 40)) w.heap.size v ∧ Cont (w.alloc (.cells #[.int .i64 v.fid, .bool v.dir, .slice v.dA v.dn v.dc, .slice v.eA v.en v.ec, .int .i64 v.ver] 40)) v x ∧ Agree (w.alloc (.cells #[.int .i64 v.fid, .bool v.dir, .slice v.dA v.dn v.dc, .slice v.eA v.en v.ec, .int .i64 v.ver] 40)) f xs ∧ Below w.heap.size w (w.alloc (.cells #[.int .i64 v.fid, .bool v.dir, .slice v.dA v.dn v.dc, .slice v.eA v.en v.ec, .int .i64 v.ver] 40))) :=
    ⟨by rw [hwa.block bm hbm]; exact hb, Box.new w v, hc.below (Nat.le_refl _) hwa, ha.below (Nat.le_refl _) hwa, hwa⟩
  have HH : Hid (Holds es.toList f ∧ (es.toList.map (·.born)).Nodup ∧ ∀ e ∈ es.toList, e.born < clock) := ⟨hh, hn, hcl⟩
  have hrg := run_range_map (P := Try.prog) ((w.alloc (.cells #[.int .i64 v.fid, .bool v.dir, .slice v.dA v.dn v.dc, .slice v.eA v.en v.ec, .int .i64 v.ver] 40)).alloc (.map #[] 0)) 35 3 40 bm es clock Try.underlying35 (by rw [Below.heap_alloc _ _ _ (lt_of_block H0.out.1)]; exact H0.out.1)
  have hmm := @run_makeMap Try.prog
  clear hb hh hn hcl ha hc hwa
  go_enter Try.func50, Try.ntmps50
  go_wp2
  have hsz : (w.alloc (.cells #[.int .i64 v.fid, .bool v.dir, .slice v.dA v.dn v.dc, .slice v.eA v.en v.ec, .int .i64 v.ver] 40)).heap.size = w.heap.size + 1 := by simp
  generalize w.alloc (.cells #[.int .i64 v.fid, .bool v.dir, .slice v.dA v.dn v.dc, .slice v.eA v.en v.ec, .int .i64 v.ver] 40) = W0 at H0 hrg hsz ⊢
  have HSZ : Hid (W0.heap.size = w.heap.size + 1) := hsz
  clear hrg hsz
  go_loopw [] (fun wr => ∃ seen, RI W0 bm es clock (fun _ => true) seen wr) (fun wr => (leftOf es (wr.iterSeen (w.heap.size + 1 + 1))).size)
  case atStart => exact ⟨#[], RI.start _ H0.out.1⟩
  case round =>
    obtain ⟨seen, hri⟩ := hrel
    have HRI : Hid (RI W0 bm es clock (fun _ => true) seen wr) := hri
    have hse := hri.1.seen
    have hrd := hri.round HH.out.1 HH.out.2.1 HH.out.2.2 H0.out.2.2.2.1 0
    rw [HSZ.out] at hrd hse
    rcases hrd with ⟨h0, hnx⟩ | ⟨b, ve, k, W, hlt, hnx, hen, _, hup⟩
    · obtain ⟨hit, g, hg, hs⟩ := HRI.out
      have hge : g = f := by funext q; have := seen_end hs HH.out.1 h0 q; simpa using this
      rw [hge] at hg
      rw [HSZ.out] at hg
      obtain ⟨o, hu, him⟩ := run_update_map 35 40 Try.underlying35 hg v.fid v.val
      have hbl : Below w.heap.size w (setBlock wr (w.heap.size + 1) o) := setBlock_below (H0.out.2.2.2.2.trans (hit.bel.mono (by rw [HSZ.out]; omega))) (by omega) o
      have hb0 : Below W0.heap.size W0 (setBlock wr (w.heap.size + 1) o) := setBlock_below hit.bel (by rw [HSZ.out]; omega) o
      have HF : Hid (TMap (setBlock wr (w.heap.size + 1) o) (w.heap.size + 1) (M.putN xs x) ∧ Below w.heap.size w (setBlock wr (w.heap.size + 1) o)) :=
        ⟨⟨_, him, (agree_upd H0.out.2.2.2.1 H0.out.2.2.1 (find_putN xs x)).below (Nat.le_refl _) hb0⟩, hbl⟩
      obtain ⟨p0, p1, p2, p3, p4, pf, pz⟩ := (H0.out.2.1.below hit.bel (by rw [HSZ.out]; omega)).facts
      clear hit hs hge hg him hbl hb0 hse h0 hri
      go_wp2
      go_ret
      exact ⟨_, rfl, HF.out.1, HF.out.2⟩
    · obtain ⟨o, hu, hri2⟩ := hup rfl
      have HR2 : Hid (RI W0 bm es clock (fun _ => true) (seen.push b) (setBlock (W.alloc (.cells #[.int .i64 ve.fid, .bool ve.dir, .slice ve.dA ve.dn ve.dc, .slice ve.eA ve.en ve.ec, .int .i64 ve.ver] 40)) (w.heap.size + 1) o)) := hri2
      have hse2 := hri2.1.seen
      rw [HSZ.out] at hse2
      have HM : Hid (_ ∧ _ ∧ _) := ⟨hlt, hse, hse2⟩
      clear hup hri hri2 hlt hse hse2
      go_wp2
      go_roundw
      case rel => exact ⟨_, HR2.out⟩
      case measure => rw [HM.out.2.2, HM.out.2.1]; exact HM.out.1

theorem find_dropN (xs : List M.Nd) (t k : Int) : M.find (M.dropN xs t) k = if k = t then none else M.find xs k := by
  by_cases hk : k = t
  · rw [if_pos hk, hk]; exact findN_drop xs t
  · rw [if_neg hk]
    unfold M.find M.dropN
    rw [List.find?_filter]
    congr 1
    funext y
    by_cases hy : y.fid = k
    · simp [hy, hk]
    · simp [hy]

set_option maxHeartbeats 2000000 in
theorem without_any (bm : Nat) (xs : List M.Nd) (t : Int) (w : World) (ht : TMap w bm xs) :
    Calls Try.prog 54 #[.map (some bm), .int .i64 t] w fun e w' => ∃ b, e = .returned (.map (some b)) ∧ TMap w' b (M.dropN xs t) ∧ Below w.heap.size w w' := by
  obtain ⟨f, ⟨es, clock, hb, hh, hn, hcl⟩, ha⟩ := ht
  have H0 : Hid (w.heap[bm]? = some (.map es clock) ∧ Agree w f xs) := ⟨hb, ha⟩
  have HH : Hid (Holds es.toList f ∧ (es.toList.map (·.born)).Nodup ∧ ∀ e ∈ es.toList, e.born < clock) := ⟨hh, hn, hcl⟩
  have hrg := run_range_map (P := Try.prog) (w.alloc (.map #[] 0)) 35 3 40 bm es clock Try.underlying35 (by rw [Below.heap_alloc _ _ _ (lt_of_block hb)]; exact hb)
  have hmm := @run_makeMap Try.prog
  clear hb hh hn hcl ha
  go_enter Try.func54, Try.ntmps54
  go_wp2
  clear hrg
  go_loopw [] (fun wr => ∃ seen, RI w bm es clock (fun k => !decide (k = t)) seen wr) (fun wr => (leftOf es (wr.iterSeen (w.heap.size + 1))).size)
  case atStart => exact ⟨#[], RI.start _ H0.out.1⟩
  case round =>
    obtain ⟨seen, hri⟩ := hrel
    have HRI : Hid (RI w bm es clock (fun k => !decide (k = t)) seen wr) := hri
    have hse := hri.1.seen
    have hrd := hri.round HH.out.1 HH.out.2.1 HH.out.2.2 H0.out.2 0
    rcases hrd with ⟨h0, hnx⟩ | ⟨b, ve, k, W, hlt, hnx, hen, hno, hup⟩
    · obtain ⟨hit, g, hg, hs⟩ := HRI.out
      have HF : Hid (TMap wr w.heap.size (M.dropN xs t) ∧ Below w.heap.size w wr) := by
        refine ⟨⟨g, hg, fun q => ?_⟩, hit.bel⟩
        rw [seen_end hs HH.out.1 h0 q, find_dropN]
        by_cases hq : q = t
        · simp [hq]
        · have := (H0.out.2.below (Nat.le_refl _) hit.bel) q
          simpa [hq] using this
      clear hit hs hg hse h0 hri
      go_wp2
      go_ret
      exact ⟨_, rfl, HF.out.1, HF.out.2⟩
    · by_cases hkt : k = t
      · have hri2 := hno (by simp [hkt])
        have HR2 : Hid (RI w bm es clock (fun k => !decide (k = t)) (seen.push b) (W.alloc (.cells #[.int .i64 ve.fid, .bool ve.dir, .slice ve.dA ve.dn ve.dc, .slice ve.eA ve.en ve.ec, .int .i64 ve.ver] 40))) := hri2
        have hse2 := hri2.1.seen
        have HM : Hid (_ ∧ _ ∧ _) := ⟨hlt, hse, hse2⟩
        have q1 : (k == t) = true := by simp [hkt]
        have q2 : (k != t) = false := by simp [hkt]
        clear hup hno hri hri2 hlt hse hse2 hkt
        go_wp2
        go_roundw
        case rel => exact ⟨_, HR2.out⟩
        case measure => rw [HM.out.2.2, HM.out.2.1]; exact HM.out.1
      · obtain ⟨o, hu, hri2⟩ := hup (by simp [hkt])
        have HR2 : Hid (RI w bm es clock (fun k => !decide (k = t)) (seen.push b) (setBlock (W.alloc (.cells #[.int .i64 ve.fid, .bool ve.dir, .slice ve.dA ve.dn ve.dc, .slice ve.eA ve.en ve.ec, .int .i64 ve.ver] 40)) w.heap.size o)) := hri2
        have hse2 := hri2.1.seen
        have HM : Hid (_ ∧ _ ∧ _) := ⟨hlt, hse, hse2⟩
        have q1 : (k == t) = false := by simp [hkt]
        have q2 : (k != t) = true := by simp [hkt]
        clear hup hno hri hri2 hlt hse hse2 hkt
        go_wp2
        go_roundw
        case rel => exact ⟨_, HR2.out⟩
        case measure => rw [HM.out.2.2, HM.out.2.1]; exact HM.out.1
end Go.Proofs.Ytlegjdlmcphhlab
/-
  THE REFERENCE's Leave AND Enter: lists of one's own, one entry behind the other.
-/
namespace Go.Proofs.Ytlegjdlmcphhlab
open Go.RowKit

/-- a list of one's own since w0 -/
def Keep (w0 : World) (es : List (ByteArray × Int)) (A : Option Addr) (m c : Nat) (wr : World) : Prop :=
  wr.ownsRow w0.heap.size 68 2 (.slice A m c) m (es.flatMap entCells) ∧ Below w0.heap.size w0 wr
theorem Keep.start (w0 : World) : Keep w0 [] none 0 0 w0 := ⟨World.ownsRow_nil _ _ _ _, Below.refl _ _⟩
theorem Keep.alloc {w0 : World} {es : List (ByteArray × Int)} {A : Option Addr} {m c : Nat} {wr : World} (h : Keep w0 es A m c wr) (o : Obj) : Keep w0 es A m c (wr.alloc o) :=
  ⟨own_below h.1 ((Below.refl _ _).alloc (Nat.le_refl _) o) (Nat.le_refl _), h.2.alloc h.2.size o⟩
theorem Keep.drew {w0 : World} {es : List (ByteArray × Int)} {A : Option Addr} {m c : Nat} {wr : World} (h : Keep w0 es A m c wr) : Keep w0 es A m c wr.drew :=
  ⟨own_below h.1 ((Below.refl _ _).drew) (Nat.le_refl _), h.2.drew⟩
theorem Keep.app {w0 : World} {es : List (ByteArray × Int)} {e : ByteArray × Int} {A A' : Option Addr} {m c c' : Nat} {W w1 : World} (h : Keep w0 es A m c W) (hg : W.grownBy w1 (Value.slice A m c).ownBlock)
    (ho : w1.ownsRow w0.heap.size 68 2 (.slice A' (m + 1) c') (m + 1) (es.flatMap entCells ++ [e].flatMap entCells)) : Keep w0 (es ++ [e]) A' (m + 1) c' w1 := by
  refine ⟨by rw [List.flatMap_append]; exact ho, h.2.grown hg h.2.size fun k hk => (h.1.lt k hk).1⟩
theorem Keep.len {w0 : World} {es : List (ByteArray × Int)} {A : Option Addr} {m c : Nat} {wr : World} (h : Keep w0 es A m c wr) : m = es.length := own_len ent_len (by decide) h.1

theorem row_new2 (w : World) (o : Obj) (e : ByteArray × Int) : Row 2 entCells ((w.alloc o).alloc (.cells #[.string e.1, .int .i64 e.2] 68)) (some ⟨w.heap.size + 1, 0, none⟩) 1 [e] := by
  have := row_of_box2 (Box2.new (w.alloc o) e)
  simpa using this
theorem row_new1 (w : World) (e : ByteArray × Int) : Row 2 entCells (w.alloc (.cells #[.string e.1, .int .i64 e.2] 68)) (some ⟨w.heap.size, 0, none⟩) 1 [e] := row_of_box2 (Box2.new w e)

theorem dropE_snoc (es : List (ByteArray × Int)) (e : ByteArray × Int) (s : ByteArray) : M.dropE (es ++ [e]) s = if e.1 = s then M.dropE es s else M.dropE es s ++ [e] := by
  unfold M.dropE
  rw [List.filter_append]
  by_cases h : e.1 = s <;> simp [h]

set_option maxHeartbeats 2000000 in
theorem refLeave_own (v : NV) (x : M.Nd) (s : ByteArray) (w : World) (hc : Cont w v x) (hs : Small x) :
    Calls Try.prog 53 #[v.val, .string s] w fun e w' => ∃ (A : Option Addr) (m c : Nat), e = .returned (NV.val ⟨v.fid, v.dir, v.dA, v.dn, v.dc, A, m, c, v.ver⟩) ∧ w'.ownsRow w.heap.size 68 2 (.slice A m c) m ((M.dropE x.ents s).flatMap entCells) ∧ Below w.heap.size w w' := by
  have hB0 : ∀ W : World, W = (w.alloc (.cells #[.int .i64 v.fid, .bool v.dir, .slice v.dA v.dn v.dc, .slice v.eA v.en v.ec, .int .i64 v.ver] 40)).alloc (.cells #[.int .i64 0, .bool false, .slice none 0 0, .slice none 0 0, .int .i64 0] 40) → Box W w.heap.size v ∧ Box W (w.heap.size + 1) NV.zero ∧ W.heap.size = w.heap.size + 2 ∧ Below w.heap.size w W := by
    rintro W rfl
    exact ⟨(Box.new w v).alloc _, by have := Box.new0 (w.alloc (.cells #[.int .i64 v.fid, .bool v.dir, .slice v.dA v.dn v.dc, .slice v.eA v.en v.ec, .int .i64 v.ver] 40)); simpa using this, by simp, ((Below.refl _ _).alloc (Nat.le_refl _) _).alloc (by simp) _⟩
  have HB0 : Hid _ := hB0
  have HC : Hid (Cont w v x ∧ Small x) := ⟨hc, hs⟩
  have hen : v.en * 24 ≤ 140737488355328 := by have := hc.2.2.2.2.1; have := hs.2; omega
  have HL : Hid (v.en = x.ents.length) := hc.2.2.2.2.1
  obtain ⟨i58, hi58, hz58, hs58, hb58⟩ := info_parts info58
  clear hB0 hc hs
  go_enter Try.func53, Try.ntmps53
  go_wp2
  obtain ⟨q0, q1, q2, q3⟩ := HB0.out _ rfl
  generalize (w.alloc (.cells #[.int .i64 v.fid, .bool v.dir, .slice v.dA v.dn v.dc, .slice v.eA v.en v.ec, .int .i64 v.ver] 40)).alloc (.cells #[.int .i64 0, .bool false, .slice none 0 0, .slice none 0 0, .int .i64 0] 40) = W0 at q0 q1 q2 q3 ⊢
  have H0 : Hid (Box W0 w.heap.size v ∧ Box W0 (w.heap.size + 1) NV.zero ∧ Below w.heap.size w W0 ∧ W0.heap.size = w.heap.size + 2) := ⟨q0, q1, q3, q2⟩
  clear q0 q1 q2 q3 HB0
  go_loopw [5, 11] (fun l i wr => ∃ (k m c : Nat) (A : Option Addr), k ≤ v.en ∧ i = .int .i64 k ∧ l = .slice A m c ∧ m ≤ k ∧ Keep W0 (M.dropE (x.ents.take k) s) A m c wr) (fun _ i _ => v.en - (intOf i).toNat)
  case atStart => exact ⟨0, 0, 0, none, Nat.zero_le _, rfl, rfl, Nat.le_refl _, by rw [List.take_zero]; exact Keep.start W0⟩
  case round =>
    obtain ⟨k, m, c, A, hk, rfl, rfl, hmk, hkp⟩ := hrel
    have HK : Hid (Keep W0 (M.dropE (x.ents.take k) s) A m c wr) := hkp
    have HBX : Hid (Box wr w.heap.size v ∧ Box wr (w.heap.size + 1) NV.zero ∧ Below w.heap.size w wr) := ⟨H0.out.1.below hkp.2 (by rw [H0.out.2.2.2]; omega), H0.out.2.1.below hkp.2 (by rw [H0.out.2.2.2]; omega), H0.out.2.2.1.trans (hkp.2.mono (by rw [H0.out.2.2.2]; omega))⟩
    clear hkp
    obtain ⟨p0, p1, p2, p3, p4, pf, pz⟩ := HBX.out.1.facts
    obtain ⟨z0, z1, z2, z3, z4, zf, zz⟩ := HBX.out.2.1.facts
    by_cases hlt : k < v.en
    · obtain ⟨g, o, ⟨nm, fd⟩, ha, _, hak, a0, a1⟩ := Ents.at (HC.out.1.2.2.2.2.below (Nat.le_refl _) HBX.out.2.2) hlt
      have HA : Hid (x.ents[k]? = some (nm, fd)) := hak
      dsimp only at a0 a1
      have hkn : (k : Int) < (v.en : Int) := by omega
      have hk0 : (0 : Int) ≤ (k : Int) := by omega
      clear hak p0 p1 p2 p3 p4 z0 z1 z2 z3 z4
      by_cases hse : nm = s
      · have q : (nm.toList == s.toList) = true := by rw [raw_eq]; exact decide_eq_true hse
        have r : (nm.toList != s.toList) = false := by rw [bne, q]; rfl
        have HSE : Hid (nm = s) := hse
        clear hse
        go_wp2
        go_roundw
        case rel => exact ⟨k + 1, m, c, A, by omega, by go_num, rfl, by omega, by rw [take_step HA.out, dropE_snoc, if_pos HSE.out]; exact HK.out.alloc _⟩
        case measure => simp [intOf]; omega
      · have q : (nm.toList == s.toList) = false := by rw [raw_eq]; exact decide_eq_false hse
        have r : (nm.toList != s.toList) = true := by rw [bne, q]; rfl
        have HSE : Hid (nm ≠ s) := hse
        clear hse
        go_wp2_with (at_builtin; refine wpList_append_row _ (by rfl) (.tmp 19) (.tmp 21) 38 (by rfl) W0.heap.size 68 i58 (.agg #[.string ByteArray.empty, .int .i64 0]) 24 Try.underlying38 hi58 hz58 hs58 hb58 rfl (by decide) _ m _ (by rfl) ((HK.out.alloc _).alloc _).1 _ 1 1 [(nm, fd)] (by rfl) (row_new2 wr _ (nm, fd)) ent_len ent_one (by unfold maxLen; omega) (by omega) ((HK.out.alloc _).alloc _).2.size ?_; intro v1 w1 hown1 hg1; obtain ⟨A1, c1, rfl, hA1, hA2⟩ := own_form hown1; have HK1 : Hid (Keep W0 (M.dropE (x.ents.take k) s ++ [(nm, fd)]) A1 (m + 1) c1 w1) := ((HK.out.alloc _).alloc _).app hg1 hown1; clear hown1 hg1 ha)
        go_roundw
        case rel => exact ⟨k + 1, m + 1, c1, A1, by omega, by go_num, rfl, by omega, by rw [take_step HA.out, dropE_snoc, if_neg HSE.out]; exact HK1.out⟩
        case measure => simp [intOf]; omega
    · have HN : Hid (x.ents.take k = x.ents) := by have := HL.out; show _ = _; exact List.take_of_length_le (by omega)
      go_wp2
      have hkk := HK.out
      rw [HN.out] at hkk
      have hbr := put5_below (HBX.out.2.2.setCell (p := ⟨w.heap.size, 3, none⟩) (Nat.le_refl _) (.slice A m c)) (s := w.heap.size + 1) (by omega) 0 ⟨v.fid, v.dir, v.dA, v.dn, v.dc, A, m, c, v.ver⟩
      have hoe := put5_own (ownsRow_setCell_below hkk.1 (a := ⟨w.heap.size, 3, none⟩) (by show w.heap.size < _; rw [H0.out.2.2.2]; omega) (.slice A m c)) (s := w.heap.size + 1) (by rw [H0.out.2.2.2]; omega) 0 ⟨v.fid, v.dir, v.dA, v.dn, v.dc, A, m, c, v.ver⟩
      exact bodyPost_ret (v := NV.val ⟨v.fid, v.dir, v.dA, v.dn, v.dc, A, m, c, v.ver⟩) (by simp [results, Try.results53, go_sem, z0, z1, z2, z3, z4]) rfl ⟨A, m, c, rfl, own_mono hoe (by rw [H0.out.2.2.2]; omega), hbr⟩

theorem refLeave_any (v : NV) (x : M.Nd) (s : ByteArray) (w : World) (hc : Cont w v x) (hs : Small x) :
    Calls Try.prog 53 #[v.val, .string s] w fun e w' => ∃ v' : NV, e = .returned v'.val ∧ Cont w' v' (withE x (M.dropE x.ents s)) ∧ Below w.heap.size w w' := by
  refine (refLeave_own v x s w hc hs).mono ?_
  rintro e w' ⟨A, m, c, rfl, ho, hb⟩
  exact ⟨_, rfl, ⟨hc.1, hc.2.1, hc.2.2.1, hc.2.2.2.1.below (Nat.le_refl _) hb, Row.ofOwn ent_len (by decide) ho⟩, hb⟩
end Go.Proofs.Ytlegjdlmcphhlab
