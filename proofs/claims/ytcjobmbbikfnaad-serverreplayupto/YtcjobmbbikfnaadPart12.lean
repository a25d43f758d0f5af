/- TEXTS LAID TOGETHER: Mathp, Mathw, Srvm, Srvc, Srvd -/
import Derived.Test.YtcjobmbbikfnaadPart6
import Derived.Test.YtcjobmbbikfnaadPart10
import Derived.Test.YtcjobmbbikfnaadPart7
import Derived.Test.YtcjobmbbikfnaadPart8
import Derived.Test.YtcjobmbbikfnaadPart9
import Derived.Test.YtcjobmbbikfnaadPart11
import Derived.Deep.CutRange
/-
  PLAIN MATHEMATICS: an act makes at most one entry more.
-/
namespace Go.Proofs.Ytcjobmbbikfnaad
open M

/-- how many entries there are in all -/
def cnt (xs : List Nd) : Nat := (allF xs).length
theorem cnt_nil : cnt [] = 0 := rfl
theorem cnt_cons (x : Nd) (xs : List Nd) : cnt (x :: xs) = x.ents.length + cnt xs := by unfold cnt allF; rw [List.flatMap_cons, List.length_append, List.length_map]
theorem cnt_append (xs ys : List Nd) : cnt (xs ++ ys) = cnt xs + cnt ys := by unfold cnt allF; rw [List.flatMap_append, List.length_append]
theorem cnt_filter_le (p : Nd → Bool) : ∀ xs : List Nd, cnt (xs.filter p) ≤ cnt xs
  | [] => Nat.le_refl _
  | x :: xs => by
    have ih := cnt_filter_le p xs
    rw [cnt_cons, List.filter_cons]
    split
    · rw [cnt_cons]; omega
    · omega
theorem cnt_mem {xs : List Nd} {x : Nd} (h : x ∈ xs) : x.ents.length ≤ cnt xs := by
  induction xs with
  | nil => cases h
  | cons y ys ih =>
    rw [cnt_cons]
    rcases List.mem_cons.1 h with h | h
    · subst h; omega
    · have := ih h; omega
theorem ltI_no (a : Int) : ltI a a = false := by simp [ltI]
theorem ltI_asym {a b : Int} (h : ltI a b = true) : ltI b a = false := by
  simp only [ltI, decide_eq_true_eq] at h
  simp only [ltI, decide_eq_false_iff_not]
  omega
theorem cnt_two (k : Int) : ∀ xs : List Nd, cnt (xs.filter fun y => ltI y.fid k) + cnt (xs.filter fun y => ltI k y.fid) ≤ cnt xs
  | [] => Nat.le_refl _
  | x :: xs => by
    have ih := cnt_two k xs
    rw [cnt_cons, List.filter_cons, List.filter_cons]
    cases h1 : ltI x.fid k
    · cases h2 : ltI k x.fid
      · simp only [Bool.false_eq_true, if_false]; omega
      · simp only [Bool.false_eq_true, if_false, if_true]; rw [cnt_cons]; omega
    · rw [ltI_asym h1]
      simp only [Bool.false_eq_true, if_false, if_true]; rw [cnt_cons]; omega
theorem cnt_three (k : Int) : ∀ {xs : List Nd} {y : Nd}, y ∈ xs → y.fid = k → cnt (xs.filter fun y => ltI y.fid k) + cnt (xs.filter fun y => ltI k y.fid) + y.ents.length ≤ cnt xs
  | [], y, h, _ => by cases h
  | x :: xs, y, h, hk => by
    rw [cnt_cons, List.filter_cons, List.filter_cons]
    by_cases hxk : x.fid = k
    · rw [hxk, ltI_no]
      simp only [Bool.false_eq_true, if_false]
      rcases List.mem_cons.1 h with h | h
      · subst h; have := cnt_two k xs; omega
      · have := cnt_three k h hk; omega
    · have hyx : y ∈ xs := by
        rcases List.mem_cons.1 h with h | h
        · subst h; exact absurd hk hxk
        · exact h
      have ih := cnt_three k hyx hk
      cases h1 : ltI x.fid k
      · cases h2 : ltI k x.fid
        · simp only [Bool.false_eq_true, if_false]; omega
        · simp only [Bool.false_eq_true, if_false, if_true]; rw [cnt_cons]; omega
      · rw [ltI_asym h1]
        simp only [Bool.false_eq_true, if_false, if_true]; rw [cnt_cons]; omega
theorem putN_eq (xs : List Nd) (x : Nd) : putN xs x = xs.filter (fun y => ltI y.fid x.fid) ++ x :: xs.filter (fun y => ltI x.fid y.fid) := rfl
/-- in the place of one with no fewer entries, but for k -/
theorem cnt_put {xs : List Nd} {x y : Nd} {k : Nat} (hy : find xs x.fid = some y) (h : x.ents.length ≤ y.ents.length + k) : cnt (putN xs x) ≤ cnt xs + k := by
  have := cnt_three x.fid (find_mem hy).1 (find_mem hy).2
  rw [putN_eq, cnt_append, cnt_cons]
  omega
theorem cnt_put0 (xs : List Nd) {x : Nd} (h : x.ents = []) : cnt (putN xs x) ≤ cnt xs := by
  have := cnt_two x.fid xs
  rw [putN_eq, cnt_append, cnt_cons, h]
  simp only [List.length_nil]
  omega
theorem cnt_bring {xs : List Nd} (ac : M.Act) (v : Int) : cnt (M.bringS xs ac v).2 ≤ cnt xs + 1 := by
  by_cases h1 : (M.dirS xs ac.dir).1 = 0
  case' neg => rw [bring_dir h1]; exact Nat.zero_le _
  by_cases h2 : M.freeS (M.dirS xs ac.dir).2 ac.name = 0
  case' neg => rw [bring_free h1 h2]; exact Nat.zero_le _
  by_cases h3 : ac.fid = 0 ∨ (M.find xs ac.fid).isSome
  case' pos => rw [bring_stale h1 h2 h3]; exact Nat.zero_le _
  by_cases h4 : 24 ≤ xs.length
  case' pos => rw [bring_many h1 h2 h3 h4]; exact Nat.zero_le _
  rw [bring_ok h1 h2 h3 h4]
  have hd := M.dir_ok h1
  have e1 : (M.dirS xs ac.dir).2.fid = ac.dir := (M.find_mem hd.1).2
  refine Nat.le_trans (cnt_put0 _ rfl) (cnt_put (y := (M.dirS xs ac.dir).2) ?_ (M.putE_len _ _))
  show M.find xs (M.dirS xs ac.dir).2.fid = _
  rw [e1]; exact hd.1
theorem cnt_store {xs : List Nd} (ac : M.Act) (v : Int) : cnt (M.storeS xs ac v).2 ≤ cnt xs + 1 := by
  unfold M.storeS
  cases hx : M.find xs ac.fid with
  | none => exact Nat.zero_le _
  | some x =>
    simp only
    split
    · exact Nat.zero_le _
    · split
      · exact Nat.zero_le _
      · refine cnt_put (y := x) ?_ (Nat.le_succ _)
        show M.find xs x.fid = _
        rw [(M.find_mem hx).2]; exact hx
theorem cnt_remove {xs : List Nd} (ac : M.Act) (v : Int) : cnt (M.removeS xs ac v).2 ≤ cnt xs + 1 := by
  by_cases h1 : (M.holdS xs ac.dir ac.name ac.fid).1 = 0
  case' neg => rw [remove_hold h1]; exact Nat.zero_le _
  cases hx : M.find xs ac.fid with
  | none => rw [remove_away h1 hx]; exact Nat.zero_le _
  | some x =>
    by_cases he : 0 < x.ents.length
    case' pos => rw [remove_full h1 hx he]; exact Nat.zero_le _
    rw [remove_ok h1 hx he]
    have ho := hold_ok h1
    have hd := M.dir_ok (xs := xs) (f := ac.dir) (by rw [ho.1])
    rw [ho.1] at hd
    refine Nat.le_trans (cnt_filter_le _ _) (cnt_put (y := (M.holdS xs ac.dir ac.name ac.fid).2) ?_ ?_)
    · show M.find xs (M.holdS xs ac.dir ac.name ac.fid).2.fid = _
      rw [(M.find_mem hd.1).2]; exact hd.1
    · exact Nat.le_trans (List.length_filter_le _ _) (Nat.le_succ _)
theorem cnt_rename {xs : List Nd} (h : Good xs) (ac : M.Act) (v : Int) : cnt (M.renameS xs ac v).2 ≤ cnt xs + 1 := by
  by_cases h1 : (M.holdS xs ac.dir ac.name ac.fid).1 = 0
  case' neg => rw [rename_hold h1]; exact Nat.zero_le _
  by_cases h2 : (M.dirS xs ac.to).1 = 0
  case' neg => rw [rename_dir h1 h2]; exact Nat.zero_le _
  by_cases h3 : M.freeS (M.toS xs ac) ac.toName = 0
  case' neg => rw [rename_free h1 h2 h3]; exact Nat.zero_le _
  by_cases h4 : M.find xs ac.fid = none
  case' pos => rw [rename_away h1 h2 h3 h4]; exact Nat.zero_le _
  by_cases h5 : M.Reach xs ac.fid ac.to
  case' pos => rw [rename_loop h1 h2 h3 h4 h5]; exact Nat.zero_le _
  rw [rename_ok h1 h2 h3 h4 h5]
  have hf := from_good h h1
  have ht := to_good h h1 h2
  have c1 : cnt (M.putN xs (M.withV (M.fromS xs ac) v)) ≤ cnt xs + 0 := cnt_put (y := (M.holdS xs ac.dir ac.name ac.fid).2) hf.1 (List.length_filter_le _ _)
  refine Nat.le_trans ?_ (Nat.add_le_add_right c1 1)
  have e0 : (M.withV (withE (M.toS xs ac) (M.putE (M.toS xs ac).ents (ac.toName, ac.fid))) v).fid = ac.to := ht.2.1
  by_cases e : ac.to = ac.dir
  · refine cnt_put (y := M.withV (M.fromS xs ac) v) ?_ ?_
    · have e1 : (M.withV (M.fromS xs ac) v).fid = ac.to := hf.2.1.trans e.symm
      rw [e0, ← e1]
      exact M.put_find (fun y : Nd => y.fid) xs M.ordI (M.withV (M.fromS xs ac) v)
    · have e2 : M.toS xs ac = M.fromS xs ac := by unfold M.toS; rw [if_pos e]
      rw [e2]
      exact M.putE_len _ _
  · have hd := M.dir_ok h2
    have e2 : M.toS xs ac = (M.dirS xs ac.to).2 := by unfold M.toS; rw [if_neg e]
    refine cnt_put (y := (M.dirS xs ac.to).2) ?_ ?_
    · rw [e0]
      have := M.put_find_other (fun y : Nd => y.fid) xs M.ordI (M.withV (M.fromS xs ac) v) ac.to (by show ac.to ≠ (M.fromS xs ac).fid; rw [hf.2.1]; exact e)
      unfold M.find M.putN at *
      rw [this]; exact hd.1
    · rw [e2]
      exact M.putE_len _ _
theorem cnt_apply {xs : List Nd} (h : Good xs) (ac : M.Act) (v : Int) : cnt (M.applyS xs ac v).2 ≤ cnt xs + 1 := by
  unfold M.applyS
  split
  · exact cnt_bring ac v
  · split
    · exact cnt_store ac v
    · split
      · exact cnt_remove ac v
      · split
        · exact cnt_rename h ac v
        · exact Nat.zero_le _
/-- a tree that is fit for all that is asked of it -/
def Fit (xs : List Nd) (N : Nat) : Prop := Good xs ∧ cnt xs ≤ N
theorem Fit.next {xs : List Nd} {N : Nat} (h : Fit xs N) (ac : M.Act) (v : Int) : Fit (M.applyS xs ac v).2 (N + 1) := ⟨good_apply h.1 ac v, Nat.le_trans (cnt_apply h.1 ac v) (Nat.add_le_add_right h.2 1)⟩
theorem Fit.mono {xs : List Nd} {N N' : Nat} (h : Fit xs N) (hn : N ≤ N') : Fit xs N' := ⟨h.1, Nat.le_trans h.2 hn⟩
theorem Fit.wide {xs : List Nd} {N : Nat} (h : Fit xs N) (hN : N ≤ 4000000) : (∀ x ∈ xs, (x.ents.length + 1) * 24 ≤ 140737488355328) ∧ ((allF xs).length + 2) * 8 ≤ 140737488355328 := by
  have h2 : (allF xs).length ≤ N := h.2
  refine ⟨fun x hx => ?_, by omega⟩
  have := cnt_mem hx
  have := h.2
  omega
end Go.Proofs.Ytcjobmbbikfnaad
/-
  PLAIN MATHEMATICS of chapter 7: it stays a tree.
-/
namespace Go.Proofs.Ytcjobmbbikfnaad
namespace M
section
variable {K X : Type} {lt : K → K → Bool} [DecidableEq K] (f : X → K)
/-- what is put, taken out again -/
theorem put_out (o : Ordr lt) (x : X) (xs : List X) : (put lt f xs x).filter (fun y => !decide (f y = f x)) = xs.filter (fun y => lt (f y) (f x)) ++ xs.filter (fun y => lt (f x) (f y)) := by
  unfold put
  rw [List.filter_append, List.filter_cons]
  have hx : (!decide (f x = f x)) = false := by simp
  rw [if_neg (by rw [hx]; simp)]
  congr 1
  · rw [List.filter_eq_self]
    intro y hy
    have := (List.mem_filter.1 hy).2
    by_cases e : f y = f x
    · rw [e, o.irr] at this; cases this
    · simp [e]
  · rw [List.filter_eq_self]
    intro y hy
    have := (List.mem_filter.1 hy).2
    by_cases e : f y = f x
    · rw [e, o.irr] at this; cases this
    · simp [e]
end
/-- how many entries lead to a fid -/
def ec (es : List (ByteArray × Int)) (f : Int) : Nat := (es.map (·.2)).count f
def tm (xs : List Nd) (f : Int) : Nat := (allF xs).count f
theorem ec_nil (f : Int) : ec [] f = 0 := rfl
theorem ec_append (a b : List (ByteArray × Int)) (f : Int) : ec (a ++ b) f = ec a f + ec b f := by unfold ec; rw [List.map_append, List.count_append]
theorem ec_cons (e : ByteArray × Int) (es : List (ByteArray × Int)) (f : Int) : ec (e :: es) f = ec es f + if e.2 = f then 1 else 0 := by
  unfold ec
  rw [List.map_cons, List.count_cons]
  by_cases h : e.2 = f <;> simp [h]
theorem tm_nil (f : Int) : tm [] f = 0 := rfl
theorem tm_cons (x : Nd) (xs : List Nd) (f : Int) : tm (x :: xs) f = ec x.ents f + tm xs f := by unfold tm allF ec; rw [List.flatMap_cons, List.count_append]
theorem tm_append (a b : List Nd) (f : Int) : tm (a ++ b) f = tm a f + tm b f := by unfold tm allF; rw [List.flatMap_append, List.count_append]
theorem ec_pos {es : List (ByteArray × Int)} {e : ByteArray × Int} (h : e ∈ es) : 1 ≤ ec es e.2 := by
  unfold ec
  exact List.count_pos_iff.2 (List.mem_map.2 ⟨e, h, rfl⟩)
theorem tm_pos {xs : List Nd} {x : Nd} {e : ByteArray × Int} (hx : x ∈ xs) (h : e ∈ x.ents) : 1 ≤ tm xs e.2 := by
  unfold tm allF
  exact List.count_pos_iff.2 (List.mem_flatMap.2 ⟨x, hx, List.mem_map.2 ⟨e, h, rfl⟩⟩)
theorem tm_zero {xs : List Nd} {f : Int} (h : ∀ x ∈ xs, ∀ e ∈ x.ents, e.2 ≠ f) : tm xs f = 0 := by
  unfold tm allF
  rw [List.count_eq_zero]
  intro hf
  obtain ⟨x, hx, he⟩ := List.mem_flatMap.1 hf
  obtain ⟨e, he, e2⟩ := List.mem_map.1 he
  exact h x hx e he e2
theorem find_split {xs : List Nd} (hr : RsN xs) {y : Nd} {k : Int} (hy : find xs k = some y) : xs = xs.filter (fun z => ltI z.fid k) ++ y :: xs.filter (fun z => ltI k z.fid) := by
  obtain ⟨h1, h2⟩ := find_mem hy
  have := put_self (fun z : Nd => z.fid) ordI y xs hr h1
  unfold put at this
  simp only [h2] at this
  exact this.symm
theorem look_mem {es : List (ByteArray × Int)} {s : ByteArray} {a : ByteArray × Int} (h : look es s = some a) : a ∈ es ∧ a.1 = s := by
  unfold look at h
  exact ⟨List.mem_of_find?_eq_some h, by have := List.find?_some h; simpa using this⟩
theorem look_split {es : List (ByteArray × Int)} (hr : RsE es) {a : ByteArray × Int} {s : ByteArray} (h : look es s = some a) : es = es.filter (fun z => ltB z.1 s) ++ a :: es.filter (fun z => ltB s z.1) := by
  obtain ⟨h1, h2⟩ := look_mem h
  have := put_self (fun z : ByteArray × Int => z.1) ordB a es hr h1
  unfold put at this
  simp only [h2] at this
  exact this.symm
theorem look_self {es : List (ByteArray × Int)} (hr : RsE es) {e : ByteArray × Int} (h : e ∈ es) : look es e.1 = some e := by
  obtain ⟨i, hi⟩ := List.getElem?_of_mem h
  unfold look
  obtain ⟨hlt, hx⟩ := List.getElem?_eq_some_iff.1 hi
  rw [List.find?_eq_some_iff_getElem]
  refine ⟨by simp, i, hlt, hx, fun j hj => ?_⟩
  have := rs_at hr hj (at_key (f := fun x : ByteArray × Int => x.1) (List.getElem?_eq_getElem (show j < es.length by omega))) (at_key hi)
  by_cases e1 : es[j].1 = e.1
  · simp only [e1] at this
    rw [ordB.irr] at this; cases this
  · simp [e1]
/-- one in another's place -/
theorem tm_put {xs : List Nd} (hr : RsN xs) {x y : Nd} (hy : find xs x.fid = some y) (f : Int) : tm (putN xs x) f + ec y.ents f = tm xs f + ec x.ents f := by
  have h := find_split hr hy
  have e : tm xs f = tm (xs.filter (fun z => ltI z.fid x.fid)) f + (ec y.ents f + tm (xs.filter (fun z => ltI x.fid z.fid)) f) := by
    conv => lhs; rw [h]
    rw [tm_append, tm_cons]
  rw [putN_eq, tm_append, tm_cons, e]
  omega
theorem tm_put_new {xs : List Nd} (hr : RsN xs) {x : Nd} (hn : find xs x.fid = none) (f : Int) : tm (putN xs x) f = tm xs f + ec x.ents f := by
  have hne : ∀ y ∈ xs, y.fid ≠ x.fid := by
    intro y hy e
    unfold find at hn
    rw [List.find?_eq_none] at hn
    exact hn y hy (by simp [e])
  have h1 := put_drop (fun z : Nd => z.fid) xs ordI x hr hne
  have h2 := put_out (fun z : Nd => z.fid) ordI x xs
  have h3 : xs = xs.filter (fun z => ltI z.fid x.fid) ++ xs.filter (fun z => ltI x.fid z.fid) := h1.symm.trans h2
  have e : tm xs f = tm (xs.filter (fun z => ltI z.fid x.fid)) f + tm (xs.filter (fun z => ltI x.fid z.fid)) f := by
    conv => lhs; rw [h3]
    rw [tm_append]
  rw [putN_eq, tm_append, tm_cons, e]
  omega
theorem tm_drop {xs : List Nd} (hr : RsN xs) {y : Nd} {k : Int} (hy : find xs k = some y) (f : Int) : tm (dropN xs k) f + ec y.ents f = tm xs f := by
  have h := find_split hr hy
  have hk := (find_mem hy).2
  have h2 := put_out (fun z : Nd => z.fid) ordI y xs
  have h4 : put ltI (fun z : Nd => z.fid) xs y = xs := put_self (fun z : Nd => z.fid) ordI y xs hr (find_mem hy).1
  rw [h4, hk] at h2
  have e : tm xs f = tm (xs.filter (fun z => ltI z.fid k)) f + (ec y.ents f + tm (xs.filter (fun z => ltI k z.fid)) f) := by
    conv => lhs; rw [h]
    rw [tm_append, tm_cons]
  have e2 : dropN xs k = xs.filter (fun z => ltI z.fid k) ++ xs.filter (fun z => ltI k z.fid) := h2
  rw [e2, tm_append, e]
  omega
theorem ec_put {es : List (ByteArray × Int)} (hr : RsE es) {s : ByteArray} {g : Int} (hn : look es s = none) (f : Int) : ec (putE es (s, g)) f = ec es f + if g = f then 1 else 0 := by
  have hne := look_none_ne hn
  have h1 := put_drop (fun z : ByteArray × Int => z.1) es ordB (s, g) hr hne
  have h2 := put_out (fun z : ByteArray × Int => z.1) ordB (s, g) es
  have h3 : es = es.filter (fun z => ltB z.1 s) ++ es.filter (fun z => ltB s z.1) := h1.symm.trans h2
  have e : ec es f = ec (es.filter (fun z => ltB z.1 s)) f + ec (es.filter (fun z => ltB s z.1)) f := by
    conv => lhs; rw [h3]
    rw [ec_append]
  have e2 : putE es (s, g) = es.filter (fun z => ltB z.1 s) ++ (s, g) :: es.filter (fun z => ltB s z.1) := rfl
  rw [e2, ec_append, ec_cons, e]
  simp only
  omega
theorem ec_drop {es : List (ByteArray × Int)} (hr : RsE es) {s : ByteArray} {g : Int} (h : look es s = some (s, g)) (f : Int) : (ec (dropE es s) f + if g = f then 1 else 0) = ec es f := by
  have h3 := look_split hr h
  have h2 := put_out (fun z : ByteArray × Int => z.1) ordB (s, g) es
  have h4 : put ltB (fun z : ByteArray × Int => z.1) es (s, g) = es := put_self (fun z : ByteArray × Int => z.1) ordB (s, g) es hr (look_mem h).1
  rw [h4] at h2
  have e : ec es f = ec (es.filter (fun z => ltB z.1 s)) f + (ec (es.filter (fun z => ltB s z.1)) f + if g = f then 1 else 0) := by
    conv => lhs; rw [h3]
    rw [ec_append, ec_cons]
  have e2 : dropE es s = es.filter (fun z => ltB z.1 s) ++ es.filter (fun z => ltB s z.1) := h2
  rw [e2, ec_append, e]
  omega
theorem putE_mem {es : List (ByteArray × Int)} {a e : ByteArray × Int} (h : e ∈ putE es a) : e = a ∨ e ∈ es := by
  unfold putE put at h
  rcases List.mem_append.1 h with h | h
  · exact .inr (List.mem_filter.1 h).1
  · rcases List.mem_cons.1 h with h | h
    · exact .inl h
    · exact .inr (List.mem_filter.1 h).1
theorem putE_new (es : List (ByteArray × Int)) (a : ByteArray × Int) : a ∈ putE es a := by
  unfold putE put
  exact List.mem_append.2 (.inr List.mem_cons_self)
theorem putE_old {es : List (ByteArray × Int)} {a e : ByteArray × Int} (h : e ∈ es) (hne : e.1 ≠ a.1) : e ∈ putE es a := by
  unfold putE put
  cases h1 : ltB e.1 a.1
  · cases h2 : ltB a.1 e.1
    · exact absurd (ordB.tri _ _ h1 h2) hne
    · exact List.mem_append.2 (.inr (List.mem_cons_of_mem _ (List.mem_filter.2 ⟨h, h2⟩)))
  · exact List.mem_append.2 (.inl (List.mem_filter.2 ⟨h, h1⟩))
theorem dropE_mem {es : List (ByteArray × Int)} {s : ByteArray} {e : ByteArray × Int} : e ∈ dropE es s ↔ e ∈ es ∧ e.1 ≠ s := by
  unfold dropE
  rw [List.mem_filter]
  simp

/-- a node as it must be -/
def NodeOK (x : Nd) : Prop := (x.dir = false → x.ents = []) ∧ (x.dir = true → x.data = []) ∧ x.ents.length ≤ 6 ∧ x.data.length ≤ 20 ∧ ∀ e ∈ x.ents, nameB e.1.data.toList = true
/-- a tree: each node in one directory, and from the root -/
structure WholeS (xs : List Nd) : Prop where
  rise : Rise xs
  len : xs.length ≤ 24
  node : ∀ f x, find xs f = some x → NodeOK x
  ent : ∀ f x, find xs f = some x → ∀ e ∈ x.ents, ∃ y, find xs e.2 = some y
  root : ∃ r, find xs 0 = some r ∧ r.dir = true
  t0 : tm xs 0 = 0
  t1 : ∀ f x, find xs f = some x → f ≠ 0 → tm xs f = 1
  reach : ∀ f x, find xs f = some x → Reach xs 0 f
theorem WholeS.none {xs : List Nd} (h : WholeS xs) {f : Int} (hf : find xs f = none) : tm xs f = 0 := tm_zero fun x hx e he e2 => by
  obtain ⟨y, hy⟩ := h.ent x.fid x (mem_find h.rise.1 hx) e he
  rw [e2, hf] at hy
  cases hy
theorem reach_mono {xs ys : List Nd} {a : Int} (h : ∀ p x, find xs p = some x → ∀ e ∈ x.ents, ∃ y, find ys p = some y ∧ e ∈ y.ents) : ∀ g, Reach xs a g → Reach ys a g := by
  intro g hg
  induction hg with
  | refl => exact .refl
  | step _ hf he ih =>
    obtain ⟨y, hy, hey⟩ := h _ _ hf _ he
    exact .step ih hy hey
theorem reach_trans {xs : List Nd} {a b : Int} (h : Reach xs a b) : ∀ g, Reach xs b g → Reach xs a g := by
  intro g hg
  induction hg with
  | refl => exact h
  | step _ hf he ih => exact .step ih hf he

theorem whole_root : WholeS [⟨0, true, [], [], 0⟩] := by
  have hf : ∀ f x, find [⟨0, true, [], [], 0⟩] f = some x → f = 0 ∧ x = ⟨0, true, [], [], 0⟩ := by
    intro f x h
    obtain ⟨h1, h2⟩ := find_mem h
    rw [List.mem_singleton] at h1
    subst h1
    exact ⟨h2.symm, rfl⟩
  refine ⟨⟨by unfold RsN Rs; simp, by intro x hx; rw [List.mem_singleton] at hx; subst hx; exact List.Pairwise.nil⟩, by simp, ?_, ?_, ⟨_, rfl, rfl⟩, rfl, ?_, ?_⟩
  · intro f x h
    obtain ⟨rfl, rfl⟩ := hf f x h
    exact ⟨fun _ => rfl, fun _ => rfl, by simp, by simp, by simp⟩
  · intro f x h e he
    obtain ⟨rfl, rfl⟩ := hf f x h
    cases he
  · intro f x h h0
    exact absurd (hf f x h).1 h0
  · intro f x h
    rw [(hf f x h).1]
    exact .refl
theorem whole_bring {xs : List Nd} (h : WholeS xs) {ac : Act} {v : Int} (h0 : (bringS xs ac v).1 = 0) : WholeS (bringS xs ac v).2 := by
  obtain ⟨h1, h2, h3, h4⟩ := bring_inv h0
  obtain ⟨D, hD0, hD, hDd, hDf⟩ := dir_at h1
  rw [bring_ok h1 h2 h3 h4]
  rw [hD0] at h2 ⊢
  obtain ⟨hl, hnm, h6⟩ := free_ok (show freeS D ac.name = 0 from h2)
  have hfn : find xs ac.fid = none := by
    cases hx : find xs ac.fid with
    | none => rfl
    | some y => exact absurd (.inr (by rw [hx]; rfl)) h3
  have hf0 : ac.fid ≠ 0 := fun e => h3 (.inl e)
  have hne : ac.fid ≠ ac.dir := fun e => by rw [e, hD] at hfn; cases hfn
  have hRE : RsE D.ents := h.rise.2 D (find_mem hD).1
  obtain ⟨D', hD'⟩ : ∃ D', D' = withV (withE D (putE D.ents (ac.name, ac.fid))) v := ⟨_, rfl⟩
  have eF : D'.fid = ac.dir := by rw [hD']; exact hDf
  have eD : D'.dir = true := by rw [hD']; exact hDd
  have eA : D'.data = D.data := by rw [hD']; rfl
  have eE : D'.ents = putE D.ents (ac.name, ac.fid) := by rw [hD']; rfl
  show WholeS (putN (putN xs (withV (withE D (putE D.ents (ac.name, ac.fid))) v)) ⟨ac.fid, decide (ac.kind = 2), [], [], v⟩)
  rw [← hD']
  have hfi : ∀ t, find (putN (putN xs D') ⟨ac.fid, decide (ac.kind = 2), [], [], v⟩) t = if t = ac.fid then some ⟨ac.fid, decide (ac.kind = 2), [], [], v⟩ else if t = ac.dir then some D' else find xs t := by
    intro t
    rw [findN_if, findN_if, eF]
  have hfD : find (putN xs D') ac.fid = none := by rw [findN_if, eF, if_neg hne]; exact hfn
  have hr1 : Rise (putN xs D') := put_rise h.rise (by rw [eE]; exact putE_rise _ hRE)
  have hr2 : Rise (putN (putN xs D') ⟨ac.fid, decide (ac.kind = 2), [], [], v⟩) := put_rise hr1 List.Pairwise.nil
  have htm : ∀ f, tm (putN (putN xs D') ⟨ac.fid, decide (ac.kind = 2), [], [], v⟩) f = tm xs f + if ac.fid = f then 1 else 0 := by
    intro f
    rw [tm_put_new hr1.1 hfD]
    have e1 := tm_put h.rise.1 (x := D') (y := D) (by rw [eF]; exact hD) f
    have e2 := ec_put hRE (g := ac.fid) hl f
    rw [eE] at e1
    simp only [ec_nil]
    omega
  have hmono : ∀ p x, find xs p = some x → ∀ e ∈ x.ents, ∃ y, find (putN (putN xs D') ⟨ac.fid, decide (ac.kind = 2), [], [], v⟩) p = some y ∧ e ∈ y.ents := by
    intro p x hx e he
    have hp : p ≠ ac.fid := fun e => by rw [e, hfn] at hx; cases hx
    by_cases hpd : p = ac.dir
    · subst hpd
      rw [hD] at hx; cases hx
      refine ⟨D', by rw [hfi, if_neg hp, if_pos rfl], ?_⟩
      rw [eE]
      exact putE_old he (look_none_ne hl e he)
    · exact ⟨x, by rw [hfi, if_neg hp, if_neg hpd]; exact hx, he⟩
  have hback : ∀ p y, find (putN (putN xs D') ⟨ac.fid, decide (ac.kind = 2), [], [], v⟩) p = some y → (p = ac.fid ∧ y = ⟨ac.fid, decide (ac.kind = 2), [], [], v⟩) ∨ (p ≠ ac.fid ∧ p = ac.dir ∧ y = D') ∨ (p ≠ ac.fid ∧ p ≠ ac.dir ∧ find xs p = some y) := by
    intro p y hy
    rw [hfi] at hy
    by_cases hp : p = ac.fid
    · rw [if_pos hp] at hy; cases hy; exact .inl ⟨hp, rfl⟩
    · rw [if_neg hp] at hy
      by_cases hd : p = ac.dir
      · rw [if_pos hd] at hy; cases hy; exact .inr (.inl ⟨hp, hd, rfl⟩)
      · rw [if_neg hd] at hy; exact .inr (.inr ⟨hp, hd, hy⟩)
  have hND := h.node _ _ hD
  have hthere : ∀ t y, find xs t = some y → ∃ z, find (putN (putN xs D') ⟨ac.fid, decide (ac.kind = 2), [], [], v⟩) t = some z := by
    intro t y hy
    rw [hfi]
    by_cases ht : t = ac.fid
    · rw [if_pos ht]; exact ⟨_, rfl⟩
    · rw [if_neg ht]
      by_cases hd : t = ac.dir
      · rw [if_pos hd]; exact ⟨_, rfl⟩
      · rw [if_neg hd]; exact ⟨y, hy⟩
  refine ⟨hr2, ?_, ?_, ?_, ?_, ?_, ?_, ?_⟩
  · have e1 := putN_len1 (putN xs D') ⟨ac.fid, decide (ac.kind = 2), [], [], v⟩
    have e2 := putN_len (xs := xs) (x := D') (y := D) (by rw [eF]; exact hD)
    omega
  · intro p y hy
    rcases hback p y hy with ⟨_, rfl⟩ | ⟨_, _, rfl⟩ | ⟨_, _, hx⟩
    · exact ⟨fun _ => rfl, fun _ => rfl, by simp, by simp, by simp⟩
    · refine ⟨fun e => (by rw [eD] at e; cases e), fun _ => by rw [eA]; exact hND.2.1 hDd, ?_, by rw [eA]; exact hND.2.2.2.1, ?_⟩
      · rw [eE]
        have := putE_len D.ents (ac.name, ac.fid)
        omega
      · intro e he
        rw [eE] at he
        rcases putE_mem he with rfl | he
        · exact hnm
        · exact hND.2.2.2.2 e he
    · exact h.node p y hx
  · intro p y hy e he
    rcases hback p y hy with ⟨_, rfl⟩ | ⟨_, _, rfl⟩ | ⟨_, _, hx⟩
    · cases he
    · rw [eE] at he
      rcases putE_mem he with rfl | he
      · exact ⟨_, by rw [hfi, if_pos rfl]⟩
      · obtain ⟨z, hz⟩ := h.ent _ _ hD e he
        exact hthere _ z hz
    · obtain ⟨z, hz⟩ := h.ent _ _ hx e he
      exact hthere _ z hz
  · obtain ⟨r, hr, hrd⟩ := h.root
    by_cases hd : (0 : Int) = ac.dir
    · exact ⟨D', by rw [hfi, if_neg (fun e => hf0 e.symm), if_pos hd], eD⟩
    · exact ⟨r, by rw [hfi, if_neg (fun e => hf0 e.symm), if_neg hd]; exact hr, hrd⟩
  · rw [htm, h.t0, if_neg hf0]
  · intro p y hy hp0
    rw [htm]
    rcases hback p y hy with ⟨hp, _⟩ | ⟨hp, hd, _⟩ | ⟨hp, _, hx⟩
    · rw [if_pos hp.symm, hp, h.none hfn]
    · rw [if_neg (fun e => hp e.symm), h.t1 p D (by rw [hd]; exact hD) hp0]
    · rw [if_neg (fun e => hp e.symm), h.t1 p y hx hp0]
  · intro p y hy
    rcases hback p y hy with ⟨hp, _⟩ | ⟨hp, hd, _⟩ | ⟨hp, _, hx⟩
    · have hd := reach_mono hmono _ (h.reach ac.dir D hD)
      have := Reach.step (e := (ac.name, ac.fid)) hd (by rw [hfi, if_neg (fun e => hne e.symm), if_pos rfl]) (by rw [eE]; exact putE_new _ _)
      rw [hp]; exact this
    · exact reach_mono hmono _ (h.reach p D (by rw [hd]; exact hD))
    · exact reach_mono hmono _ (h.reach p y hx)
theorem whole_store {xs : List Nd} (h : WholeS xs) {ac : Act} {v : Int} (h0 : (storeS xs ac v).1 = 0) : WholeS (storeS xs ac v).2 := by
  obtain ⟨x, hx, hd, h20, e⟩ := store_inv h0
  rw [e]
  have hxf := (find_mem hx).2
  obtain ⟨x', hx'⟩ : ∃ x', x' = withV { x with data := ac.data } v := ⟨_, rfl⟩
  have eF : x'.fid = ac.fid := by rw [hx']; exact hxf
  have eD : x'.dir = false := by rw [hx']; exact hd
  have eA : x'.data = ac.data := by rw [hx']; rfl
  have eE : x'.ents = x.ents := by rw [hx']; rfl
  show WholeS (putN xs (withV { x with data := ac.data } v))
  rw [← hx']
  have hfi : ∀ t, find (putN xs x') t = if t = ac.fid then some x' else find xs t := fun t => by rw [findN_if, eF]
  have hr : Rise (putN xs x') := put_rise h.rise (by rw [eE]; exact h.rise.2 x (find_mem hx).1)
  have htm : ∀ f, tm (putN xs x') f = tm xs f := fun f => by
    have := tm_put h.rise.1 (x := x') (y := x) (by rw [eF]; exact hx) f
    rw [eE] at this
    omega
  have hback : ∀ p y, find (putN xs x') p = some y → ∃ z, find xs p = some z ∧ y.ents = z.ents ∧ NodeOK y := by
    intro p y hy
    rw [hfi] at hy
    by_cases hp : p = ac.fid
    · rw [if_pos hp] at hy; cases hy
      have hn := h.node _ _ hx
      refine ⟨x, by rw [hp]; exact hx, eE, fun _ => by rw [eE]; exact hn.1 hd, fun e => (by rw [eD] at e; cases e), by rw [eE]; exact hn.2.2.1, by rw [eA]; exact h20, by rw [eE]; exact hn.2.2.2.2⟩
    · rw [if_neg hp] at hy
      exact ⟨y, hy, rfl, h.node _ _ hy⟩
  have hthere : ∀ t y, find xs t = some y → ∃ z, find (putN xs x') t = some z ∧ z.ents = y.ents := by
    intro t y hy
    rw [hfi]
    by_cases ht : t = ac.fid
    · rw [if_pos ht]; rw [ht, hx] at hy; cases hy; exact ⟨_, rfl, eE⟩
    · rw [if_neg ht]; exact ⟨y, hy, rfl⟩
  have hmono : ∀ p x, find xs p = some x → ∀ e ∈ x.ents, ∃ y, find (putN xs x') p = some y ∧ e ∈ y.ents := by
    intro p y hy e he
    obtain ⟨z, hz, hze⟩ := hthere p y hy
    exact ⟨z, hz, by rw [hze]; exact he⟩
  refine ⟨hr, ?_, ?_, ?_, ?_, ?_, ?_, ?_⟩
  · have := putN_len (xs := xs) (x := x') (y := x) (by rw [eF]; exact hx)
    have := h.len
    omega
  · intro p y hy
    exact (hback p y hy).choose_spec.2.2
  · intro p y hy e he
    obtain ⟨z, hz, hze, _⟩ := hback p y hy
    rw [hze] at he
    obtain ⟨u, hu⟩ := h.ent _ _ hz e he
    obtain ⟨t, ht, _⟩ := hthere _ _ hu
    exact ⟨t, ht⟩
  · obtain ⟨r, hr, hrd⟩ := h.root
    have hne : (0 : Int) ≠ ac.fid := fun e => by rw [← e, hr] at hx; cases hx; rw [hd] at hrd; cases hrd
    exact ⟨r, by rw [hfi, if_neg hne]; exact hr, hrd⟩
  · rw [htm, h.t0]
  · intro p y hy hp0
    obtain ⟨z, hz, _, _⟩ := hback p y hy
    rw [htm]; exact h.t1 p z hz hp0
  · intro p y hy
    obtain ⟨z, hz, _, _⟩ := hback p y hy
    exact reach_mono hmono _ (h.reach p z hz)
theorem whole_remove {xs : List Nd} (h : WholeS xs) {ac : Act} {v : Int} (h0 : (removeS xs ac v).1 = 0) : WholeS (removeS xs ac v).2 := by
  obtain ⟨h1, x, hx, hxe⟩ := remove_inv h0
  obtain ⟨D, hD0, hD, hDd, hDf, hlk⟩ := hold_at h1
  rw [remove_ok h1 hx hxe, hD0]
  have hxn : x.ents = [] := List.eq_nil_of_length_eq_zero (by omega)
  have hRE : RsE D.ents := h.rise.2 D (find_mem hD).1
  have hin : (ac.name, ac.fid) ∈ D.ents := (look_mem hlk).1
  have hf0 : ac.fid ≠ 0 := fun e => by
    have := tm_pos (find_mem hD).1 hin
    simp only [e, h.t0] at this
    omega
  have hne : ac.fid ≠ ac.dir := fun e => by
    rw [e, hD] at hx; cases hx; rw [hxn] at hin; cases hin
  obtain ⟨D', hD'⟩ : ∃ D', D' = withV (withE D (dropE D.ents ac.name)) v := ⟨_, rfl⟩
  have eF : D'.fid = ac.dir := by rw [hD']; exact hDf
  have eD : D'.dir = true := by rw [hD']; exact hDd
  have eA : D'.data = D.data := by rw [hD']; rfl
  have eE : D'.ents = dropE D.ents ac.name := by rw [hD']; rfl
  show WholeS (dropN (putN xs (withV (withE D (dropE D.ents ac.name)) v)) ac.fid)
  rw [← hD']
  have hfi : ∀ t, find (dropN (putN xs D') ac.fid) t = if t = ac.fid then none else if t = ac.dir then some D' else find xs t := by
    intro t
    rw [findD_if, findN_if, eF]
  have hr1 : Rise (putN xs D') := put_rise h.rise (by rw [eE]; exact drop_rise hRE)
  have hr2 : Rise (dropN (putN xs D') ac.fid) := ⟨rs_sub hr1.1 (List.filter_sublist.map _), fun x hx => hr1.2 x (List.mem_filter.1 hx).1⟩
  have hfx : find (putN xs D') ac.fid = some x := by rw [findN_if, eF, if_neg hne]; exact hx
  have htm : ∀ f, (tm (dropN (putN xs D') ac.fid) f + if ac.fid = f then 1 else 0) = tm xs f := by
    intro f
    have e1 := tm_drop hr1.1 hfx f
    have e2 := tm_put h.rise.1 (x := D') (y := D) (by rw [eF]; exact hD) f
    have e3 := ec_drop hRE hlk f
    rw [eE] at e2
    rw [hxn, ec_nil] at e1
    omega
  have hback : ∀ p y, find (dropN (putN xs D') ac.fid) p = some y → p ≠ ac.fid ∧ ((p = ac.dir ∧ y = D') ∨ (p ≠ ac.dir ∧ find xs p = some y)) := by
    intro p y hy
    rw [hfi] at hy
    by_cases hp : p = ac.fid
    · rw [if_pos hp] at hy; cases hy
    · rw [if_neg hp] at hy
      refine ⟨hp, ?_⟩
      by_cases hd : p = ac.dir
      · rw [if_pos hd] at hy; cases hy; exact .inl ⟨hd, rfl⟩
      · rw [if_neg hd] at hy; exact .inr ⟨hd, hy⟩
  have hold : ∀ p y, find (dropN (putN xs D') ac.fid) p = some y → ∃ z, find xs p = some z ∧ ∀ e ∈ y.ents, e ∈ z.ents := by
    intro p y hy
    rcases (hback p y hy).2 with ⟨rfl, rfl⟩ | ⟨_, hx⟩
    · exact ⟨D, hD, fun e he => by rw [eE] at he; exact (dropE_mem.1 he).1⟩
    · exact ⟨y, hx, fun e he => he⟩
  have hthere : ∀ t y, t ≠ ac.fid → find xs t = some y → ∃ z, find (dropN (putN xs D') ac.fid) t = some z := by
    intro t y ht hy
    rw [hfi, if_neg ht]
    by_cases hd : t = ac.dir
    · rw [if_pos hd]; exact ⟨_, rfl⟩
    · rw [if_neg hd]; exact ⟨y, hy⟩
  have hND := h.node _ _ hD
  have hreach : ∀ g, Reach xs 0 g → g ≠ ac.fid → Reach (dropN (putN xs D') ac.fid) 0 g := by
    intro g hg
    induction hg with
    | refl => exact fun _ => .refl
    | @step p z e _ hf he ih =>
      intro hne2
      have hpf : p ≠ ac.fid := fun e2 => by rw [e2, hx] at hf; cases hf; rw [hxn] at he; cases he
      by_cases hpd : p = ac.dir
      · subst hpd
        rw [hD] at hf; cases hf
        have hen : e.1 ≠ ac.name := fun e2 => by
          have h3 := look_self hRE he
          rw [e2, hlk] at h3
          cases h3
          exact hne2 rfl
        exact .step (ih hpf) (by rw [hfi, if_neg hpf, if_pos rfl]) (by rw [eE]; exact dropE_mem.2 ⟨he, hen⟩)
      · exact .step (ih hpf) (by rw [hfi, if_neg hpf, if_neg hpd]; exact hf) he
  refine ⟨hr2, ?_, ?_, ?_, ?_, ?_, ?_, ?_⟩
  · have e1 : (dropN (putN xs D') ac.fid).length ≤ (putN xs D').length := List.length_filter_le _ _
    have e2 := putN_len (xs := xs) (x := D') (y := D) (by rw [eF]; exact hD)
    have := h.len
    omega
  · intro p y hy
    rcases (hback p y hy).2 with ⟨_, rfl⟩ | ⟨_, hx⟩
    · refine ⟨fun e => (by rw [eD] at e; cases e), fun _ => by rw [eA]; exact hND.2.1 hDd, ?_, by rw [eA]; exact hND.2.2.2.1, ?_⟩
      · rw [eE]
        have := drop_le D.ents ac.name
        have := hND.2.2.1
        omega
      · intro e he
        rw [eE] at he
        exact hND.2.2.2.2 e (dropE_mem.1 he).1
    · exact h.node p y hx
  · intro p y hy e he
    obtain ⟨z, hz, hsub⟩ := hold p y hy
    obtain ⟨u, hu⟩ := h.ent _ _ hz e (hsub e he)
    refine hthere e.2 u (fun e2 => ?_) hu
    have h3 := tm_pos (find_mem hy).1 he
    have h4 := htm e.2
    rw [e2, if_pos rfl] at h4
    rw [e2] at h3
    have h5 := h.t1 _ _ hx hf0
    omega
  · obtain ⟨r, hr, hrd⟩ := h.root
    by_cases hd : (0 : Int) = ac.dir
    · exact ⟨D', by rw [hfi, if_neg (fun e => hf0 e.symm), if_pos hd], eD⟩
    · exact ⟨r, by rw [hfi, if_neg (fun e => hf0 e.symm), if_neg hd]; exact hr, hrd⟩
  · have := htm 0
    rw [h.t0] at this
    omega
  · intro p y hy hp0
    obtain ⟨z, hz, _⟩ := hold p y hy
    have h4 := htm p
    rw [if_neg (fun e => (hback p y hy).1 e.symm), h.t1 p z hz hp0] at h4
    omega
  · intro p y hy
    obtain ⟨z, hz, _⟩ := hold p y hy
    exact hreach p (h.reach p z hz) (hback p y hy).1
theorem whole_rename {xs : List Nd} (h : WholeS xs) {ac : Act} {v : Int} (h0 : (renameS xs ac v).1 = 0) : WholeS (renameS xs ac v).2 := by
  obtain ⟨h1, h2, h3, h4, h5⟩ := rename_inv h0
  obtain ⟨D, hD0, hD, hDd, hDf, hlk⟩ := hold_at h1
  obtain ⟨T, hT0, hT, hTd, hTf⟩ := dir_at h2
  rw [rename_ok h1 h2 h3 h4 h5]
  obtain ⟨hl, hnm, h6⟩ := free_ok h3
  obtain ⟨x, hx⟩ : ∃ x, find xs ac.fid = some x := by
    cases e : find xs ac.fid with
    | none => exact absurd e h4
    | some x => exact ⟨x, rfl⟩
  have hRE : RsE D.ents := h.rise.2 D (find_mem hD).1
  have hRT : RsE T.ents := h.rise.2 T (find_mem hT).1
  have hin : (ac.name, ac.fid) ∈ D.ents := (look_mem hlk).1
  have hf0 : ac.fid ≠ 0 := fun e => by
    have := tm_pos (find_mem hD).1 hin
    simp only [e, h.t0] at this
    omega
  have hND := h.node _ _ hD
  have hNT := h.node _ _ hT
  obtain ⟨F, hF⟩ : ∃ F, F = withV (fromS xs ac) v := ⟨_, rfl⟩
  have fF : F.fid = ac.dir := by rw [hF]; show (holdS xs ac.dir ac.name ac.fid).2.fid = _; rw [hD0]; exact hDf
  have fD : F.dir = true := by rw [hF]; show (holdS xs ac.dir ac.name ac.fid).2.dir = _; rw [hD0]; exact hDd
  have fA : F.data = D.data := by rw [hF]; show (holdS xs ac.dir ac.name ac.fid).2.data = _; rw [hD0]
  have fE : F.ents = dropE D.ents ac.name := by rw [hF]; show dropE (holdS xs ac.dir ac.name ac.fid).2.ents ac.name = _; rw [hD0]
  have e0 : (toS xs ac).fid = ac.to ∧ (toS xs ac).dir = true ∧ ((ac.to = ac.dir ∧ (toS xs ac).data = D.data ∧ (toS xs ac).ents = dropE D.ents ac.name) ∨ (ac.to ≠ ac.dir ∧ (toS xs ac).data = T.data ∧ (toS xs ac).ents = T.ents)) := by
    unfold toS
    by_cases e : ac.to = ac.dir
    · rw [if_pos e]
      have a1 : (fromS xs ac).fid = ac.dir := by unfold fromS; rw [hD0]; exact hDf
      have a2 : (fromS xs ac).dir = true := by unfold fromS; rw [hD0]; exact hDd
      have a3 : (fromS xs ac).data = D.data := by unfold fromS; rw [hD0]
      have a4 : (fromS xs ac).ents = dropE D.ents ac.name := by unfold fromS; rw [hD0]
      exact ⟨by rw [a1, e], a2, .inl ⟨e, a3, a4⟩⟩
    · rw [if_neg e, hT0]
      exact ⟨hTf, hTd, .inr ⟨e, rfl, rfl⟩⟩
  generalize toS xs ac = T0 at *
  obtain ⟨T', hT'⟩ : ∃ T', T' = withV (withE T0 (putE T0.ents (ac.toName, ac.fid))) v := ⟨_, rfl⟩
  have tF : T'.fid = ac.to := by rw [hT']; exact e0.1
  have tD : T'.dir = true := by rw [hT']; exact e0.2.1
  have tA : T'.data = T0.data := by rw [hT']; rfl
  have tE : T'.ents = putE T0.ents (ac.toName, ac.fid) := by rw [hT']; rfl
  have hR0 : RsE T0.ents := by
    rcases e0.2.2 with ⟨_, _, e⟩ | ⟨_, _, e⟩
    · rw [e]; exact drop_rise hRE
    · rw [e]; exact hRT
  show WholeS (putN (putN xs (withV (fromS xs ac) v)) (withV (withE T0 (putE T0.ents (ac.toName, ac.fid))) v))
  rw [← hF, ← hT']
  have hfi : ∀ t, find (putN (putN xs F) T') t = if t = ac.to then some T' else if t = ac.dir then some F else find xs t := by
    intro t
    rw [findN_if, findN_if, fF, tF]
  have hr1 : Rise (putN xs F) := put_rise h.rise (by rw [fE]; exact drop_rise hRE)
  have hr2 : Rise (putN (putN xs F) T') := put_rise hr1 (by rw [tE]; exact putE_rise _ hR0)
  obtain ⟨T1, hT1, hT1e⟩ : ∃ T1, find (putN xs F) ac.to = some T1 ∧ T1.ents = T0.ents := by
    rw [findN_if, fF]
    rcases e0.2.2 with ⟨e, _, e2⟩ | ⟨e, _, e2⟩
    · rw [if_pos e]; exact ⟨F, rfl, by rw [fE, e2]⟩
    · rw [if_neg e]; exact ⟨T, hT, e2.symm⟩
  have htm : ∀ f, tm (putN (putN xs F) T') f = tm xs f := by
    intro f
    have a1 := tm_put h.rise.1 (x := F) (y := D) (by rw [fF]; exact hD) f
    have a2 := ec_drop hRE hlk f
    have a3 := tm_put hr1.1 (x := T') (y := T1) (by rw [tF]; exact hT1) f
    have a4 := ec_put hR0 (g := ac.fid) hl f
    rw [fE] at a1
    rw [tE, hT1e] at a3
    omega
  have hthere : ∀ t y, find xs t = some y → ∃ z, find (putN (putN xs F) T') t = some z := by
    intro t y hy
    rw [hfi]
    by_cases ht : t = ac.to
    · rw [if_pos ht]; exact ⟨_, rfl⟩
    · rw [if_neg ht]
      by_cases hd : t = ac.dir
      · rw [if_pos hd]; exact ⟨_, rfl⟩
      · rw [if_neg hd]; exact ⟨y, hy⟩
  have hback : ∀ p y, find (putN (putN xs F) T') p = some y → (∃ z, find xs p = some z) ∧ (y = T' ∨ y = F ∨ find xs p = some y) := by
    intro p y hy
    rw [hfi] at hy
    by_cases hp : p = ac.to
    · rw [if_pos hp] at hy; cases hy; exact ⟨⟨T, by rw [hp]; exact hT⟩, .inl rfl⟩
    · rw [if_neg hp] at hy
      by_cases hd : p = ac.dir
      · rw [if_pos hd] at hy; cases hy; exact ⟨⟨D, by rw [hd]; exact hD⟩, .inr (.inl rfl)⟩
      · rw [if_neg hd] at hy; exact ⟨⟨y, hy⟩, .inr (.inr hy)⟩
  have hedge : ∀ p z, find xs p = some z → ∀ e ∈ z.ents, e.2 = ac.fid ∨ ∃ y, find (putN (putN xs F) T') p = some y ∧ e ∈ y.ents := by
    intro p z hz e he
    by_cases hgone : p = ac.dir ∧ e.1 = ac.name
    · left
      obtain ⟨hp, hn⟩ := hgone
      rw [hp, hD] at hz; cases hz
      have a1 := look_self hRE he
      rw [hn, hlk] at a1
      cases a1
      rfl
    · right
      rw [hfi]
      by_cases hp : p = ac.to
      · rw [if_pos hp]
        refine ⟨T', rfl, ?_⟩
        rw [tE]
        have hin0 : e ∈ T0.ents := by
          rcases e0.2.2 with ⟨a1, _, a2⟩ | ⟨a1, _, a2⟩
          · rw [a2]
            rw [hp, a1, hD] at hz; cases hz
            exact dropE_mem.2 ⟨he, fun e2 => hgone ⟨hp.trans a1, e2⟩⟩
          · rw [a2]
            rw [hp, hT] at hz; cases hz
            exact he
        exact putE_old hin0 (look_none_ne hl e hin0)
      · rw [if_neg hp]
        by_cases hd : p = ac.dir
        · rw [if_pos hd]
          refine ⟨F, rfl, ?_⟩
          rw [fE]
          rw [hd, hD] at hz; cases hz
          exact dropE_mem.2 ⟨he, fun e2 => hgone ⟨hd, e2⟩⟩
        · rw [if_neg hd]; exact ⟨z, hz, he⟩
  have hA : ∀ g, Reach xs 0 g → ¬ Reach xs ac.fid g → Reach (putN (putN xs F) T') 0 g := by
    intro g hg
    induction hg with
    | refl => exact fun _ => .refl
    | @step p z e _ hf he ih =>
      intro hno
      have hp : ¬ Reach xs ac.fid p := fun h => hno (.step h hf he)
      rcases hedge p z hf e he with e1 | ⟨y, hy, hey⟩
      · exact absurd (by rw [e1]; exact .refl) hno
      · exact .step (ih hp) hy hey
  have hB : Reach (putN (putN xs F) T') 0 ac.fid := by
    have a1 := hA ac.to (h.reach _ _ hT) h5
    exact .step (e := (ac.toName, ac.fid)) a1 (by rw [hfi, if_pos rfl]) (by rw [tE]; exact putE_new _ _)
  have hC : ∀ g, Reach xs ac.fid g → Reach (putN (putN xs F) T') 0 g := by
    intro g hg
    induction hg with
    | refl => exact hB
    | @step p z e _ hf he ih =>
      rcases hedge p z hf e he with e1 | ⟨y, hy, hey⟩
      · rw [e1]; exact hB
      · exact .step ih hy hey
  refine ⟨hr2, ?_, ?_, ?_, ?_, ?_, ?_, ?_⟩
  · have a1 := putN_len (xs := xs) (x := F) (y := D) (by rw [fF]; exact hD)
    have a2 := putN_len (xs := putN xs F) (x := T') (y := T1) (by rw [tF]; exact hT1)
    have := h.len
    omega
  · intro p y hy
    rcases (hback p y hy).2 with rfl | rfl | hx
    · refine ⟨fun e => (by rw [tD] at e; cases e), fun _ => ?_, ?_, ?_, ?_⟩
      · rw [tA]
        rcases e0.2.2 with ⟨_, a1, _⟩ | ⟨_, a1, _⟩
        · rw [a1]; exact hND.2.1 hDd
        · rw [a1]; exact hNT.2.1 hTd
      · rw [tE]
        have := putE_len T0.ents (ac.toName, ac.fid)
        omega
      · rw [tA]
        rcases e0.2.2 with ⟨_, a1, _⟩ | ⟨_, a1, _⟩
        · rw [a1]; exact hND.2.2.2.1
        · rw [a1]; exact hNT.2.2.2.1
      · intro e he
        rw [tE] at he
        rcases putE_mem he with rfl | he
        · exact hnm
        · rcases e0.2.2 with ⟨_, _, a1⟩ | ⟨_, _, a1⟩
          · rw [a1] at he; exact hND.2.2.2.2 e (dropE_mem.1 he).1
          · rw [a1] at he; exact hNT.2.2.2.2 e he
    · refine ⟨fun e => (by rw [fD] at e; cases e), fun _ => by rw [fA]; exact hND.2.1 hDd, ?_, by rw [fA]; exact hND.2.2.2.1, ?_⟩
      · rw [fE]
        have := drop_le D.ents ac.name
        have := hND.2.2.1
        omega
      · intro e he
        rw [fE] at he
        exact hND.2.2.2.2 e (dropE_mem.1 he).1
    · exact h.node p y hx
  · intro p y hy e he
    have hgo : ∀ p z, find xs p = some z → e ∈ z.ents → ∃ u, find (putN (putN xs F) T') e.2 = some u := fun p z hz he => by
      obtain ⟨u, hu⟩ := h.ent _ _ hz e he
      exact hthere _ u hu
    rcases (hback p y hy).2 with rfl | rfl | hx
    · rw [tE] at he
      rcases putE_mem he with rfl | he
      · exact hthere _ x hx
      · rcases e0.2.2 with ⟨_, _, a1⟩ | ⟨_, _, a1⟩
        · rw [a1] at he; exact hgo _ D hD (dropE_mem.1 he).1
        · rw [a1] at he; exact hgo _ T hT he
    · rw [fE] at he
      exact hgo _ D hD (dropE_mem.1 he).1
    · exact hgo p y hx he
  · obtain ⟨r, hr, hrd⟩ := h.root
    rw [hfi]
    by_cases ht : (0 : Int) = ac.to
    · rw [if_pos ht]; exact ⟨T', rfl, tD⟩
    · rw [if_neg ht]
      by_cases hd : (0 : Int) = ac.dir
      · rw [if_pos hd]; exact ⟨F, rfl, fD⟩
      · rw [if_neg hd]; exact ⟨r, hr, hrd⟩
  · rw [htm, h.t0]
  · intro p y hy hp0
    obtain ⟨z, hz⟩ := (hback p y hy).1
    rw [htm, h.t1 p z hz hp0]
  · intro p y hy
    obtain ⟨z, hz⟩ := (hback p y hy).1
    by_cases hre : Reach xs ac.fid p
    · exact hC p hre
    · exact hA p (h.reach p z hz) hre
/-- IT STAYS A TREE, act by act -/
theorem whole_apply {xs : List Nd} (h : WholeS xs) {ac : Act} {v : Int} (h0 : (applyS xs ac v).1 = 0) : WholeS (applyS xs ac v).2 := by
  rcases apply_cases h0 with ⟨_, _, _, e⟩ | ⟨_, e⟩ | ⟨_, e⟩ | ⟨_, e⟩
  · rw [e] at h0 ⊢; exact whole_bring h h0
  · rw [e] at h0 ⊢; exact whole_store h h0
  · rw [e] at h0 ⊢; exact whole_remove h h0
  · rw [e] at h0 ⊢; exact whole_rename h h0
theorem whole_apps : ∀ (l : List Act) {xs ys : List Nd} {v : Int}, WholeS xs → appsS xs l v = some ys → WholeS ys
  | [], _, _, _, h, e => by cases e; exact h
  | a :: l, xs, ys, v, h, e => by
    rw [appsS] at e
    split at e
    · rename_i h0
      exact whole_apps l (whole_apply h h0) e
    · cases e
end M
end Go.Proofs.Ytcjobmbbikfnaad
/-
  PLAIN MATHEMATICS of chapter 7: what a server does.
-/
namespace Go.Proofs.Ytcjobmbbikfnaad
namespace M
def newS : Srv := ⟨[⟨0, true, [], [], 0⟩], 1, []⟩
/-- the act, as it is here -/
def actN (s : Srv) (a : Act) : Act := if makeB a then { a with fid := s.next } else a
noncomputable def doS (s : Srv) (c : Int) (a : Act) : Int × Srv :=
  if (applyS s.tr (actN s a) ((s.past.length : Int) + 1)).1 = 0 then (0, ⟨(applyS s.tr (actN s a) ((s.past.length : Int) + 1)).2, if makeB a then s.next + 1 else s.next, s.past ++ [⟨c, actN s a⟩]⟩)
  else ((applyS s.tr (actN s a) ((s.past.length : Int) + 1)).1, ⟨[], 0, []⟩)
theorem do_yes {s : Srv} {c : Int} {a : Act} (h : (applyS s.tr (actN s a) ((s.past.length : Int) + 1)).1 = 0) : doS s c a = (0, ⟨(applyS s.tr (actN s a) ((s.past.length : Int) + 1)).2, if makeB a then s.next + 1 else s.next, s.past ++ [⟨c, actN s a⟩]⟩) := by unfold doS; rw [if_pos h]
theorem do_no {s : Srv} {c : Int} {a : Act} (h : (applyS s.tr (actN s a) ((s.past.length : Int) + 1)).1 ≠ 0) : doS s c a = ((applyS s.tr (actN s a) ((s.past.length : Int) + 1)).1, ⟨[], 0, []⟩) := by unfold doS; rw [if_neg h]
noncomputable def takeS (s : Srv) (c : Int) (l : List Rec) : Srv :=
  ⟨(judS (begS s.tr s.next ((s.past.length : Int) + 1)) l).tr, (judS (begS s.tr s.next ((s.past.length : Int) + 1)) l).next, s.past ++ ofC c (judS (begS s.tr s.next ((s.past.length : Int) + 1)) l).done⟩
noncomputable def vdsS (s : Srv) (l : List Rec) : List (Int × Int) := verS (begS s.tr s.next ((s.past.length : Int) + 1)) l
def pastA (l : List Past) : List Act := l.map (·.act)
theorem pastA_append (l m : List Past) : pastA (l ++ m) = pastA l ++ pastA m := List.map_append
theorem pastA_ofC (c : Int) (l : List Act) : pastA (ofC c l) = l := by unfold pastA ofC; rw [List.map_map]; exact List.map_id' l
theorem pastA_len (l : List Past) : (pastA l).length = l.length := List.length_map _
theorem ofC_len (c : Int) (l : List Act) : (ofC c l).length = l.length := List.length_map _
theorem apps_app : ∀ (l m : List Act) (xs ys : List Nd) (v : Int), appsS xs l v = some ys → appsS xs (l ++ m) v = appsS ys m (v + l.length)
  | [], m, xs, ys, v, h => by cases h; simp
  | a :: l, m, xs, ys, v, h => by
    rw [appsS] at h
    split at h
    · rename_i h0
      rw [List.cons_append, appsS, if_pos h0, apps_app l m _ ys (v + 1) h, List.length_cons]
      congr 1
      omega
    · cases h
theorem madeN_le' (l : List Act) : madeN l ≤ l.length := List.length_filter_le _ _
end M

theorem smallA_actN {s : M.Srv} {a : M.Act} (h : SmallA a) : SmallA (M.actN s a) := by
  unfold M.actN
  split
  · exact h
  · exact h
theorem small_dones : ∀ (l : List M.Rec) {s : M.St}, (∀ a ∈ s.done, SmallA a) → (∀ x ∈ l, SmallA x.act) → ∀ a ∈ (M.judS s l).done, SmallA a
  | [], _, h, _ => h
  | r :: l, s, h, hl => by
    refine small_dones l (s := M.stepS s r) ?_ fun x hx => hl x (List.mem_cons_of_mem _ hx)
    intro a ha
    by_cases h0 : (M.tryS s r).1 = 0
    · rw [M.step_yes h0] at ha
      have ha : a ∈ s.done ++ [M.hereS s r.act] := ha
      rcases List.mem_append.1 ha with h1 | h1
      · exact h a h1
      · rw [List.mem_singleton.1 h1]
        exact (hl r List.mem_cons_self : SmallA r.act)
    · rw [M.step_no h0] at ha
      exact h a ha
theorem jud_len (xs : List M.Nd) (n v : Int) : ∀ (l : List M.Rec) {s : M.St} {k : Nat}, Near n v k s → (M.judS s l).done.length ≤ k + l.length ∧ (M.judS s l).next ≤ n + k + l.length ∧ n ≤ (M.judS s l).next
  | [], s, k, h => ⟨h.len, by simpa [M.judS] using h.nhi, h.nlo⟩
  | r :: l, s, k, h => by
    have h1 := jud_len xs n v l (near_step h r)
    refine ⟨?_, ?_, h1.2.2⟩
    · have := h1.1
      show (M.judS (M.stepS s r) l).done.length ≤ _
      rw [List.length_cons]; omega
    · have := h1.2.1
      show (M.judS (M.stepS s r) l).next ≤ _
      rw [List.length_cons]
      omega
/-- a server as it must be: k acts are in it at most -/
structure SrvOK (s : M.Srv) (k : Nat) : Prop where
  good : Good s.tr
  run : M.appsS rootR (M.pastA s.past) 1 = some s.tr
  lo : 1 ≤ s.next
  hi : s.next ≤ 1 + k
  len : s.past.length ≤ k
  small : ∀ x ∈ s.past, SmallA x.act
theorem ok_new : SrvOK M.newS 0 := ⟨good_root, rfl, by decide, by decide, by decide, by intro x hx; cases hx⟩
theorem SrvOK.mono {s : M.Srv} {k m : Nat} (h : SrvOK s k) (hm : k ≤ m) : SrvOK s m := ⟨h.good, h.run, h.lo, by have := h.hi; omega, by have := h.len; omega, h.small⟩
theorem ok_do {s : M.Srv} {k : Nat} (h : SrvOK s k) {c : Int} {a : M.Act} (ha : SmallA a) (h0 : (M.doS s c a).1 = 0) : SrvOK (M.doS s c a).2 (k + 1) := by
  by_cases h1 : (M.applyS s.tr (M.actN s a) ((s.past.length : Int) + 1)).1 = 0
  · rw [M.do_yes h1]
    refine ⟨good_apply h.good _ _, ?_, ?_, ?_, ?_, ?_⟩
    · show M.appsS rootR (M.pastA (s.past ++ [⟨c, M.actN s a⟩])) 1 = _
      have e := M.apps_app (M.pastA s.past) [M.actN s a] _ _ _ h.run
      rw [M.pastA_append]
      show M.appsS rootR (M.pastA s.past ++ [M.actN s a]) 1 = _
      rw [e, M.pastA_len, show (1 : Int) + (s.past.length : Int) = (s.past.length : Int) + 1 by omega, M.appsS, if_pos h1]
      rfl
    · show 1 ≤ (if M.makeB a then s.next + 1 else s.next)
      have := h.lo
      split <;> omega
    · show (if M.makeB a then s.next + 1 else s.next) ≤ _
      have := h.hi
      split <;> omega
    · show (s.past ++ [(⟨c, M.actN s a⟩ : M.Past)]).length ≤ _
      rw [List.length_append, List.length_singleton]
      have := h.len
      omega
    · intro x hx
      rcases List.mem_append.1 hx with hx | hx
      · exact h.small x hx
      · rw [List.mem_singleton.1 hx]; exact smallA_actN ha
  · rw [M.do_no h1] at h0
    exact absurd h0 h1
theorem ok_take {s : M.Srv} {k : Nat} (h : SrvOK s k) (c : Int) {l : List M.Rec} (hl : ∀ x ∈ l, SmallA x.act) : SrvOK (M.takeS s c l) (k + l.length) := by
  have hd := M.done_all s.tr s.next ((s.past.length : Int) + 1) l
  have hn := jud_len s.tr s.next ((s.past.length : Int) + 1) l (near_beg s.tr s.next ((s.past.length : Int) + 1))
  have hlo := h.lo
  have hhi := h.hi
  have hln := h.len
  refine ⟨good_jud l h.good, ?_, ?_, ?_, ?_, ?_⟩
  · show M.appsS rootR (M.pastA (s.past ++ ofC c _)) 1 = some (M.judS _ l).tr
    rw [M.pastA_append, M.pastA_ofC, M.apps_app (M.pastA s.past) _ _ _ _ h.run, M.pastA_len, show (1 : Int) + (s.past.length : Int) = (s.past.length : Int) + 1 by omega]
    exact hd.run
  · exact Int.le_trans hlo hn.2.2
  · have := hn.2.1
    show (M.judS _ l).next ≤ _
    omega
  · have := hn.1
    show (s.past ++ ofC c _).length ≤ _
    rw [List.length_append, M.ofC_len]
    omega
  · intro x hx
    rcases List.mem_append.1 hx with hx | hx
    · exact h.small x hx
    · unfold ofC at hx
      obtain ⟨a, ha, rfl⟩ := List.mem_map.1 hx
      exact small_dones l (by intro a ha; cases ha) hl a ha
theorem whole_do {s : M.Srv} (h : M.WholeS s.tr) {c : Int} {a : M.Act} (h0 : (M.doS s c a).1 = 0) : M.WholeS (M.doS s c a).2.tr := by
  by_cases h1 : (M.applyS s.tr (M.actN s a) ((s.past.length : Int) + 1)).1 = 0
  · rw [M.do_yes h1]; exact M.whole_apply h h1
  · rw [M.do_no h1] at h0; exact absurd h0 h1
theorem whole_take {s : M.Srv} (h : M.WholeS s.tr) (c : Int) (l : List M.Rec) : M.WholeS (M.takeS s c l).tr :=
  M.whole_apps _ h (M.done_all s.tr s.next ((s.past.length : Int) + 1) l).run
end Go.Proofs.Ytcjobmbbikfnaad
/-
  PACKAGE server: a server in memory; New, Version, Own.
-/
namespace Go.Proofs.Ytcjobmbbikfnaad
open Go.RowKit

/-- a server's value -/
structure SV where
  A : Option Addr
  n : Nat
  c : Nat
  next : Int
  P : Option Addr
  p : Nat
  q : Nat
@[reducible] def SV.val (v : SV) : Value := .agg #[.slice v.A v.n v.c, .int .i64 v.next, .slice v.P v.p v.q]
def SV.zero : SV := ⟨none, 0, 0, 0, none, 0, 0⟩
/-- the value v is the server s -/
def ServM (w : World) (v : SV) (s : M.Srv) : Prop := v.next = s.next ∧ (∃ vs, Tree w v.A v.n vs s.tr) ∧ ∃ pvs, TreeP w v.P v.p pvs s.past
theorem ServM.below {B : Nat} {w w' : World} {v : SV} {s : M.Srv} (h : ServM w v s) (hB : w.heap.size ≤ B) (hb : Below B w w') : ServM w' v s := by
  obtain ⟨h1, ⟨vs, h2⟩, ps, h3⟩ := h
  exact ⟨h1, ⟨vs, h2.below hB hb⟩, ps, h3.below hB hb⟩
theorem ServM.lens {w : World} {v : SV} {s : M.Srv} (h : ServM w v s) : v.n = s.tr.length ∧ v.p = s.past.length := by
  obtain ⟨h1, ⟨vs, h2⟩, ps, h3⟩ := h
  exact ⟨by rw [h2.1.1, h2.2.1], h3.len⟩
/-- a server of one's own -/
def OwnS (w : World) (B : Nat) (v : SV) (s : M.Srv) : Prop := v.next = s.next ∧ (∃ vs, OwnT w B v.A v.n v.c vs s.tr) ∧ ∃ pvs, OwnP w B v.P v.p v.q pvs s.past
theorem OwnS.serv {w : World} {B : Nat} {v : SV} {s : M.Srv} (h : OwnS w B v s) : ServM w v s := by
  obtain ⟨h1, ⟨vs, h2⟩, ps, h3⟩ := h
  exact ⟨h1, ⟨vs, h2.tree⟩, ps, h3.tree⟩
theorem OwnS.mono {w : World} {B B' : Nat} {v : SV} {s : M.Srv} (h : OwnS w B v s) (hB : B' ≤ B) : OwnS w B' v s := by
  obtain ⟨h1, ⟨vs, h2⟩, ps, h3⟩ := h
  exact ⟨h1, ⟨vs, h2.mono hB⟩, ps, h3.mono hB⟩
theorem OwnS.below {B C : Nat} {w w' : World} {v : SV} {s : M.Srv} (h : OwnS w B v s) (hC : w.heap.size ≤ C) (hb : Below C w w') : OwnS w' B v s := by
  obtain ⟨h1, ⟨vs, h2⟩, ps, h3⟩ := h
  exact ⟨h1, ⟨vs, h2.below hC hb⟩, ps, h3.below hC hb⟩
theorem OwnP.keep {w w' : World} {B : Nat} {A : Option Addr} {n c : Nat} {vs : List PV} {xs : List M.Past} (h : OwnP w B A n c vs xs) (hA : KeepE 71 w w') (h5 : KeepE 5 w w') : OwnP w' B A n c vs xs :=
  ⟨own_keep h.1 hA, h.2.imp fun _ _ h => ⟨h.1, h.2.keep h5⟩⟩
theorem OwnS.keep {w w' : World} {B : Nat} {v : SV} {s : M.Srv} (h : OwnS w B v s) (hk : KeepO 51 w w') : OwnS w' B v s := by
  obtain ⟨h1, ⟨vs, h2⟩, ps, h3⟩ := h
  exact ⟨h1, ⟨vs, h2.keep (hk _ (by decide)) (hk _ (by decide)) (hk _ (by decide))⟩, ps, h3.keep (hk _ (by decide)) (hk _ (by decide))⟩
theorem own_zeroS (w : World) (B : Nat) : OwnS w B SV.zero ⟨[], 0, []⟩ := ⟨rfl, ⟨[], ownT_nil w B⟩, [], OwnP.nil w B⟩
def BoxS (w : World) (g : Nat) (v : SV) : Prop := w.heap[g]? = some (.cells #[.slice v.A v.n v.c, .int .i64 v.next, .slice v.P v.p v.q] 51 (0, 0))
section
variable {w w' : World} {g B : Nat} {v : SV}
theorem BoxS.facts (h : BoxS w g v) : w.cell? ⟨g, 0, none⟩ = some (.slice v.A v.n v.c) ∧ w.cell? ⟨g, 1, none⟩ = some (.int .i64 v.next) ∧ w.cell? ⟨g, 2, none⟩ = some (.slice v.P v.p v.q) ∧ (∀ o, w.frozen? ⟨g, o, none⟩ = false) ∧ g < w.heap.size := by
  unfold BoxS at h
  exact ⟨by simp [World.cell?, h], by simp [World.cell?, h], by simp [World.cell?, h], fun o => by simp [World.frozen?, h], lt_of_block h⟩
theorem BoxS.below (h : BoxS w g v) (hb : Below B w w') (hs : g < B) : BoxS w' g v := by
  unfold BoxS at h ⊢; rw [hb.block g hs]; exact h
theorem BoxS.alloc (h : BoxS w g v) (o : Obj) : BoxS (w.alloc o) g v := by
  unfold BoxS at h ⊢; rw [Below.heap_alloc w o g (lt_of_block h)]; exact h
theorem boxS_one (w : World) (A : Option Addr) (n c : Nat) (nx : Int) (P : Option Addr) (p q : Nat) : ∀ W, W = w.alloc (.cells #[.slice A n c, .int .i64 nx, .slice P p q] 51) → Below w.heap.size w W ∧ BoxS W w.heap.size ⟨A, n, c, nx, P, p, q⟩ ∧ W.heap.size = w.heap.size + 1 := by
  rintro W rfl
  exact ⟨(Below.refl _ _).alloc (Nat.le_refl _) _, heap_alloc_new w _, by simp⟩
/-- another server in the box -/
theorem BoxS.put (h : BoxS w g v) (A : Option Addr) (n c : Nat) (nx : Int) (P : Option Addr) (p q : Nat) : ∀ W, W = ((w.setCell ⟨g, 0, none⟩ (.slice A n c)).setCell ⟨g, 1, none⟩ (.int .i64 nx)).setCell ⟨g, 2, none⟩ (.slice P p q) →
    BoxS W g ⟨A, n, c, nx, P, p, q⟩ ∧ KeepO 51 w W ∧ (∀ B, B ≤ g → Below B w W) ∧ W.heap.size = w.heap.size := by
  rintro W rfl
  have h1 := heap_setCell_same w g 0 _ 51 (.slice A n c) h
  have h2 := heap_setCell_same _ g 1 _ 51 (.int .i64 nx) h1
  have h3 := heap_setCell_same _ g 2 _ 51 (.slice P p q) h2
  refine ⟨by unfold BoxS; rw [h3]; rfl, ((KeepO.setCell h 0 _).trans (KeepO.setCell h1 1 _)).trans (KeepO.setCell h2 2 _), fun B hB => (((Below.refl _ _).setCell (p := ⟨g, 0, none⟩) hB _).setCell (p := ⟨g, 1, none⟩) hB _).setCell (p := ⟨g, 2, none⟩) hB _, by simp⟩
end

theorem version_any (v : SV) (w : World) (hp : v.p ≤ 140737488355328) :
    Calls Try.prog 20 #[v.val] w fun e w' => e = .returned (.int .i64 ((v.p : Int) + 1)) ∧ Below w.heap.size w w' := by
  have HW : Hid (Below w.heap.size w (w.alloc (.cells #[.slice v.A v.n v.c, .int .i64 v.next, .slice v.P v.p v.q] 51))) := (Below.refl _ _).alloc (Nat.le_refl _) _
  go_enter Try.func20, Try.ntmps20
  go_wp2
  go_ret
  exact ⟨rfl, HW.out⟩
theorem newS_any (w : World) : Calls Try.prog 12 #[] w fun e w' => ∃ v : SV, e = .returned v.val ∧ OwnS w' w.heap.size v M.newS ∧ Below w.heap.size w w' := by
  have HW : Hid _ := boxS_one w none 0 0 0 none 0 0
  go_enter Try.func12, Try.ntmps12
  go_wp2_with (fail)
  obtain ⟨q1, q2, q3⟩ := HW.out _ rfl
  refine (newT_any _).mono ?_
  rintro e w1 ⟨g, vs, rfl, ho, hb1⟩
  rw [q3] at ho
  have H1 : Hid (Below w.heap.size w w1 ∧ BoxS w1 w.heap.size SV.zero ∧ OwnT w1 (w.heap.size + 1) (some ⟨g, 0, none⟩) 1 1 vs rootR) := ⟨q1.trans (hb1.mono q1.size), q2.below hb1 (by omega), ho⟩
  clear q1 q2 q3 ho hb1 HW
  have HP : Hid _ := H1.out.2.1.put (some ⟨g, 0, none⟩) 1 1 1 none 0 0
  obtain ⟨f0, f1, f2, ff, fz⟩ := H1.out.2.1.facts
  go_wp2_with (fail)
  obtain ⟨p1, p2, p3, p4⟩ := HP.out _ rfl
  exact bodyPost_ret (v := SV.val ⟨some ⟨g, 0, none⟩, 1, 1, 1, none, 0, 0⟩) (by simp [results, Try.results12, go_sem, f0, f1, f2]) rfl ⟨⟨some ⟨g, 0, none⟩, 1, 1, 1, none, 0, 0⟩, rfl, ⟨rfl, ⟨vs, (H1.out.2.2.keep (p2 _ (by decide)) (p2 _ (by decide)) (p2 _ (by decide))).mono (Nat.le_succ _)⟩, [], OwnP.nil _ _⟩, H1.out.1.trans (p3 _ (Nat.le_refl _))⟩
end Go.Proofs.Ytcjobmbbikfnaad
/-
  PACKAGE server: Do.
-/
namespace Go.Proofs.Ytcjobmbbikfnaad
open Go.RowKit

/-- what Do answers -/
def DonePost (w : World) (spec : Int × M.Srv) (e : Ending) (w' : World) : Prop :=
  ∃ v' : SV, e = .returned (.tuple #[v'.val, .int .i64 spec.1]) ∧ OwnS w' w.heap.size v' spec.2 ∧ Below w.heap.size w w'
def actF (a : AV) (f : Int) : AV := ⟨a.kind, f, a.dir, a.name, a.to, a.toName, a.dA, a.dn, a.dc⟩
theorem contF {w : World} {a : AV} {x : M.Act} (h : ContA w a x) (f : Int) : ContA w (actF a f) { x with fid := f } := ⟨h.1, rfl, h.2.2.1, h.2.2.2.1, h.2.2.2.2.1, h.2.2.2.2.2.1, h.2.2.2.2.2.2⟩
theorem boxA_fid {w : World} {g : Nat} {a : AV} (h : BoxA w g a) (f : Int) : BoxA (w.setCell ⟨g, 1, none⟩ (.int .i64 f)) g (actF a f) := by
  unfold BoxA at h ⊢
  rw [heap_setCell_same w g 1 _ 36 (.int .i64 f) h]
  rfl
theorem do_start (w : World) (v : SV) (a : AV) : ∀ W, W = ((w.alloc (.cells #[.slice v.A v.n v.c, .int .i64 v.next, .slice v.P v.p v.q] 51)).alloc (.cells #[.int .i64 a.kind, .int .i64 a.fid, .int .i64 a.dir, .string a.name, .int .i64 a.to, .string a.toName, .slice a.dA a.dn a.dc] 36)).alloc (.cells #[.slice none 0 0, .int .i64 0, .slice none 0 0] 51) →
    Below w.heap.size w W ∧ BoxS W w.heap.size v ∧ BoxA W (w.heap.size + 1) a ∧ BoxS W (w.heap.size + 1 + 1) SV.zero ∧ W.heap.size = w.heap.size + 1 + 1 + 1 := by
  rintro W rfl
  obtain ⟨q1, q2, q3⟩ := boxS_one w v.A v.n v.c v.next v.P v.p v.q _ rfl
  generalize w.alloc (.cells #[.slice v.A v.n v.c, .int .i64 v.next, .slice v.P v.p v.q] 51) = W1 at q1 q2 q3 ⊢
  obtain ⟨r1, r2, r3⟩ := boxA_start W1 a _ rfl
  generalize W1.alloc (.cells #[.int .i64 a.kind, .int .i64 a.fid, .int .i64 a.dir, .string a.name, .int .i64 a.to, .string a.toName, .slice a.dA a.dn a.dc] 36) = W2 at r1 r2 r3 ⊢
  obtain ⟨s1, s2, s3⟩ := boxS_one W2 none 0 0 0 none 0 0 _ rfl
  rw [q3] at r2
  rw [r3, q3] at s2
  refine ⟨(q1.trans (r1.mono q1.size)).trans (s1.mono (by omega)), (q2.below r1 (by omega)).below s1 (by omega), r2.below s1 (by omega), s2, by omega⟩
/-- where Do is: its boxes -/
structure DoI (w W : World) (v : SV) (b : AV) : Prop where
  below : Below w.heap.size w W
  srv : BoxS W w.heap.size v
  act : BoxA W (w.heap.size + 1) b
  res : BoxS W (w.heap.size + 1 + 1) SV.zero
theorem DoI.call {w W W' : World} {v : SV} {b : AV} (h : DoI w W v b) (hb : Below W.heap.size W W') : DoI w W' v b :=
  ⟨h.below.trans (hb.mono h.below.size), h.srv.below hb (lt_of_block h.srv), h.act.below hb (lt_of_block h.act), h.res.below hb (lt_of_block h.res)⟩
theorem DoI.fid {w W : World} {v : SV} {b : AV} (h : DoI w W v b) (f : Int) : ∀ W', W' = W.setCell ⟨w.heap.size + 1, 1, none⟩ (.int .i64 f) → DoI w W' v (actF b f) := by
  rintro W' rfl
  refine ⟨h.below.setCell (p := ⟨w.heap.size + 1, 1, none⟩) (Nat.le_succ _) _, ?_, boxA_fid h.act f, ?_⟩
  · have := h.srv
    unfold BoxS at this ⊢
    rw [Below.heap_setCell _ _ _ _ (show w.heap.size ≠ w.heap.size + 1 by omega)]
    exact this
  · have := h.res
    unfold BoxS at this ⊢
    rw [Below.heap_setCell _ _ _ _ (show w.heap.size + 1 + 1 ≠ w.heap.size + 1 by omega)]
    exact this

set_option maxRecDepth 8000 in
set_option maxHeartbeats 4000000 in
theorem do_any (v : SV) (s : M.Srv) (cl : Int) (a : AV) (ac : M.Act) (k : Nat) (w : World) (hv : ServM w v s) (hok : SrvOK s k) (hk : k ≤ 1000000000) (ha : ContA w a ac) (hsa : SmallA ac) :
    Calls Try.prog 13 #[v.val, .int .i64 cl, a.val] w (DonePost w (M.doS s cl ac)) := by
  have HT : Hid (ServM w v s ∧ SrvOK s k ∧ ContA w a ac ∧ SmallA ac) := ⟨hv, hok, ha, hsa⟩
  have HLN : Hid (v.n = s.tr.length ∧ v.p = s.past.length ∧ v.next = s.next) := ⟨hv.lens.1, hv.lens.2, hv.1⟩
  have hp : v.p ≤ 1000000000 := by have h1 := hv.lens.2; have h2 := hok.len; omega
  have hp96 : (v.p + 1 + 1) * 96 ≤ 140737488355328 := Nat.le_trans (Nat.mul_le_mul_right 96 (show v.p + 1 + 1 ≤ 1000000002 by omega)) (by decide)
  have hn0 : 1 ≤ v.next := by rw [hv.1]; exact hok.lo
  have hn1 : v.next ≤ 1000000001 := by rw [hv.1]; have := hok.hi; omega
  have HW : Hid _ := do_start w v a
  clear hv hok ha hsa hk
  go_enter Try.func13, Try.ntmps13
  go_wp2_with (fail)
  obtain ⟨q1, q2, q3, q4, q5⟩ := HW.out _ rfl
  refine (making_any a _).mono ?_
  rintro e w1 ⟨rfl, hb1⟩
  have H1 : Hid (DoI w w1 v a) := DoI.call ⟨q1, q2, q3, q4⟩ hb1
  clear q1 q2 q3 q4 q5 hb1 HW
  have HMK : Hid ((decide (a.kind = 1) || decide (a.kind = 2)) = M.makeB ac) := by show _ = _; rw [HT.out.2.2.1.1]; rfl
  obtain ⟨mk, hmk⟩ : ∃ b : Bool, b = (decide (a.kind = 1) || decide (a.kind = 2)) := ⟨_, rfl⟩
  rw [← hmk]
  have HM : Hid (mk = M.makeB ac) := by show _ = _; rw [hmk, HMK.out]
  clear hmk HMK
  obtain ⟨f0, f1, f2, ff, fz⟩ := H1.out.srv.facts
  obtain ⟨a0, a1, a2, a3, a4, a5, a6, af, az⟩ := H1.out.act.facts
  go_upto_if 14 with (fail)
  go_cut [8] from 14 to 19 (fun t W => t = .int .i64 (if mk = true then v.next + 1 else v.next) ∧ Hid (DoI w W v (if mk = true then actF a v.next else a)))
  case first =>
    cases mk
    · go_wp2_with (fail)
      go_meet
      case rel => exact ⟨rfl, H1⟩
    · have HF : Hid _ := H1.out.fid v.next
      go_wp2_with (fail)
      go_meet
      case rel => exact ⟨rfl, HF.out _ rfl⟩
  obtain ⟨rfl, H2⟩ := hcut
  have HB : Hid (ContA w (if mk = true then actF a v.next else a) (M.actN s ac) ∧ (if mk = true then v.next + 1 else v.next) = (if M.makeB ac then s.next + 1 else s.next)) := by
    unfold M.actN
    rw [← HM.out, ← HLN.out.2.2]
    cases mk
    · exact ⟨HT.out.2.2.1, rfl⟩
    · exact ⟨contF HT.out.2.2.1 _, rfl⟩
  have hnx : 1 ≤ (if mk = true then v.next + 1 else v.next) := by split <;> omega
  generalize (if mk = true then actF a v.next else a) = b at H2 HB ⊢
  generalize (if mk = true then v.next + 1 else v.next) = nx at HB hnx ⊢
  clear H1 HM f0 f1 f2 ff fz a0 a1 a2 a3 a4 a5 a6 af az
  rename World => w2
  obtain ⟨f0, f1, f2, ff, fz⟩ := H2.out.srv.facts
  obtain ⟨a0, a1, a2, a3, a4, a5, a6, af, az⟩ := H2.out.act.facts
  have HTR : Hid (∃ vs, Tree w v.A v.n vs s.tr) := HT.out.1.2.1
  obtain ⟨vs, htr⟩ := HTR.out
  have HTR2 : Hid (Tree w v.A v.n vs s.tr) := htr
  have hn72 : (v.n + 2) * 72 ≤ 140737488355328 := by rw [HLN.out.1]; exact HT.out.2.1.good.2.2
  clear HTR htr
  have H2D : Hid (DoI w w2.drew v b) := H2.out.call (Below.refl _ _).drew
  go_upto_region 5 with (fail)
  go_cut [9, 10] from 20 to 28 (fun u t W => ∃ (B : Option Addr) (m d : Nat) (us : List NV), u = .slice B m d ∧ t = .int .i64 (M.applyS s.tr (M.actN s ac) ((v.p : Int) + 1)).1 ∧ Hid (DoI w W v b ∧ OwnT W (w.heap.size + 1 + 1 + 1) B m d us (M.applyS s.tr (M.actN s ac) ((v.p : Int) + 1)).2))
  case first =>
    go_region_with (first | (go_at_call 20; refine (version_any v _ (by omega)).mono ?_; rintro e w3 ⟨rfl, hb3⟩; have H3 : Hid (DoI w w3 v b) := H2D.out.call hb3; clear f0 f1 f2 ff fz a0 a1 a2 a3 a4 a5 a6 af az hb3; obtain ⟨f0, f1, f2, ff, fz⟩ := H3.out.srv.facts; obtain ⟨a0, a1, a2, a3, a4, a5, a6, af, az⟩ := H3.out.act.facts) | (go_at_call 24; refine (apply_any v.A v.n v.c vs s.tr b (M.actN s ac) ((v.p : Int) + 1) _ (HTR2.out.below (Nat.le_refl _) H3.out.below) hn72 HT.out.2.1.good.2.1 (HB.out.1.below (Nat.le_refl _) H3.out.below) (smallA_actN HT.out.2.2.2)).mono ?_; rintro e w4 ⟨B, m, d, r, rfl, hap, hb4⟩; have HAP : Hid (r = (M.applyS s.tr (M.actN s ac) ((v.p : Int) + 1)).1 ∧ ∃ us, OwnT w4 (w.heap.size + 1 + 1 + 1) B m d us (M.applyS s.tr (M.actN s ac) ((v.p : Int) + 1)).2) := ⟨(hap HT.out.2.1.good.1).1, (hap HT.out.2.1.good.1).2.imp fun _ h => h.mono (lt_of_block H3.out.res)⟩; have H4 : Hid (DoI w w4 v b) := H3.out.call hb4; clear hap hb4))
    all_goals
      go_wp2_with (fail)
      go_meet
      case rel => exact ⟨B, m, d, HAP.out.2.choose, rfl, congrArg (Value.int .i64) HAP.out.1, H4.out, HAP.out.2.choose_spec⟩
  obtain ⟨B, m, d, us, rfl, rfl, H5⟩ := hcut
  clear H2 H2D f0 f1 f2 ff fz a0 a1 a2 a3 a4 a5 a6 af az HTR2
  rename World => w5
  have HSP : Hid (∀ r, r = (M.applyS s.tr (M.actN s ac) ((v.p : Int) + 1)).1 → r ≠ 0 → M.doS s cl ac = (r, ⟨[], 0, []⟩)) := by
    rintro r rfl h
    rw [HLN.out.2.1] at h ⊢
    exact M.do_no h
  have HSY : Hid ((M.applyS s.tr (M.actN s ac) ((v.p : Int) + 1)).1 = 0 → M.doS s cl ac = (0, ⟨(M.applyS s.tr (M.actN s ac) ((v.p : Int) + 1)).2, nx, s.past ++ [⟨cl, M.actN s ac⟩]⟩)) := by
    intro h
    rw [HLN.out.2.1] at h ⊢
    rw [HB.out.2]
    exact M.do_yes h
  by_cases h0 : (M.applyS s.tr (M.actN s ac) ((v.p : Int) + 1)).1 = 0
  · have HE : Hid _ := HSY.out h0
    rw [h0]
    clear h0 HSP HSY
    generalize (M.applyS s.tr (M.actN s ac) ((v.p : Int) + 1)).2 = ys at H5 HE
    obtain ⟨f0, f1, f2, ff, fz⟩ := H5.out.1.srv.facts
    obtain ⟨a0, a1, a2, a3, a4, a5, a6, af, az⟩ := H5.out.1.act.facts
    have HWC : Hid _ := boxA_start w5 b
    obtain ⟨pvs, hpv⟩ := HT.out.1.2.2
    have HPV : Hid (TreeP w v.P v.p pvs s.past) := hpv
    clear hpv
    go_wp2_with (fail)
    obtain ⟨q1, q2, q3⟩ := HWC.out _ rfl
    have hbw := H5.out.1.below.trans (q1.mono H5.out.1.below.size)
    refine (extend_any v.P (some ⟨w5.heap.size, 0, none⟩) v.p v.q 1 1 pvs s.past cl [b] [M.actN s ac] _ (HPV.out.below (Nat.le_refl _) hbw) ⟨rowA_box q2, All2.one (HB.out.1.below (Nat.le_refl _) hbw)⟩ (fun x hx => (HT.out.2.1.small x hx).2.2) (fun x hx => by rw [List.mem_singleton.1 hx]; exact (smallA_actN HT.out.2.2.2).2.2) hp96).mono ?_
    rintro e w6 ⟨P2, p2, q6, pvs2, rfl, hop, hb6⟩
    have hb56 : Below w5.heap.size w5 w6 := q1.trans (hb6.mono q1.size)
    have H6 : Hid (DoI w w6 v b ∧ OwnT w6 w.heap.size B m d us ys ∧ OwnP w6 w.heap.size P2 p2 q6 pvs2 (s.past ++ ofC cl [M.actN s ac])) := ⟨H5.out.1.call hb56, (H5.out.2.below (Nat.le_refl _) hb56).mono (by omega), hop.mono (Nat.le_trans H5.out.1.below.size q1.size)⟩
    clear q1 q2 q3 hbw hop hb6 hb56 HWC f0 f1 f2 ff fz a0 a1 a2 a3 a4 a5 a6 af az H5
    obtain ⟨g0, g1, g2, gf, gz⟩ := H6.out.1.res.facts
    have HP : Hid _ := H6.out.1.res.put B m d nx P2 p2 q6
    go_wp2_with (fail)
    obtain ⟨p1, pk, pb, pz⟩ := HP.out _ rfl
    refine bodyPost_ret (v := .tuple #[SV.val ⟨B, m, d, nx, P2, p2, q6⟩, .int .i64 0]) (by simp [results, Try.results13, go_sem, g0, g1, g2]) rfl ?_
    rw [show M.doS s cl ac = _ from HE.out]
    exact ⟨⟨B, m, d, nx, P2, p2, q6⟩, rfl, OwnS.keep (w := w6) ⟨rfl, ⟨us, H6.out.2.1⟩, pvs2, H6.out.2.2⟩ pk, H6.out.1.below.trans (pb _ (by omega))⟩
  · have HE : Hid _ := HSP.out _ rfl h0
    have hne : ((M.applyS s.tr (M.actN s ac) ((v.p : Int) + 1)).1 != 0) = true := by simp [h0]
    clear h0 HSP HSY
    have H6 : Hid (DoI w w5 v b) := H5.out.1
    clear H5
    generalize (M.applyS s.tr (M.actN s ac) ((v.p : Int) + 1)).1 = r at HE hne ⊢
    obtain ⟨g0, g1, g2, gf, gz⟩ := H6.out.res.facts
    have HP : Hid _ := H6.out.res.put none 0 0 0 none 0 0
    go_wp2_with (fail)
    obtain ⟨p1, pk, pb, pz⟩ := HP.out _ rfl
    refine bodyPost_ret (v := .tuple #[SV.zero.val, .int .i64 r]) (by simp [results, Try.results13, go_sem, g0, g1, g2, SV.zero]) rfl ?_
    rw [show M.doS s cl ac = _ from HE.out]
    exact ⟨SV.zero, rfl, own_zeroS _ _, H6.out.below.trans (pb _ (by omega))⟩
end Go.Proofs.Ytcjobmbbikfnaad
