/-
  PLAIN MATHEMATICS of chapter 3, further: what acts keep; acts one behind the other.
-/
import Derived.Test.YtlegjdlmcphhlabActd
namespace Go.Proofs.Ytlegjdlmcphhlab
namespace M
section
variable {K X : Type} {lt : K → K → Bool} (f : X → K)
theorem put_len_same (o : Ordr lt) (x : X) : ∀ xs : List X, (∃ y ∈ xs, f y = f x) → (put lt f xs x).length ≤ xs.length := by
  intro xs hy
  unfold put
  rw [List.length_append, List.length_cons]
  have key : ∀ xs : List X, (xs.filter (fun y => lt (f y) (f x))).length + (xs.filter (fun y => lt (f x) (f y))).length ≤ xs.length ∧ ((∃ y ∈ xs, f y = f x) → (xs.filter (fun y => lt (f y) (f x))).length + (xs.filter (fun y => lt (f x) (f y))).length + 1 ≤ xs.length) := by
    intro xs
    induction xs with
    | nil => exact ⟨by simp, by rintro ⟨y, hy, _⟩; cases hy⟩
    | cons y ys ih =>
      rw [List.filter_cons, List.filter_cons]
      have hboth : ¬ (lt (f y) (f x) = true ∧ lt (f x) (f y) = true) := fun h => by have := o.tra _ _ _ h.1 h.2; rw [o.irr] at this; cases this
      have heq : f y = f x → lt (f y) (f x) = false ∧ lt (f x) (f y) = false := fun e => by rw [e]; exact ⟨o.irr _, o.irr _⟩
      constructor
      · cases h1 : lt (f y) (f x) <;> cases h2 : lt (f x) (f y) <;> simp <;> first | omega | exact absurd ⟨h1, h2⟩ hboth
      · rintro ⟨z, hz, e⟩
        rcases List.mem_cons.1 hz with rfl | hz
        · rw [(heq e).1, (heq e).2]; simp; omega
        · have := ih.2 ⟨z, hz, e⟩
          cases h1 : lt (f y) (f x) <;> cases h2 : lt (f x) (f y) <;> simp <;> first | omega | exact absurd ⟨h1, h2⟩ hboth
  have := (key xs).2 hy
  omega
end
theorem put_mem {xs : List Nd} {x y : Nd} (h : y ∈ putN xs x) : y = x ∨ y ∈ xs := by
  unfold putN put at h
  rcases List.mem_append.1 h with h | h
  · exact .inr (List.mem_filter.1 h).1
  · rcases List.mem_cons.1 h with h | h
    · exact .inl h
    · exact .inr (List.mem_filter.1 h).1
theorem putE_rise {es : List (ByteArray × Int)} (e : ByteArray × Int) (h : RsE es) : RsE (putE es e) := put_rs (·.1) es ordB e h
theorem putE_len (es : List (ByteArray × Int)) (e : ByteArray × Int) : (putE es e).length ≤ es.length + 1 := put_len (fun x : ByteArray × Int => x.1) es ordB e
theorem putN_len {xs : List Nd} {x y : Nd} (h : find xs x.fid = some y) : (putN xs x).length ≤ xs.length := put_len_same (fun x : Nd => x.fid) ordI x xs ⟨y, find_mem h⟩
theorem putN_len1 (xs : List Nd) (x : Nd) : (putN xs x).length ≤ xs.length + 1 := put_len (fun x : Nd => x.fid) xs ordI x
theorem free_ok {x : Nd} {s : ByteArray} (h : freeS x s = 0) : look x.ents s = none ∧ nameB s.data.toList = true ∧ x.ents.length < 6 := by
  unfold freeS at h
  split at h
  · simp at h
  · rename_i h1
    split at h
    · simp at h
    · rename_i h2
      simp at h1
      exact ⟨h1.1, h1.2, by omega⟩
end M

/-- a tree as it must be, and not too great -/
def Good (xs : List M.Nd) : Prop := M.Rise xs ∧ (∀ x ∈ xs, Small x) ∧ (xs.length + 2) * 72 ≤ 140737488355328
theorem Good.put {xs : List M.Nd} {x y : M.Nd} (h : Good xs) (hx : M.RsE x.ents) (hs : Small x) (hy : M.find xs x.fid = some y) : Good (M.putN xs x) := by
  refine ⟨put_rise h.1 hx, fun z hz => ?_, ?_⟩
  · rcases M.put_mem hz with rfl | hz
    · exact hs
    · exact h.2.1 z hz
  · have := M.putN_len (x := x) hy
    have := h.2.2
    omega
theorem Good.put1 {xs : List M.Nd} {x : M.Nd} (h : Good xs) (hx : M.RsE x.ents) (hs : Small x) (hl : xs.length < 24) : Good (M.putN xs x) := by
  refine ⟨put_rise h.1 hx, fun z hz => ?_, ?_⟩
  · rcases M.put_mem hz with rfl | hz
    · exact hs
    · exact h.2.1 z hz
  · have := M.putN_len1 xs x
    omega
theorem Good.drop {xs : List M.Nd} (h : Good xs) (f : Int) : Good (M.dropN xs f) := by
  refine ⟨⟨M.rs_sub h.1.1 (List.filter_sublist.map _), fun x hx => h.1.2 x (List.mem_filter.1 hx).1⟩, fun x hx => h.2.1 x (List.mem_filter.1 hx).1, ?_⟩
  have : (M.dropN xs f).length ≤ xs.length := List.length_filter_le _ _
  have := h.2.2
  omega
theorem Good.at {xs : List M.Nd} (h : Good xs) {f : Int} {x : M.Nd} (hx : M.find xs f = some x) : M.RsE x.ents ∧ Small x := ⟨h.1.2 x (M.find_mem hx).1, h.2.1 x (M.find_mem hx).1⟩
theorem small_v {x : M.Nd} (h : Small x) (v : Int) : Small (M.withV x v) := h
theorem good_nil : Good [] := ⟨⟨List.Pairwise.nil, by simp⟩, by simp, by simp⟩

theorem good_bring {xs : List M.Nd} (h : Good xs) (ac : M.Act) (v : Int) : Good (M.bringS xs ac v).2 := by
  by_cases h1 : (M.dirS xs ac.dir).1 = 0
  case' neg => rw [bring_dir h1]; exact good_nil
  by_cases h2 : M.freeS (M.dirS xs ac.dir).2 ac.name = 0
  case' neg => rw [bring_free h1 h2]; exact good_nil
  by_cases h3 : ac.fid = 0 ∨ (M.find xs ac.fid).isSome
  case' pos => rw [bring_stale h1 h2 h3]; exact good_nil
  by_cases h4 : 24 ≤ xs.length
  case' pos => rw [bring_many h1 h2 h3 h4]; exact good_nil
  rw [bring_ok h1 h2 h3 h4]
  have hd := M.dir_ok h1
  have hx := h.at hd.1
  have hf := M.free_ok h2
  have e1 : (M.dirS xs ac.dir).2.fid = ac.dir := (M.find_mem hd.1).2
  have hl := M.putN_len (xs := xs) (x := M.withV (withE (M.dirS xs ac.dir).2 (M.putE (M.dirS xs ac.dir).2.ents (ac.name, ac.fid))) v) (y := (M.dirS xs ac.dir).2) (by show M.find xs (M.dirS xs ac.dir).2.fid = _; rw [e1]; exact hd.1)
  refine Good.put1 (Good.put h (y := (M.dirS xs ac.dir).2) ?_ ?_ ?_) List.Pairwise.nil ⟨by simp, by simp⟩ (by omega)
  · exact M.putE_rise _ hx.1
  · refine ⟨hx.2.1, ?_⟩
    have := M.putE_len (M.dirS xs ac.dir).2.ents (ac.name, ac.fid)
    show (M.putE (M.dirS xs ac.dir).2.ents (ac.name, ac.fid)).length * 24 ≤ _
    omega
  · show M.find xs (M.dirS xs ac.dir).2.fid = _; rw [e1]; exact hd.1
theorem good_store {xs : List M.Nd} (h : Good xs) (ac : M.Act) (v : Int) : Good (M.storeS xs ac v).2 := by
  unfold M.storeS
  cases hx : M.find xs ac.fid with
  | none => exact good_nil
  | some x =>
    simp only
    split
    · exact good_nil
    · split
      · exact good_nil
      · rename_i h20
        refine Good.put h (y := x) (h.at hx).1 ⟨?_, (h.at hx).2.2⟩ ?_
        · show ac.data.length ≤ _; omega
        · show M.find xs x.fid = _; rw [(M.find_mem hx).2]; exact hx
theorem good_remove {xs : List M.Nd} (h : Good xs) (ac : M.Act) (v : Int) : Good (M.removeS xs ac v).2 := by
  by_cases h1 : (M.holdS xs ac.dir ac.name ac.fid).1 = 0
  case' neg => rw [remove_hold h1]; exact good_nil
  cases hx : M.find xs ac.fid with
  | none => rw [remove_away h1 hx]; exact good_nil
  | some x =>
    by_cases he : 0 < x.ents.length
    case' pos => rw [remove_full h1 hx he]; exact good_nil
    rw [remove_ok h1 hx he]
    have ho := hold_ok h1
    have hd := M.dir_ok (xs := xs) (f := ac.dir) (by rw [ho.1])
    rw [ho.1] at hd
    have hg := h.at hd.1
    refine Good.drop (Good.put h (x := M.withV (withE (M.holdS xs ac.dir ac.name ac.fid).2 (M.dropE (M.holdS xs ac.dir ac.name ac.fid).2.ents ac.name)) v) (y := (M.holdS xs ac.dir ac.name ac.fid).2) (drop_rise hg.1) (small_leave hg.2 _) ?_) ac.fid
    show M.find xs (M.holdS xs ac.dir ac.name ac.fid).2.fid = _
    rw [(M.find_mem hd.1).2]; exact hd.1
theorem from_good {xs : List M.Nd} (h : Good xs) {ac : M.Act} (h1 : (M.holdS xs ac.dir ac.name ac.fid).1 = 0) : M.find xs (M.fromS xs ac).fid = some (M.holdS xs ac.dir ac.name ac.fid).2 ∧ (M.fromS xs ac).fid = ac.dir ∧ M.RsE (M.fromS xs ac).ents ∧ Small (M.fromS xs ac) := by
  have ho := hold_ok h1
  have hd := M.dir_ok (xs := xs) (f := ac.dir) (by rw [ho.1])
  rw [ho.1] at hd
  have e : (M.holdS xs ac.dir ac.name ac.fid).2.fid = ac.dir := (M.find_mem hd.1).2
  exact ⟨by show M.find xs (M.holdS xs ac.dir ac.name ac.fid).2.fid = _; rw [e]; exact hd.1, e, drop_rise (h.at hd.1).1, small_leave (h.at hd.1).2 _⟩
theorem to_good {xs : List M.Nd} (h : Good xs) {ac : M.Act} (h1 : (M.holdS xs ac.dir ac.name ac.fid).1 = 0) (h2 : (M.dirS xs ac.to).1 = 0) : (∃ y, M.find xs (M.toS xs ac).fid = some y) ∧ (M.toS xs ac).fid = ac.to ∧ M.RsE (M.toS xs ac).ents ∧ Small (M.toS xs ac) := by
  unfold M.toS
  by_cases e : ac.to = ac.dir
  · rw [if_pos e]
    have := from_good h h1
    exact ⟨⟨_, this.1⟩, this.2.1.trans e.symm, this.2.2⟩
  · rw [if_neg e]
    have hd := M.dir_ok h2
    have ef := (M.find_mem hd.1).2
    exact ⟨⟨_, by rw [ef]; exact hd.1⟩, ef, h.at hd.1⟩
theorem find_put_any {xs : List M.Nd} {x : M.Nd} {f : Int} {y : M.Nd} (h : M.find xs f = some y) : ∃ z, M.find (M.putN xs x) f = some z := by
  by_cases e : f = x.fid
  · subst e; exact ⟨x, M.put_find (fun x : M.Nd => x.fid) xs M.ordI x⟩
  · exact ⟨y, by have := M.put_find_other (fun x : M.Nd => x.fid) xs M.ordI x f e; unfold M.find M.putN at *; rw [this]; exact h⟩
theorem good_rename {xs : List M.Nd} (h : Good xs) (ac : M.Act) (v : Int) : Good (M.renameS xs ac v).2 := by
  by_cases h1 : (M.holdS xs ac.dir ac.name ac.fid).1 = 0
  case' neg => rw [rename_hold h1]; exact good_nil
  by_cases h2 : (M.dirS xs ac.to).1 = 0
  case' neg => rw [rename_dir h1 h2]; exact good_nil
  by_cases h3 : M.freeS (M.toS xs ac) ac.toName = 0
  case' neg => rw [rename_free h1 h2 h3]; exact good_nil
  by_cases h4 : M.find xs ac.fid = none
  case' pos => rw [rename_away h1 h2 h3 h4]; exact good_nil
  by_cases h5 : M.Reach xs ac.fid ac.to
  case' pos => rw [rename_loop h1 h2 h3 h4 h5]; exact good_nil
  rw [rename_ok h1 h2 h3 h4 h5]
  have hf := from_good h h1
  have ht := to_good h h1 h2
  have h6 := (M.free_ok h3).2.2
  obtain ⟨y, hy⟩ := ht.1
  obtain ⟨z, hz⟩ := find_put_any (x := M.withV (M.fromS xs ac) v) hy
  refine Good.put (Good.put h (y := _) hf.2.2.1 hf.2.2.2 hf.1) (y := z) (M.putE_rise _ ht.2.2.1) ⟨ht.2.2.2.1, ?_⟩ hz
  have := M.putE_len (M.toS xs ac).ents (ac.toName, ac.fid)
  show (M.putE (M.toS xs ac).ents (ac.toName, ac.fid)).length * 24 ≤ _
  omega
theorem good_apply {xs : List M.Nd} (h : Good xs) (ac : M.Act) (v : Int) : Good (M.applyS xs ac v).2 := by
  unfold M.applyS
  split
  · exact good_bring h ac v
  · split
    · exact good_store h ac v
    · split
      · exact good_remove h ac v
      · split
        · exact good_rename h ac v
        · exact good_nil

namespace M
/-- acts, one behind the other: how many, the error, the tree -/
noncomputable def allS : List Nd → List Act → Int → Nat × Int × List Nd
  | xs, [], _ => (0, 0, xs)
  | xs, a :: l, v => if (applyS xs a v).1 = 0 then ((allS (applyS xs a v).2 l v).1 + 1, (allS (applyS xs a v).2 l v).2) else (0, (applyS xs a v).1, [])
/-- the fids that an act names -/
def fidsS (a : Act) : List Int := a.fid :: ((if a.kind = 3 then [] else [a.dir]) ++ (if a.kind = 5 then [a.to] else []))
end M
end Go.Proofs.Ytlegjdlmcphhlab
