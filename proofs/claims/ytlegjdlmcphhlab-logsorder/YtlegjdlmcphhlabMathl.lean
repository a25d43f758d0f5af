/-
  PLAIN MATHEMATICS of chapter 4: logs, as short as may be; what is left out of them is not missed.
-/
import Derived.Test.YtlegjdlmcphhlabMathh
namespace Go.Proofs.Ytlegjdlmcphhlab
namespace M
/-- a record -/
structure Rec where
  act : Act
  ver : Int
  id : Int
def makeB (a : Act) : Bool := decide (a.kind = 1) || decide (a.kind = 2)
def nameFB (a : Act) (f : Int) : Bool := decide (f ∈ fidsS a)
def touchB (a : Act) (d : Int) (s : ByteArray) : Bool :=
  ((makeB a || decide (a.kind = 4) || decide (a.kind = 5)) && (decide (a.dir = d) && decide (a.name = s))) || (decide (a.kind = 5) && (decide (a.to = d) && decide (a.toName = s)))
def hinderB (b a : Act) : Bool := (!decide (b.kind = 3) && nameFB b a.fid) || touchB b a.dir a.name
def overB (a b : Act) : Bool := decide (a.kind = 3) && decide (b.kind = 3) && decide (a.fid = b.fid)
/-- the record that made the fid -/
def madeB (f : Int) (r : Rec) : Bool := makeB r.act && decide (r.act.fid = f)
def undoB (l : List Rec) (a : Act) : Bool := decide (a.kind = 4) &&
  match l.findIdx? (madeB a.fid) with
  | none => false
  | some k => match l[k]? with
    | none => false
    | some r => decide (r.act.dir = a.dir) && decide (r.act.name = a.name) && !((l.drop (k + 1)).any fun b => hinderB b.act a)
def addS (l : List Rec) (r : Rec) : Int × List Rec :=
  if undoB l r.act then (0, l.filter fun x => !nameFB x.act r.act.fid)
  else if 20 ≤ (l.filter fun x => !overB r.act x.act).length then (5, []) else (0, (l.filter fun x => !overB r.act x.act) ++ [r])

section
variable {K X : Type} {lt : K → K → Bool} (f : X → K)
theorem put_map (φ : X → X) (h : ∀ x, f (φ x) = f x) (xs : List X) (x : X) : put lt f (xs.map φ) (φ x) = (put lt f xs x).map φ := by
  unfold put
  rw [List.map_append, List.map_cons, List.filter_map, List.filter_map, h]
  congr 2
  · congr 1; funext y; simp [h]
  · congr 1
    congr 1; funext y; simp [h]
theorem put_filter_other (xs : List X) (x : X) (p : X → Bool) (hp : p x = true) : (put lt f xs x).filter p = put lt f (xs.filter p) x := by
  unfold put
  rw [List.filter_append, List.filter_cons_of_pos hp, List.filter_filter, List.filter_filter, List.filter_filter, List.filter_filter]
  simp only [Bool.and_comm]
end
theorem find_map {φ : Nd → Nd} (h : ∀ x, (φ x).fid = x.fid) (xs : List Nd) (t : Int) : find (xs.map φ) t = (find xs t).map φ := by
  unfold find
  rw [List.find?_map]
  have : ((fun x : Nd => decide (x.fid = t)) ∘ φ) = fun x => decide (x.fid = t) := by funext x; simp [h]
  rw [this]
theorem putN_map {φ : Nd → Nd} (h : ∀ x, (φ x).fid = x.fid) (xs : List Nd) (x : Nd) : putN (xs.map φ) (φ x) = (putN xs x).map φ := put_map (fun y : Nd => y.fid) φ h xs x
theorem dropN_putN (xs : List Nd) (x : Nd) (f : Int) (h : x.fid ≠ f) : dropN (putN xs x) f = putN (dropN xs f) x := put_filter_other (fun y : Nd => y.fid) xs x _ (by simp [h])
theorem dropN_map {φ : Nd → Nd} (h : ∀ x, (φ x).fid = x.fid) (xs : List Nd) (f : Int) : dropN (xs.map φ) f = (dropN xs f).map φ := by
  unfold dropN
  rw [List.filter_map]
  have : ((fun x : Nd => !decide (x.fid = f)) ∘ φ) = fun x => !decide (x.fid = f) := by funext x; simp [h]
  rw [this]
theorem dropN_comm (xs : List Nd) (f g : Int) : dropN (dropN xs f) g = dropN (dropN xs g) f := by
  unfold dropN
  rw [List.filter_filter, List.filter_filter]
  simp only [Bool.and_comm]
theorem dropE_comm (es : List (ByteArray × Int)) (s t : ByteArray) : dropE (dropE es s) t = dropE (dropE es t) s := by
  unfold dropE
  rw [List.filter_filter, List.filter_filter]
  simp only [Bool.and_comm]
theorem look_dropE (es : List (ByteArray × Int)) {s t : ByteArray} (h : t ≠ s) : look (dropE es s) t = look es t := find_filter (fun y : ByteArray × Int => y.1) es _ t (fun y _ e => by rw [e]; simp [h])
theorem dropE_putE (es : List (ByteArray × Int)) {s t : ByteArray} (g : Int) (h : t ≠ s) : dropE (putE es (t, g)) s = putE (dropE es s) (t, g) := put_filter_other (fun y : ByteArray × Int => y.1) es (t, g) _ (by simp [h])
theorem look_putE (es : List (ByteArray × Int)) {s t : ByteArray} (g : Int) (h : s ≠ t) : look (putE es (t, g)) s = look es s := put_find_other (fun y : ByteArray × Int => y.1) es ordB (t, g) s h
theorem findN_if (xs : List Nd) (x : Nd) (t : Int) : find (putN xs x) t = if t = x.fid then some x else find xs t := by
  by_cases h : t = x.fid
  · rw [if_pos h, h]; exact put_find (fun y : Nd => y.fid) xs ordI x
  · rw [if_neg h]; exact put_find_other (fun y : Nd => y.fid) xs ordI x t h
theorem findD_if (xs : List Nd) (f t : Int) : find (dropN xs f) t = if t = f then none else find xs t := by
  by_cases h : t = f
  · rw [if_pos h, h]; exact find_filter_none (fun y : Nd => y.fid) xs _ f (fun y _ e => by simp [e])
  · rw [if_neg h]; exact find_filter (fun y : Nd => y.fid) xs _ t (fun y _ e => by rw [e]; simp [h])

/-- acts, one behind the other, of version 0, if all are done -/
noncomputable def runS : List Nd → List Act → Option (List Nd)
  | xs, [] => some xs
  | xs, a :: l => if (applyS xs a 0).1 = 0 then runS (applyS xs a 0).2 l else none
theorem run_cons {xs : List Nd} {a : Act} {l : List Act} {ys : List Nd} (h : runS xs (a :: l) = some ys) : (applyS xs a 0).1 = 0 ∧ runS (applyS xs a 0).2 l = some ys := by
  rw [runS] at h
  split at h
  · rename_i h0; exact ⟨h0, h⟩
  · cases h
theorem run_of {xs : List Nd} {a : Act} {l : List Act} (h : (applyS xs a 0).1 = 0) : runS xs (a :: l) = runS (applyS xs a 0).2 l := by rw [runS, if_pos h]
theorem run_append : ∀ (l m : List Act) (xs : List Nd), runS xs (l ++ m) = (runS xs l).bind fun ys => runS ys m
  | [], m, xs => rfl
  | a :: l, m, xs => by
    rw [List.cons_append, runS, runS]
    split
    · exact run_append l m _
    · rfl
/-- the kinds of what was done -/
theorem apply_cases {xs : List Nd} {a : Act} {v : Int} (h : (applyS xs a v).1 = 0) :
    (makeB a = true ∧ a.kind ≠ 3 ∧ a.kind ≠ 5 ∧ applyS xs a v = bringS xs a v) ∨ (a.kind = 3 ∧ applyS xs a v = storeS xs a v) ∨ (a.kind = 4 ∧ applyS xs a v = removeS xs a v) ∨ (a.kind = 5 ∧ applyS xs a v = renameS xs a v) := by
  unfold applyS at h ⊢
  by_cases h1 : a.kind = 1 ∨ a.kind = 2
  · rw [if_pos h1]; exact .inl ⟨by unfold makeB; rcases h1 with h1 | h1 <;> simp [h1], by omega, by omega, rfl⟩
  · rw [if_neg h1] at h ⊢
    by_cases h3 : a.kind = 3
    · rw [if_pos h3]; exact .inr (.inl ⟨h3, rfl⟩)
    · rw [if_neg h3] at h ⊢
      by_cases h4 : a.kind = 4
      · rw [if_pos h4]; exact .inr (.inr (.inl ⟨h4, rfl⟩))
      · rw [if_neg h4] at h ⊢
        by_cases h5 : a.kind = 5
        · rw [if_pos h5]; exact .inr (.inr (.inr ⟨h5, rfl⟩))
        · rw [if_neg h5] at h; simp at h
end M
open M
theorem store_inv {xs : List Nd} {ac : M.Act} {v : Int} (h : (storeS xs ac v).1 = 0) : ∃ x, find xs ac.fid = some x ∧ x.dir = false ∧ ac.data.length ≤ 20 ∧ storeS xs ac v = (0, putN xs (withV { x with data := ac.data } v)) := by
  unfold storeS at h ⊢
  cases hx : find xs ac.fid with
  | none => rw [hx] at h; simp at h
  | some x =>
    rw [hx] at h
    simp only at h ⊢
    by_cases hd : x.dir = true
    · rw [if_pos hd] at h; simp at h
    · rw [if_neg hd] at h ⊢
      by_cases h20 : 20 < ac.data.length
      · rw [if_pos h20] at h; simp at h
      · rw [if_neg h20]; exact ⟨x, rfl, by simpa using hd, by omega, rfl⟩
theorem remove_inv {xs : List Nd} {ac : M.Act} {v : Int} (h : (removeS xs ac v).1 = 0) : (holdS xs ac.dir ac.name ac.fid).1 = 0 ∧ ∃ x, find xs ac.fid = some x ∧ ¬ 0 < x.ents.length := by
  by_cases h1 : (holdS xs ac.dir ac.name ac.fid).1 = 0
  case' neg => rw [remove_hold h1] at h; exact absurd h h1
  cases hx : find xs ac.fid with
  | none => rw [remove_away h1 hx] at h; simp at h
  | some x =>
    by_cases he : 0 < x.ents.length
    · rw [remove_full h1 hx he] at h; simp at h
    · exact ⟨h1, x, rfl, he⟩
theorem store_yes {xs : List Nd} {ac : M.Act} {v : Int} {x : Nd} (hx : find xs ac.fid = some x) (hd : x.dir = false) (hl : ac.data.length ≤ 20) : storeS xs ac v = (0, putN xs (withV { x with data := ac.data } v)) := by
  unfold storeS
  rw [hx]
  simp only
  rw [if_neg (by simp [hd]), if_neg (by omega)]

/-- what a name leads to, at hand -/
theorem hold_at {xs : List Nd} {d : Int} {s : ByteArray} {f : Int} (h : (holdS xs d s f).1 = 0) : ∃ D, holdS xs d s f = (0, D) ∧ find xs d = some D ∧ D.dir = true ∧ D.fid = d ∧ M.look D.ents s = some (s, f) := by
  obtain ⟨h1, h2⟩ := hold_ok h
  have hd := dir_ok (xs := xs) (f := d) (by rw [h1])
  rw [h1] at hd
  exact ⟨_, by rw [← h], hd.1, hd.2, (find_mem hd.1).2, h2⟩
theorem dir_at {xs : List Nd} {d : Int} (h : (dirS xs d).1 = 0) : ∃ D, dirS xs d = (0, D) ∧ find xs d = some D ∧ D.dir = true ∧ D.fid = d := by
  have hd := dir_ok h
  exact ⟨_, by rw [← h], hd.1, hd.2, (find_mem hd.1).2⟩
theorem hold_of {xs : List Nd} {d : Int} {s : ByteArray} {f : Int} {D : Nd} (h1 : find xs d = some D) (h2 : D.dir = true) (h3 : M.look D.ents s = some (s, f)) : holdS xs d s f = (0, D) := hold_yes (dir_yes h1 h2) h3 rfl

/-- whoever is named is there -/
theorem names_there {xs : List Nd} {b : M.Act} (h : (applyS xs b 0).1 = 0) {g : Int} (hg : g ∈ fidsS b) : (∃ x, find xs g = some x) ∨ (makeB b = true ∧ g = b.fid) := by
  rcases apply_cases h with ⟨hm, h3, h5, e⟩ | ⟨h3, e⟩ | ⟨h4, e⟩ | ⟨h5, e⟩
  · rw [e] at h
    obtain ⟨h1, _⟩ := bring_inv h
    obtain ⟨D, _, hD, _⟩ := dir_at h1
    unfold fidsS at hg
    rw [if_neg h3, if_neg h5] at hg
    simp at hg
    rcases hg with hg | hg
    · exact .inr ⟨hm, hg⟩
    · exact .inl ⟨D, by rw [hg]; exact hD⟩
  · rw [e] at h
    obtain ⟨x, hx, _⟩ := store_inv h
    unfold fidsS at hg
    rw [if_pos h3, if_neg (by omega)] at hg
    simp at hg
    exact .inl ⟨x, by rw [hg]; exact hx⟩
  · rw [e] at h
    obtain ⟨h1, x, hx, _⟩ := remove_inv h
    obtain ⟨D, _, hD, _⟩ := hold_at h1
    unfold fidsS at hg
    rw [if_neg (by omega), if_neg (by omega)] at hg
    simp at hg
    rcases hg with hg | hg
    · exact .inl ⟨x, by rw [hg]; exact hx⟩
    · exact .inl ⟨D, by rw [hg]; exact hD⟩
  · rw [e] at h
    obtain ⟨h1, h2, _, h4, _⟩ := rename_inv h
    obtain ⟨D, _, hD, _⟩ := hold_at h1
    obtain ⟨T, _, hT, _⟩ := dir_at h2
    obtain ⟨x, hx⟩ := Option.ne_none_iff_exists'.1 h4
    unfold fidsS at hg
    rw [if_neg (by omega), if_pos h5] at hg
    simp at hg
    rcases hg with hg | hg | hg
    · exact .inl ⟨x, by rw [hg]; exact hx⟩
    · exact .inl ⟨D, by rw [hg]; exact hD⟩
    · exact .inl ⟨T, by rw [hg]; exact hT⟩
/-- who is not there does not come but by being made -/
theorem none_stays {xs : List Nd} {b : M.Act} (h : (applyS xs b 0).1 = 0) {f : Int} (hf : find xs f = none) (hm : ¬ (makeB b = true ∧ b.fid = f)) : find (applyS xs b 0).2 f = none := by
  have hne : ∀ {g : Int} {x : Nd}, find xs g = some x → f ≠ g := fun hx e => by rw [e, hx] at hf; cases hf
  rcases apply_cases h with ⟨hmk, h3, h5, e⟩ | ⟨h3, e⟩ | ⟨h4, e⟩ | ⟨h5, e⟩
  · rw [e] at h ⊢
    obtain ⟨h1, h2, h6, h7⟩ := bring_inv h
    rw [bring_ok h1 h2 h6 h7]
    obtain ⟨D, hD0, hD, _, hDf⟩ := dir_at h1
    rw [hD0, findN_if, if_neg (fun e => hm ⟨hmk, e.symm⟩), findN_if, if_neg (by show f ≠ D.fid; rw [hDf]; exact hne hD)]
    exact hf
  · rw [e] at h ⊢
    obtain ⟨x, hx, _, _, e2⟩ := store_inv h
    rw [e2, findN_if, if_neg (by show f ≠ x.fid; rw [(find_mem hx).2]; exact hne hx)]
    exact hf
  · rw [e] at h ⊢
    obtain ⟨h1, x, hx, he⟩ := remove_inv h
    obtain ⟨D, hD0, hD, _, hDf, _⟩ := hold_at h1
    rw [remove_ok h1 hx he, hD0, findD_if]
    split
    · rfl
    · rw [findN_if, if_neg (by show f ≠ D.fid; rw [hDf]; exact hne hD)]
      exact hf
  · rw [e] at h ⊢
    obtain ⟨h1, h2, h3, h4, h6⟩ := rename_inv h
    rw [rename_ok h1 h2 h3 h4 h6]
    obtain ⟨D, hD0, hD, _, hDf, _⟩ := hold_at h1
    obtain ⟨T, hT0, hT, _, hTf⟩ := dir_at h2
    have e1 : (fromS xs b).fid = b.dir := by unfold fromS; rw [hD0]; exact hDf
    have e2 : (toS xs b).fid = b.to := by
      unfold toS
      by_cases e : b.to = b.dir
      · rw [if_pos e, e1, e]
      · rw [if_neg e, hT0]; exact hTf
    rw [findN_if, if_neg (by show f ≠ (toS xs b).fid; rw [e2]; exact hne hT), findN_if, if_neg (by show f ≠ (fromS xs b).fid; rw [e1]; exact hne hD)]
    exact hf
end Go.Proofs.Ytlegjdlmcphhlab
