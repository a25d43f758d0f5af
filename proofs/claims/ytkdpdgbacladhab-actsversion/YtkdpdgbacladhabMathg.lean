/-
  PLAIN MATHEMATICS of chapter 3: what is changed says so.
-/
import Derived.Test.YtkdpdgbacladhabMathf
namespace Go.Proofs.Ytkdpdgbacladhab

/-- as it was; or of that version, and named -/
def Told (xs : List M.Nd) (ac : M.Act) (v : Int) (y : M.Nd) : Prop := M.find xs y.fid = some y ∨ (y.ver = v ∧ y.fid ∈ M.fidsS ac)
theorem told_put {xs ys : List M.Nd} {ac : M.Act} {v : Int} {x : M.Nd} (h : ∀ y ∈ ys, Told xs ac v y) (hv : x.ver = v) (hf : x.fid ∈ M.fidsS ac) : ∀ y ∈ M.putN ys x, Told xs ac v y := by
  intro y hy
  rcases M.put_mem hy with rfl | hy
  · exact .inr ⟨hv, hf⟩
  · exact h y hy
theorem told_self {xs : List M.Nd} (hr : M.RsN xs) (ac : M.Act) (v : Int) : ∀ y ∈ xs, Told xs ac v y := fun _ hy => .inl (mem_find hr hy)
theorem told_nil (xs : List M.Nd) (ac : M.Act) (v : Int) : ∀ y ∈ ([] : List M.Nd), Told xs ac v y := fun _ hy => by cases hy
theorem fid_mem (ac : M.Act) : ac.fid ∈ M.fidsS ac := List.mem_cons_self
theorem dir_mem {ac : M.Act} (h : ac.kind ≠ 3) : ac.dir ∈ M.fidsS ac := by unfold M.fidsS; rw [if_neg h]; simp
theorem to_mem {ac : M.Act} (h : ac.kind = 5) : ac.to ∈ M.fidsS ac := by unfold M.fidsS; rw [if_neg (by rw [h]; decide), if_pos h]; simp
theorem told {xs : List M.Nd} (hg : Good xs) (ac : M.Act) (v : Int) : ∀ y ∈ (M.applyS xs ac v).2, Told xs ac v y := by
  have hs := told_self hg.1.1 ac v
  unfold M.applyS
  split
  · rename_i hk
    have hk3 : ac.kind ≠ 3 := by rcases hk with h | h <;> rw [h] <;> decide
    by_cases h1 : (M.dirS xs ac.dir).1 = 0
    case' neg => rw [bring_dir h1]; exact told_nil _ _ _
    by_cases h2 : M.freeS (M.dirS xs ac.dir).2 ac.name = 0
    case' neg => rw [bring_free h1 h2]; exact told_nil _ _ _
    by_cases h3 : ac.fid = 0 ∨ (M.find xs ac.fid).isSome
    case' pos => rw [bring_stale h1 h2 h3]; exact told_nil _ _ _
    by_cases h4 : 24 ≤ xs.length
    case' pos => rw [bring_many h1 h2 h3 h4]; exact told_nil _ _ _
    rw [bring_ok h1 h2 h3 h4]
    have hd : (M.dirS xs ac.dir).2.fid = ac.dir := (M.find_mem (M.dir_ok h1).1).2
    exact told_put (told_put hs rfl (by show (M.dirS xs ac.dir).2.fid ∈ _; rw [hd]; exact dir_mem hk3)) rfl (fid_mem ac)
  · split
    · unfold M.storeS
      cases hx : M.find xs ac.fid with
      | none => exact told_nil _ _ _
      | some x =>
        simp only
        split
        · exact told_nil _ _ _
        · split
          · exact told_nil _ _ _
          · exact told_put hs rfl (by show x.fid ∈ _; rw [(M.find_mem hx).2]; exact fid_mem ac)
    · split
      · rename_i hk
        by_cases h1 : (M.holdS xs ac.dir ac.name ac.fid).1 = 0
        case' neg => rw [remove_hold h1]; exact told_nil _ _ _
        cases hx : M.find xs ac.fid with
        | none => rw [remove_away h1 hx]; exact told_nil _ _ _
        | some x =>
          by_cases he : 0 < x.ents.length
          case' pos => rw [remove_full h1 hx he]; exact told_nil _ _ _
          rw [remove_ok h1 hx he]
          have hf := from_good hg h1
          exact fun y hy => told_put hs rfl (by show (M.fromS xs ac).fid ∈ _; rw [hf.2.1]; exact dir_mem (by rw [hk]; decide)) y (List.mem_filter.1 hy).1
      · split
        · rename_i hk
          by_cases h1 : (M.holdS xs ac.dir ac.name ac.fid).1 = 0
          case' neg => rw [rename_hold h1]; exact told_nil _ _ _
          by_cases h2 : (M.dirS xs ac.to).1 = 0
          case' neg => rw [rename_dir h1 h2]; exact told_nil _ _ _
          by_cases h3 : M.freeS (M.toS xs ac) ac.toName = 0
          case' neg => rw [rename_free h1 h2 h3]; exact told_nil _ _ _
          by_cases h4 : M.find xs ac.fid = none
          case' pos => rw [rename_away h1 h2 h3 h4]; exact told_nil _ _ _
          by_cases h5 : M.Reach xs ac.fid ac.to
          case' pos => rw [rename_loop h1 h2 h3 h4 h5]; exact told_nil _ _ _
          rw [rename_ok h1 h2 h3 h4 h5]
          have hf := from_good hg h1
          have ht := to_good hg h1 h2
          exact told_put (told_put hs rfl (by show (M.fromS xs ac).fid ∈ _; rw [hf.2.1]; exact dir_mem (by rw [hk]; decide))) rfl (by show (M.toS xs ac).fid ∈ _; rw [ht.2.1]; exact to_mem hk)
        · exact told_nil _ _ _
end Go.Proofs.Ytkdpdgbacladhab
