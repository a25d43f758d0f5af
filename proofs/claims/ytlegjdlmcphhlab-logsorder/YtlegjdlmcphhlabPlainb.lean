/-
  PIECES: what is found behind Put and Drop; what stays small.
-/
import Derived.Test.YtlegjdlmcphhlabIn
namespace Go.Proofs.Ytlegjdlmcphhlab
open Go.RowKit

theorem small_any {x : M.Nd} (h1 : x.data.length ≤ 100) (h2 : x.ents.length ≤ 100) : Small x := ⟨by omega, by omega⟩
theorem findN_put (xs : List M.Nd) (x : M.Nd) : M.find (M.putN xs x) x.fid = some x := M.put_find (fun y : M.Nd => y.fid) xs M.ordI x
theorem findN_other (xs : List M.Nd) (x : M.Nd) (t : Int) (h : t ≠ x.fid) : M.find (M.putN xs x) t = M.find xs t := M.put_find_other (fun y : M.Nd => y.fid) xs M.ordI x t h
theorem findN_drop (xs : List M.Nd) (t : Int) : M.find (M.dropN xs t) t = none := M.find_filter_none (fun y : M.Nd => y.fid) xs _ t (fun y _ e => by simp [e])
theorem rs_put {xs : List M.Nd} (x : M.Nd) (h : M.RsN xs) : M.RsN (M.putN xs x) := M.put_rs (fun y : M.Nd => y.fid) xs M.ordI x h
theorem rs_drop {xs : List M.Nd} (t : Int) (h : M.RsN xs) : M.RsN (M.dropN xs t) := M.rs_sub h (List.filter_sublist.map _)
theorem small_put {xs : List M.Nd} {x : M.Nd} (h : ∀ y ∈ xs, Small y) (hx : Small x) : ∀ y ∈ M.putN xs x, Small y := by
  intro y hy
  unfold M.putN M.put at hy
  rcases List.mem_append.1 hy with h1 | h1
  · exact h y (List.mem_filter.1 h1).1
  · rcases List.mem_cons.1 h1 with h2 | h2
    · rw [h2]; exact hx
    · exact h y (List.mem_filter.1 h2).1
theorem small_drop {xs : List M.Nd} (t : Int) (h : ∀ y ∈ xs, Small y) : ∀ y ∈ M.dropN xs t, Small y := fun y hy => h y (List.mem_filter.1 hy).1
theorem small_get {xs : List M.Nd} (t : Int) (h : ∀ y ∈ xs, Small y) : Small ((M.find xs t).getD nd0) := by
  cases hf : M.find xs t with
  | none => exact small_any (by simp [nd0]) (by simp [nd0])
  | some y => exact h y (List.mem_of_find?_eq_some hf)

theorem below_new {w w' : World} (h : Below w.heap.size w w') (o : Obj) : Below w.heap.size w (w'.alloc o) := h.alloc h.size o

/-- two rising lists of the same members are one -/
theorem rs_ext : ∀ {ls ms : List M.Nd}, M.RsN ls → M.RsN ms → (∀ x, x ∈ ls ↔ x ∈ ms) → ls = ms
  | [], [], _, _, _ => rfl
  | [], b :: ms, _, _, h => by have := (h b).2 (List.mem_cons_self ..); cases this
  | a :: ls, [], _, _, h => by have := (h a).1 (List.mem_cons_self ..); cases this
  | a :: ls, b :: ms, ha, hb, h => by
    have ha1 : ∀ y ∈ ls, a.fid < y.fid := by
      have hp : M.Rs M.ltI ((a :: ls).map (·.fid)) := ha
      unfold M.Rs at hp
      rw [List.map_cons, List.pairwise_cons] at hp
      intro y hy
      have := hp.1 y.fid (List.mem_map.2 ⟨y, hy, rfl⟩)
      simpa [M.ltI] using this
    have hb1 : ∀ y ∈ ms, b.fid < y.fid := by
      have hp : M.Rs M.ltI ((b :: ms).map (·.fid)) := hb
      unfold M.Rs at hp
      rw [List.map_cons, List.pairwise_cons] at hp
      intro y hy
      have := hp.1 y.fid (List.mem_map.2 ⟨y, hy, rfl⟩)
      simpa [M.ltI] using this
    have hab : a = b := by
      rcases List.mem_cons.1 ((h a).1 (List.mem_cons_self ..)) with h1 | h1
      · exact h1
      · rcases List.mem_cons.1 ((h b).2 (List.mem_cons_self ..)) with h2 | h2
        · exact h2.symm
        · have := ha1 b h2; have := hb1 a h1; omega
    subst hab
    have ht : ls = ms := by
      refine rs_ext (M.rs_sub ha ((List.sublist_cons_self a ls).map _)) (M.rs_sub hb ((List.sublist_cons_self a ms).map _)) fun x => ⟨fun hx => ?_, fun hx => ?_⟩
      · rcases List.mem_cons.1 ((h x).1 (List.mem_cons_of_mem _ hx)) with h1 | h1
        · subst h1; have := ha1 x hx; omega
        · exact h1
      · rcases List.mem_cons.1 ((h x).2 (List.mem_cons_of_mem _ hx)) with h1 | h1
        · subst h1; have := hb1 x hx; omega
        · exact h1
    rw [ht]

/-- of a rising list one more is picked -/
theorem filter_put {xs : List M.Nd} {x : M.Nd} (hr : M.RsN xs) (hx : x ∈ xs) (p q : Int → Bool) (hp : p x.fid = false) (hq : ∀ k, q k = (p k || decide (k = x.fid))) :
    xs.filter (fun y => q y.fid) = M.putN (xs.filter (fun y => p y.fid)) x := by
  have hone : ∀ y ∈ xs, y.fid = x.fid → y = x := by
    intro y hy he
    obtain ⟨i, hi⟩ := List.getElem?_of_mem hy
    obtain ⟨j, hj⟩ := List.getElem?_of_mem hx
    have h1 := M.find_self hr hi
    have h2 := M.find_self hr hj
    rw [he, h2] at h1
    exact (Option.some.inj h1).symm
  refine rs_ext (M.rs_sub hr (List.filter_sublist.map _)) (rs_put x (M.rs_sub hr (List.filter_sublist.map _))) fun y => ?_
  unfold M.putN M.put
  simp only [List.mem_append, List.mem_cons, List.mem_filter, M.ltI, decide_eq_true_eq]
  constructor
  · rintro ⟨hy, hqy⟩
    rw [hq, Bool.or_eq_true] at hqy
    by_cases he : y.fid = x.fid
    · exact .inr (.inl (hone y hy he))
    · have hpy : p y.fid = true := by
        rcases hqy with h | h
        · exact h
        · exact absurd (of_decide_eq_true h) he
      rcases Int.lt_or_gt_of_ne he with h | h
      · exact .inl ⟨⟨hy, hpy⟩, h⟩
      · exact .inr (.inr ⟨⟨hy, hpy⟩, h⟩)
  · rintro (⟨⟨hy, hpy⟩, _⟩ | rfl | ⟨⟨hy, hpy⟩, _⟩)
    · exact ⟨hy, by rw [hq, hpy]; rfl⟩
    · exact ⟨hx, by rw [hq]; simp⟩
    · exact ⟨hy, by rw [hq, hpy]; rfl⟩
/-- and its place -/
theorem put_place {ys : List M.Nd} {x : M.Nd} {k : Nat} (hr : M.RsN ys) (hlow : ∀ y ∈ ys.take k, y.fid < x.fid) (hup : ∀ y, ys[k]? = some y → x.fid < y.fid) :
    M.putN ys x = ys.take k ++ [x] ++ ys.drop k := by
  have hp : M.Rs M.ltI (ys.map (·.fid)) := hr
  unfold M.Rs at hp
  rw [List.pairwise_map] at hp
  have hhi : ∀ y ∈ ys.drop k, x.fid < y.fid := by
    intro y hy
    obtain ⟨i, hi⟩ := List.getElem?_of_mem hy
    rw [List.getElem?_drop] at hi
    obtain ⟨hl, he⟩ := List.getElem?_eq_some_iff.1 hi
    by_cases h0 : i = 0
    · subst h0; exact hup y (by simpa using hi)
    · have hk : k < ys.length := by omega
      have h1 := hup ys[k] (List.getElem?_eq_getElem hk)
      have h2 := List.pairwise_iff_getElem.1 hp k (k + i) hk hl (by omega)
      rw [he] at h2
      simp [M.ltI] at h2
      omega
  have hs : ys = ys.take k ++ ys.drop k := (List.take_append_drop k ys).symm
  unfold M.putN M.put
  have e1 : ys.filter (fun y => M.ltI y.fid x.fid) = ys.take k := by
    rw [hs, List.filter_append, List.take_append_drop]
    rw [List.filter_eq_self.2 (fun y hy => by simpa [M.ltI] using hlow y hy), List.filter_eq_nil_iff.2 (fun y hy => by have := hhi y hy; simp [M.ltI]; omega), List.append_nil]
  have e2 : ys.filter (fun y => M.ltI x.fid y.fid) = ys.drop k := by
    rw [hs, List.filter_append, List.take_append_drop]
    rw [List.filter_eq_nil_iff.2 (fun y hy => by have := hlow y hy; simp [M.ltI]; omega), List.filter_eq_self.2 (fun y hy => by simpa [M.ltI] using hhi y hy), List.nil_append]
  rw [e1, e2]
  simp
end Go.Proofs.Ytlegjdlmcphhlab
