/-
  PACKAGE logs: Rename; a record of one's own, written in its place.
-/
import Derived.Test.YtlegjdlmcphhlabLogh
import Derived.Test.YtlegjdlmcphhlabLogg
import Derived.Test.YtlegjdlmcphhlabDoesc
import Derived.OneCell
namespace Go.Proofs.Ytlegjdlmcphhlab
open Go.RowKit

theorem own_cell {w : World} {B : Nat} {e : TypeId} {k g n cap : Nat} {xs : List Value} (h : w.ownsRow B e k (.slice (some ⟨g, 0, none⟩) n cap) n xs) (i : Nat) (u : Value) :
    (w.setCell ⟨g, i, none⟩ u).ownsRow B e k (.slice (some ⟨g, 0, none⟩) n cap) n (xs.set i u) := by
  obtain ⟨h1, h2⟩ := h
  refine ⟨by simpa using h1, ?_⟩
  rcases h2 with ⟨h2, _⟩ | ⟨g', cap', cur, hv, hg, hh, hn, hc, hs, ht⟩
  · cases h2
  · cases hv
    refine .inr ⟨g, cap, cur.setIfInBounds i u, rfl, hg, heap_setCell_same _ _ _ _ _ _ hh, hn, hc, by simpa using hs, ?_⟩
    rw [Array.toList_setIfInBounds, List.take_set, ht]
theorem own_block {w : World} {B : Nat} {e : TypeId} {k g n cap : Nat} {xs : List Value} (h : w.ownsRow B e k (.slice (some ⟨g, 0, none⟩) n cap) n xs) : ∃ cur, w.heap[g]? = some (.cells cur e (0, 0)) := by
  rcases h.2 with ⟨h2, _⟩ | ⟨g', cap', cur, hv, hg, hh, _⟩
  · cases h2
  · cases hv; exact ⟨cur, hh⟩
theorem own_set_kind {w : World} {B : Nat} {e e' : TypeId} {k g n : Nat} {v : Value} {xs : List Value} {cur : Array Value} (h : w.ownsRow B e k v n xs) (hg : w.heap[g]? = some (.cells cur e' (0, 0))) (hne : e ≠ e') (i : Nat) (u : Value) : (w.setCell ⟨g, i, none⟩ u).ownsRow B e k v n xs := by
  refine ownsRow_setCell_other h (a := ⟨g, i, none⟩) (fun hb => ?_) u
  rcases h.2 with ⟨h2, _⟩ | ⟨g', cap', cur', hv, _, hh, _⟩
  · rw [h2] at hb; cases hb
  · rw [hv] at hb
    have e1 : g' = g := Option.some.inj hb
    rw [e1, hg] at hh
    cases hh
    exact hne rfl
theorem ownA_set {w : World} {B g : Nat} {v : AV} {x : M.Act} {e' : TypeId} {cur : Array Value} (h : OwnA w B v x) (hg : w.heap[g]? = some (.cells cur e' (0, 0))) (hne : 5 ≠ e') (i : Nat) (u : Value) : OwnA (w.setCell ⟨g, i, none⟩ u) B v x :=
  ⟨h.1, h.2.1, h.2.2.1, h.2.2.2.1, h.2.2.2.2.1, h.2.2.2.2.2.1, own_set_kind h.2.2.2.2.2.2 hg hne i u⟩
theorem ownA_put7 {w : World} {B g : Nat} {v : AV} {x : M.Act} {e' : TypeId} {cur : Array Value} (h : OwnA w B v x) (hg : w.heap[g]? = some (.cells cur e' (0, 0))) (hne : 5 ≠ e') (o : Nat) (a : AV) : OwnA (put7 w g o a) B v x := by
  have h0 := ownA_set h hg hne o (.int .i64 a.kind)
  have g0 := heap_setCell_same _ _ o _ _ (.int .i64 a.kind) hg
  have h1 := ownA_set h0 g0 hne (o + 1) (.int .i64 a.fid)
  have g1 := heap_setCell_same _ _ (o + 1) _ _ (.int .i64 a.fid) g0
  have h2 := ownA_set h1 g1 hne (o + 2) (.int .i64 a.dir)
  have g2 := heap_setCell_same _ _ (o + 2) _ _ (.int .i64 a.dir) g1
  have h3 := ownA_set h2 g2 hne (o + 3) (.string a.name)
  have g3 := heap_setCell_same _ _ (o + 3) _ _ (.string a.name) g2
  have h4 := ownA_set h3 g3 hne (o + 4) (.int .i64 a.to)
  have g4 := heap_setCell_same _ _ (o + 4) _ _ (.int .i64 a.to) g3
  have h5 := ownA_set h4 g4 hne (o + 5) (.string a.toName)
  have g5 := heap_setCell_same _ _ (o + 5) _ _ (.string a.toName) g4
  exact ownA_set h5 g5 hne (o + 6) (.slice a.dA a.dn a.dc)
theorem set_mid {α : Type} (A B C : List α) (i : Nat) (u : α) (h : i < B.length) : (A ++ (B ++ C)).set (A.length + i) u = A ++ (B.set i u ++ C) := by
  rw [List.set_append_right (h := Nat.le_add_right _ _), Nat.add_sub_cancel_left, List.set_append_left (h := h)]
theorem fm_split {us : List RV} {j : Nat} {r : RV} (h : us[j]? = some r) (r' : RV) : us.flatMap RV.cells = (us.take j).flatMap RV.cells ++ (r.cells ++ (us.drop (j + 1)).flatMap RV.cells) ∧ (us.set j r').flatMap RV.cells = (us.take j).flatMap RV.cells ++ (r'.cells ++ (us.drop (j + 1)).flatMap RV.cells) ∧ ((us.take j).flatMap RV.cells).length = j * 9 := by
  have hj : j < us.length := (List.getElem?_eq_some_iff.1 h).1
  have e : us[j] = r := by rw [List.getElem?_eq_getElem hj] at h; exact Option.some.inj h
  have h1 : us = us.take j ++ r :: us.drop (j + 1) := by
    rw [← e, ← List.drop_eq_getElem_cons hj, List.take_append_drop]
  refine ⟨?_, ?_, ?_⟩
  · conv => lhs; rw [h1]
    rw [List.flatMap_append, List.flatMap_cons]
  · rw [List.set_eq_take_append_cons_drop, if_pos hj, List.flatMap_append, List.flatMap_cons]
  · rw [fm_len rec_len, List.length_take]; congr 1; omega
theorem own_put7 {w : World} {B g n cap : Nat} {us : List RV} {j : Nat} {r : RV} {a : AV} (h : w.ownsRow B 48 9 (.slice (some ⟨g, 0, none⟩) n cap) n (us.flatMap RV.cells)) (hj : us[j]? = some r) :
    (put7 w g (j * 9) a).ownsRow B 48 9 (.slice (some ⟨g, 0, none⟩) n cap) n ((us.set j ⟨a, r.ver, r.id⟩).flatMap RV.cells) := by
  obtain ⟨e1, e2, e3⟩ := fm_split hj ⟨a, r.ver, r.id⟩
  have h7 := own_cell (own_cell (own_cell (own_cell (own_cell (own_cell (own_cell h (j * 9) (.int .i64 a.kind)) (j * 9 + 1) (.int .i64 a.fid)) (j * 9 + 2) (.int .i64 a.dir)) (j * 9 + 3) (.string a.name)) (j * 9 + 4) (.int .i64 a.to)) (j * 9 + 5) (.string a.toName)) (j * 9 + 6) (.slice a.dA a.dn a.dc)
  rw [e2]
  rw [e1] at h7
  have s1 := fun (i : Nat) (X : List Value) (h : i < X.length) (u : Value) => set_mid ((us.take j).flatMap RV.cells) X ((us.drop (j + 1)).flatMap RV.cells) i u h
  rw [e3] at s1
  have s0 : ∀ (X : List Value), 0 < X.length → ∀ u, ((us.take j).flatMap RV.cells ++ (X ++ (us.drop (j + 1)).flatMap RV.cells)).set (j * 9) u = (us.take j).flatMap RV.cells ++ (X.set 0 u ++ (us.drop (j + 1)).flatMap RV.cells) := fun X h u => s1 0 X h u
  rw [s0 _ (by simp [RV.cells]), s1 1 _ (by simp [RV.cells]), s1 2 _ (by simp [RV.cells]), s1 3 _ (by simp [RV.cells]), s1 4 _ (by simp [RV.cells]), s1 5 _ (by simp [RV.cells]), s1 6 _ (by simp [RV.cells])] at h7
  exact h7

/-- a record, turned -/
def turnR (f t : Int) (x : M.Rec) : M.Rec := ⟨turnA x.act f t, x.ver, x.id⟩
theorem ownL_put7 {w : World} {B g n cap : Nat} {us : List RV} {xs : List M.Rec} {j : Nat} {r : RV} {x : M.Rec} {a : AV} {y : M.Act} (h : OwnL w B (some ⟨g, 0, none⟩) n cap us xs) (hj : us[j]? = some r) (hx : xs[j]? = some x) (ha : OwnA w B a y) :
    OwnL (put7 w g (j * 9) a) B (some ⟨g, 0, none⟩) n cap (us.set j ⟨a, r.ver, r.id⟩) (xs.set j ⟨y, x.ver, x.id⟩) := by
  obtain ⟨cur, hg⟩ := own_block h.1
  refine ⟨own_put7 h.1 hj, ?_⟩
  have hlen := h.2.1
  refine ⟨by simp [hlen], fun i v z hv hz => ?_⟩
  have hr := h.2.2 j r x hj hx
  rw [List.getElem?_set] at hv hz
  by_cases e : j = i
  · subst e
    rw [if_pos rfl] at hv hz
    split at hv
    · split at hz
      · cases hv; cases hz
        exact ⟨ownA_put7 ha hg (by decide) _ _, hr.2⟩
      · cases hz
    · cases hv
  · rw [if_neg e] at hv hz
    have h2 := h.2.2 i v z hv hz
    exact ⟨ownA_put7 h2.1 hg (by decide) _ _, h2.2⟩
end Go.Proofs.Ytlegjdlmcphhlab
