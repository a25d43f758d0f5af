/- TEXTS LAID TOGETHER: Logg, Logi, Logj, Sameact, Samelog -/
import Derived.Test.YtlegjdlmcphhlabPart9
import Derived.Test.YtlegjdlmcphhlabPart10
import Derived.OneCell
import Derived.Test.YtlegjdlmcphhlabPart8
/-
  PACKAGE logs: Acts.
-/
namespace Go.Proofs.Ytlegjdlmcphhlab
open Go.RowKit

theorem infoA : (Try.prog.info? 26).map (fun i => (i.zero, i.size, i.bytes)) = some (some (.agg #[.int .i64 0, .int .i64 0, .int .i64 0, .string ByteArray.empty, .int .i64 0, .string ByteArray.empty, .slice none 0 0]), 7, 88) := by kernel_rfl
theorem rowA_box {w : World} {s : Nat} {r : AV} (h : BoxA w s r) : Row 7 AV.cells w (some ⟨s, 0, none⟩) 1 [r] := by
  refine ⟨rfl, .inr ⟨s, 0, rfl, lt_of_block h, fun j v hv i c hi => ?_⟩⟩
  obtain ⟨b0, b1, b2, b3, b4, b5, b6, bf, bz⟩ := h.facts
  cases j with
  | succ j => cases hv
  | zero =>
    cases hv
    match i, hi with
    | 0, hi => cases hi; exact b0
    | 1, hi => cases hi; exact b1
    | 2, hi => cases hi; exact b2
    | 3, hi => cases hi; exact b3
    | 4, hi => cases hi; exact b4
    | 5, hi => cases hi; exact b5
    | 6, hi => cases hi; exact b6
    | i + 7, hi => cases hi
def OwnAs (w : World) (B : Nat) (A : Option Addr) (n c : Nat) (vs : List AV) (xs : List M.Act) : Prop := w.ownsRow B 26 7 (.slice A n c) n (vs.flatMap AV.cells) ∧ All2 (OwnA w B) vs xs
theorem OwnAs.tree {w : World} {B : Nat} {A : Option Addr} {n c : Nat} {vs : List AV} {xs : List M.Act} (h : OwnAs w B A n c vs xs) : TreeA w A n vs xs :=
  ⟨Row.ofOwn act_len (by decide) h.1, h.2.imp fun _ _ h => h.cont⟩
theorem OwnAs.below {B C : Nat} {w w' : World} {A : Option Addr} {n c : Nat} {vs : List AV} {xs : List M.Act} (h : OwnAs w B A n c vs xs) (hC : w.heap.size ≤ C) (hb : Below C w w') : OwnAs w' B A n c vs xs :=
  ⟨own_below h.1 hb hC, h.2.imp fun _ _ h => h.below hC hb⟩
theorem OwnAs.snoc {w w' : World} {B : Nat} {A : Option Addr} {n c : Nat} {A' : Option Addr} {n' c' : Nat} {vs : List AV} {xs : List M.Act} {r : AV} {x : M.Act} (h : OwnAs w B A n c vs xs) (hr : OwnA w B r x) (ho : w'.ownsRow B 26 7 (.slice A' n' c') n' (vs.flatMap AV.cells ++ r.cells)) (hg : w.grownBy w' (Value.slice A n c).ownBlock) : OwnAs w' B A' n' c' (vs ++ [r]) (xs ++ [x]) := by
  refine ⟨?_, All2.append (h.2.imp fun _ _ k => k.grown h.1 (by decide) hg) (All2.one (hr.grown h.1 (by decide) hg))⟩
  rw [List.flatMap_append]
  simpa using ho
theorem snoc_belowA {w W w2 : World} {A : Option Addr} {m c : Nat} {L : List Value} (hb : Below w.heap.size w W) (ho : W.ownsRow w.heap.size 26 7 (.slice A m c) m L) (hg : W.grownBy w2 (Value.slice A m c).ownBlock) : Below w.heap.size w w2 :=
  Below.grown hb hg hb.size (fun k hk => by
    rcases ho.2 with ⟨e, _⟩ | ⟨g, cap, cur, e, h1, _⟩
    · cases e; cases hk
    · cases e; cases hk; exact h1)
theorem actsLen {w : World} {B : Nat} {A : Option Addr} {n c : Nat} {vs : List AV} {xs : List M.Act} (h : OwnAs w B A n c vs xs) : n = xs.length := by rw [h.tree.1.1, h.2.1]

set_option maxRecDepth 8000 in
set_option maxHeartbeats 2000000 in
theorem acts_any (A : Option Addr) (n c : Nat) (vs : List RV) (xs : List M.Rec) (w : World) (ht : TreeR w A n vs xs) (hs : ∀ x ∈ xs, x.act.data.length ≤ 140737488355328) (hn : n * 104 ≤ 140737488355328) :
    Calls Try.prog 22 #[.slice A n c] w fun e w' => ∃ (B : Option Addr) (m d : Nat) (us : List AV), e = .returned (.slice B m d) ∧ OwnAs w' w.heap.size B m d us (xs.map (·.act)) ∧ Below w.heap.size w w' := by
  obtain ⟨iA, hiA, hzA, hsA, hbA⟩ := info_parts infoA
  have HT : Hid (TreeR w A n vs xs ∧ (∀ x ∈ xs, x.act.data.length ≤ 140737488355328)) := ⟨ht, hs⟩
  clear ht hs
  have hbn : iA.bytes * n ≤ 281474976710656 := by rw [hbA]; omega
  go_enter Try.func22, Try.ntmps22
  go_wp2_with (at_make; refine wpList_make_own _ (by rfl) (.const (.int .i64 0)) (.tmp 7) 53 (by rfl) w.heap.size 26 iA _ 7 Try.underlying53 hiA hzA hsA .i64 .i64 _ n rfl rfl rfl hbn (by unfold maxLen; omega) (Nat.le_refl _) ?_; intro w1 hown hg1; have hb1 := grown_below hg1; clear hg1)
  have H0 : Hid (OwnAs w1 w.heap.size (some ⟨w.heap.size, 0, none⟩) 0 n [] [] ∧ Below w.heap.size w w1) := ⟨⟨by simpa using hown, All2.nil⟩, hb1⟩
  clear hown hb1 hbn
  go_loopw [3, 11] (fun v i wr => ∃ (k : Nat) (B : Option Addr) (m d : Nat) (us : List AV), k ≤ n ∧ i = .int .i64 k ∧ v = .slice B m d ∧ OwnAs wr w.heap.size B m d us ((xs.take k).map (·.act)) ∧ Below w.heap.size w wr) (fun _ i _ => n - (intOf i).toNat)
  case atStart => exact ⟨0, _, 0, n, [], Nat.zero_le _, rfl, rfl, by simpa using H0.out.1, H0.out.2⟩
  case round =>
    obtain ⟨k, B, m, d, us, hk, rfl, rfl, hol, hb⟩ := hrel
    have HO : Hid (OwnAs wr w.heap.size B m d us ((xs.take k).map (·.act)) ∧ Below w.heap.size w wr) := ⟨hol, hb⟩
    have hml : m ≤ k := by
      rw [actsLen hol]
      simp; omega
    have hsz := hb.size
    clear hol
    by_cases hlt : k < n
    · have htr := HT.out.1.below (Nat.le_refl _) hb
      obtain ⟨g, o, v, rfl, hgb, hvk, c0, c1, c2, c3, c4, c5, c6, c7, c8⟩ := htr.1.at hlt
      obtain ⟨x, hx, hcx⟩ := htr.2.at hvk
      have HX : Hid (xs[k]? = some x ∧ ContR wr v x ∧ x.act.data.length ≤ 140737488355328) := ⟨hx, hcx, HT.out.2 x (List.mem_of_getElem? hx)⟩
      have HWA : Hid _ := boxR_start wr v
      have HFS : Hid ((xs.take (k + 1)).map (·.act) = (xs.take k).map (·.act) ++ [x.act]) := by show _ = _; rw [take_step hx, List.map_append]; rfl
      clear hvk htr hx hcx
      go_wp2_with (fail)
      obtain ⟨q1, q2, q3⟩ := HWA.out _ rfl
      refine (ownAct_any v.a x.act _ (HX.out.2.1.1.below (Nat.le_refl _) q1) HX.out.2.2).mono ?_
      rintro e w3 ⟨r', rfl, hor, hb3⟩
      have hz3 := hb3.size
      rw [q3] at hz3
      have h13 : Below wr.heap.size wr w3 := q1.trans (hb3.mono (by omega))
      have HB3 : Hid (Below w.heap.size w w3 ∧ OwnAs w3 w.heap.size B m d us ((xs.take k).map (·.act)) ∧ OwnA w3 w.heap.size r' x.act) := ⟨hb.trans (h13.mono hsz), HO.out.1.below (Nat.le_refl _) h13, hor.mono (by rw [q3]; omega)⟩
      have HWB : Hid _ := boxA_start w3 r'
      clear hor hb3 q1 q2 q3 HWA h13 hb
      go_wp2_with (at_builtin; refine wpList_append_row _ (by rfl) (.tmp 15) (.tmp 19) 53 (by rfl) w.heap.size 26 iA _ 88 Try.underlying53 hiA hzA hsA hbA rfl (by decide) _ m _ (by rfl) (own_below HB3.out.2.1.1 (HWB.out _ rfl).1 (Nat.le_refl _)) (some ⟨w3.heap.size, 0, none⟩) 1 1 [r'] (by rfl) (rowA_box (HWB.out _ rfl).2.1) act_len act_one (by unfold maxLen; omega) (by omega) (by simp; omega) ?_; intro v4 w4 hown4 hg4; obtain ⟨A4, c4', rfl, _, _⟩ := own_form hown4; have HR : Hid (OwnAs w4 w.heap.size A4 (m + 1) c4' (us ++ [r']) ((xs.take (k + 1)).map (·.act)) ∧ Below w.heap.size w w4) := ⟨by rw [HFS.out]; exact OwnAs.snoc (HB3.out.2.1.below (Nat.le_refl _) (HWB.out _ rfl).1) (HB3.out.2.2.below (Nat.le_refl _) (HWB.out _ rfl).1) (by simpa using hown4) hg4, snoc_belowA (HB3.out.1.trans ((HWB.out _ rfl).1.mono HB3.out.1.size)) (own_below HB3.out.2.1.1 (HWB.out _ rfl).1 (Nat.le_refl _)) hg4⟩; clear hown4 hg4)
      go_roundw
      case rel => exact ⟨k + 1, A4, m + 1, c4', us ++ [r'], by omega, by go_num, rfl, HR.out.1, HR.out.2⟩
      case measure => simp [intOf]; omega
    · have HL : Hid (xs.take k = xs) := by show _ = _; exact List.take_of_length_le (by rw [← HT.out.1.len]; omega)
      go_wp2
      go_ret
      have h1 := HO.out.1
      rw [HL.out] at h1
      exact ⟨B, m, d, us, rfl, h1, hb⟩
end Go.Proofs.Ytlegjdlmcphhlab
/-
  PACKAGE logs: Rename; a record of one's own, written in its place.
-/
namespace Go.Proofs.Ytlegjdlmcphhlab
open Go.RowKit

theorem own_cell {w : World} {B : Nat} {e : TypeId} {k g n cap : Nat} {xs : List Value} (h : w.ownsRow B e k (.slice (some ⟨g, 0, none⟩) n cap) n xs) (i : Nat) (u : Value) :
    (w.setCell ⟨g, i, none⟩ u).ownsRow B e k (.slice (some ⟨g, 0, none⟩) n cap) n (xs.set i u) := by
  obtain ⟨h1, h2⟩ := h
  refine ⟨by simpa using h1, ?_⟩
  rcases h2 with ⟨h2, _⟩ | ⟨g', cap', cur, hv, hg, hh, hn, hc, hs, ht⟩
  · cases h2
  · cases hv
    refine .inr ⟨g, cap, cur.setIfInBounds i u, rfl, hg, heap_setCell_same _ _ _ _ _ _ hh, hn, hc, by simpa using hs, ?_⟩
    rw [Array.toList_setIfInBounds, List.take_set, ht]
theorem own_block {w : World} {B : Nat} {e : TypeId} {k g n cap : Nat} {xs : List Value} (h : w.ownsRow B e k (.slice (some ⟨g, 0, none⟩) n cap) n xs) : ∃ cur, w.heap[g]? = some (.cells cur e (0, 0)) := by
  rcases h.2 with ⟨h2, _⟩ | ⟨g', cap', cur, hv, hg, hh, _⟩
  · cases h2
  · cases hv; exact ⟨cur, hh⟩
theorem own_set_kind {w : World} {B : Nat} {e e' : TypeId} {k g n : Nat} {v : Value} {xs : List Value} {cur : Array Value} (h : w.ownsRow B e k v n xs) (hg : w.heap[g]? = some (.cells cur e' (0, 0))) (hne : e ≠ e') (i : Nat) (u : Value) : (w.setCell ⟨g, i, none⟩ u).ownsRow B e k v n xs := by
  refine ownsRow_setCell_other h (a := ⟨g, i, none⟩) (fun hb => ?_) u
  rcases h.2 with ⟨h2, _⟩ | ⟨g', cap', cur', hv, _, hh, _⟩
  · rw [h2] at hb; cases hb
  · rw [hv] at hb
    have e1 : g' = g := Option.some.inj hb
    rw [e1, hg] at hh
    cases hh
    exact hne rfl
theorem ownA_set {w : World} {B g : Nat} {v : AV} {x : M.Act} {e' : TypeId} {cur : Array Value} (h : OwnA w B v x) (hg : w.heap[g]? = some (.cells cur e' (0, 0))) (hne : 5 ≠ e') (i : Nat) (u : Value) : OwnA (w.setCell ⟨g, i, none⟩ u) B v x :=
  ⟨h.1, h.2.1, h.2.2.1, h.2.2.2.1, h.2.2.2.2.1, h.2.2.2.2.2.1, own_set_kind h.2.2.2.2.2.2 hg hne i u⟩
theorem ownA_put7 {w : World} {B g : Nat} {v : AV} {x : M.Act} {e' : TypeId} {cur : Array Value} (h : OwnA w B v x) (hg : w.heap[g]? = some (.cells cur e' (0, 0))) (hne : 5 ≠ e') (o : Nat) (a : AV) : OwnA (put7 w g o a) B v x := by
  have h0 := ownA_set h hg hne o (.int .i64 a.kind)
  have g0 := heap_setCell_same _ _ o _ _ (.int .i64 a.kind) hg
  have h1 := ownA_set h0 g0 hne (o + 1) (.int .i64 a.fid)
  have g1 := heap_setCell_same _ _ (o + 1) _ _ (.int .i64 a.fid) g0
  have h2 := ownA_set h1 g1 hne (o + 2) (.int .i64 a.dir)
  have g2 := heap_setCell_same _ _ (o + 2) _ _ (.int .i64 a.dir) g1
  have h3 := ownA_set h2 g2 hne (o + 3) (.string a.name)
  have g3 := heap_setCell_same _ _ (o + 3) _ _ (.string a.name) g2
  have h4 := ownA_set h3 g3 hne (o + 4) (.int .i64 a.to)
  have g4 := heap_setCell_same _ _ (o + 4) _ _ (.int .i64 a.to) g3
  have h5 := ownA_set h4 g4 hne (o + 5) (.string a.toName)
  have g5 := heap_setCell_same _ _ (o + 5) _ _ (.string a.toName) g4
  exact ownA_set h5 g5 hne (o + 6) (.slice a.dA a.dn a.dc)
theorem set_mid {α : Type} (A B C : List α) (i : Nat) (u : α) (h : i < B.length) : (A ++ (B ++ C)).set (A.length + i) u = A ++ (B.set i u ++ C) := by
  rw [List.set_append_right (h := Nat.le_add_right _ _), Nat.add_sub_cancel_left, List.set_append_left (h := h)]
theorem fm_split {us : List RV} {j : Nat} {r : RV} (h : us[j]? = some r) (r' : RV) : us.flatMap RV.cells = (us.take j).flatMap RV.cells ++ (r.cells ++ (us.drop (j + 1)).flatMap RV.cells) ∧ (us.set j r').flatMap RV.cells = (us.take j).flatMap RV.cells ++ (r'.cells ++ (us.drop (j + 1)).flatMap RV.cells) ∧ ((us.take j).flatMap RV.cells).length = j * 9 := by
  have hj : j < us.length := (List.getElem?_eq_some_iff.1 h).1
  have e : us[j] = r := by rw [List.getElem?_eq_getElem hj] at h; exact Option.some.inj h
  have h1 : us = us.take j ++ r :: us.drop (j + 1) := by
    rw [← e, ← List.drop_eq_getElem_cons hj, List.take_append_drop]
  refine ⟨?_, ?_, ?_⟩
  · conv => lhs; rw [h1]
    rw [List.flatMap_append, List.flatMap_cons]
  · rw [List.set_eq_take_append_cons_drop, if_pos hj, List.flatMap_append, List.flatMap_cons]
  · rw [fm_len rec_len, List.length_take]; congr 1; omega
theorem own_put7 {w : World} {B g n cap : Nat} {us : List RV} {j : Nat} {r : RV} {a : AV} (h : w.ownsRow B 48 9 (.slice (some ⟨g, 0, none⟩) n cap) n (us.flatMap RV.cells)) (hj : us[j]? = some r) :
    (put7 w g (j * 9) a).ownsRow B 48 9 (.slice (some ⟨g, 0, none⟩) n cap) n ((us.set j ⟨a, r.ver, r.id⟩).flatMap RV.cells) := by
  obtain ⟨e1, e2, e3⟩ := fm_split hj ⟨a, r.ver, r.id⟩
  have h7 := own_cell (own_cell (own_cell (own_cell (own_cell (own_cell (own_cell h (j * 9) (.int .i64 a.kind)) (j * 9 + 1) (.int .i64 a.fid)) (j * 9 + 2) (.int .i64 a.dir)) (j * 9 + 3) (.string a.name)) (j * 9 + 4) (.int .i64 a.to)) (j * 9 + 5) (.string a.toName)) (j * 9 + 6) (.slice a.dA a.dn a.dc)
  rw [e2]
  rw [e1] at h7
  have s1 := fun (i : Nat) (X : List Value) (h : i < X.length) (u : Value) => set_mid ((us.take j).flatMap RV.cells) X ((us.drop (j + 1)).flatMap RV.cells) i u h
  rw [e3] at s1
  have s0 : ∀ (X : List Value), 0 < X.length → ∀ u, ((us.take j).flatMap RV.cells ++ (X ++ (us.drop (j + 1)).flatMap RV.cells)).set (j * 9) u = (us.take j).flatMap RV.cells ++ (X.set 0 u ++ (us.drop (j + 1)).flatMap RV.cells) := fun X h u => s1 0 X h u
  rw [s0 _ (by simp [RV.cells]), s1 1 _ (by simp [RV.cells]), s1 2 _ (by simp [RV.cells]), s1 3 _ (by simp [RV.cells]), s1 4 _ (by simp [RV.cells]), s1 5 _ (by simp [RV.cells]), s1 6 _ (by simp [RV.cells])] at h7
  exact h7

/-- a record, turned -/
def turnR (f t : Int) (x : M.Rec) : M.Rec := ⟨turnA x.act f t, x.ver, x.id⟩
theorem ownL_put7 {w : World} {B g n cap : Nat} {us : List RV} {xs : List M.Rec} {j : Nat} {r : RV} {x : M.Rec} {a : AV} {y : M.Act} (h : OwnL w B (some ⟨g, 0, none⟩) n cap us xs) (hj : us[j]? = some r) (hx : xs[j]? = some x) (ha : OwnA w B a y) :
    OwnL (put7 w g (j * 9) a) B (some ⟨g, 0, none⟩) n cap (us.set j ⟨a, r.ver, r.id⟩) (xs.set j ⟨y, x.ver, x.id⟩) := by
  obtain ⟨cur, hg⟩ := own_block h.1
  refine ⟨own_put7 h.1 hj, ?_⟩
  have hlen := h.2.1
  refine ⟨by simp [hlen], fun i v z hv hz => ?_⟩
  have hr := h.2.2 j r x hj hx
  rw [List.getElem?_set] at hv hz
  by_cases e : j = i
  · subst e
    rw [if_pos rfl] at hv hz
    split at hv
    · split at hz
      · cases hv; cases hz
        exact ⟨ownA_put7 ha hg (by decide) _ _, hr.2⟩
      · cases hz
    · cases hv
  · rw [if_neg e] at hv hz
    have h2 := h.2.2 i v z hv hz
    exact ⟨ownA_put7 h2.1 hg (by decide) _ _, h2.2⟩
end Go.Proofs.Ytlegjdlmcphhlab
/-
  PACKAGE logs: Rename.
-/
namespace Go.Proofs.Ytlegjdlmcphhlab
open Go.RowKit

theorem map_step {α : Type} {φ : α → α} {xs : List α} {k : Nat} {x : α} (h : xs[k]? = some x) : ((xs.take k).map φ ++ xs.drop k)[k]? = some x ∧ ((xs.take k).map φ ++ xs.drop k).set k (φ x) = (xs.take (k + 1)).map φ ++ xs.drop (k + 1) := by
  have hk : k < xs.length := (List.getElem?_eq_some_iff.1 h).1
  have e : xs[k] = x := by rw [List.getElem?_eq_getElem hk] at h; exact Option.some.inj h
  have hl : ((xs.take k).map φ).length = k := by rw [List.length_map, List.length_take]; omega
  have hd : xs.drop k = x :: xs.drop (k + 1) := by rw [← e]; exact List.drop_eq_getElem_cons hk
  constructor
  · rw [List.getElem?_append_right (by omega), hl, Nat.sub_self, hd]; rfl
  · rw [List.set_append_right (h := by omega), hl, Nat.sub_self, hd, List.take_succ_eq_append_getElem hk, e, List.map_append, List.append_assoc]
    rfl

set_option maxRecDepth 8000 in
set_option maxHeartbeats 2000000 in
theorem renameLog_any (A : Option Addr) (n c : Nat) (vs : List RV) (xs : List M.Rec) (f t : Int) (w : World) (ht : TreeR w A n vs xs) (hs : ∀ x ∈ xs, x.act.data.length ≤ 140737488355328) (hn : (n + 1) * 104 ≤ 140737488355328) :
    Calls Try.prog 23 #[.slice A n c, .int .i64 f, .int .i64 t] w fun e w' => ∃ (B : Option Addr) (d : Nat) (us : List RV), e = .returned (.slice B n d) ∧ OwnL w' w.heap.size B n d us (xs.map (turnR f t)) ∧ Below w.heap.size w w' := by
  have HT : Hid (TreeR w A n vs xs ∧ (∀ x ∈ xs, x.act.data.length ≤ 140737488355328)) := ⟨ht, hs⟩
  clear ht hs
  go_enter Try.func23, Try.ntmps23
  go_wp2_with (fail)
  refine (ownLog_any A n c vs xs w HT.out.1 HT.out.2 hn).mono ?_
  rintro e w1 ⟨B, m, d, us, rfl, ho, hb⟩
  have hmn : m = n := by rw [ho.tree.len, HT.out.1.len]
  subst hmn
  have H0 : Hid (OwnL w1 w.heap.size B m d us xs ∧ Below w.heap.size w w1) := ⟨ho, hb⟩
  clear ho hb
  go_wp2_with (fail)
  go_loopw [12] (fun i wr => ∃ (k : Nat) (us : List RV), k ≤ m ∧ i = .int .i64 k ∧ OwnL wr w.heap.size B m d us ((xs.take k).map (turnR f t) ++ xs.drop k) ∧ Below w.heap.size w wr) (fun i _ => m - (intOf i).toNat)
  case atStart => exact ⟨0, us, Nat.zero_le _, rfl, by simpa using H0.out.1, H0.out.2⟩
  case round =>
    obtain ⟨k, us2, hk, rfl, hol, hb⟩ := hrel
    have HO : Hid (OwnL wr w.heap.size B m d us2 ((xs.take k).map (turnR f t) ++ xs.drop k) ∧ Below w.heap.size w wr) := ⟨hol, hb⟩
    have hsz := hb.size
    clear hol
    by_cases hlt : k < m
    · obtain ⟨x, hx⟩ : ∃ x, xs[k]? = some x := ⟨_, List.getElem?_eq_getElem (by rw [← HT.out.1.len]; exact hlt)⟩
      obtain ⟨hx2, hset⟩ := map_step (φ := turnR f t) hx
      have hgf : ∃ g, B = some ⟨g, 0, none⟩ ∧ w.heap.size ≤ g := by
        rcases HO.out.1.1.2 with ⟨_, h0⟩ | ⟨g, cap, cur, hv, hg, _⟩
        · omega
        · cases hv; exact ⟨g, rfl, hg⟩
      obtain ⟨g, rfl, hwg⟩ := hgf
      obtain ⟨g', o', v, hA, hgb, hvk, c0, c1, c2, c3, c4, c5, c6, c7, c8⟩ := HO.out.1.tree.1.at hlt
      cases hA
      simp only [Nat.zero_add] at c0 c1 c2 c3 c4 c5 c6 c7 c8
      have hcx := HO.out.1.2.2 k v x hvk hx2
      have HX : Hid (us2[k]? = some v ∧ ((xs.take k).map (turnR f t) ++ xs.drop k)[k]? = some x ∧ OwnR wr w.heap.size v x ∧ x.act.data.length ≤ 140737488355328 ∧ ((xs.take k).map (turnR f t) ++ xs.drop k).set k (turnR f t x) = (xs.take (k + 1)).map (turnR f t) ++ xs.drop (k + 1)) := ⟨hvk, hx2, hcx, HT.out.2 x (List.mem_of_getElem? hx), hset⟩
      clear hvk hx hx2 hcx hset hb
      go_wp2_with (fail)
      refine (turn_any v.a x.act f t _ HX.out.2.2.1.1.cont HX.out.2.2.2.1).mono ?_
      rintro e w2 ⟨a', rfl, hoa, hb2⟩
      have hz2 := hb2.size
      have hbw2 := HO.out.2.trans (hb2.mono hsz)
      have hol2 := HO.out.1.below (Nat.le_refl _) hb2
      obtain ⟨cur, hcur⟩ := own_block hol2.1
      have hfz : ∀ o, w2.frozen? ⟨g, o, none⟩ = false := fun o => by simp [World.frozen?, hcur]
      have d0 : w2.cell? ⟨g, k * 9, none⟩ = some (.int .i64 v.a.kind) := by rw [hb2.cell (p := ⟨g, k * 9, none⟩) hgb]; exact c0
      have d1 : w2.cell? ⟨g, k * 9 + 1, none⟩ = some (.int .i64 v.a.fid) := by rw [hb2.cell (p := ⟨g, k * 9 + 1, none⟩) hgb]; exact c1
      have d2 : w2.cell? ⟨g, k * 9 + 2, none⟩ = some (.int .i64 v.a.dir) := by rw [hb2.cell (p := ⟨g, k * 9 + 2, none⟩) hgb]; exact c2
      have d3 : w2.cell? ⟨g, k * 9 + 3, none⟩ = some (.string v.a.name) := by rw [hb2.cell (p := ⟨g, k * 9 + 3, none⟩) hgb]; exact c3
      have d4 : w2.cell? ⟨g, k * 9 + 4, none⟩ = some (.int .i64 v.a.to) := by rw [hb2.cell (p := ⟨g, k * 9 + 4, none⟩) hgb]; exact c4
      have d5 : w2.cell? ⟨g, k * 9 + 5, none⟩ = some (.string v.a.toName) := by rw [hb2.cell (p := ⟨g, k * 9 + 5, none⟩) hgb]; exact c5
      have d6 : w2.cell? ⟨g, k * 9 + 6, none⟩ = some (.slice v.a.dA v.a.dn v.a.dc) := by rw [hb2.cell (p := ⟨g, k * 9 + 6, none⟩) hgb]; exact c6
      have HR : Hid (OwnL (put7 w2 g (k * 9) a') w.heap.size (some ⟨g, 0, none⟩) m d (us2.set k ⟨a', v.ver, v.id⟩) ((xs.take (k + 1)).map (turnR f t) ++ xs.drop (k + 1)) ∧ Below w.heap.size w (put7 w2 g (k * 9) a')) := by
        refine ⟨?_, put7_below hbw2 hwg _ _⟩
        rw [← HX.out.2.2.2.2]
        exact ownL_put7 hol2 HX.out.1 HX.out.2.1 (hoa.mono hsz)
      clear hoa hb2 hbw2 hol2 hcur c0 c1 c2 c3 c4 c5 c6 c7 c8
      go_wp2_with (fail)
      go_roundw
      case rel => exact ⟨k + 1, _, by omega, by go_num, HR.out.1, HR.out.2⟩
      case measure => simp [intOf]; omega
    · have HL : Hid ((xs.take k).map (turnR f t) ++ xs.drop k = xs.map (turnR f t)) := by
        show _ = _
        have hlen := HT.out.1.len
        rw [List.take_of_length_le (by omega), List.drop_eq_nil_iff.2 (by omega), List.append_nil]
      go_wp2
      go_ret
      have h1 := HO.out.1
      rw [HL.out] at h1
      exact ⟨B, d, us2, rfl, h1, hb⟩
end Go.Proofs.Ytlegjdlmcphhlab
/-
  THE REFERENCE's SameAct, of an act and its copy.
-/
namespace Go.Proofs.Ytlegjdlmcphhlab
open Go.RowKit

theorem two_boxesA (w : World) (a b : AV) (W : World) (hW : W = (w.alloc (.cells #[.int .i64 a.kind, .int .i64 a.fid, .int .i64 a.dir, .string a.name, .int .i64 a.to, .string a.toName, .slice a.dA a.dn a.dc] 26)).alloc (.cells #[.int .i64 b.kind, .int .i64 b.fid, .int .i64 b.dir, .string b.name, .int .i64 b.to, .string b.toName, .slice b.dA b.dn b.dc] 26)) : Below w.heap.size w W := by
  subst hW
  exact ((Below.refl _ _).alloc (Nat.le_refl _) _).alloc (by simp) _
set_option maxRecDepth 4000 in
set_option maxHeartbeats 2000000 in
theorem sameAct_any (a b : AV) (x : M.Act) (w : World) (ha : ContA w a x) (hb : ContA w b x) :
    Calls Try.prog 25 #[a.val, b.val] w fun e w' => e = .returned (.bool true) ∧ Below w.heap.size w w' := by
  obtain ⟨k1, f1, d1, n1, t1, m1, A1, l1, c1⟩ := a
  obtain ⟨k2, f2, d2, n2, t2, m2, A2, l2, c2⟩ := b
  obtain ⟨rfl, rfl, rfl, rfl, rfl, rfl, hb1⟩ := ha
  obtain ⟨e1, e2, e3, e4, e5, e6, hb2⟩ := hb
  simp only at e1 e2 e3 e4 e5 e6 hb1 hb2
  subst e1 e2 e3 e4 e5 e6
  have HW : Hid _ := two_boxesA w ⟨x.kind, x.fid, x.dir, x.name, x.to, x.toName, A1, l1, c1⟩ ⟨x.kind, x.fid, x.dir, x.name, x.to, x.toName, A2, l2, c2⟩
  have hwb := two_boxesA w ⟨x.kind, x.fid, x.dir, x.name, x.to, x.toName, A1, l1, c1⟩ ⟨x.kind, x.fid, x.dir, x.name, x.to, x.toName, A2, l2, c2⟩ _ rfl
  have q1 := conv_byts (c := c1) (hb1.below (Nat.le_refl _) hwb)
  have q2 := conv_byts (c := c2) (hb2.below (Nat.le_refl _) hwb)
  simp only at q1 q2
  have y1 := raw_yes x.name
  have y2 := raw_yes x.toName
  have y3 := raw_yes (txt x.data)
  clear hb1 hb2 hwb
  go_enter Try.func25, Try.ntmps25
  go_wp2
  go_ret
  exact ⟨ret_bool (by simp), HW.out _ rfl⟩
end Go.Proofs.Ytlegjdlmcphhlab
/-
  THE REFERENCE's SameAct and SameLog, of any two.
-/
namespace Go.Proofs.Ytlegjdlmcphhlab
open Go.RowKit

/-- two acts are the same -/
def sameA (x y : M.Act) : Bool := decide (x.kind = y.kind) && decide (x.fid = y.fid) && decide (x.dir = y.dir) && decide (x.name = y.name) && decide (x.to = y.to) && decide (x.toName = y.toName) && decide (x.data = y.data)
theorem sameA_iff {x y : M.Act} : sameA x y = true ↔ x = y := by
  obtain ⟨k, f, d, n, t, m, b⟩ := x
  obtain ⟨k2, f2, d2, n2, t2, m2, b2⟩ := y
  unfold sameA
  simp [and_assoc]
theorem sameA_self (x : M.Act) : sameA x x = true := sameA_iff.2 rfl
def sameR (x y : M.Rec) : Bool := decide (x.ver = y.ver) && decide (x.id = y.id) && sameA x.act y.act
theorem sameR_iff {x y : M.Rec} : sameR x y = true ↔ x = y := by
  obtain ⟨a, v, i⟩ := x
  obtain ⟨a2, v2, i2⟩ := y
  unfold sameR
  simp only [Bool.and_eq_true, decide_eq_true_eq, sameA_iff, M.Rec.mk.injEq]
  constructor
  · rintro ⟨⟨h1, h2⟩, h3⟩; exact ⟨h3, h1, h2⟩
  · rintro ⟨h1, h2, h3⟩; exact ⟨⟨h2, h3⟩, h1⟩
theorem sameR_self (x : M.Rec) : sameR x x = true := sameR_iff.2 rfl
theorem sameR_no {x y : M.Rec} (h : x ≠ y) : sameR x y = false := by
  cases hb : sameR x y
  · rfl
  · exact absurd (sameR_iff.1 hb) h

set_option maxRecDepth 4000 in
set_option maxHeartbeats 4000000 in
theorem sameActs_any (a b : AV) (x y : M.Act) (w : World) (ha : ContA w a x) (hb : ContA w b y) :
    Calls Try.prog 25 #[a.val, b.val] w fun e w' => e = .returned (.bool (sameA x y)) ∧ Below w.heap.size w w' := by
  by_cases hxy : x = y
  · subst hxy
    refine (sameAct_any a b x w ha hb).mono ?_
    rintro e w' ⟨rfl, h⟩
    exact ⟨ret_bool (sameA_self x).symm, h⟩
  have HN : Hid (sameA x y = false) := by
    show _ = _
    cases hq : sameA x y
    · rfl
    · exact absurd (sameA_iff.1 hq) hxy
  have HXY : Hid (¬ x = y) := hxy
  clear hxy
  have HA : Hid (ContA w a x ∧ ContA w b y) := ⟨ha, hb⟩
  have HW : Hid _ := two_boxesA w a b
  have hwb := two_boxesA w a b _ rfl
  have q1 := conv_byts (c := a.dc) (ha.2.2.2.2.2.2.below (Nat.le_refl _) hwb)
  have q2 := conv_byts (c := b.dc) (hb.2.2.2.2.2.2.below (Nat.le_refl _) hwb)
  clear hwb ha hb
  by_cases h1 : a.kind = b.kind
  case' neg =>
    have k1 : (a.kind == b.kind) = false := by simp [h1]
    clear h1
    go_enter Try.func25, Try.ntmps25
    go_wp2
    go_ret
    exact ⟨ret_bool HN.out.symm, HW.out _ rfl⟩
  have k1 : (a.kind == b.kind) = true := by simp [h1]
  have H1 : Hid (a.kind = b.kind) := h1
  clear h1
  by_cases h2 : a.fid = b.fid
  case' neg =>
    have k2 : (a.fid == b.fid) = false := by simp [h2]
    clear h2
    go_enter Try.func25, Try.ntmps25
    go_wp2
    go_ret
    exact ⟨ret_bool HN.out.symm, HW.out _ rfl⟩
  have k2 : (a.fid == b.fid) = true := by simp [h2]
  have H2 : Hid (a.fid = b.fid) := h2
  clear h2
  by_cases h3 : a.dir = b.dir
  case' neg =>
    have k3 : (a.dir == b.dir) = false := by simp [h3]
    clear h3
    go_enter Try.func25, Try.ntmps25
    go_wp2
    go_ret
    exact ⟨ret_bool HN.out.symm, HW.out _ rfl⟩
  have k3 : (a.dir == b.dir) = true := by simp [h3]
  have H3 : Hid (a.dir = b.dir) := h3
  clear h3
  by_cases h4 : a.name = b.name
  case' neg =>
    have k4 : (a.name.toList == b.name.toList) = false := raw_no h4
    clear h4
    go_enter Try.func25, Try.ntmps25
    go_wp2
    go_ret
    exact ⟨ret_bool HN.out.symm, HW.out _ rfl⟩
  have k4 : (a.name.toList == b.name.toList) = true := by rw [h4]; exact raw_yes _
  have H4 : Hid (a.name = b.name) := h4
  clear h4
  by_cases h5 : a.to = b.to
  case' neg =>
    have k5 : (a.to == b.to) = false := by simp [h5]
    clear h5
    go_enter Try.func25, Try.ntmps25
    go_wp2
    go_ret
    exact ⟨ret_bool HN.out.symm, HW.out _ rfl⟩
  have k5 : (a.to == b.to) = true := by simp [h5]
  have H5 : Hid (a.to = b.to) := h5
  clear h5
  by_cases h6 : a.toName = b.toName
  case' neg =>
    have k6 : (a.toName.toList == b.toName.toList) = false := raw_no h6
    clear h6
    go_enter Try.func25, Try.ntmps25
    go_wp2
    go_ret
    exact ⟨ret_bool HN.out.symm, HW.out _ rfl⟩
  have k6 : (a.toName.toList == b.toName.toList) = true := by rw [h6]; exact raw_yes _
  have H6 : Hid (a.toName = b.toName) := h6
  clear h6
  have hd : x.data ≠ y.data := fun e => by
    obtain ⟨⟨a1, a2, a3, a4, a5, a6, _⟩, b1, b2, b3, b4, b5, b6, _⟩ := HA.out
    have e1 := H1.out
    have e2 := H2.out
    have e3 := H3.out
    have e4 := H4.out
    have e5 := H5.out
    have e6 := H6.out
    rw [a1, b1] at e1
    rw [a2, b2] at e2
    rw [a3, b3] at e3
    rw [a4, b4] at e4
    rw [a5, b5] at e5
    rw [a6, b6] at e6
    obtain ⟨k, f, d, n, t, m, b⟩ := x
    obtain ⟨k2, f2, d2, n2, t2, m2, b2⟩ := y
    simp only at e e1 e2 e3 e4 e5 e6
    subst e e1 e2 e3 e4 e5 e6
    exact HXY.out rfl
  have k7 : ((txt x.data).toList == (txt y.data).toList) = false := by rw [raw_eq, decide_eq_false_iff_not]; exact fun h => hd (txt_inj.1 h)
  clear hd
  go_enter Try.func25, Try.ntmps25
  go_wp2
  go_ret
  exact ⟨ret_bool HN.out.symm, HW.out _ rfl⟩
end Go.Proofs.Ytlegjdlmcphhlab
