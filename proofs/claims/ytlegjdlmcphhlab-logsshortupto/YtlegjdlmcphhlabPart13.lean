/- TEXTS LAID TOGETHER: Refo, Logb, Logc, Logd, Loge, Logf -/
import Derived.Test.YtlegjdlmcphhlabPart11
import Derived.Test.YtlegjdlmcphhlabPart12
import Derived.Test.YtlegjdlmcphhlabPart8
/-
  THE REFERENCE's Apply, of any act.
-/
namespace Go.Proofs.Ytlegjdlmcphhlab
open Go.RowKit

theorem refApply_any (bm : Nat) (xs : List M.Nd) (a : AV) (ac : M.Act) (ver : Int) (w : World) (ht : TMap w bm xs) (ha : ContA w a ac) (hri : M.Rise xs) (hsm : ∀ x ∈ xs, Small x) (hs1 : ∀ x ∈ xs, (x.ents.length + 1) * 24 ≤ 140737488355328) (hN : ((allF xs).length + 2) * 8 ≤ 140737488355328) (hsn : a.name.size ≤ maxLen) (hst : a.toName.size ≤ maxLen) :
    Calls Try.prog 28 #[.map (some bm), a.val, .int .i64 ver] w (AppliedM w (M.applyS xs ac ver)) := by
  have hk := ha.1
  by_cases h1 : a.kind = 1
  · have e : M.applyS xs ac ver = M.bringS xs ac ver := by unfold M.applyS; rw [if_pos (.inl (by rw [← hk]; exact h1))]
    rw [e]
    exact refMake_any bm xs a ac ver w ht ha hri hsm hsn hs1 h1
  by_cases h2 : a.kind = 2
  · have e : M.applyS xs ac ver = M.bringS xs ac ver := by unfold M.applyS; rw [if_pos (.inr (by rw [← hk]; exact h2))]
    rw [e]
    exact refMkdir_any bm xs a ac ver w ht ha hri hsm hsn hs1 h2
  have h12 : ¬ (ac.kind = 1 ∨ ac.kind = 2) := by rw [← hk]; exact fun h => h.elim h1 h2
  by_cases h3 : a.kind = 3
  · have e : M.applyS xs ac ver = M.storeS xs ac ver := by unfold M.applyS; rw [if_neg h12, if_pos (by rw [← hk]; exact h3)]
    rw [e]
    exact refStore_any bm xs a ac ver w ht ha h3
  by_cases h4 : a.kind = 4
  · have e : M.applyS xs ac ver = M.removeS xs ac ver := by unfold M.applyS; rw [if_neg h12, if_neg (by rw [← hk]; exact h3), if_pos (by rw [← hk]; exact h4)]
    rw [e]
    exact refRemove_any bm xs a ac ver w ht ha hri hsm h4
  by_cases h5 : a.kind = 5
  · have e : M.applyS xs ac ver = M.renameS xs ac ver := by unfold M.applyS; rw [if_neg h12, if_neg (by rw [← hk]; exact h3), if_neg (by rw [← hk]; exact h4), if_pos (by rw [← hk]; exact h5)]
    rw [e]
    exact refRename_any bm xs a ac ver w ht ha hri hsm hst hs1 hN h5
  have e : M.applyS xs ac ver = (1, []) := by unfold M.applyS; rw [if_neg h12, if_neg (by rw [← hk]; exact h3), if_neg (by rw [← hk]; exact h4), if_neg (by rw [← hk]; exact h5)]
  rw [e]
  exact refNone_any bm xs a ac ver w ht ha h1 h2 h3 h4 h5
end Go.Proofs.Ytlegjdlmcphhlab
/-
  PACKAGE logs: touches, hinders, own, and what asks of each record.
-/
namespace Go.Proofs.Ytlegjdlmcphhlab
open Go.RowKit

/-- what touches asks of a value -/
def touchV (a : AV) (d : Int) (s : ByteArray) : Bool :=
  ((decide (a.kind = 1) || decide (a.kind = 2) || decide (a.kind = 4) || decide (a.kind = 5)) && (decide (a.dir = d) && decide (a.name = s))) || (decide (a.kind = 5) && (decide (a.to = d) && decide (a.toName = s)))
theorem touchV_is {w : World} {a : AV} {x : M.Act} (h : ContA w a x) (d : Int) (s : ByteArray) : touchV a d s = M.touchB x d s := by
  obtain ⟨h1, _, h3, h4, h5, h6, _⟩ := h
  unfold touchV M.touchB M.makeB
  rw [h1, h3, h4, h5, h6]
/-- here: of that directory, by that name -/
theorem here_cases (a : AV) (d : Int) (s : ByteArray) : (a.dir == d) = true ∧ (a.name.toList == s.toList) = true ∧ (decide (a.dir = d) && decide (a.name = s)) = true ∨ (a.dir == d) = true ∧ (a.name.toList == s.toList) = false ∧ (decide (a.dir = d) && decide (a.name = s)) = false ∨ (a.dir == d) = false ∧ (decide (a.dir = d) && decide (a.name = s)) = false := by
  by_cases h1 : a.dir = d
  · by_cases h2 : a.name = s
    · exact .inl ⟨by simp [h1], by rw [raw_eq]; simp [h2], by simp [h1, h2]⟩
    · exact .inr (.inl ⟨by simp [h1], by rw [raw_eq]; simp [h2], by simp [h2]⟩)
  · exact .inr (.inr ⟨by simp [h1], by simp [h1]⟩)
theorem there_cases (a : AV) (d : Int) (s : ByteArray) : (a.to == d) = true ∧ (a.toName.toList == s.toList) = true ∧ (decide (a.to = d) && decide (a.toName = s)) = true ∨ (a.to == d) = true ∧ (a.toName.toList == s.toList) = false ∧ (decide (a.to = d) && decide (a.toName = s)) = false ∨ (a.to == d) = false ∧ (decide (a.to = d) && decide (a.toName = s)) = false := by
  by_cases h1 : a.to = d
  · by_cases h2 : a.toName = s
    · exact .inl ⟨by simp [h1], by rw [raw_eq]; simp [h2], by simp [h1, h2]⟩
    · exact .inr (.inl ⟨by simp [h1], by rw [raw_eq]; simp [h2], by simp [h2]⟩)
  · exact .inr (.inr ⟨by simp [h1], by simp [h1]⟩)
theorem kind_cases (k : Int) : (k == 1) = true ∧ (decide (k = 1) || decide (k = 2) || decide (k = 4) || decide (k = 5)) = true ∧ decide (k = 5) = false ∨ (k == 1) = false ∧ (k == 2) = true ∧ (decide (k = 1) || decide (k = 2) || decide (k = 4) || decide (k = 5)) = true ∧ decide (k = 5) = false ∨ (k == 1) = false ∧ (k == 2) = false ∧ (k == 4) = true ∧ (decide (k = 1) || decide (k = 2) || decide (k = 4) || decide (k = 5)) = true ∧ decide (k = 5) = false ∨ (k == 1) = false ∧ (k == 2) = false ∧ (k == 4) = false ∧ (k == 5) = true ∧ (decide (k = 1) || decide (k = 2) || decide (k = 4) || decide (k = 5)) = true ∧ decide (k = 5) = true ∨ (k == 1) = false ∧ (k == 2) = false ∧ (k == 4) = false ∧ (k == 5) = false ∧ (decide (k = 1) || decide (k = 2) || decide (k = 4) || decide (k = 5)) = false ∧ decide (k = 5) = false := by
  by_cases h1 : k = 1
  · subst h1; exact .inl (by decide)
  · by_cases h2 : k = 2
    · subst h2; exact .inr (.inl (by decide))
    · by_cases h4 : k = 4
      · subst h4; exact .inr (.inr (.inl (by decide)))
      · by_cases h5 : k = 5
        · subst h5; exact .inr (.inr (.inr (.inl (by decide))))
        · exact .inr (.inr (.inr (.inr (by simp [h1, h2, h4, h5]))))
set_option maxHeartbeats 4000000 in
theorem touches_any (a : AV) (d : Int) (s : ByteArray) (w : World) : Calls Try.prog 87 #[a.val, .int .i64 d, .string s] w fun e w' => e = .returned (.bool (touchV a d s)) ∧ Below w.heap.size w w' := by
  have HW : Hid (Below w.heap.size w (w.alloc a.obj)) := (Below.refl _ _).alloc (Nat.le_refl _) _
  have HU : Hid (touchV a d s = ((decide (a.kind = 1) || decide (a.kind = 2) || decide (a.kind = 4) || decide (a.kind = 5)) && (decide (a.dir = d) && decide (a.name = s)) || (decide (a.kind = 5) && (decide (a.to = d) && decide (a.toName = s))))) := rfl
  rcases kind_cases a.kind with ⟨k1, q1, q2⟩ | ⟨k1, k2, q1, q2⟩ | ⟨k1, k2, k4, q1, q2⟩ | ⟨k1, k2, k4, k5, q1, q2⟩ | ⟨k1, k2, k4, k5, q1, q2⟩
  all_goals rcases here_cases a d s with ⟨d1, d2, q3⟩ | ⟨d1, d2, q3⟩ | ⟨d1, q3⟩
  all_goals rcases there_cases a d s with ⟨t1, t2, q4⟩ | ⟨t1, t2, q4⟩ | ⟨t1, q4⟩
  all_goals rw [q1, q2, q3, q4] at HU
  all_goals clear q1 q2 q3 q4
  all_goals go_enter Try.func87, Try.ntmps87
  all_goals go_wp2
  all_goals go_ret
  all_goals exact ⟨ret_bool (by rw [HU.out]; first | rfl | simp), HW.out⟩

set_option maxHeartbeats 1000000 in
theorem hinders_any (b a : AV) (x y : M.Act) (w : World) (hb : ContA w b x) (ha : ContA w a y) : Calls Try.prog 71 #[b.val, a.val] w fun e w' => e = .returned (.bool (M.hinderB x y)) ∧ Below w.heap.size w w' := by
  have HW : Hid _ := two_boxesA' w b a
  have HC : Hid (ContA w b x ∧ ContA w a y) := ⟨hb, ha⟩
  have HU : Hid (M.hinderB x y = ((!decide (b.kind = 3) && M.nameFB x a.fid) || touchV b a.dir a.name)) := by
    show _ = _
    unfold M.hinderB
    rw [touchV_is hb, hb.1, ha.2.1, ha.2.2.1, ha.2.2.2.1]
  clear hb ha
  by_cases h3 : b.kind = 3
  · have k3 : (b.kind == 3) = true := by simp [h3]
    have k3' : (b.kind != 3) = false := by simp [h3]
    have HU2 : Hid (M.hinderB x y = touchV b a.dir a.name) := by show _ = _; rw [HU.out]; simp [h3]
    clear h3
    go_enter Try.func71, Try.ntmps71
    go_wp2_with (fail)
    obtain ⟨q1, q2, q3, q4⟩ := HW.out _ rfl
    refine (touches_any b a.dir a.name _).mono ?_
    rintro e w1 ⟨rfl, hb1⟩
    have HB : Hid (Below w.heap.size w w1) := q1.trans (hb1.mono (by omega))
    clear q1 q2 q3 q4 hb1 HW
    go_wp2
    go_ret
    exact ⟨ret_bool HU2.out.symm, HB.out⟩
  · have k3 : (b.kind == 3) = false := by simp [h3]
    have k3' : (b.kind != 3) = true := by simp [h3]
    have HU2 : Hid (M.hinderB x y = (M.nameFB x a.fid || touchV b a.dir a.name)) := by show _ = _; rw [HU.out]; simp [h3]
    clear h3
    go_enter Try.func71, Try.ntmps71
    go_wp2_with (fail)
    obtain ⟨q1, q2, q3, q4⟩ := HW.out _ rfl
    refine (naming_any b x a.fid _ (HC.out.1.below (Nat.le_refl _) q1)).mono ?_
    rintro e w1 ⟨rfl, hb1⟩
    have hz1 := hb1.size
    rw [q4] at hz1
    have HB : Hid (Below w.heap.size w w1 ∧ BoxA w1 w.heap.size b ∧ BoxA w1 (w.heap.size + 1) a) := ⟨q1.trans (hb1.mono (by omega)), q2.below hb1 (by omega), q3.below hb1 (by omega)⟩
    obtain ⟨b0, b1, b2, b3, b4, b5, b6, bf, bz⟩ := HB.out.2.1.facts
    obtain ⟨a0, a1, a2, a3, a4, a5, a6, af, az⟩ := HB.out.2.2.facts
    clear q1 q2 q3 q4 hb1 HW
    generalize M.nameFB x a.fid = nb at *
    cases nb
    · go_wp2_with (fail)
      refine (touches_any b a.dir a.name _).mono ?_
      rintro e w2 ⟨rfl, hb2⟩
      have HB2 : Hid (Below w.heap.size w w2) := HB.out.1.trans (hb2.mono (by omega))
      clear hb2
      go_wp2
      go_ret
      exact ⟨ret_bool (by rw [HU2.out]; rfl), HB2.out⟩
    · go_wp2
      go_ret
      exact ⟨ret_bool (by rw [HU2.out]; rfl), HB.out.1⟩

def RV.zero : RV := ⟨AV.zero, 0, 0⟩
/-- an act is stored, cell by cell; a record -/
abbrev put7 (w : World) (s o : Nat) (a : AV) : World :=
  ((((((w.setCell ⟨s, o, none⟩ (.int .i64 a.kind)).setCell ⟨s, o + 1, none⟩ (.int .i64 a.fid)).setCell ⟨s, o + 2, none⟩ (.int .i64 a.dir)).setCell ⟨s, o + 3, none⟩ (.string a.name)).setCell ⟨s, o + 4, none⟩ (.int .i64 a.to)).setCell ⟨s, o + 5, none⟩ (.string a.toName)).setCell ⟨s, o + 6, none⟩ (.slice a.dA a.dn a.dc)
abbrev put9 (w : World) (s o : Nat) (r : RV) : World := ((put7 w s o r.a).setCell ⟨s, o + 7, none⟩ (.int .i64 r.ver)).setCell ⟨s, o + 8, none⟩ (.int .i64 r.id)
theorem put7_below {B : Nat} {a w : World} (h : Below B a w) {s : Nat} (hs : B ≤ s) (o : Nat) (v : AV) : Below B a (put7 w s o v) :=
  ((((((h.setCell (by exact hs) _).setCell (by exact hs) _).setCell (by exact hs) _).setCell (by exact hs) _).setCell (by exact hs) _).setCell (by exact hs) _).setCell (by exact hs) _
theorem put9_below {B : Nat} {a w : World} (h : Below B a w) {s : Nat} (hs : B ≤ s) (o : Nat) (v : RV) : Below B a (put9 w s o v) :=
  ((put7_below h hs o v.a).setCell (by exact hs) _).setCell (by exact hs) _
theorem put7_own {w : World} {B : Nat} {e : TypeId} {k : Nat} {v : Value} {n : Nat} {xs : List Value} (h : w.ownsRow B e k v n xs) {s : Nat} (hs : s < B) (o : Nat) (x : AV) : (put7 w s o x).ownsRow B e k v n xs :=
  ownsRow_setCell_below (ownsRow_setCell_below (ownsRow_setCell_below (ownsRow_setCell_below (ownsRow_setCell_below (ownsRow_setCell_below (ownsRow_setCell_below h (by exact hs) _) (by exact hs) _) (by exact hs) _) (by exact hs) _) (by exact hs) _) (by exact hs) _) (by exact hs) _
theorem put9_own {w : World} {B : Nat} {e : TypeId} {k : Nat} {v : Value} {n : Nat} {xs : List Value} (h : w.ownsRow B e k v n xs) {s : Nat} (hs : s < B) (o : Nat) (x : RV) : (put9 w s o x).ownsRow B e k v n xs :=
  ownsRow_setCell_below (ownsRow_setCell_below (put7_own h hs o x.a) (by exact hs) _) (by exact hs) _
theorem ownR_start (w : World) (r : RV) : ∀ W, W = (w.alloc r.obj).alloc (.cells #[.int .i64 0, .int .i64 0, .int .i64 0, .string ⟨#[]⟩, .int .i64 0, .string ⟨#[]⟩, .slice none 0 0, .int .i64 0, .int .i64 0] 48) → Below w.heap.size w W ∧ BoxR W w.heap.size r ∧ BoxR W (w.heap.size + 1) RV.zero ∧ W.heap.size = w.heap.size + 2 := by
  rintro W rfl
  refine ⟨((Below.refl _ _).alloc (Nat.le_refl _) _).alloc (by simp) _, (BoxR.new w r).alloc _, ?_, by simp⟩
  have h := heap_alloc_new (w.alloc r.obj) (.cells #[.int .i64 0, .int .i64 0, .int .i64 0, .string ⟨#[]⟩, .int .i64 0, .string ⟨#[]⟩, .slice none 0 0, .int .i64 0, .int .i64 0] 48)
  unfold BoxR
  simpa [RV.zero, AV.zero] using h

set_option maxRecDepth 8000 in
set_option maxHeartbeats 1000000 in
theorem ownRec_any (r : RV) (x : M.Rec) (w : World) (hr : ContR w r x) (hs : x.act.data.length ≤ 140737488355328) :
    Calls Try.prog 43 #[r.val] w fun e w' => ∃ r' : RV, e = .returned r'.val ∧ OwnR w' w.heap.size r' x ∧ Below w.heap.size w w' := by
  have HW : Hid _ := ownR_start w r
  have HC : Hid (ContR w r x) := hr
  clear hr
  go_enter Try.func43, Try.ntmps43
  go_wp2_with (fail)
  obtain ⟨q1, q2, q3, q4⟩ := HW.out _ rfl
  refine (ownAct_any r.a x.act _ (HC.out.1.below (Nat.le_refl _) q1) hs).mono ?_
  rintro e w1 ⟨a', rfl, ho, hb1⟩
  have hz1 := hb1.size
  rw [q4] at hz1 ho
  have HB : Hid (Below w.heap.size w w1 ∧ BoxR w1 w.heap.size r ∧ BoxR w1 (w.heap.size + 1) RV.zero) := ⟨q1.trans (hb1.mono (by omega)), q2.below hb1 (by omega), q3.below hb1 (by omega)⟩
  have HO : Hid (OwnA w1 (w.heap.size + 2) a' x.act) := ho
  obtain ⟨b0, b1, b2, b3, b4, b5, b6, b7, b8, bf, bz⟩ := HB.out.2.1.facts
  obtain ⟨a0, a1, a2, a3, a4, a5, a6, a7, a8, af, az⟩ := HB.out.2.2.facts
  clear q1 q2 q3 q4 hb1 HW ho
  go_wp2
  refine bodyPost_ret (v := RV.val ⟨a', r.ver, r.id⟩) (by simp [results, Try.results43, go_sem, a0, a1, a2, a3, a4, a5, a6, a7, a8]) rfl ⟨⟨a', r.ver, r.id⟩, rfl, ⟨⟨HO.out.1, HO.out.2.1, HO.out.2.2.1, HO.out.2.2.2.1, HO.out.2.2.2.2.1, HO.out.2.2.2.2.2.1, own_mono ?_ (Nat.le_add_right _ 2)⟩, HC.out.2⟩, ?_⟩
  · exact put9_own (put7_own HO.out.2.2.2.2.2.2 (s := w.heap.size) (by omega) 0 a') (s := w.heap.size + 1) (by omega) 0 ⟨a', r.ver, r.id⟩
  · exact put9_below (put7_below HB.out.1 (s := w.heap.size) (Nat.le_refl _) 0 a') (s := w.heap.size + 1) (by omega) 0 ⟨a', r.ver, r.id⟩
end Go.Proofs.Ytlegjdlmcphhlab
/-
  PACKAGE logs: what is asked of each record; undoes.
-/
namespace Go.Proofs.Ytlegjdlmcphhlab
open Go.RowKit

theorem boxR_start (w : World) (r : RV) : ∀ W, W = w.alloc (.cells #[.int .i64 r.a.kind, .int .i64 r.a.fid, .int .i64 r.a.dir, .string r.a.name, .int .i64 r.a.to, .string r.a.toName, .slice r.a.dA r.a.dn r.a.dc, .int .i64 r.ver, .int .i64 r.id] 48) → Below w.heap.size w W ∧ BoxR W w.heap.size r ∧ W.heap.size = w.heap.size + 1 := by
  rintro W rfl
  exact ⟨(Below.refl _ _).alloc (Nat.le_refl _) _, BoxR.new w r, by simp⟩
theorem undo1_any (r : RV) (x : M.Rec) (p : Nat) (a : AV) (w : World) (hr : ContR w r x) (hp : BoxA w p a) :
    Calls Try.prog 67 #[r.val, .pointer (some ⟨p, 0, none⟩)] w fun e w' => e = .returned (.bool (M.madeB a.fid x)) ∧ Below w.heap.size w w' := by
  have HW : Hid _ := boxR_start w r
  have HP : Hid (BoxA w p a) := hp
  have hpl : p < w.heap.size := lt_of_block hp
  have HU : Hid (M.madeB a.fid x = ((decide (r.a.kind = 1) || decide (r.a.kind = 2)) && decide (r.a.fid = a.fid))) := by
    show _ = _
    unfold M.madeB M.makeB
    rw [hr.1.1, hr.1.2.1]
  clear hr hp
  go_enter Try.func67, Try.ntmps67
  go_wp2_with (fail)
  obtain ⟨q1, q2, q3⟩ := HW.out _ rfl
  refine (making_any r.a _).mono ?_
  rintro e w1 ⟨rfl, hb1⟩
  have hz1 := hb1.size
  rw [q3] at hz1
  have hw1 : Below w.heap.size w w1 := q1.trans (hb1.mono (by omega))
  have HB : Hid (Below w.heap.size w w1 ∧ BoxR w1 w.heap.size r ∧ BoxA w1 p a) := ⟨hw1, q2.below hb1 (by omega), HP.out.below hw1 hpl⟩
  obtain ⟨b0, b1, b2, b3, b4, b5, b6, b7, b8, bf, bz⟩ := HB.out.2.1.facts
  obtain ⟨a0, a1, a2, a3, a4, a5, a6, af, az⟩ := HB.out.2.2.facts
  clear q1 q2 q3 hb1 HW hw1
  generalize (decide (r.a.kind = 1) || decide (r.a.kind = 2)) = mb at *
  cases mb
  · go_wp2
    go_ret
    exact ⟨ret_bool (by rw [HU.out]; rfl), HB.out.1⟩
  · by_cases hf : r.a.fid = a.fid
    · have kf : (r.a.fid == a.fid) = true := by simp [hf]
      have HU2 : Hid (M.madeB a.fid x = true) := by show _ = _; rw [HU.out]; simp [hf]
      clear hf
      go_wp2
      go_ret
      exact ⟨ret_bool HU2.out.symm, HB.out.1⟩
    · have kf : (r.a.fid == a.fid) = false := by simp [hf]
      have HU2 : Hid (M.madeB a.fid x = false) := by show _ = _; rw [HU.out]; simp [hf]
      clear hf
      go_wp2
      go_ret
      exact ⟨ret_bool HU2.out.symm, HB.out.1⟩
theorem undo2_any (r : RV) (x : M.Rec) (p : Nat) (a : AV) (y : M.Act) (w : World) (hr : ContR w r x) (hp : BoxA w p a) (ha : ContA w a y) :
    Calls Try.prog 70 #[r.val, .pointer (some ⟨p, 0, none⟩)] w fun e w' => e = .returned (.bool (M.hinderB x.act y)) ∧ Below w.heap.size w w' := by
  have HW : Hid _ := boxR_start w r
  have HC : Hid (ContR w r x ∧ ContA w a y) := ⟨hr, ha⟩
  have hpl : p < w.heap.size := lt_of_block hp
  obtain ⟨a0, a1, a2, a3, a4, a5, a6, af, az⟩ := hp.facts
  clear hr ha hp
  go_enter Try.func70, Try.ntmps70
  go_wp2_with (fail)
  obtain ⟨q1, q2, q3⟩ := HW.out _ rfl
  refine (hinders_any r.a a x.act y _ (HC.out.1.1.below (Nat.le_refl _) q1) (HC.out.2.below (Nat.le_refl _) q1)).mono ?_
  rintro e w1 ⟨rfl, hb1⟩
  have HB : Hid (Below w.heap.size w w1) := q1.trans (hb1.mono (by omega))
  clear q1 q2 q3 hb1 HW
  go_wp2
  go_ret
  exact ⟨rfl, HB.out⟩
theorem add1_any (a : AV) (x : M.Act) (p : Nat) (r : RV) (w : World) (ha : ContA w a x) (hp : BoxR w p r) :
    Calls Try.prog 39 #[a.val, .pointer (some ⟨p, 0, none⟩)] w fun e w' => e = .returned (.bool (M.nameFB x r.a.fid)) ∧ Below w.heap.size w w' := by
  have HW : Hid _ := boxA_start w a
  have HC : Hid (ContA w a x) := ha
  have hpl : p < w.heap.size := lt_of_block hp
  obtain ⟨b0, b1, b2, b3, b4, b5, b6, b7, b8, bf, bz⟩ := hp.facts
  clear ha hp
  go_enter Try.func39, Try.ntmps39
  go_wp2_with (fail)
  obtain ⟨q1, q2, q3⟩ := HW.out _ rfl
  refine (naming_any a x r.a.fid _ (HC.out.below (Nat.le_refl _) q1)).mono ?_
  rintro e w1 ⟨rfl, hb1⟩
  have HB : Hid (Below w.heap.size w w1) := q1.trans (hb1.mono (by omega))
  clear q1 q2 q3 hb1 HW
  go_wp2
  go_ret
  exact ⟨rfl, HB.out⟩
theorem add2_any (a : AV) (x : M.Act) (p : Nat) (r : RV) (y : M.Act) (w : World) (ha : ContA w a x) (hp : BoxR w p r) (hr : ContA w r.a y) :
    Calls Try.prog 41 #[a.val, .pointer (some ⟨p, 0, none⟩)] w fun e w' => e = .returned (.bool (M.overB y x)) ∧ Below w.heap.size w w' := by
  have HW : Hid _ := boxA_start w a
  have HU : Hid (M.overB y x = (decide (r.a.kind = 3) && decide (a.kind = 3) && decide (r.a.fid = a.fid))) := by
    show _ = _
    unfold M.overB
    rw [ha.1, ha.2.1, hr.1, hr.2.1]
  have hpl : p < w.heap.size := lt_of_block hp
  obtain ⟨b0, b1, b2, b3, b4, b5, b6, b7, b8, bf, bz⟩ := hp.facts
  clear ha hp hr
  go_enter Try.func41, Try.ntmps41
  go_wp2_with (fail)
  obtain ⟨q1, q2, q3⟩ := HW.out _ rfl
  refine (overwrites_any r.a a _).mono ?_
  rintro e w1 ⟨rfl, hb1⟩
  have HB : Hid (Below w.heap.size w w1) := q1.trans (hb1.mono (by omega))
  clear q1 q2 q3 hb1 HW
  go_wp2
  go_ret
  exact ⟨ret_bool HU.out.symm, HB.out⟩
theorem own1_any (a : AV) (w : World) : Calls Try.prog 45 #[a.val] w fun e w' => e = .returned (.bool false) ∧ Below w.heap.size w w' := by
  have HW : Hid (Below w.heap.size w (w.alloc a.obj)) := (Below.refl _ _).alloc (Nat.le_refl _) _
  go_enter Try.func45, Try.ntmps45
  go_wp2
  go_ret
  exact ⟨rfl, HW.out⟩

/-- an index, or -1 -/
def idxI : Option Nat → Int
  | none => -1
  | some k => k
theorem idxI_none {xs : List M.Rec} {p : M.Rec → Bool} (h : ∀ x ∈ xs, p x = false) : idxI (xs.findIdx? p) = -1 := by
  rw [List.findIdx?_eq_none_iff.2 (fun x hx => by simpa using h x hx)]; rfl
theorem idxI_at {xs : List M.Rec} {p : M.Rec → Bool} {k : Nat} {x : M.Rec} (h : ∀ x ∈ xs.take k, p x = false) (hx : xs[k]? = some x) (hp : p x = true) : idxI (xs.findIdx? p) = (k : Int) := by
  obtain ⟨hk, he⟩ := List.getElem?_eq_some_iff.1 hx
  have : xs.findIdx? p = some k := by
    rw [List.findIdx?_eq_some_iff_getElem]
    refine ⟨hk, by rw [he]; exact hp, fun j hj => ?_⟩
    have hjl : j < xs.length := by omega
    have := h xs[j] (List.mem_of_getElem? (i := j) (by rw [List.getElem?_take, if_pos hj]; exact List.getElem?_eq_getElem hjl))
    rw [this]; simp
  rw [this]; rfl

set_option maxHeartbeats 1000000 in
theorem undoIdx1_any (A : Option Addr) (n c : Nat) (vs : List RV) (xs : List M.Rec) (p : Nat) (a : AV) (w : World) (ht : TreeR w A n vs xs) (hn : n ≤ 140737488355328) (hp : BoxA w p a) :
    Calls Try.prog 66 #[.slice A n c, .func (.func 67) #[] #[.pointer (some ⟨p, 0, none⟩)]] w fun e w' => e = .returned (.int .i64 (idxI (xs.findIdx? fun x => M.madeB a.fid x))) ∧ Below w.heap.size w w' := by
  have hpl : p < w.heap.size := lt_of_block hp
  have HT : Hid (TreeR w A n vs xs ∧ BoxA w p a ∧ True) := ⟨ht, hp, trivial⟩
  clear ht hp
  go_enter Try.func66, Try.ntmps66
  go_wp2
  go_loopw [8] (fun i wr => ∃ k : Nat, k ≤ n ∧ i = .int .i64 k ∧ (∀ x ∈ xs.take k, (M.madeB a.fid x) = false) ∧ Below w.heap.size w wr) (fun i _ => n - (intOf i).toNat)
  case atStart => exact ⟨0, Nat.zero_le _, rfl, by simp, Below.refl _ _⟩
  case round =>
    obtain ⟨k, hk, rfl, hno, hb⟩ := hrel
    have HN : Hid (∀ x ∈ xs.take k, (M.madeB a.fid x) = false) := hno
    clear hno
    have hsz := hb.size
    by_cases hlt : k < n
    · have htr := HT.out.1.below (Nat.le_refl _) hb
      obtain ⟨g, o, v, rfl, hgb, hvk, c0, c1, c2, c3, c4, c5, c6, c7, c8⟩ := htr.1.at hlt
      obtain ⟨x, hx, hcx⟩ := htr.2.at hvk
      have HX : Hid (xs[k]? = some x ∧ ContR wr v x ∧ BoxA wr p a) := ⟨hx, hcx, HT.out.2.1.below hb hpl⟩
      have HB : Hid (Below w.heap.size w wr) := hb
      clear hvk htr hx hcx hb
      go_wp2_with (fail)
      refine (undo1_any v x p a _ HX.out.2.1 HX.out.2.2).mono ?_
      rintro e w1 ⟨rfl, hb1⟩
      have HB1 : Hid (Below w.heap.size w w1) := HB.out.trans (hb1.mono HB.out.size)
      clear hb1
      cases hd : (M.madeB a.fid x)
      · go_wp2
        go_roundw
        case rel => exact ⟨k + 1, by omega, by go_num, fun y hy => by
          rw [take_step HX.out.1] at hy
          rcases List.mem_append.1 hy with h | h
          · exact HN.out y h
          · rw [List.mem_singleton.1 h]; exact hd, HB1.out⟩
        case measure => simp [intOf]; omega
      · go_wp2
        go_ret
        exact ⟨ret_int (idxI_at HN.out HX.out.1 hd).symm, HB1.out⟩
    · have HL : Hid (xs.take k = xs) := by show _ = _; exact List.take_of_length_le (by rw [← HT.out.1.len]; omega)
      go_wp2
      go_ret
      exact ⟨ret_int (idxI_none (fun x hx => HN.out x (by rw [HL.out]; exact hx))).symm, hb⟩
set_option maxHeartbeats 1000000 in
theorem undoIdx2_any (A : Option Addr) (n c : Nat) (vs : List RV) (xs : List M.Rec) (p : Nat) (a : AV) (y : M.Act) (w : World) (ht : TreeR w A n vs xs) (hn : n ≤ 140737488355328) (hp : BoxA w p a) (ha : ContA w a y) :
    Calls Try.prog 66 #[.slice A n c, .func (.func 70) #[] #[.pointer (some ⟨p, 0, none⟩)]] w fun e w' => e = .returned (.int .i64 (idxI (xs.findIdx? fun x => M.hinderB x.act y))) ∧ Below w.heap.size w w' := by
  have hpl : p < w.heap.size := lt_of_block hp
  have HT : Hid (TreeR w A n vs xs ∧ BoxA w p a ∧ ContA w a y) := ⟨ht, hp, ha⟩
  clear ht hp ha
  go_enter Try.func66, Try.ntmps66
  go_wp2
  go_loopw [8] (fun i wr => ∃ k : Nat, k ≤ n ∧ i = .int .i64 k ∧ (∀ x ∈ xs.take k, (M.hinderB x.act y) = false) ∧ Below w.heap.size w wr) (fun i _ => n - (intOf i).toNat)
  case atStart => exact ⟨0, Nat.zero_le _, rfl, by simp, Below.refl _ _⟩
  case round =>
    obtain ⟨k, hk, rfl, hno, hb⟩ := hrel
    have HN : Hid (∀ x ∈ xs.take k, (M.hinderB x.act y) = false) := hno
    clear hno
    have hsz := hb.size
    by_cases hlt : k < n
    · have htr := HT.out.1.below (Nat.le_refl _) hb
      obtain ⟨g, o, v, rfl, hgb, hvk, c0, c1, c2, c3, c4, c5, c6, c7, c8⟩ := htr.1.at hlt
      obtain ⟨x, hx, hcx⟩ := htr.2.at hvk
      have HX : Hid (xs[k]? = some x ∧ ContR wr v x ∧ BoxA wr p a) := ⟨hx, hcx, HT.out.2.1.below hb hpl⟩
      have HB : Hid (Below w.heap.size w wr) := hb
      clear hvk htr hx hcx hb
      go_wp2_with (fail)
      refine (undo2_any v x p a y _ HX.out.2.1 HX.out.2.2 (HT.out.2.2.below (Nat.le_refl _) HB.out)).mono ?_
      rintro e w1 ⟨rfl, hb1⟩
      have HB1 : Hid (Below w.heap.size w w1) := HB.out.trans (hb1.mono HB.out.size)
      clear hb1
      cases hd : (M.hinderB x.act y)
      · go_wp2
        go_roundw
        case rel => exact ⟨k + 1, by omega, by go_num, fun y hy => by
          rw [take_step HX.out.1] at hy
          rcases List.mem_append.1 hy with h | h
          · exact HN.out y h
          · rw [List.mem_singleton.1 h]; exact hd, HB1.out⟩
        case measure => simp [intOf]; omega
      · go_wp2
        go_ret
        exact ⟨ret_int (idxI_at HN.out HX.out.1 hd).symm, HB1.out⟩
    · have HL : Hid (xs.take k = xs) := by show _ = _; exact List.take_of_length_le (by rw [← HT.out.1.len]; omega)
      go_wp2
      go_ret
      exact ⟨ret_int (idxI_none (fun x hx => HN.out x (by rw [HL.out]; exact hx))).symm, hb⟩

theorem any_idx (xs : List M.Rec) (p : M.Rec → Bool) : xs.any p = decide (0 ≤ idxI (xs.findIdx? p)) := by
  cases h : xs.findIdx? p with
  | none =>
    rw [List.findIdx?_eq_none_iff] at h
    rw [List.any_eq_false.2 (fun x hx => by simpa using h x hx)]
    rfl
  | some k =>
    obtain ⟨hk, hp, _⟩ := List.findIdx?_eq_some_iff_getElem.1 h
    rw [List.any_eq_true.2 ⟨xs[k], List.getElem_mem hk, hp⟩]
    show true = decide (0 ≤ (k : Int))
    simp
theorem undoAny_any (A : Option Addr) (n c : Nat) (vs : List RV) (xs : List M.Rec) (p : Nat) (a : AV) (y : M.Act) (w : World) (ht : TreeR w A n vs xs) (hn : n ≤ 140737488355328) (hp : BoxA w p a) (ha : ContA w a y) :
    Calls Try.prog 69 #[.slice A n c, .func (.func 70) #[] #[.pointer (some ⟨p, 0, none⟩)]] w fun e w' => e = .returned (.bool (xs.any fun x => M.hinderB x.act y)) ∧ Below w.heap.size w w' := by
  have HT : Hid (TreeR w A n vs xs ∧ BoxA w p a ∧ ContA w a y) := ⟨ht, hp, ha⟩
  have HU : Hid _ := any_idx xs fun x => M.hinderB x.act y
  clear ht hp ha
  go_enter Try.func69, Try.ntmps69
  go_wp2_with (fail)
  refine (undoIdx2_any A n c vs xs p a y w HT.out.1 hn HT.out.2.1 HT.out.2.2).mono ?_
  rintro e w1 ⟨rfl, hb1⟩
  have HB : Hid (Below w.heap.size w w1) := hb1
  clear hb1
  generalize idxI (xs.findIdx? fun x => M.hinderB x.act y) = r at *
  by_cases h0 : 0 ≤ r
  · go_wp2
    go_ret
    exact ⟨ret_bool (by rw [HU.out]; try simp [h0]), HB.out⟩
  · go_wp2
    go_ret
    exact ⟨ret_bool (by rw [HU.out]; try simp [h0]), HB.out⟩
end Go.Proofs.Ytlegjdlmcphhlab
/-
  PACKAGE logs: undoes.
-/
namespace Go.Proofs.Ytlegjdlmcphhlab
open Go.RowKit

theorem Row.drop {α : Type} {k : Nat} {cs : α → List Value} {w : World} {b o n : Nat} {vs : List α} (h : Row k cs w (some ⟨b, o, none⟩) n vs) (j : Nat) : Row k cs w (some ⟨b, o + j * k, none⟩) (n - j) (vs.drop j) := by
  obtain ⟨hn, h⟩ := h
  refine ⟨by rw [hn, List.length_drop], ?_⟩
  rcases h with h | ⟨b', o', e, hlt, hc⟩
  · left; rw [h]; simp
  · right
    cases e
    refine ⟨b, o + j * k, rfl, hlt, fun i v hv q c hq => ?_⟩
    rw [List.getElem?_drop] at hv
    have := hc (j + i) v hv q c hq
    rw [Nat.add_mul] at this
    rw [show o + j * k + i * k + q = o + (j * k + i * k) + q by omega]
    exact this
theorem undo_not {xs : List M.Rec} {y : M.Act} (h : y.kind ≠ 4) : M.undoB xs y = false := by unfold M.undoB; simp [h]
theorem undo_none {xs : List M.Rec} {y : M.Act} (h : xs.findIdx? (M.madeB y.fid) = none) : M.undoB xs y = false := by unfold M.undoB; rw [h]; simp
theorem undo_some {xs : List M.Rec} {y : M.Act} {k : Nat} {r : M.Rec} (h4 : y.kind = 4) (h : xs.findIdx? (M.madeB y.fid) = some k) (hr : xs[k]? = some r) : M.undoB xs y = (decide (r.act.dir = y.dir) && decide (r.act.name = y.name) && !((xs.drop (k + 1)).any fun b => M.hinderB b.act y)) := by
  unfold M.undoB; rw [h]; simp only [hr, h4, decide_true, Bool.true_and]

set_option maxRecDepth 8000 in
set_option maxHeartbeats 2000000 in
theorem undoes_any (a : AV) (y : M.Act) (A : Option Addr) (n c : Nat) (vs : List RV) (xs : List M.Rec) (w : World) (ha : ContA w a y) (ht : TreeR w A n vs xs) (hn : n * 104 ≤ 140737488355328) (hnc : n ≤ c) (hcm : c ≤ maxLen) :
    Calls Try.prog 37 #[a.val, .slice A n c] w fun e w' => e = .returned (.bool (M.undoB xs y)) ∧ Below w.heap.size w w' := by
  have HW : Hid _ := boxA_start w a
  have HT : Hid (TreeR w A n vs xs ∧ ContA w a y) := ⟨ht, ha⟩
  by_cases h4 : a.kind = 4
  case' neg =>
    have k4 : (a.kind == 4) = false := by simp [h4]
    have k4' : (a.kind != 4) = true := by simp [h4]
    have HU : Hid (M.undoB xs y = false) := undo_not (by rw [← ha.1]; exact h4)
    clear h4 ha ht
    go_enter Try.func37, Try.ntmps37
    go_wp2
    go_ret
    exact ⟨ret_bool HU.out.symm, (HW.out _ rfl).1⟩
  have k4 : (a.kind == 4) = true := by simp [h4]
  have k4' : (a.kind != 4) = false := by simp [h4]
  have H4 : Hid (y.kind = 4) := by show _ = _; rw [← ha.1]; exact h4
  have HFI : Hid (a.fid = y.fid) := ha.2.1
  clear h4 ha ht
  go_enter Try.func37, Try.ntmps37
  go_wp2_with (fail)
  obtain ⟨q1, q2, q3⟩ := HW.out _ rfl
  refine (undoIdx1_any A n c vs xs w.heap.size a _ (HT.out.1.below (Nat.le_refl _) q1) (by omega) q2).mono ?_
  rintro e w1 ⟨rfl, hb1⟩
  have hz1 := hb1.size
  rw [q3] at hz1
  have HB : Hid (Below w.heap.size w w1 ∧ BoxA w1 w.heap.size a) := ⟨q1.trans (hb1.mono (by omega)), q2.below hb1 (by omega)⟩
  clear q1 q2 q3 hb1 HW
  obtain ⟨a0, a1, a2, a3, a4, a5, a6, af, az⟩ := HB.out.2.facts
  have HI : Hid ((xs.findIdx? fun x => M.madeB a.fid x) = xs.findIdx? (M.madeB y.fid)) := by show _ = _; rw [HFI.out]
  rw [HI.out]
  cases hfi : xs.findIdx? (M.madeB y.fid) with
  | none =>
    have HU : Hid (M.undoB xs y = false) := undo_none hfi
    clear hfi
    have hm1 : idxI none = -1 := rfl
    rw [hm1]
    go_wp2
    go_quiet (fail)
    go_wp2
    go_ret
    exact ⟨ret_bool HU.out.symm, below_drewN HB.out.1 _⟩
  | some k =>
    have hkl := (List.findIdx?_eq_some_iff_getElem.1 hfi).1
    have hkn : k < n := by rw [HT.out.1.len]; exact hkl
    have htr := HT.out.1.below (Nat.le_refl _) HB.out.1
    obtain ⟨g, o, v, hA, hgb, hvk, c0, c1, c2, c3, c4, c5, c6, c7, c8⟩ := htr.1.at hkn
    obtain ⟨x, hx, hcx⟩ := htr.2.at hvk
    have HU : Hid (M.undoB xs y = (decide (v.a.dir = a.dir) && decide (v.a.name = a.name) && !((xs.drop (k + 1)).any fun b => M.hinderB b.act y))) := by
      show _ = _
      rw [undo_some H4.out hfi hx, hcx.1.2.2.1, hcx.1.2.2.2.1, HT.out.2.2.2.1, HT.out.2.2.2.2.1]
    have hks : decide ((k : Int) < 0) = false := by rw [decide_eq_false_iff_not]; omega
    have hk0 : (0 : Int) ≤ (k : Int) := by omega
    have hkn' : (k : Int) < (n : Int) := by omega
    subst hA
    have HTR : Hid (TreeR w1 (some ⟨g, o, none⟩) n vs xs) := htr
    clear hfi hx hcx hvk htr hkl
    have hm1 : idxI (some k) = (k : Int) := rfl
    rw [hm1]
    by_cases hd : v.a.dir = a.dir
    case' neg =>
      have d1 : (v.a.dir == a.dir) = false := by simp [hd]
      have d2 : (v.a.dir != a.dir) = true := by simp [hd]
      have HU2 : Hid (M.undoB xs y = false) := by show _ = _; rw [HU.out]; simp [hd]
      clear hd
      go_wp2
      go_quiet (fail)
      go_wp2
      go_ret
      exact ⟨ret_bool HU2.out.symm, below_drewN HB.out.1 _⟩
    have d1 : (v.a.dir == a.dir) = true := by simp [hd]
    have d2 : (v.a.dir != a.dir) = false := by simp [hd]
    by_cases hnm : v.a.name = a.name
    case' neg =>
      have n1 : (v.a.name.toList == a.name.toList) = false := raw_no hnm
      have HU2 : Hid (M.undoB xs y = false) := by show _ = _; rw [HU.out]; simp [hnm]
      clear hd hnm
      go_wp2
      go_quiet (fail)
      go_wp2
      go_ret
      exact ⟨ret_bool HU2.out.symm, below_drewN HB.out.1 _⟩
    have n1 : (v.a.name.toList == a.name.toList) = true := by rw [hnm]; exact raw_yes _
    have HU2 : Hid (M.undoB xs y = !((xs.drop (k + 1)).any fun b => M.hinderB b.act y)) := by show _ = _; rw [HU.out]; simp [hd, hnm]
    have hcm' : c ≤ 9223372036854775807 := hcm
    have hkn1 : (k : Int) + 1 ≤ (n : Int) := by omega
    have HTD : Hid (TreeR w1 (some ⟨g, o + (k + 1) * 9, none⟩) (n - (k + 1)) (vs.drop (k + 1)) (xs.drop (k + 1))) := ⟨HTR.out.1.drop (k + 1), HTR.out.2.drop (k + 1)⟩
    clear hd hnm
    by_cases hck : c = k + 1
    · have hnk : n = k + 1 := by omega
      have HE : Hid (xs.drop (k + 1) = []) := by show _ = _; rw [List.drop_eq_nil_iff, ← HTR.out.len]; omega
      subst hck
      subst hnk
      go_wp2
      go_quiet (fail)
      go_wp2_with (fail)
      refine (undoAny_any (some ⟨g, o, none⟩) 0 0 [] [] w.heap.size a y _ ⟨⟨rfl, .inl rfl⟩, All2.nil⟩ (by omega) (HB.out.2.below (below_drewN (Below.refl _ _) nq) az) (HT.out.2.below (Nat.le_refl _) (below_drewN HB.out.1 nq))).mono ?_
      rintro e w2 ⟨rfl, hb2⟩
      have HB2 : Hid (Below w.heap.size w w2) := (below_drewN HB.out.1 nq).trans (hb2.mono (by have := HB.out.1.size; show _ ≤ (w1.drewN nq).heap.size; have := (below_drewN (Below.refl w1.heap.size w1) nq).size; omega))
      clear hb2
      go_wp2
      go_ret
      exact ⟨ret_bool (by rw [HU2.out, HE.out]; first | rfl | simp), HB2.out⟩
    · go_wp2
      go_quiet (fail)
      go_wp2_with (fail)
      refine (undoAny_any (some ⟨g, o + (k + 1) * 9, none⟩) (n - (k + 1)) (c - (k + 1)) (vs.drop (k + 1)) (xs.drop (k + 1)) w.heap.size a y _ (HTD.out.below (Nat.le_refl _) (below_drewN (Below.refl _ _) nq)) (by omega) (HB.out.2.below (below_drewN (Below.refl _ _) nq) az) (HT.out.2.below (Nat.le_refl _) (below_drewN HB.out.1 nq))).mono ?_
      rintro e w2 ⟨rfl, hb2⟩
      have HB2 : Hid (Below w.heap.size w w2) := (below_drewN HB.out.1 nq).trans (hb2.mono (by have := HB.out.1.size; show _ ≤ (w1.drewN nq).heap.size; have := (below_drewN (Below.refl w1.heap.size w1) nq).size; omega))
      clear hb2
      go_wp2
      go_ret
      exact ⟨ret_bool (by rw [HU2.out]), HB2.out⟩
end Go.Proofs.Ytlegjdlmcphhlab
/-
  PACKAGE logs: without, Own, Add.
-/
namespace Go.Proofs.Ytlegjdlmcphhlab
open Go.RowKit

theorem rowR_box {w : World} {s : Nat} {r : RV} (h : BoxR w s r) : Recs w (some ⟨s, 0, none⟩) 1 [r] := by
  refine ⟨rfl, .inr ⟨s, 0, rfl, lt_of_block h, fun j v hv i c hi => ?_⟩⟩
  obtain ⟨b0, b1, b2, b3, b4, b5, b6, b7, b8, bf, bz⟩ := h.facts
  cases j with
  | succ j => cases hv
  | zero =>
    cases hv
    match i, hi with
    | 0, hi => cases hi; exact b0
    | 1, hi => cases hi; exact b1
    | 2, hi => cases hi; exact b2
    | 3, hi => cases hi; exact b3
    | 4, hi => cases hi; exact b4
    | 5, hi => cases hi; exact b5
    | 6, hi => cases hi; exact b6
    | 7, hi => cases hi; exact b7
    | 8, hi => cases hi; exact b8
    | i + 9, hi => cases hi
theorem filter_step {xs : List M.Rec} {k : Nat} {x : M.Rec} (h : xs[k]? = some x) (p : M.Rec → Bool) : (xs.take (k + 1)).filter p = (xs.take k).filter p ++ (if p x then [x] else []) := by
  rw [take_step h, List.filter_append]
  congr 1
  cases hp : p x <;> simp [hp]
/-- behind an append: one more record of one's own, nothing else is touched -/
theorem snoc_below {w W w2 : World} {A : Option Addr} {m c : Nat} {L : List Value} (hb : Below w.heap.size w W) (ho : W.ownsRow w.heap.size 48 9 (.slice A m c) m L) (hg : W.grownBy w2 (Value.slice A m c).ownBlock) : Below w.heap.size w w2 :=
  Below.grown hb hg hb.size (fun k hk => by
    rcases ho.2 with ⟨e, _⟩ | ⟨g, cap, cur, e, h1, _⟩
    · cases e; cases hk
    · cases e; cases hk; exact h1)

set_option maxRecDepth 8000 in
set_option maxHeartbeats 2000000 in
theorem withoutOwn_any (A : Option Addr) (n c : Nat) (vs : List RV) (xs : List M.Rec) (w : World) (ht : TreeR w A n vs xs) (hs : ∀ x ∈ xs, x.act.data.length ≤ 140737488355328) (hn : (n + 1) * 104 ≤ 140737488355328) :
    Calls Try.prog 38 #[.slice A n c, .func (.func 45) #[] #[]] w fun e w' => ∃ (B : Option Addr) (m d : Nat) (us : List RV), e = .returned (.slice B m d) ∧ OwnL w' w.heap.size B m d us (xs.filter fun _ => !false) ∧ Below w.heap.size w w' := by
  obtain ⟨i48, hi48, hz48, hs48, hb48⟩ := info_parts info48
  have HT : Hid (TreeR w A n vs xs ∧ (∀ x ∈ xs, x.act.data.length ≤ 140737488355328) ∧ True) := ⟨ht, hs, trivial⟩
  clear ht hs
  have hbn : i48.bytes * (n + 1) ≤ 281474976710656 := by rw [hb48]; omega
  have HCC : Hid (((n : Int) + 1) = ((n + 1 : Nat) : Int)) := by show _ = _; omega
  go_enter Try.func38, Try.ntmps38
  go_wp2_with (at_make; refine wpList_make_own _ (by rfl) (.const (.int .i64 0)) (.tmp 10) 46 (by rfl) w.heap.size 48 i48 _ 9 Try.underlying46 hi48 hz48 hs48 .i64 .i64 _ (n + 1) rfl rfl HCC.out hbn (by unfold maxLen; omega) (Nat.le_refl _) ?_; intro w1 hown hg1; have hb1 := grown_below hg1; clear hg1)
  have H0 : Hid (OwnL w1 w.heap.size (some ⟨w.heap.size, 0, none⟩) 0 (n + 1) [] [] ∧ Below w.heap.size w w1) := ⟨⟨by simpa using hown, All2.nil⟩, hb1⟩
  clear hown hb1 HCC hbn
  go_loopw [5, 14] (fun v i wr => ∃ (k : Nat) (B : Option Addr) (m d : Nat) (us : List RV), k ≤ n ∧ i = .int .i64 k ∧ v = .slice B m d ∧ OwnL wr w.heap.size B m d us ((xs.take k).filter fun _ => !false) ∧ Below w.heap.size w wr) (fun _ i _ => n - (intOf i).toNat)
  case atStart => exact ⟨0, _, 0, n + 1, [], Nat.zero_le _, rfl, rfl, by simpa using H0.out.1, H0.out.2⟩
  case round =>
    obtain ⟨k, B, m, d, us, hk, rfl, rfl, hol, hb⟩ := hrel
    have HO : Hid (OwnL wr w.heap.size B m d us ((xs.take k).filter fun _ => !false) ∧ Below w.heap.size w wr) := ⟨hol, hb⟩
    have hml : m ≤ k := by
      rw [hol.tree.len]
      exact Nat.le_trans (List.length_filter_le _ _) (by simp; omega)
    have hsz := hb.size
    clear hol
    by_cases hlt : k < n
    · have htr := HT.out.1.below (Nat.le_refl _) hb
      obtain ⟨g, o, v, rfl, hgb, hvk, c0, c1, c2, c3, c4, c5, c6, c7, c8⟩ := htr.1.at hlt
      obtain ⟨x, hx, hcx⟩ := htr.2.at hvk
      have HX : Hid (xs[k]? = some x ∧ ContR wr v x ∧ x.act.data.length ≤ 140737488355328) := ⟨hx, hcx, HT.out.2.1 x (List.mem_of_getElem? hx)⟩
      have HWA : Hid _ := boxR_start wr v
      have HFS : Hid ((xs.take (k + 1)).filter (fun _ => !false) = (xs.take k).filter (fun _ => !false) ++ (if (!false) then [x] else [])) := filter_step hx fun _ => !false
      clear hvk htr hx hcx
      go_wp2_with (fail)
      obtain ⟨q1, q2, q3⟩ := HWA.out _ rfl
      have hwq : Below w.heap.size w _ := hb.trans (q1.mono hsz)
      refine (own1_any v.a _).mono ?_
      rintro e w2 ⟨rfl, hb2⟩
      have hz2 := hb2.size
      rw [q3] at hz2
      have h12 : Below wr.heap.size wr w2 := q1.trans (hb2.mono (by omega))
      have HB2 : Hid (Below w.heap.size w w2 ∧ BoxR w2 wr.heap.size v ∧ OwnL w2 w.heap.size B m d us ((xs.take k).filter fun _ => !false) ∧ Below wr.heap.size wr w2) := ⟨hb.trans (h12.mono hsz), q2.below hb2 (by omega), HO.out.1.below (Nat.le_refl _) h12, h12⟩
      obtain ⟨b0, b1, b2, b3, b4, b5, b6, b7, b8, bf, bz⟩ := HB2.out.2.1.facts
      clear q1 q2 q3 hb2 HWA hwq h12 hb
      cases hpx : false
      · have HFS2 : Hid ((xs.take (k + 1)).filter (fun _ => !false) = (xs.take k).filter (fun _ => !false) ++ [x]) := by show _ = _; rw [HFS.out, hpx]; rfl
        go_wp2_with (fail)
        refine (ownRec_any v x _ (HX.out.2.1.below (Nat.le_refl _) HB2.out.2.2.2) HX.out.2.2).mono ?_
        rintro e w3 ⟨r', rfl, hor, hb3⟩
        have hz3 := hb3.size
        have HB3 : Hid (Below w.heap.size w w3 ∧ OwnL w3 w.heap.size B m d us ((xs.take k).filter fun _ => !false) ∧ OwnR w3 w.heap.size r' x) := ⟨HB2.out.1.trans (hb3.mono (by omega)), HB2.out.2.2.1.below (Nat.le_refl _) hb3, hor.mono (by omega)⟩
        have HWB : Hid _ := boxR_start w3 r'
        clear hor hb3
        go_wp2_with (at_builtin; refine wpList_append_row _ (by rfl) (.tmp 23) (.tmp 26) 46 (by rfl) w.heap.size 48 i48 _ 104 Try.underlying46 hi48 hz48 hs48 hb48 rfl (by decide) _ m _ (by rfl) (own_below HB3.out.2.1.1 (HWB.out _ rfl).1 (Nat.le_refl _)) (some ⟨w3.heap.size, 0, none⟩) 1 1 [r'] (by rfl) (rowR_box (HWB.out _ rfl).2.1) rec_len rec_one (by unfold maxLen; omega) (by omega) (by simp; omega) ?_; intro v4 w4 hown4 hg4; obtain ⟨A4, c4', rfl, _, _⟩ := own_form hown4; have HR : Hid (OwnL w4 w.heap.size A4 (m + 1) c4' (us ++ [r']) ((xs.take (k + 1)).filter (fun _ => !false)) ∧ Below w.heap.size w w4) := ⟨by rw [HFS2.out]; exact OwnL.snoc (HB3.out.2.1.below (Nat.le_refl _) (HWB.out _ rfl).1) (HB3.out.2.2.below (Nat.le_refl _) (HWB.out _ rfl).1) (by simpa using hown4) hg4, snoc_below (HB3.out.1.trans ((HWB.out _ rfl).1.mono HB3.out.1.size)) (own_below HB3.out.2.1.1 (HWB.out _ rfl).1 (Nat.le_refl _)) hg4⟩; clear hown4 hg4)
        go_roundw
        case rel => exact ⟨k + 1, A4, m + 1, c4', us ++ [r'], by omega, by go_num, rfl, HR.out.1, HR.out.2⟩
        case measure => simp [intOf]; omega
      · cases hpx
    · have HL : Hid (xs.take k = xs) := by show _ = _; exact List.take_of_length_le (by rw [← HT.out.1.len]; omega)
      go_wp2
      go_ret
      have h1 := HO.out.1
      rw [HL.out] at h1
      exact ⟨B, m, d, us, rfl, h1, hb⟩
set_option maxRecDepth 8000 in
set_option maxHeartbeats 2000000 in
theorem withoutName_any (A : Option Addr) (n c : Nat) (vs : List RV) (xs : List M.Rec) (p : Nat) (r : RV) (w : World) (ht : TreeR w A n vs xs) (hs : ∀ x ∈ xs, x.act.data.length ≤ 140737488355328) (hn : (n + 1) * 104 ≤ 140737488355328) (hp : BoxR w p r) :
    Calls Try.prog 38 #[.slice A n c, .func (.func 39) #[] #[.pointer (some ⟨p, 0, none⟩)]] w fun e w' => ∃ (B : Option Addr) (m d : Nat) (us : List RV), e = .returned (.slice B m d) ∧ OwnL w' w.heap.size B m d us (xs.filter fun x => !M.nameFB x.act r.a.fid) ∧ Below w.heap.size w w' := by
  obtain ⟨i48, hi48, hz48, hs48, hb48⟩ := info_parts info48
  have HT : Hid (TreeR w A n vs xs ∧ (∀ x ∈ xs, x.act.data.length ≤ 140737488355328) ∧ True ∧ BoxR w p r) := ⟨ht, hs, trivial, hp⟩
  clear ht hs hp
  have hbn : i48.bytes * (n + 1) ≤ 281474976710656 := by rw [hb48]; omega
  have HCC : Hid (((n : Int) + 1) = ((n + 1 : Nat) : Int)) := by show _ = _; omega
  go_enter Try.func38, Try.ntmps38
  go_wp2_with (at_make; refine wpList_make_own _ (by rfl) (.const (.int .i64 0)) (.tmp 10) 46 (by rfl) w.heap.size 48 i48 _ 9 Try.underlying46 hi48 hz48 hs48 .i64 .i64 _ (n + 1) rfl rfl HCC.out hbn (by unfold maxLen; omega) (Nat.le_refl _) ?_; intro w1 hown hg1; have hb1 := grown_below hg1; clear hg1)
  have H0 : Hid (OwnL w1 w.heap.size (some ⟨w.heap.size, 0, none⟩) 0 (n + 1) [] [] ∧ Below w.heap.size w w1) := ⟨⟨by simpa using hown, All2.nil⟩, hb1⟩
  clear hown hb1 HCC hbn
  go_loopw [5, 14] (fun v i wr => ∃ (k : Nat) (B : Option Addr) (m d : Nat) (us : List RV), k ≤ n ∧ i = .int .i64 k ∧ v = .slice B m d ∧ OwnL wr w.heap.size B m d us ((xs.take k).filter fun x => !M.nameFB x.act r.a.fid) ∧ Below w.heap.size w wr) (fun _ i _ => n - (intOf i).toNat)
  case atStart => exact ⟨0, _, 0, n + 1, [], Nat.zero_le _, rfl, rfl, by simpa using H0.out.1, H0.out.2⟩
  case round =>
    obtain ⟨k, B, m, d, us, hk, rfl, rfl, hol, hb⟩ := hrel
    have HO : Hid (OwnL wr w.heap.size B m d us ((xs.take k).filter fun x => !M.nameFB x.act r.a.fid) ∧ Below w.heap.size w wr) := ⟨hol, hb⟩
    have hml : m ≤ k := by
      rw [hol.tree.len]
      exact Nat.le_trans (List.length_filter_le _ _) (by simp; omega)
    have hsz := hb.size
    clear hol
    by_cases hlt : k < n
    · have htr := HT.out.1.below (Nat.le_refl _) hb
      obtain ⟨g, o, v, rfl, hgb, hvk, c0, c1, c2, c3, c4, c5, c6, c7, c8⟩ := htr.1.at hlt
      obtain ⟨x, hx, hcx⟩ := htr.2.at hvk
      have HX : Hid (xs[k]? = some x ∧ ContR wr v x ∧ x.act.data.length ≤ 140737488355328) := ⟨hx, hcx, HT.out.2.1 x (List.mem_of_getElem? hx)⟩
      have HWA : Hid _ := boxR_start wr v
      have HFS : Hid ((xs.take (k + 1)).filter (fun x => !M.nameFB x.act r.a.fid) = (xs.take k).filter (fun x => !M.nameFB x.act r.a.fid) ++ (if (!M.nameFB x.act r.a.fid) then [x] else [])) := filter_step hx fun x => !M.nameFB x.act r.a.fid
      clear hvk htr hx hcx
      go_wp2_with (fail)
      obtain ⟨q1, q2, q3⟩ := HWA.out _ rfl
      have hwq : Below w.heap.size w _ := hb.trans (q1.mono hsz)
      refine (add1_any v.a x.act p r _ (HX.out.2.1.1.below (Nat.le_refl _) q1) (HT.out.2.2.2.below hwq (lt_of_block HT.out.2.2.2))).mono ?_
      rintro e w2 ⟨rfl, hb2⟩
      have hz2 := hb2.size
      rw [q3] at hz2
      have h12 : Below wr.heap.size wr w2 := q1.trans (hb2.mono (by omega))
      have HB2 : Hid (Below w.heap.size w w2 ∧ BoxR w2 wr.heap.size v ∧ OwnL w2 w.heap.size B m d us ((xs.take k).filter fun x => !M.nameFB x.act r.a.fid) ∧ Below wr.heap.size wr w2) := ⟨hb.trans (h12.mono hsz), q2.below hb2 (by omega), HO.out.1.below (Nat.le_refl _) h12, h12⟩
      obtain ⟨b0, b1, b2, b3, b4, b5, b6, b7, b8, bf, bz⟩ := HB2.out.2.1.facts
      clear q1 q2 q3 hb2 HWA hwq h12 hb
      cases hpx : M.nameFB x.act r.a.fid
      · have HFS2 : Hid ((xs.take (k + 1)).filter (fun x => !M.nameFB x.act r.a.fid) = (xs.take k).filter (fun x => !M.nameFB x.act r.a.fid) ++ [x]) := by show _ = _; rw [HFS.out, hpx]; rfl
        go_wp2_with (fail)
        refine (ownRec_any v x _ (HX.out.2.1.below (Nat.le_refl _) HB2.out.2.2.2) HX.out.2.2).mono ?_
        rintro e w3 ⟨r', rfl, hor, hb3⟩
        have hz3 := hb3.size
        have HB3 : Hid (Below w.heap.size w w3 ∧ OwnL w3 w.heap.size B m d us ((xs.take k).filter fun x => !M.nameFB x.act r.a.fid) ∧ OwnR w3 w.heap.size r' x) := ⟨HB2.out.1.trans (hb3.mono (by omega)), HB2.out.2.2.1.below (Nat.le_refl _) hb3, hor.mono (by omega)⟩
        have HWB : Hid _ := boxR_start w3 r'
        clear hor hb3
        go_wp2_with (at_builtin; refine wpList_append_row _ (by rfl) (.tmp 23) (.tmp 26) 46 (by rfl) w.heap.size 48 i48 _ 104 Try.underlying46 hi48 hz48 hs48 hb48 rfl (by decide) _ m _ (by rfl) (own_below HB3.out.2.1.1 (HWB.out _ rfl).1 (Nat.le_refl _)) (some ⟨w3.heap.size, 0, none⟩) 1 1 [r'] (by rfl) (rowR_box (HWB.out _ rfl).2.1) rec_len rec_one (by unfold maxLen; omega) (by omega) (by simp; omega) ?_; intro v4 w4 hown4 hg4; obtain ⟨A4, c4', rfl, _, _⟩ := own_form hown4; have HR : Hid (OwnL w4 w.heap.size A4 (m + 1) c4' (us ++ [r']) ((xs.take (k + 1)).filter (fun x => !M.nameFB x.act r.a.fid)) ∧ Below w.heap.size w w4) := ⟨by rw [HFS2.out]; exact OwnL.snoc (HB3.out.2.1.below (Nat.le_refl _) (HWB.out _ rfl).1) (HB3.out.2.2.below (Nat.le_refl _) (HWB.out _ rfl).1) (by simpa using hown4) hg4, snoc_below (HB3.out.1.trans ((HWB.out _ rfl).1.mono HB3.out.1.size)) (own_below HB3.out.2.1.1 (HWB.out _ rfl).1 (Nat.le_refl _)) hg4⟩; clear hown4 hg4)
        go_roundw
        case rel => exact ⟨k + 1, A4, m + 1, c4', us ++ [r'], by omega, by go_num, rfl, HR.out.1, HR.out.2⟩
        case measure => simp [intOf]; omega
      · have HFS2 : Hid ((xs.take (k + 1)).filter (fun x => !M.nameFB x.act r.a.fid) = (xs.take k).filter (fun x => !M.nameFB x.act r.a.fid)) := by show _ = _; rw [HFS.out, hpx]; simp
        go_wp2
        go_roundw
        case rel => exact ⟨k + 1, B, m, d, us, by omega, by go_num, rfl, by rw [HFS2.out]; exact HB2.out.2.2.1, HB2.out.1⟩
        case measure => simp [intOf]; omega
    · have HL : Hid (xs.take k = xs) := by show _ = _; exact List.take_of_length_le (by rw [← HT.out.1.len]; omega)
      go_wp2
      go_ret
      have h1 := HO.out.1
      rw [HL.out] at h1
      exact ⟨B, m, d, us, rfl, h1, hb⟩
set_option maxRecDepth 8000 in
set_option maxHeartbeats 2000000 in
theorem withoutOver_any (A : Option Addr) (n c : Nat) (vs : List RV) (xs : List M.Rec) (p : Nat) (r : RV) (y : M.Act) (w : World) (ht : TreeR w A n vs xs) (hs : ∀ x ∈ xs, x.act.data.length ≤ 140737488355328) (hn : (n + 1) * 104 ≤ 140737488355328) (hp : BoxR w p r) (hr : ContA w r.a y) :
    Calls Try.prog 38 #[.slice A n c, .func (.func 41) #[] #[.pointer (some ⟨p, 0, none⟩)]] w fun e w' => ∃ (B : Option Addr) (m d : Nat) (us : List RV), e = .returned (.slice B m d) ∧ OwnL w' w.heap.size B m d us (xs.filter fun x => !M.overB y x.act) ∧ Below w.heap.size w w' := by
  obtain ⟨i48, hi48, hz48, hs48, hb48⟩ := info_parts info48
  have HT : Hid (TreeR w A n vs xs ∧ (∀ x ∈ xs, x.act.data.length ≤ 140737488355328) ∧ True ∧ BoxR w p r ∧ ContA w r.a y) := ⟨ht, hs, trivial, hp, hr⟩
  clear ht hs hp hr
  have hbn : i48.bytes * (n + 1) ≤ 281474976710656 := by rw [hb48]; omega
  have HCC : Hid (((n : Int) + 1) = ((n + 1 : Nat) : Int)) := by show _ = _; omega
  go_enter Try.func38, Try.ntmps38
  go_wp2_with (at_make; refine wpList_make_own _ (by rfl) (.const (.int .i64 0)) (.tmp 10) 46 (by rfl) w.heap.size 48 i48 _ 9 Try.underlying46 hi48 hz48 hs48 .i64 .i64 _ (n + 1) rfl rfl HCC.out hbn (by unfold maxLen; omega) (Nat.le_refl _) ?_; intro w1 hown hg1; have hb1 := grown_below hg1; clear hg1)
  have H0 : Hid (OwnL w1 w.heap.size (some ⟨w.heap.size, 0, none⟩) 0 (n + 1) [] [] ∧ Below w.heap.size w w1) := ⟨⟨by simpa using hown, All2.nil⟩, hb1⟩
  clear hown hb1 HCC hbn
  go_loopw [5, 14] (fun v i wr => ∃ (k : Nat) (B : Option Addr) (m d : Nat) (us : List RV), k ≤ n ∧ i = .int .i64 k ∧ v = .slice B m d ∧ OwnL wr w.heap.size B m d us ((xs.take k).filter fun x => !M.overB y x.act) ∧ Below w.heap.size w wr) (fun _ i _ => n - (intOf i).toNat)
  case atStart => exact ⟨0, _, 0, n + 1, [], Nat.zero_le _, rfl, rfl, by simpa using H0.out.1, H0.out.2⟩
  case round =>
    obtain ⟨k, B, m, d, us, hk, rfl, rfl, hol, hb⟩ := hrel
    have HO : Hid (OwnL wr w.heap.size B m d us ((xs.take k).filter fun x => !M.overB y x.act) ∧ Below w.heap.size w wr) := ⟨hol, hb⟩
    have hml : m ≤ k := by
      rw [hol.tree.len]
      exact Nat.le_trans (List.length_filter_le _ _) (by simp; omega)
    have hsz := hb.size
    clear hol
    by_cases hlt : k < n
    · have htr := HT.out.1.below (Nat.le_refl _) hb
      obtain ⟨g, o, v, rfl, hgb, hvk, c0, c1, c2, c3, c4, c5, c6, c7, c8⟩ := htr.1.at hlt
      obtain ⟨x, hx, hcx⟩ := htr.2.at hvk
      have HX : Hid (xs[k]? = some x ∧ ContR wr v x ∧ x.act.data.length ≤ 140737488355328) := ⟨hx, hcx, HT.out.2.1 x (List.mem_of_getElem? hx)⟩
      have HWA : Hid _ := boxR_start wr v
      have HFS : Hid ((xs.take (k + 1)).filter (fun x => !M.overB y x.act) = (xs.take k).filter (fun x => !M.overB y x.act) ++ (if (!M.overB y x.act) then [x] else [])) := filter_step hx fun x => !M.overB y x.act
      clear hvk htr hx hcx
      go_wp2_with (fail)
      obtain ⟨q1, q2, q3⟩ := HWA.out _ rfl
      have hwq : Below w.heap.size w _ := hb.trans (q1.mono hsz)
      refine (add2_any v.a x.act p r y _ (HX.out.2.1.1.below (Nat.le_refl _) q1) (HT.out.2.2.2.1.below hwq (lt_of_block HT.out.2.2.2.1)) (HT.out.2.2.2.2.below (Nat.le_refl _) hwq)).mono ?_
      rintro e w2 ⟨rfl, hb2⟩
      have hz2 := hb2.size
      rw [q3] at hz2
      have h12 : Below wr.heap.size wr w2 := q1.trans (hb2.mono (by omega))
      have HB2 : Hid (Below w.heap.size w w2 ∧ BoxR w2 wr.heap.size v ∧ OwnL w2 w.heap.size B m d us ((xs.take k).filter fun x => !M.overB y x.act) ∧ Below wr.heap.size wr w2) := ⟨hb.trans (h12.mono hsz), q2.below hb2 (by omega), HO.out.1.below (Nat.le_refl _) h12, h12⟩
      obtain ⟨b0, b1, b2, b3, b4, b5, b6, b7, b8, bf, bz⟩ := HB2.out.2.1.facts
      clear q1 q2 q3 hb2 HWA hwq h12 hb
      cases hpx : M.overB y x.act
      · have HFS2 : Hid ((xs.take (k + 1)).filter (fun x => !M.overB y x.act) = (xs.take k).filter (fun x => !M.overB y x.act) ++ [x]) := by show _ = _; rw [HFS.out, hpx]; rfl
        go_wp2_with (fail)
        refine (ownRec_any v x _ (HX.out.2.1.below (Nat.le_refl _) HB2.out.2.2.2) HX.out.2.2).mono ?_
        rintro e w3 ⟨r', rfl, hor, hb3⟩
        have hz3 := hb3.size
        have HB3 : Hid (Below w.heap.size w w3 ∧ OwnL w3 w.heap.size B m d us ((xs.take k).filter fun x => !M.overB y x.act) ∧ OwnR w3 w.heap.size r' x) := ⟨HB2.out.1.trans (hb3.mono (by omega)), HB2.out.2.2.1.below (Nat.le_refl _) hb3, hor.mono (by omega)⟩
        have HWB : Hid _ := boxR_start w3 r'
        clear hor hb3
        go_wp2_with (at_builtin; refine wpList_append_row _ (by rfl) (.tmp 23) (.tmp 26) 46 (by rfl) w.heap.size 48 i48 _ 104 Try.underlying46 hi48 hz48 hs48 hb48 rfl (by decide) _ m _ (by rfl) (own_below HB3.out.2.1.1 (HWB.out _ rfl).1 (Nat.le_refl _)) (some ⟨w3.heap.size, 0, none⟩) 1 1 [r'] (by rfl) (rowR_box (HWB.out _ rfl).2.1) rec_len rec_one (by unfold maxLen; omega) (by omega) (by simp; omega) ?_; intro v4 w4 hown4 hg4; obtain ⟨A4, c4', rfl, _, _⟩ := own_form hown4; have HR : Hid (OwnL w4 w.heap.size A4 (m + 1) c4' (us ++ [r']) ((xs.take (k + 1)).filter (fun x => !M.overB y x.act)) ∧ Below w.heap.size w w4) := ⟨by rw [HFS2.out]; exact OwnL.snoc (HB3.out.2.1.below (Nat.le_refl _) (HWB.out _ rfl).1) (HB3.out.2.2.below (Nat.le_refl _) (HWB.out _ rfl).1) (by simpa using hown4) hg4, snoc_below (HB3.out.1.trans ((HWB.out _ rfl).1.mono HB3.out.1.size)) (own_below HB3.out.2.1.1 (HWB.out _ rfl).1 (Nat.le_refl _)) hg4⟩; clear hown4 hg4)
        go_roundw
        case rel => exact ⟨k + 1, A4, m + 1, c4', us ++ [r'], by omega, by go_num, rfl, HR.out.1, HR.out.2⟩
        case measure => simp [intOf]; omega
      · have HFS2 : Hid ((xs.take (k + 1)).filter (fun x => !M.overB y x.act) = (xs.take k).filter (fun x => !M.overB y x.act)) := by show _ = _; rw [HFS.out, hpx]; simp
        go_wp2
        go_roundw
        case rel => exact ⟨k + 1, B, m, d, us, by omega, by go_num, rfl, by rw [HFS2.out]; exact HB2.out.2.2.1, HB2.out.1⟩
        case measure => simp [intOf]; omega
    · have HL : Hid (xs.take k = xs) := by show _ = _; exact List.take_of_length_le (by rw [← HT.out.1.len]; omega)
      go_wp2
      go_ret
      have h1 := HO.out.1
      rw [HL.out] at h1
      exact ⟨B, m, d, us, rfl, h1, hb⟩
end Go.Proofs.Ytlegjdlmcphhlab
/-
  PACKAGE logs: Own, Add, Acts.
-/
namespace Go.Proofs.Ytlegjdlmcphhlab
open Go.RowKit

theorem ownLog_any (A : Option Addr) (n c : Nat) (vs : List RV) (xs : List M.Rec) (w : World) (ht : TreeR w A n vs xs) (hs : ∀ x ∈ xs, x.act.data.length ≤ 140737488355328) (hn : (n + 1) * 104 ≤ 140737488355328) :
    Calls Try.prog 21 #[.slice A n c] w fun e w' => ∃ (B : Option Addr) (m d : Nat) (us : List RV), e = .returned (.slice B m d) ∧ OwnL w' w.heap.size B m d us xs ∧ Below w.heap.size w w' := by
  have HT : Hid (TreeR w A n vs xs ∧ (∀ x ∈ xs, x.act.data.length ≤ 140737488355328)) := ⟨ht, hs⟩
  clear ht hs
  go_enter Try.func21, Try.ntmps21
  go_wp2_with (fail)
  refine (withoutOwn_any A n c vs xs w HT.out.1 HT.out.2 hn).mono ?_
  rintro e w1 ⟨B, m, d, us, rfl, ho, hb⟩
  have HO : Hid (OwnL w1 w.heap.size B m d us xs ∧ Below w.heap.size w w1) := ⟨by have e : (xs.filter fun _ => !false) = xs := List.filter_eq_self.2 (fun _ _ => rfl); rw [e] at ho; exact ho, hb⟩
  clear ho hb
  go_wp2
  go_ret
  exact ⟨B, m, d, us, rfl, HO.out.1, HO.out.2⟩

/-- what Add answers -/
def Added (w : World) (spec : Int × List M.Rec) (e : Ending) (w' : World) : Prop :=
  ∃ (B : Option Addr) (m d : Nat) (us : List RV), e = .returned (.tuple #[.slice B m d, .int .i64 spec.1]) ∧ OwnL w' w.heap.size B m d us spec.2 ∧ Below w.heap.size w w'
theorem Added.of {w w' : World} {s t : Int × List M.Rec} (h : s = t) {B : Option Addr} {m d : Nat} {us : List RV} (ho : OwnL w' w.heap.size B m d us t.2) (hb : Below w.heap.size w w') : Added w s (.returned (.tuple #[.slice B m d, .int .i64 t.1])) w' := by
  subst h; exact ⟨B, m, d, us, rfl, ho, hb⟩
set_option maxRecDepth 8000 in
set_option maxHeartbeats 2000000 in
theorem add_any (A : Option Addr) (n c : Nat) (vs : List RV) (xs : List M.Rec) (r : RV) (x : M.Rec) (w : World) (ht : TreeR w A n vs xs) (hs : ∀ x ∈ xs, x.act.data.length ≤ 140737488355328) (hn : (n + 2) * 104 ≤ 140737488355328) (hnc : n ≤ c) (hcm : c ≤ maxLen) (hr : ContR w r x) (hsx : x.act.data.length ≤ 140737488355328) :
    Calls Try.prog 18 #[.slice A n c, r.val] w (Added w (M.addS xs x)) := by
  obtain ⟨i48, hi48, hz48, hs48, hb48⟩ := info_parts info48
  have HW : Hid _ := boxR_start w r
  have HT : Hid (TreeR w A n vs xs ∧ (∀ x ∈ xs, x.act.data.length ≤ 140737488355328) ∧ ContR w r x ∧ x.act.data.length ≤ 140737488355328) := ⟨ht, hs, hr, hsx⟩
  have HNL : Hid (n = xs.length) := ht.len
  clear ht hs hr hsx
  go_enter Try.func18, Try.ntmps18
  go_wp2_with (fail)
  obtain ⟨q1, q2, q3⟩ := HW.out _ rfl
  refine (undoes_any r.a x.act A n c vs xs _ (HT.out.2.2.1.1.below (Nat.le_refl _) q1) (HT.out.1.below (Nat.le_refl _) q1) (by omega) hnc hcm).mono ?_
  rintro e w1 ⟨rfl, hb1⟩
  have hz1 := hb1.size
  rw [q3] at hz1
  have HB : Hid (Below w.heap.size w w1 ∧ BoxR w1 w.heap.size r) := ⟨q1.trans (hb1.mono (by omega)), q2.below hb1 (by omega)⟩
  clear q1 q2 q3 hb1 HW
  have hsz := HB.out.1.size
  cases hu : M.undoB xs x.act
  · go_wp2_with (fail)
    refine (withoutOver_any A n c vs xs w.heap.size r x.act w1 (HT.out.1.below (Nat.le_refl _) HB.out.1) HT.out.2.1 (by omega) HB.out.2 (HT.out.2.2.1.1.below (Nat.le_refl _) HB.out.1)).mono ?_
    rintro e w2 ⟨B, m, d, us, rfl, ho, hb2⟩
    have hz2 := hb2.size
    have hm := ho.tree.len
    have hml : m ≤ n := by rw [hm, HNL.out]; exact List.length_filter_le _ _
    have HB2 : Hid (Below w.heap.size w w2 ∧ BoxR w2 w.heap.size r ∧ OwnL w2 w.heap.size B m d us (xs.filter fun y => !M.overB x.act y.act)) := ⟨HB.out.1.trans (hb2.mono hsz), HB.out.2.below hb2 (by omega), ho.mono (by omega)⟩
    have HU : Hid (M.addS xs x = if 20 ≤ m then (5, []) else (0, (xs.filter fun y => !M.overB x.act y.act) ++ [x])) := by
      show _ = _
      unfold M.addS
      rw [hu, if_neg (by simp), ← hm]
    obtain ⟨b0, b1, b2, b3, b4, b5, b6, b7, b8, bf, bz⟩ := HB2.out.2.1.facts
    clear ho hb2 hm hu
    by_cases h20 : 20 ≤ m
    · have h20' : (20 : Int) ≤ (m : Int) := by omega
      have HU2 : Hid (M.addS xs x = (5, [])) := by show _ = _; rw [HU.out, if_pos h20]
      go_wp2
      go_ret2
      exact Added.of HU2.out (OwnL.nil _ _) HB2.out.1
    · have h20' : ¬ (20 : Int) ≤ (m : Int) := by omega
      have HU2 : Hid (M.addS xs x = (0, (xs.filter fun y => !M.overB x.act y.act) ++ [x])) := by show _ = _; rw [HU.out, if_neg h20]
      go_wp2_with (fail)
      refine (ownRec_any r x _ (HT.out.2.2.1.below (Nat.le_refl _) HB2.out.1) HT.out.2.2.2).mono ?_
      rintro e w3 ⟨r', rfl, hor, hb3⟩
      have hz3 := hb3.size
      have HB3 : Hid (Below w.heap.size w w3 ∧ OwnL w3 w.heap.size B m d us (xs.filter fun y => !M.overB x.act y.act) ∧ OwnR w3 w.heap.size r' x) := ⟨HB2.out.1.trans (hb3.mono (by omega)), HB2.out.2.2.below (Nat.le_refl _) hb3, hor.mono (by omega)⟩
      have HWB : Hid _ := boxR_start w3 r'
      clear hor hb3
      go_wp2_with (at_builtin; refine wpList_append_row _ (by rfl) (.tmp 19) (.tmp 22) 46 (by rfl) w.heap.size 48 i48 _ 104 Try.underlying46 hi48 hz48 hs48 hb48 rfl (by decide) _ m _ (by rfl) (own_below HB3.out.2.1.1 (HWB.out _ rfl).1 (Nat.le_refl _)) (some ⟨w3.heap.size, 0, none⟩) 1 1 [r'] (by rfl) (rowR_box (HWB.out _ rfl).2.1) rec_len rec_one (by unfold maxLen; omega) (by omega) (by simp; omega) ?_; intro v4 w4 hown4 hg4; obtain ⟨A4, c4', rfl, _, _⟩ := own_form hown4; have HR : Hid (OwnL w4 w.heap.size A4 (m + 1) c4' (us ++ [r']) ((xs.filter fun y => !M.overB x.act y.act) ++ [x]) ∧ Below w.heap.size w w4) := ⟨OwnL.snoc (HB3.out.2.1.below (Nat.le_refl _) (HWB.out _ rfl).1) (HB3.out.2.2.below (Nat.le_refl _) (HWB.out _ rfl).1) (by simpa using hown4) hg4, snoc_below (HB3.out.1.trans ((HWB.out _ rfl).1.mono HB3.out.1.size)) (own_below HB3.out.2.1.1 (HWB.out _ rfl).1 (Nat.le_refl _)) hg4⟩; clear hown4 hg4)
      go_ret2
      exact Added.of HU2.out HR.out.1 HR.out.2
  · have HU : Hid (M.addS xs x = (0, xs.filter fun y => !M.nameFB y.act r.a.fid)) := by
      show _ = _
      unfold M.addS
      rw [hu, if_pos rfl, HT.out.2.2.1.1.2.1]
    clear hu
    go_wp2_with (fail)
    refine (withoutName_any A n c vs xs w.heap.size r w1 (HT.out.1.below (Nat.le_refl _) HB.out.1) HT.out.2.1 (by omega) HB.out.2).mono ?_
    rintro e w2 ⟨B, m, d, us, rfl, ho, hb2⟩
    have HB2 : Hid (Below w.heap.size w w2 ∧ OwnL w2 w.heap.size B m d us (xs.filter fun y => !M.nameFB y.act r.a.fid)) := ⟨HB.out.1.trans (hb2.mono hsz), ho.mono hsz⟩
    clear ho hb2
    go_wp2
    go_ret2
    exact Added.of HU.out HB2.out.2 HB2.out.1
/-- b for a -/
def turnI (f a b : Int) : Int := if f = a then b else f
theorem turn1_any (f a b : Int) (p q : Nat) (w : World) (hp : w.cell? ⟨p, 0, none⟩ = some (.int .i64 a)) (hq : w.cell? ⟨q, 0, none⟩ = some (.int .i64 b)) :
    Calls Try.prog 46 #[.int .i64 f, .pointer (some ⟨p, 0, none⟩), .pointer (some ⟨q, 0, none⟩)] w fun e w' => e = .returned (.int .i64 (turnI f a b)) ∧ w' = w := by
  by_cases h : f = a
  · have HI : Hid (turnI f a b = b) := by show _ = _; unfold turnI; rw [if_pos h]
    have k : (f == a) = true := by simp [h]
    clear h
    go_enter Try.func46, Try.ntmps46
    go_wp2
    go_ret
    exact ⟨ret_int HI.out.symm, rfl⟩
  · have HI : Hid (turnI f a b = f) := by show _ = _; unfold turnI; rw [if_neg h]
    have k : (f == a) = false := by simp [h]
    clear h
    go_enter Try.func46, Try.ntmps46
    go_wp2
    go_ret
    exact ⟨ret_int HI.out.symm, rfl⟩
end Go.Proofs.Ytlegjdlmcphhlab
