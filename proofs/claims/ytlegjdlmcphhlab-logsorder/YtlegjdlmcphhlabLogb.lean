/-
  PACKAGE logs: touches, hinders, own, and what asks of each record.
-/
import Derived.Test.YtlegjdlmcphhlabLoga
namespace Go.Proofs.Ytlegjdlmcphhlab
open Go.RowKit

/-- what touches asks of a value -/
def touchV (a : AV) (d : Int) (s : ByteArray) : Bool :=
  ((decide (a.kind = 1) || decide (a.kind = 2) || decide (a.kind = 4) || decide (a.kind = 5)) && (decide (a.dir = d) && decide (a.name = s))) || (decide (a.kind = 5) && (decide (a.to = d) && decide (a.toName = s)))
theorem touchV_is {w : World} {a : AV} {x : M.Act} (h : ContA w a x) (d : Int) (s : ByteArray) : touchV a d s = M.touchB x d s := by
  obtain ⟨h1, _, h3, h4, h5, h6, _⟩ := h
  unfold touchV M.touchB M.makeB
  rw [h1, h3, h4, h5, h6]
/-- here: of that directory, by that name -/
theorem here_cases (a : AV) (d : Int) (s : ByteArray) : (a.dir == d) = true ∧ (a.name.toList == s.toList) = true ∧ (decide (a.dir = d) && decide (a.name = s)) = true ∨ (a.dir == d) = true ∧ (a.name.toList == s.toList) = false ∧ (decide (a.dir = d) && decide (a.name = s)) = false ∨ (a.dir == d) = false ∧ (decide (a.dir = d) && decide (a.name = s)) = false := by
  by_cases h1 : a.dir = d
  · by_cases h2 : a.name = s
    · exact .inl ⟨by simp [h1], by rw [raw_eq]; simp [h2], by simp [h1, h2]⟩
    · exact .inr (.inl ⟨by simp [h1], by rw [raw_eq]; simp [h2], by simp [h2]⟩)
  · exact .inr (.inr ⟨by simp [h1], by simp [h1]⟩)
theorem there_cases (a : AV) (d : Int) (s : ByteArray) : (a.to == d) = true ∧ (a.toName.toList == s.toList) = true ∧ (decide (a.to = d) && decide (a.toName = s)) = true ∨ (a.to == d) = true ∧ (a.toName.toList == s.toList) = false ∧ (decide (a.to = d) && decide (a.toName = s)) = false ∨ (a.to == d) = false ∧ (decide (a.to = d) && decide (a.toName = s)) = false := by
  by_cases h1 : a.to = d
  · by_cases h2 : a.toName = s
    · exact .inl ⟨by simp [h1], by rw [raw_eq]; simp [h2], by simp [h1, h2]⟩
    · exact .inr (.inl ⟨by simp [h1], by rw [raw_eq]; simp [h2], by simp [h2]⟩)
  · exact .inr (.inr ⟨by simp [h1], by simp [h1]⟩)
theorem kind_cases (k : Int) : (k == 1) = true ∧ (decide (k = 1) || decide (k = 2) || decide (k = 4) || decide (k = 5)) = true ∧ decide (k = 5) = false ∨ (k == 1) = false ∧ (k == 2) = true ∧ (decide (k = 1) || decide (k = 2) || decide (k = 4) || decide (k = 5)) = true ∧ decide (k = 5) = false ∨ (k == 1) = false ∧ (k == 2) = false ∧ (k == 4) = true ∧ (decide (k = 1) || decide (k = 2) || decide (k = 4) || decide (k = 5)) = true ∧ decide (k = 5) = false ∨ (k == 1) = false ∧ (k == 2) = false ∧ (k == 4) = false ∧ (k == 5) = true ∧ (decide (k = 1) || decide (k = 2) || decide (k = 4) || decide (k = 5)) = true ∧ decide (k = 5) = true ∨ (k == 1) = false ∧ (k == 2) = false ∧ (k == 4) = false ∧ (k == 5) = false ∧ (decide (k = 1) || decide (k = 2) || decide (k = 4) || decide (k = 5)) = false ∧ decide (k = 5) = false := by
  by_cases h1 : k = 1
  · subst h1; exact .inl (by decide)
  · by_cases h2 : k = 2
    · subst h2; exact .inr (.inl (by decide))
    · by_cases h4 : k = 4
      · subst h4; exact .inr (.inr (.inl (by decide)))
      · by_cases h5 : k = 5
        · subst h5; exact .inr (.inr (.inr (.inl (by decide))))
        · exact .inr (.inr (.inr (.inr (by simp [h1, h2, h4, h5]))))
set_option maxHeartbeats 4000000 in
theorem touches_any (a : AV) (d : Int) (s : ByteArray) (w : World) : Calls Try.prog 87 #[a.val, .int .i64 d, .string s] w fun e w' => e = .returned (.bool (touchV a d s)) ∧ Below w.heap.size w w' := by
  have HW : Hid (Below w.heap.size w (w.alloc a.obj)) := (Below.refl _ _).alloc (Nat.le_refl _) _
  have HU : Hid (touchV a d s = ((decide (a.kind = 1) || decide (a.kind = 2) || decide (a.kind = 4) || decide (a.kind = 5)) && (decide (a.dir = d) && decide (a.name = s)) || (decide (a.kind = 5) && (decide (a.to = d) && decide (a.toName = s))))) := rfl
  rcases kind_cases a.kind with ⟨k1, q1, q2⟩ | ⟨k1, k2, q1, q2⟩ | ⟨k1, k2, k4, q1, q2⟩ | ⟨k1, k2, k4, k5, q1, q2⟩ | ⟨k1, k2, k4, k5, q1, q2⟩
  all_goals rcases here_cases a d s with ⟨d1, d2, q3⟩ | ⟨d1, d2, q3⟩ | ⟨d1, q3⟩
  all_goals rcases there_cases a d s with ⟨t1, t2, q4⟩ | ⟨t1, t2, q4⟩ | ⟨t1, q4⟩
  all_goals rw [q1, q2, q3, q4] at HU
  all_goals clear q1 q2 q3 q4
  all_goals go_enter Try.func87, Try.ntmps87
  all_goals go_wp2
  all_goals go_ret
  all_goals exact ⟨ret_bool (by rw [HU.out]; first | rfl | simp), HW.out⟩

set_option maxHeartbeats 1000000 in
theorem hinders_any (b a : AV) (x y : M.Act) (w : World) (hb : ContA w b x) (ha : ContA w a y) : Calls Try.prog 71 #[b.val, a.val] w fun e w' => e = .returned (.bool (M.hinderB x y)) ∧ Below w.heap.size w w' := by
  have HW : Hid _ := two_boxesA' w b a
  have HC : Hid (ContA w b x ∧ ContA w a y) := ⟨hb, ha⟩
  have HU : Hid (M.hinderB x y = ((!decide (b.kind = 3) && M.nameFB x a.fid) || touchV b a.dir a.name)) := by
    show _ = _
    unfold M.hinderB
    rw [touchV_is hb, hb.1, ha.2.1, ha.2.2.1, ha.2.2.2.1]
  clear hb ha
  by_cases h3 : b.kind = 3
  · have k3 : (b.kind == 3) = true := by simp [h3]
    have k3' : (b.kind != 3) = false := by simp [h3]
    have HU2 : Hid (M.hinderB x y = touchV b a.dir a.name) := by show _ = _; rw [HU.out]; simp [h3]
    clear h3
    go_enter Try.func71, Try.ntmps71
    go_wp2_with (fail)
    obtain ⟨q1, q2, q3, q4⟩ := HW.out _ rfl
    refine (touches_any b a.dir a.name _).mono ?_
    rintro e w1 ⟨rfl, hb1⟩
    have HB : Hid (Below w.heap.size w w1) := q1.trans (hb1.mono (by omega))
    clear q1 q2 q3 q4 hb1 HW
    go_wp2
    go_ret
    exact ⟨ret_bool HU2.out.symm, HB.out⟩
  · have k3 : (b.kind == 3) = false := by simp [h3]
    have k3' : (b.kind != 3) = true := by simp [h3]
    have HU2 : Hid (M.hinderB x y = (M.nameFB x a.fid || touchV b a.dir a.name)) := by show _ = _; rw [HU.out]; simp [h3]
    clear h3
    go_enter Try.func71, Try.ntmps71
    go_wp2_with (fail)
    obtain ⟨q1, q2, q3, q4⟩ := HW.out _ rfl
    refine (naming_any b x a.fid _ (HC.out.1.below (Nat.le_refl _) q1)).mono ?_
    rintro e w1 ⟨rfl, hb1⟩
    have hz1 := hb1.size
    rw [q4] at hz1
    have HB : Hid (Below w.heap.size w w1 ∧ BoxA w1 w.heap.size b ∧ BoxA w1 (w.heap.size + 1) a) := ⟨q1.trans (hb1.mono (by omega)), q2.below hb1 (by omega), q3.below hb1 (by omega)⟩
    obtain ⟨b0, b1, b2, b3, b4, b5, b6, bf, bz⟩ := HB.out.2.1.facts
    obtain ⟨a0, a1, a2, a3, a4, a5, a6, af, az⟩ := HB.out.2.2.facts
    clear q1 q2 q3 q4 hb1 HW
    generalize M.nameFB x a.fid = nb at *
    cases nb
    · go_wp2_with (fail)
      refine (touches_any b a.dir a.name _).mono ?_
      rintro e w2 ⟨rfl, hb2⟩
      have HB2 : Hid (Below w.heap.size w w2) := HB.out.1.trans (hb2.mono (by omega))
      clear hb2
      go_wp2
      go_ret
      exact ⟨ret_bool (by rw [HU2.out]; rfl), HB2.out⟩
    · go_wp2
      go_ret
      exact ⟨ret_bool (by rw [HU2.out]; rfl), HB.out.1⟩

def RV.zero : RV := ⟨AV.zero, 0, 0⟩
/-- an act is stored, cell by cell; a record -/
abbrev put7 (w : World) (s o : Nat) (a : AV) : World :=
  ((((((w.setCell ⟨s, o, none⟩ (.int .i64 a.kind)).setCell ⟨s, o + 1, none⟩ (.int .i64 a.fid)).setCell ⟨s, o + 2, none⟩ (.int .i64 a.dir)).setCell ⟨s, o + 3, none⟩ (.string a.name)).setCell ⟨s, o + 4, none⟩ (.int .i64 a.to)).setCell ⟨s, o + 5, none⟩ (.string a.toName)).setCell ⟨s, o + 6, none⟩ (.slice a.dA a.dn a.dc)
abbrev put9 (w : World) (s o : Nat) (r : RV) : World := ((put7 w s o r.a).setCell ⟨s, o + 7, none⟩ (.int .i64 r.ver)).setCell ⟨s, o + 8, none⟩ (.int .i64 r.id)
theorem put7_below {B : Nat} {a w : World} (h : Below B a w) {s : Nat} (hs : B ≤ s) (o : Nat) (v : AV) : Below B a (put7 w s o v) :=
  ((((((h.setCell (by exact hs) _).setCell (by exact hs) _).setCell (by exact hs) _).setCell (by exact hs) _).setCell (by exact hs) _).setCell (by exact hs) _).setCell (by exact hs) _
theorem put9_below {B : Nat} {a w : World} (h : Below B a w) {s : Nat} (hs : B ≤ s) (o : Nat) (v : RV) : Below B a (put9 w s o v) :=
  ((put7_below h hs o v.a).setCell (by exact hs) _).setCell (by exact hs) _
theorem put7_own {w : World} {B : Nat} {e : TypeId} {k : Nat} {v : Value} {n : Nat} {xs : List Value} (h : w.ownsRow B e k v n xs) {s : Nat} (hs : s < B) (o : Nat) (x : AV) : (put7 w s o x).ownsRow B e k v n xs :=
  ownsRow_setCell_below (ownsRow_setCell_below (ownsRow_setCell_below (ownsRow_setCell_below (ownsRow_setCell_below (ownsRow_setCell_below (ownsRow_setCell_below h (by exact hs) _) (by exact hs) _) (by exact hs) _) (by exact hs) _) (by exact hs) _) (by exact hs) _) (by exact hs) _
theorem put9_own {w : World} {B : Nat} {e : TypeId} {k : Nat} {v : Value} {n : Nat} {xs : List Value} (h : w.ownsRow B e k v n xs) {s : Nat} (hs : s < B) (o : Nat) (x : RV) : (put9 w s o x).ownsRow B e k v n xs :=
  ownsRow_setCell_below (ownsRow_setCell_below (put7_own h hs o x.a) (by exact hs) _) (by exact hs) _
theorem ownR_start (w : World) (r : RV) : ∀ W, W = (w.alloc r.obj).alloc (.cells #[.int .i64 0, .int .i64 0, .int .i64 0, .string ⟨#[]⟩, .int .i64 0, .string ⟨#[]⟩, .slice none 0 0, .int .i64 0, .int .i64 0] 48) → Below w.heap.size w W ∧ BoxR W w.heap.size r ∧ BoxR W (w.heap.size + 1) RV.zero ∧ W.heap.size = w.heap.size + 2 := by
  rintro W rfl
  refine ⟨((Below.refl _ _).alloc (Nat.le_refl _) _).alloc (by simp) _, (BoxR.new w r).alloc _, ?_, by simp⟩
  have h := heap_alloc_new (w.alloc r.obj) (.cells #[.int .i64 0, .int .i64 0, .int .i64 0, .string ⟨#[]⟩, .int .i64 0, .string ⟨#[]⟩, .slice none 0 0, .int .i64 0, .int .i64 0] 48)
  unfold BoxR
  simpa [RV.zero, AV.zero] using h

set_option maxRecDepth 8000 in
set_option maxHeartbeats 1000000 in
theorem ownRec_any (r : RV) (x : M.Rec) (w : World) (hr : ContR w r x) (hs : x.act.data.length ≤ 140737488355328) :
    Calls Try.prog 43 #[r.val] w fun e w' => ∃ r' : RV, e = .returned r'.val ∧ OwnR w' w.heap.size r' x ∧ Below w.heap.size w w' := by
  have HW : Hid _ := ownR_start w r
  have HC : Hid (ContR w r x) := hr
  clear hr
  go_enter Try.func43, Try.ntmps43
  go_wp2_with (fail)
  obtain ⟨q1, q2, q3, q4⟩ := HW.out _ rfl
  refine (ownAct_any r.a x.act _ (HC.out.1.below (Nat.le_refl _) q1) hs).mono ?_
  rintro e w1 ⟨a', rfl, ho, hb1⟩
  have hz1 := hb1.size
  rw [q4] at hz1 ho
  have HB : Hid (Below w.heap.size w w1 ∧ BoxR w1 w.heap.size r ∧ BoxR w1 (w.heap.size + 1) RV.zero) := ⟨q1.trans (hb1.mono (by omega)), q2.below hb1 (by omega), q3.below hb1 (by omega)⟩
  have HO : Hid (OwnA w1 (w.heap.size + 2) a' x.act) := ho
  obtain ⟨b0, b1, b2, b3, b4, b5, b6, b7, b8, bf, bz⟩ := HB.out.2.1.facts
  obtain ⟨a0, a1, a2, a3, a4, a5, a6, a7, a8, af, az⟩ := HB.out.2.2.facts
  clear q1 q2 q3 q4 hb1 HW ho
  go_wp2
  refine bodyPost_ret (v := RV.val ⟨a', r.ver, r.id⟩) (by simp [results, Try.results43, go_sem, a0, a1, a2, a3, a4, a5, a6, a7, a8]) rfl ⟨⟨a', r.ver, r.id⟩, rfl, ⟨⟨HO.out.1, HO.out.2.1, HO.out.2.2.1, HO.out.2.2.2.1, HO.out.2.2.2.2.1, HO.out.2.2.2.2.2.1, own_mono ?_ (Nat.le_add_right _ 2)⟩, HC.out.2⟩, ?_⟩
  · exact put9_own (put7_own HO.out.2.2.2.2.2.2 (s := w.heap.size) (by omega) 0 a') (s := w.heap.size + 1) (by omega) 0 ⟨a', r.ver, r.id⟩
  · exact put9_below (put7_below HB.out.1 (s := w.heap.size) (Nat.le_refl _) 0 a') (s := w.heap.size + 1) (by omega) 0 ⟨a', r.ver, r.id⟩
end Go.Proofs.Ytlegjdlmcphhlab
