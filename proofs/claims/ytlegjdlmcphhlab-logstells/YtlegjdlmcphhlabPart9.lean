/- TEXTS LAID TOGETHER: Logc, Logd, Loge, Logf, Vals, Does -/
import Derived.Test.YtlegjdlmcphhlabPart8
import Derived.Test.YtlegjdlmcphhlabPart1
import Derived.RegionTactic
import Derived.Test.YtlegjdlmcphhlabPart7
/-
  PACKAGE logs: what is asked of each record; undoes.
-/
namespace Go.Proofs.Ytlegjdlmcphhlab
open Go.RowKit

theorem boxR_start (w : World) (r : RV) : ∀ W, W = w.alloc (.cells #[.int .i64 r.a.kind, .int .i64 r.a.fid, .int .i64 r.a.dir, .string r.a.name, .int .i64 r.a.to, .string r.a.toName, .slice r.a.dA r.a.dn r.a.dc, .int .i64 r.ver, .int .i64 r.id] 48) → Below w.heap.size w W ∧ BoxR W w.heap.size r ∧ W.heap.size = w.heap.size + 1 := by
  rintro W rfl
  exact ⟨(Below.refl _ _).alloc (Nat.le_refl _) _, BoxR.new w r, by simp⟩
theorem undo1_any (r : RV) (x : M.Rec) (p : Nat) (a : AV) (w : World) (hr : ContR w r x) (hp : BoxA w p a) :
    Calls Try.prog 67 #[r.val, .pointer (some ⟨p, 0, none⟩)] w fun e w' => e = .returned (.bool (M.madeB a.fid x)) ∧ Below w.heap.size w w' := by
  have HW : Hid _ := boxR_start w r
  have HP : Hid (BoxA w p a) := hp
  have hpl : p < w.heap.size := lt_of_block hp
  have HU : Hid (M.madeB a.fid x = ((decide (r.a.kind = 1) || decide (r.a.kind = 2)) && decide (r.a.fid = a.fid))) := by
    show _ = _
    unfold M.madeB M.makeB
    rw [hr.1.1, hr.1.2.1]
  clear hr hp
  go_enter Try.func67, Try.ntmps67
  go_wp2_with (fail)
  obtain ⟨q1, q2, q3⟩ := HW.out _ rfl
  refine (making_any r.a _).mono ?_
  rintro e w1 ⟨rfl, hb1⟩
  have hz1 := hb1.size
  rw [q3] at hz1
  have hw1 : Below w.heap.size w w1 := q1.trans (hb1.mono (by omega))
  have HB : Hid (Below w.heap.size w w1 ∧ BoxR w1 w.heap.size r ∧ BoxA w1 p a) := ⟨hw1, q2.below hb1 (by omega), HP.out.below hw1 hpl⟩
  obtain ⟨b0, b1, b2, b3, b4, b5, b6, b7, b8, bf, bz⟩ := HB.out.2.1.facts
  obtain ⟨a0, a1, a2, a3, a4, a5, a6, af, az⟩ := HB.out.2.2.facts
  clear q1 q2 q3 hb1 HW hw1
  generalize (decide (r.a.kind = 1) || decide (r.a.kind = 2)) = mb at *
  cases mb
  · go_wp2
    go_ret
    exact ⟨ret_bool (by rw [HU.out]; rfl), HB.out.1⟩
  · by_cases hf : r.a.fid = a.fid
    · have kf : (r.a.fid == a.fid) = true := by simp [hf]
      have HU2 : Hid (M.madeB a.fid x = true) := by show _ = _; rw [HU.out]; simp [hf]
      clear hf
      go_wp2
      go_ret
      exact ⟨ret_bool HU2.out.symm, HB.out.1⟩
    · have kf : (r.a.fid == a.fid) = false := by simp [hf]
      have HU2 : Hid (M.madeB a.fid x = false) := by show _ = _; rw [HU.out]; simp [hf]
      clear hf
      go_wp2
      go_ret
      exact ⟨ret_bool HU2.out.symm, HB.out.1⟩
theorem undo2_any (r : RV) (x : M.Rec) (p : Nat) (a : AV) (y : M.Act) (w : World) (hr : ContR w r x) (hp : BoxA w p a) (ha : ContA w a y) :
    Calls Try.prog 70 #[r.val, .pointer (some ⟨p, 0, none⟩)] w fun e w' => e = .returned (.bool (M.hinderB x.act y)) ∧ Below w.heap.size w w' := by
  have HW : Hid _ := boxR_start w r
  have HC : Hid (ContR w r x ∧ ContA w a y) := ⟨hr, ha⟩
  have hpl : p < w.heap.size := lt_of_block hp
  obtain ⟨a0, a1, a2, a3, a4, a5, a6, af, az⟩ := hp.facts
  clear hr ha hp
  go_enter Try.func70, Try.ntmps70
  go_wp2_with (fail)
  obtain ⟨q1, q2, q3⟩ := HW.out _ rfl
  refine (hinders_any r.a a x.act y _ (HC.out.1.1.below (Nat.le_refl _) q1) (HC.out.2.below (Nat.le_refl _) q1)).mono ?_
  rintro e w1 ⟨rfl, hb1⟩
  have HB : Hid (Below w.heap.size w w1) := q1.trans (hb1.mono (by omega))
  clear q1 q2 q3 hb1 HW
  go_wp2
  go_ret
  exact ⟨rfl, HB.out⟩
theorem add1_any (a : AV) (x : M.Act) (p : Nat) (r : RV) (w : World) (ha : ContA w a x) (hp : BoxR w p r) :
    Calls Try.prog 39 #[a.val, .pointer (some ⟨p, 0, none⟩)] w fun e w' => e = .returned (.bool (M.nameFB x r.a.fid)) ∧ Below w.heap.size w w' := by
  have HW : Hid _ := boxA_start w a
  have HC : Hid (ContA w a x) := ha
  have hpl : p < w.heap.size := lt_of_block hp
  obtain ⟨b0, b1, b2, b3, b4, b5, b6, b7, b8, bf, bz⟩ := hp.facts
  clear ha hp
  go_enter Try.func39, Try.ntmps39
  go_wp2_with (fail)
  obtain ⟨q1, q2, q3⟩ := HW.out _ rfl
  refine (naming_any a x r.a.fid _ (HC.out.below (Nat.le_refl _) q1)).mono ?_
  rintro e w1 ⟨rfl, hb1⟩
  have HB : Hid (Below w.heap.size w w1) := q1.trans (hb1.mono (by omega))
  clear q1 q2 q3 hb1 HW
  go_wp2
  go_ret
  exact ⟨rfl, HB.out⟩
theorem add2_any (a : AV) (x : M.Act) (p : Nat) (r : RV) (y : M.Act) (w : World) (ha : ContA w a x) (hp : BoxR w p r) (hr : ContA w r.a y) :
    Calls Try.prog 41 #[a.val, .pointer (some ⟨p, 0, none⟩)] w fun e w' => e = .returned (.bool (M.overB y x)) ∧ Below w.heap.size w w' := by
  have HW : Hid _ := boxA_start w a
  have HU : Hid (M.overB y x = (decide (r.a.kind = 3) && decide (a.kind = 3) && decide (r.a.fid = a.fid))) := by
    show _ = _
    unfold M.overB
    rw [ha.1, ha.2.1, hr.1, hr.2.1]
  have hpl : p < w.heap.size := lt_of_block hp
  obtain ⟨b0, b1, b2, b3, b4, b5, b6, b7, b8, bf, bz⟩ := hp.facts
  clear ha hp hr
  go_enter Try.func41, Try.ntmps41
  go_wp2_with (fail)
  obtain ⟨q1, q2, q3⟩ := HW.out _ rfl
  refine (overwrites_any r.a a _).mono ?_
  rintro e w1 ⟨rfl, hb1⟩
  have HB : Hid (Below w.heap.size w w1) := q1.trans (hb1.mono (by omega))
  clear q1 q2 q3 hb1 HW
  go_wp2
  go_ret
  exact ⟨ret_bool HU.out.symm, HB.out⟩
theorem own1_any (a : AV) (w : World) : Calls Try.prog 45 #[a.val] w fun e w' => e = .returned (.bool false) ∧ Below w.heap.size w w' := by
  have HW : Hid (Below w.heap.size w (w.alloc a.obj)) := (Below.refl _ _).alloc (Nat.le_refl _) _
  go_enter Try.func45, Try.ntmps45
  go_wp2
  go_ret
  exact ⟨rfl, HW.out⟩

/-- an index, or -1 -/
def idxI : Option Nat → Int
  | none => -1
  | some k => k
theorem idxI_none {xs : List M.Rec} {p : M.Rec → Bool} (h : ∀ x ∈ xs, p x = false) : idxI (xs.findIdx? p) = -1 := by
  rw [List.findIdx?_eq_none_iff.2 (fun x hx => by simpa using h x hx)]; rfl
theorem idxI_at {xs : List M.Rec} {p : M.Rec → Bool} {k : Nat} {x : M.Rec} (h : ∀ x ∈ xs.take k, p x = false) (hx : xs[k]? = some x) (hp : p x = true) : idxI (xs.findIdx? p) = (k : Int) := by
  obtain ⟨hk, he⟩ := List.getElem?_eq_some_iff.1 hx
  have : xs.findIdx? p = some k := by
    rw [List.findIdx?_eq_some_iff_getElem]
    refine ⟨hk, by rw [he]; exact hp, fun j hj => ?_⟩
    have hjl : j < xs.length := by omega
    have := h xs[j] (List.mem_of_getElem? (i := j) (by rw [List.getElem?_take, if_pos hj]; exact List.getElem?_eq_getElem hjl))
    rw [this]; simp
  rw [this]; rfl

set_option maxHeartbeats 1000000 in
theorem undoIdx1_any (A : Option Addr) (n c : Nat) (vs : List RV) (xs : List M.Rec) (p : Nat) (a : AV) (w : World) (ht : TreeR w A n vs xs) (hn : n ≤ 140737488355328) (hp : BoxA w p a) :
    Calls Try.prog 66 #[.slice A n c, .func (.func 67) #[] #[.pointer (some ⟨p, 0, none⟩)]] w fun e w' => e = .returned (.int .i64 (idxI (xs.findIdx? fun x => M.madeB a.fid x))) ∧ Below w.heap.size w w' := by
  have hpl : p < w.heap.size := lt_of_block hp
  have HT : Hid (TreeR w A n vs xs ∧ BoxA w p a ∧ True) := ⟨ht, hp, trivial⟩
  clear ht hp
  go_enter Try.func66, Try.ntmps66
  go_wp2
  go_loopw [8] (fun i wr => ∃ k : Nat, k ≤ n ∧ i = .int .i64 k ∧ (∀ x ∈ xs.take k, (M.madeB a.fid x) = false) ∧ Below w.heap.size w wr) (fun i _ => n - (intOf i).toNat)
  case atStart => exact ⟨0, Nat.zero_le _, rfl, by simp, Below.refl _ _⟩
  case round =>
    obtain ⟨k, hk, rfl, hno, hb⟩ := hrel
    have HN : Hid (∀ x ∈ xs.take k, (M.madeB a.fid x) = false) := hno
    clear hno
    have hsz := hb.size
    by_cases hlt : k < n
    · have htr := HT.out.1.below (Nat.le_refl _) hb
      obtain ⟨g, o, v, rfl, hgb, hvk, c0, c1, c2, c3, c4, c5, c6, c7, c8⟩ := htr.1.at hlt
      obtain ⟨x, hx, hcx⟩ := htr.2.at hvk
      have HX : Hid (xs[k]? = some x ∧ ContR wr v x ∧ BoxA wr p a) := ⟨hx, hcx, HT.out.2.1.below hb hpl⟩
      have HB : Hid (Below w.heap.size w wr) := hb
      clear hvk htr hx hcx hb
      go_wp2_with (fail)
      refine (undo1_any v x p a _ HX.out.2.1 HX.out.2.2).mono ?_
      rintro e w1 ⟨rfl, hb1⟩
      have HB1 : Hid (Below w.heap.size w w1) := HB.out.trans (hb1.mono HB.out.size)
      clear hb1
      cases hd : (M.madeB a.fid x)
      · go_wp2
        go_roundw
        case rel => exact ⟨k + 1, by omega, by go_num, fun y hy => by
          rw [take_step HX.out.1] at hy
          rcases List.mem_append.1 hy with h | h
          · exact HN.out y h
          · rw [List.mem_singleton.1 h]; exact hd, HB1.out⟩
        case measure => simp [intOf]; omega
      · go_wp2
        go_ret
        exact ⟨ret_int (idxI_at HN.out HX.out.1 hd).symm, HB1.out⟩
    · have HL : Hid (xs.take k = xs) := by show _ = _; exact List.take_of_length_le (by rw [← HT.out.1.len]; omega)
      go_wp2
      go_ret
      exact ⟨ret_int (idxI_none (fun x hx => HN.out x (by rw [HL.out]; exact hx))).symm, hb⟩
set_option maxHeartbeats 1000000 in
theorem undoIdx2_any (A : Option Addr) (n c : Nat) (vs : List RV) (xs : List M.Rec) (p : Nat) (a : AV) (y : M.Act) (w : World) (ht : TreeR w A n vs xs) (hn : n ≤ 140737488355328) (hp : BoxA w p a) (ha : ContA w a y) :
    Calls Try.prog 66 #[.slice A n c, .func (.func 70) #[] #[.pointer (some ⟨p, 0, none⟩)]] w fun e w' => e = .returned (.int .i64 (idxI (xs.findIdx? fun x => M.hinderB x.act y))) ∧ Below w.heap.size w w' := by
  have hpl : p < w.heap.size := lt_of_block hp
  have HT : Hid (TreeR w A n vs xs ∧ BoxA w p a ∧ ContA w a y) := ⟨ht, hp, ha⟩
  clear ht hp ha
  go_enter Try.func66, Try.ntmps66
  go_wp2
  go_loopw [8] (fun i wr => ∃ k : Nat, k ≤ n ∧ i = .int .i64 k ∧ (∀ x ∈ xs.take k, (M.hinderB x.act y) = false) ∧ Below w.heap.size w wr) (fun i _ => n - (intOf i).toNat)
  case atStart => exact ⟨0, Nat.zero_le _, rfl, by simp, Below.refl _ _⟩
  case round =>
    obtain ⟨k, hk, rfl, hno, hb⟩ := hrel
    have HN : Hid (∀ x ∈ xs.take k, (M.hinderB x.act y) = false) := hno
    clear hno
    have hsz := hb.size
    by_cases hlt : k < n
    · have htr := HT.out.1.below (Nat.le_refl _) hb
      obtain ⟨g, o, v, rfl, hgb, hvk, c0, c1, c2, c3, c4, c5, c6, c7, c8⟩ := htr.1.at hlt
      obtain ⟨x, hx, hcx⟩ := htr.2.at hvk
      have HX : Hid (xs[k]? = some x ∧ ContR wr v x ∧ BoxA wr p a) := ⟨hx, hcx, HT.out.2.1.below hb hpl⟩
      have HB : Hid (Below w.heap.size w wr) := hb
      clear hvk htr hx hcx hb
      go_wp2_with (fail)
      refine (undo2_any v x p a y _ HX.out.2.1 HX.out.2.2 (HT.out.2.2.below (Nat.le_refl _) HB.out)).mono ?_
      rintro e w1 ⟨rfl, hb1⟩
      have HB1 : Hid (Below w.heap.size w w1) := HB.out.trans (hb1.mono HB.out.size)
      clear hb1
      cases hd : (M.hinderB x.act y)
      · go_wp2
        go_roundw
        case rel => exact ⟨k + 1, by omega, by go_num, fun y hy => by
          rw [take_step HX.out.1] at hy
          rcases List.mem_append.1 hy with h | h
          · exact HN.out y h
          · rw [List.mem_singleton.1 h]; exact hd, HB1.out⟩
        case measure => simp [intOf]; omega
      · go_wp2
        go_ret
        exact ⟨ret_int (idxI_at HN.out HX.out.1 hd).symm, HB1.out⟩
    · have HL : Hid (xs.take k = xs) := by show _ = _; exact List.take_of_length_le (by rw [← HT.out.1.len]; omega)
      go_wp2
      go_ret
      exact ⟨ret_int (idxI_none (fun x hx => HN.out x (by rw [HL.out]; exact hx))).symm, hb⟩

theorem any_idx (xs : List M.Rec) (p : M.Rec → Bool) : xs.any p = decide (0 ≤ idxI (xs.findIdx? p)) := by
  cases h : xs.findIdx? p with
  | none =>
    rw [List.findIdx?_eq_none_iff] at h
    rw [List.any_eq_false.2 (fun x hx => by simpa using h x hx)]
    rfl
  | some k =>
    obtain ⟨hk, hp, _⟩ := List.findIdx?_eq_some_iff_getElem.1 h
    rw [List.any_eq_true.2 ⟨xs[k], List.getElem_mem hk, hp⟩]
    show true = decide (0 ≤ (k : Int))
    simp
theorem undoAny_any (A : Option Addr) (n c : Nat) (vs : List RV) (xs : List M.Rec) (p : Nat) (a : AV) (y : M.Act) (w : World) (ht : TreeR w A n vs xs) (hn : n ≤ 140737488355328) (hp : BoxA w p a) (ha : ContA w a y) :
    Calls Try.prog 69 #[.slice A n c, .func (.func 70) #[] #[.pointer (some ⟨p, 0, none⟩)]] w fun e w' => e = .returned (.bool (xs.any fun x => M.hinderB x.act y)) ∧ Below w.heap.size w w' := by
  have HT : Hid (TreeR w A n vs xs ∧ BoxA w p a ∧ ContA w a y) := ⟨ht, hp, ha⟩
  have HU : Hid _ := any_idx xs fun x => M.hinderB x.act y
  clear ht hp ha
  go_enter Try.func69, Try.ntmps69
  go_wp2_with (fail)
  refine (undoIdx2_any A n c vs xs p a y w HT.out.1 hn HT.out.2.1 HT.out.2.2).mono ?_
  rintro e w1 ⟨rfl, hb1⟩
  have HB : Hid (Below w.heap.size w w1) := hb1
  clear hb1
  generalize idxI (xs.findIdx? fun x => M.hinderB x.act y) = r at *
  by_cases h0 : 0 ≤ r
  · go_wp2
    go_ret
    exact ⟨ret_bool (by rw [HU.out]; try simp [h0]), HB.out⟩
  · go_wp2
    go_ret
    exact ⟨ret_bool (by rw [HU.out]; try simp [h0]), HB.out⟩
end Go.Proofs.Ytlegjdlmcphhlab
/-
  PACKAGE logs: undoes.
-/
namespace Go.Proofs.Ytlegjdlmcphhlab
open Go.RowKit

theorem Row.drop {α : Type} {k : Nat} {cs : α → List Value} {w : World} {b o n : Nat} {vs : List α} (h : Row k cs w (some ⟨b, o, none⟩) n vs) (j : Nat) : Row k cs w (some ⟨b, o + j * k, none⟩) (n - j) (vs.drop j) := by
  obtain ⟨hn, h⟩ := h
  refine ⟨by rw [hn, List.length_drop], ?_⟩
  rcases h with h | ⟨b', o', e, hlt, hc⟩
  · left; rw [h]; simp
  · right
    cases e
    refine ⟨b, o + j * k, rfl, hlt, fun i v hv q c hq => ?_⟩
    rw [List.getElem?_drop] at hv
    have := hc (j + i) v hv q c hq
    rw [Nat.add_mul] at this
    rw [show o + j * k + i * k + q = o + (j * k + i * k) + q by omega]
    exact this
theorem undo_not {xs : List M.Rec} {y : M.Act} (h : y.kind ≠ 4) : M.undoB xs y = false := by unfold M.undoB; simp [h]
theorem undo_none {xs : List M.Rec} {y : M.Act} (h : xs.findIdx? (M.madeB y.fid) = none) : M.undoB xs y = false := by unfold M.undoB; rw [h]; simp
theorem undo_some {xs : List M.Rec} {y : M.Act} {k : Nat} {r : M.Rec} (h4 : y.kind = 4) (h : xs.findIdx? (M.madeB y.fid) = some k) (hr : xs[k]? = some r) : M.undoB xs y = (decide (r.act.dir = y.dir) && decide (r.act.name = y.name) && !((xs.drop (k + 1)).any fun b => M.hinderB b.act y)) := by
  unfold M.undoB; rw [h]; simp only [hr, h4, decide_true, Bool.true_and]

set_option maxRecDepth 8000 in
set_option maxHeartbeats 2000000 in
theorem undoes_any (a : AV) (y : M.Act) (A : Option Addr) (n c : Nat) (vs : List RV) (xs : List M.Rec) (w : World) (ha : ContA w a y) (ht : TreeR w A n vs xs) (hn : n * 104 ≤ 140737488355328) (hnc : n ≤ c) (hcm : c ≤ maxLen) :
    Calls Try.prog 37 #[a.val, .slice A n c] w fun e w' => e = .returned (.bool (M.undoB xs y)) ∧ Below w.heap.size w w' := by
  have HW : Hid _ := boxA_start w a
  have HT : Hid (TreeR w A n vs xs ∧ ContA w a y) := ⟨ht, ha⟩
  by_cases h4 : a.kind = 4
  case' neg =>
    have k4 : (a.kind == 4) = false := by simp [h4]
    have k4' : (a.kind != 4) = true := by simp [h4]
    have HU : Hid (M.undoB xs y = false) := undo_not (by rw [← ha.1]; exact h4)
    clear h4 ha ht
    go_enter Try.func37, Try.ntmps37
    go_wp2
    go_ret
    exact ⟨ret_bool HU.out.symm, (HW.out _ rfl).1⟩
  have k4 : (a.kind == 4) = true := by simp [h4]
  have k4' : (a.kind != 4) = false := by simp [h4]
  have H4 : Hid (y.kind = 4) := by show _ = _; rw [← ha.1]; exact h4
  have HFI : Hid (a.fid = y.fid) := ha.2.1
  clear h4 ha ht
  go_enter Try.func37, Try.ntmps37
  go_wp2_with (fail)
  obtain ⟨q1, q2, q3⟩ := HW.out _ rfl
  refine (undoIdx1_any A n c vs xs w.heap.size a _ (HT.out.1.below (Nat.le_refl _) q1) (by omega) q2).mono ?_
  rintro e w1 ⟨rfl, hb1⟩
  have hz1 := hb1.size
  rw [q3] at hz1
  have HB : Hid (Below w.heap.size w w1 ∧ BoxA w1 w.heap.size a) := ⟨q1.trans (hb1.mono (by omega)), q2.below hb1 (by omega)⟩
  clear q1 q2 q3 hb1 HW
  obtain ⟨a0, a1, a2, a3, a4, a5, a6, af, az⟩ := HB.out.2.facts
  have HI : Hid ((xs.findIdx? fun x => M.madeB a.fid x) = xs.findIdx? (M.madeB y.fid)) := by show _ = _; rw [HFI.out]
  rw [HI.out]
  cases hfi : xs.findIdx? (M.madeB y.fid) with
  | none =>
    have HU : Hid (M.undoB xs y = false) := undo_none hfi
    clear hfi
    have hm1 : idxI none = -1 := rfl
    rw [hm1]
    go_wp2
    go_quiet (fail)
    go_wp2
    go_ret
    exact ⟨ret_bool HU.out.symm, below_drewN HB.out.1 _⟩
  | some k =>
    have hkl := (List.findIdx?_eq_some_iff_getElem.1 hfi).1
    have hkn : k < n := by rw [HT.out.1.len]; exact hkl
    have htr := HT.out.1.below (Nat.le_refl _) HB.out.1
    obtain ⟨g, o, v, hA, hgb, hvk, c0, c1, c2, c3, c4, c5, c6, c7, c8⟩ := htr.1.at hkn
    obtain ⟨x, hx, hcx⟩ := htr.2.at hvk
    have HU : Hid (M.undoB xs y = (decide (v.a.dir = a.dir) && decide (v.a.name = a.name) && !((xs.drop (k + 1)).any fun b => M.hinderB b.act y))) := by
      show _ = _
      rw [undo_some H4.out hfi hx, hcx.1.2.2.1, hcx.1.2.2.2.1, HT.out.2.2.2.1, HT.out.2.2.2.2.1]
    have hks : decide ((k : Int) < 0) = false := by rw [decide_eq_false_iff_not]; omega
    have hk0 : (0 : Int) ≤ (k : Int) := by omega
    have hkn' : (k : Int) < (n : Int) := by omega
    subst hA
    have HTR : Hid (TreeR w1 (some ⟨g, o, none⟩) n vs xs) := htr
    clear hfi hx hcx hvk htr hkl
    have hm1 : idxI (some k) = (k : Int) := rfl
    rw [hm1]
    by_cases hd : v.a.dir = a.dir
    case' neg =>
      have d1 : (v.a.dir == a.dir) = false := by simp [hd]
      have d2 : (v.a.dir != a.dir) = true := by simp [hd]
      have HU2 : Hid (M.undoB xs y = false) := by show _ = _; rw [HU.out]; simp [hd]
      clear hd
      go_wp2
      go_quiet (fail)
      go_wp2
      go_ret
      exact ⟨ret_bool HU2.out.symm, below_drewN HB.out.1 _⟩
    have d1 : (v.a.dir == a.dir) = true := by simp [hd]
    have d2 : (v.a.dir != a.dir) = false := by simp [hd]
    by_cases hnm : v.a.name = a.name
    case' neg =>
      have n1 : (v.a.name.toList == a.name.toList) = false := raw_no hnm
      have HU2 : Hid (M.undoB xs y = false) := by show _ = _; rw [HU.out]; simp [hnm]
      clear hd hnm
      go_wp2
      go_quiet (fail)
      go_wp2
      go_ret
      exact ⟨ret_bool HU2.out.symm, below_drewN HB.out.1 _⟩
    have n1 : (v.a.name.toList == a.name.toList) = true := by rw [hnm]; exact raw_yes _
    have HU2 : Hid (M.undoB xs y = !((xs.drop (k + 1)).any fun b => M.hinderB b.act y)) := by show _ = _; rw [HU.out]; simp [hd, hnm]
    have hcm' : c ≤ 9223372036854775807 := hcm
    have hkn1 : (k : Int) + 1 ≤ (n : Int) := by omega
    have HTD : Hid (TreeR w1 (some ⟨g, o + (k + 1) * 9, none⟩) (n - (k + 1)) (vs.drop (k + 1)) (xs.drop (k + 1))) := ⟨HTR.out.1.drop (k + 1), HTR.out.2.drop (k + 1)⟩
    clear hd hnm
    by_cases hck : c = k + 1
    · have hnk : n = k + 1 := by omega
      have HE : Hid (xs.drop (k + 1) = []) := by show _ = _; rw [List.drop_eq_nil_iff, ← HTR.out.len]; omega
      subst hck
      subst hnk
      go_wp2
      go_quiet (fail)
      go_wp2_with (fail)
      refine (undoAny_any (some ⟨g, o, none⟩) 0 0 [] [] w.heap.size a y _ ⟨⟨rfl, .inl rfl⟩, All2.nil⟩ (by omega) (HB.out.2.below (below_drewN (Below.refl _ _) nq) az) (HT.out.2.below (Nat.le_refl _) (below_drewN HB.out.1 nq))).mono ?_
      rintro e w2 ⟨rfl, hb2⟩
      have HB2 : Hid (Below w.heap.size w w2) := (below_drewN HB.out.1 nq).trans (hb2.mono (by have := HB.out.1.size; show _ ≤ (w1.drewN nq).heap.size; have := (below_drewN (Below.refl w1.heap.size w1) nq).size; omega))
      clear hb2
      go_wp2
      go_ret
      exact ⟨ret_bool (by rw [HU2.out, HE.out]; first | rfl | simp), HB2.out⟩
    · go_wp2
      go_quiet (fail)
      go_wp2_with (fail)
      refine (undoAny_any (some ⟨g, o + (k + 1) * 9, none⟩) (n - (k + 1)) (c - (k + 1)) (vs.drop (k + 1)) (xs.drop (k + 1)) w.heap.size a y _ (HTD.out.below (Nat.le_refl _) (below_drewN (Below.refl _ _) nq)) (by omega) (HB.out.2.below (below_drewN (Below.refl _ _) nq) az) (HT.out.2.below (Nat.le_refl _) (below_drewN HB.out.1 nq))).mono ?_
      rintro e w2 ⟨rfl, hb2⟩
      have HB2 : Hid (Below w.heap.size w w2) := (below_drewN HB.out.1 nq).trans (hb2.mono (by have := HB.out.1.size; show _ ≤ (w1.drewN nq).heap.size; have := (below_drewN (Below.refl w1.heap.size w1) nq).size; omega))
      clear hb2
      go_wp2
      go_ret
      exact ⟨ret_bool (by rw [HU2.out]), HB2.out⟩
end Go.Proofs.Ytlegjdlmcphhlab
/-
  PACKAGE logs: without, Own, Add.
-/
namespace Go.Proofs.Ytlegjdlmcphhlab
open Go.RowKit

theorem rowR_box {w : World} {s : Nat} {r : RV} (h : BoxR w s r) : Recs w (some ⟨s, 0, none⟩) 1 [r] := by
  refine ⟨rfl, .inr ⟨s, 0, rfl, lt_of_block h, fun j v hv i c hi => ?_⟩⟩
  obtain ⟨b0, b1, b2, b3, b4, b5, b6, b7, b8, bf, bz⟩ := h.facts
  cases j with
  | succ j => cases hv
  | zero =>
    cases hv
    match i, hi with
    | 0, hi => cases hi; exact b0
    | 1, hi => cases hi; exact b1
    | 2, hi => cases hi; exact b2
    | 3, hi => cases hi; exact b3
    | 4, hi => cases hi; exact b4
    | 5, hi => cases hi; exact b5
    | 6, hi => cases hi; exact b6
    | 7, hi => cases hi; exact b7
    | 8, hi => cases hi; exact b8
    | i + 9, hi => cases hi
theorem filter_step {xs : List M.Rec} {k : Nat} {x : M.Rec} (h : xs[k]? = some x) (p : M.Rec → Bool) : (xs.take (k + 1)).filter p = (xs.take k).filter p ++ (if p x then [x] else []) := by
  rw [take_step h, List.filter_append]
  congr 1
  cases hp : p x <;> simp [hp]
/-- behind an append: one more record of one's own, nothing else is touched -/
theorem snoc_below {w W w2 : World} {A : Option Addr} {m c : Nat} {L : List Value} (hb : Below w.heap.size w W) (ho : W.ownsRow w.heap.size 48 9 (.slice A m c) m L) (hg : W.grownBy w2 (Value.slice A m c).ownBlock) : Below w.heap.size w w2 :=
  Below.grown hb hg hb.size (fun k hk => by
    rcases ho.2 with ⟨e, _⟩ | ⟨g, cap, cur, e, h1, _⟩
    · cases e; cases hk
    · cases e; cases hk; exact h1)

set_option maxRecDepth 8000 in
set_option maxHeartbeats 2000000 in
theorem withoutOwn_any (A : Option Addr) (n c : Nat) (vs : List RV) (xs : List M.Rec) (w : World) (ht : TreeR w A n vs xs) (hs : ∀ x ∈ xs, x.act.data.length ≤ 140737488355328) (hn : (n + 1) * 104 ≤ 140737488355328) :
    Calls Try.prog 38 #[.slice A n c, .func (.func 45) #[] #[]] w fun e w' => ∃ (B : Option Addr) (m d : Nat) (us : List RV), e = .returned (.slice B m d) ∧ OwnL w' w.heap.size B m d us (xs.filter fun _ => !false) ∧ Below w.heap.size w w' := by
  obtain ⟨i48, hi48, hz48, hs48, hb48⟩ := info_parts info48
  have HT : Hid (TreeR w A n vs xs ∧ (∀ x ∈ xs, x.act.data.length ≤ 140737488355328) ∧ True) := ⟨ht, hs, trivial⟩
  clear ht hs
  have hbn : i48.bytes * (n + 1) ≤ 281474976710656 := by rw [hb48]; omega
  have HCC : Hid (((n : Int) + 1) = ((n + 1 : Nat) : Int)) := by show _ = _; omega
  go_enter Try.func38, Try.ntmps38
  go_wp2_with (at_make; refine wpList_make_own _ (by rfl) (.const (.int .i64 0)) (.tmp 10) 46 (by rfl) w.heap.size 48 i48 _ 9 Try.underlying46 hi48 hz48 hs48 .i64 .i64 _ (n + 1) rfl rfl HCC.out hbn (by unfold maxLen; omega) (Nat.le_refl _) ?_; intro w1 hown hg1; have hb1 := grown_below hg1; clear hg1)
  have H0 : Hid (OwnL w1 w.heap.size (some ⟨w.heap.size, 0, none⟩) 0 (n + 1) [] [] ∧ Below w.heap.size w w1) := ⟨⟨by simpa using hown, All2.nil⟩, hb1⟩
  clear hown hb1 HCC hbn
  go_loopw [5, 14] (fun v i wr => ∃ (k : Nat) (B : Option Addr) (m d : Nat) (us : List RV), k ≤ n ∧ i = .int .i64 k ∧ v = .slice B m d ∧ OwnL wr w.heap.size B m d us ((xs.take k).filter fun _ => !false) ∧ Below w.heap.size w wr) (fun _ i _ => n - (intOf i).toNat)
  case atStart => exact ⟨0, _, 0, n + 1, [], Nat.zero_le _, rfl, rfl, by simpa using H0.out.1, H0.out.2⟩
  case round =>
    obtain ⟨k, B, m, d, us, hk, rfl, rfl, hol, hb⟩ := hrel
    have HO : Hid (OwnL wr w.heap.size B m d us ((xs.take k).filter fun _ => !false) ∧ Below w.heap.size w wr) := ⟨hol, hb⟩
    have hml : m ≤ k := by
      rw [hol.tree.len]
      exact Nat.le_trans (List.length_filter_le _ _) (by simp; omega)
    have hsz := hb.size
    clear hol
    by_cases hlt : k < n
    · have htr := HT.out.1.below (Nat.le_refl _) hb
      obtain ⟨g, o, v, rfl, hgb, hvk, c0, c1, c2, c3, c4, c5, c6, c7, c8⟩ := htr.1.at hlt
      obtain ⟨x, hx, hcx⟩ := htr.2.at hvk
      have HX : Hid (xs[k]? = some x ∧ ContR wr v x ∧ x.act.data.length ≤ 140737488355328) := ⟨hx, hcx, HT.out.2.1 x (List.mem_of_getElem? hx)⟩
      have HWA : Hid _ := boxR_start wr v
      have HFS : Hid ((xs.take (k + 1)).filter (fun _ => !false) = (xs.take k).filter (fun _ => !false) ++ (if (!false) then [x] else [])) := filter_step hx fun _ => !false
      clear hvk htr hx hcx
      go_wp2_with (fail)
      obtain ⟨q1, q2, q3⟩ := HWA.out _ rfl
      have hwq : Below w.heap.size w _ := hb.trans (q1.mono hsz)
      refine (own1_any v.a _).mono ?_
      rintro e w2 ⟨rfl, hb2⟩
      have hz2 := hb2.size
      rw [q3] at hz2
      have h12 : Below wr.heap.size wr w2 := q1.trans (hb2.mono (by omega))
      have HB2 : Hid (Below w.heap.size w w2 ∧ BoxR w2 wr.heap.size v ∧ OwnL w2 w.heap.size B m d us ((xs.take k).filter fun _ => !false) ∧ Below wr.heap.size wr w2) := ⟨hb.trans (h12.mono hsz), q2.below hb2 (by omega), HO.out.1.below (Nat.le_refl _) h12, h12⟩
      obtain ⟨b0, b1, b2, b3, b4, b5, b6, b7, b8, bf, bz⟩ := HB2.out.2.1.facts
      clear q1 q2 q3 hb2 HWA hwq h12 hb
      cases hpx : false
      · have HFS2 : Hid ((xs.take (k + 1)).filter (fun _ => !false) = (xs.take k).filter (fun _ => !false) ++ [x]) := by show _ = _; rw [HFS.out, hpx]; rfl
        go_wp2_with (fail)
        refine (ownRec_any v x _ (HX.out.2.1.below (Nat.le_refl _) HB2.out.2.2.2) HX.out.2.2).mono ?_
        rintro e w3 ⟨r', rfl, hor, hb3⟩
        have hz3 := hb3.size
        have HB3 : Hid (Below w.heap.size w w3 ∧ OwnL w3 w.heap.size B m d us ((xs.take k).filter fun _ => !false) ∧ OwnR w3 w.heap.size r' x) := ⟨HB2.out.1.trans (hb3.mono (by omega)), HB2.out.2.2.1.below (Nat.le_refl _) hb3, hor.mono (by omega)⟩
        have HWB : Hid _ := boxR_start w3 r'
        clear hor hb3
        go_wp2_with (at_builtin; refine wpList_append_row _ (by rfl) (.tmp 23) (.tmp 26) 46 (by rfl) w.heap.size 48 i48 _ 104 Try.underlying46 hi48 hz48 hs48 hb48 rfl (by decide) _ m _ (by rfl) (own_below HB3.out.2.1.1 (HWB.out _ rfl).1 (Nat.le_refl _)) (some ⟨w3.heap.size, 0, none⟩) 1 1 [r'] (by rfl) (rowR_box (HWB.out _ rfl).2.1) rec_len rec_one (by unfold maxLen; omega) (by omega) (by simp; omega) ?_; intro v4 w4 hown4 hg4; obtain ⟨A4, c4', rfl, _, _⟩ := own_form hown4; have HR : Hid (OwnL w4 w.heap.size A4 (m + 1) c4' (us ++ [r']) ((xs.take (k + 1)).filter (fun _ => !false)) ∧ Below w.heap.size w w4) := ⟨by rw [HFS2.out]; exact OwnL.snoc (HB3.out.2.1.below (Nat.le_refl _) (HWB.out _ rfl).1) (HB3.out.2.2.below (Nat.le_refl _) (HWB.out _ rfl).1) (by simpa using hown4) hg4, snoc_below (HB3.out.1.trans ((HWB.out _ rfl).1.mono HB3.out.1.size)) (own_below HB3.out.2.1.1 (HWB.out _ rfl).1 (Nat.le_refl _)) hg4⟩; clear hown4 hg4)
        go_roundw
        case rel => exact ⟨k + 1, A4, m + 1, c4', us ++ [r'], by omega, by go_num, rfl, HR.out.1, HR.out.2⟩
        case measure => simp [intOf]; omega
      · cases hpx
    · have HL : Hid (xs.take k = xs) := by show _ = _; exact List.take_of_length_le (by rw [← HT.out.1.len]; omega)
      go_wp2
      go_ret
      have h1 := HO.out.1
      rw [HL.out] at h1
      exact ⟨B, m, d, us, rfl, h1, hb⟩
set_option maxRecDepth 8000 in
set_option maxHeartbeats 2000000 in
theorem withoutName_any (A : Option Addr) (n c : Nat) (vs : List RV) (xs : List M.Rec) (p : Nat) (r : RV) (w : World) (ht : TreeR w A n vs xs) (hs : ∀ x ∈ xs, x.act.data.length ≤ 140737488355328) (hn : (n + 1) * 104 ≤ 140737488355328) (hp : BoxR w p r) :
    Calls Try.prog 38 #[.slice A n c, .func (.func 39) #[] #[.pointer (some ⟨p, 0, none⟩)]] w fun e w' => ∃ (B : Option Addr) (m d : Nat) (us : List RV), e = .returned (.slice B m d) ∧ OwnL w' w.heap.size B m d us (xs.filter fun x => !M.nameFB x.act r.a.fid) ∧ Below w.heap.size w w' := by
  obtain ⟨i48, hi48, hz48, hs48, hb48⟩ := info_parts info48
  have HT : Hid (TreeR w A n vs xs ∧ (∀ x ∈ xs, x.act.data.length ≤ 140737488355328) ∧ True ∧ BoxR w p r) := ⟨ht, hs, trivial, hp⟩
  clear ht hs hp
  have hbn : i48.bytes * (n + 1) ≤ 281474976710656 := by rw [hb48]; omega
  have HCC : Hid (((n : Int) + 1) = ((n + 1 : Nat) : Int)) := by show _ = _; omega
  go_enter Try.func38, Try.ntmps38
  go_wp2_with (at_make; refine wpList_make_own _ (by rfl) (.const (.int .i64 0)) (.tmp 10) 46 (by rfl) w.heap.size 48 i48 _ 9 Try.underlying46 hi48 hz48 hs48 .i64 .i64 _ (n + 1) rfl rfl HCC.out hbn (by unfold maxLen; omega) (Nat.le_refl _) ?_; intro w1 hown hg1; have hb1 := grown_below hg1; clear hg1)
  have H0 : Hid (OwnL w1 w.heap.size (some ⟨w.heap.size, 0, none⟩) 0 (n + 1) [] [] ∧ Below w.heap.size w w1) := ⟨⟨by simpa using hown, All2.nil⟩, hb1⟩
  clear hown hb1 HCC hbn
  go_loopw [5, 14] (fun v i wr => ∃ (k : Nat) (B : Option Addr) (m d : Nat) (us : List RV), k ≤ n ∧ i = .int .i64 k ∧ v = .slice B m d ∧ OwnL wr w.heap.size B m d us ((xs.take k).filter fun x => !M.nameFB x.act r.a.fid) ∧ Below w.heap.size w wr) (fun _ i _ => n - (intOf i).toNat)
  case atStart => exact ⟨0, _, 0, n + 1, [], Nat.zero_le _, rfl, rfl, by simpa using H0.out.1, H0.out.2⟩
  case round =>
    obtain ⟨k, B, m, d, us, hk, rfl, rfl, hol, hb⟩ := hrel
    have HO : Hid (OwnL wr w.heap.size B m d us ((xs.take k).filter fun x => !M.nameFB x.act r.a.fid) ∧ Below w.heap.size w wr) := ⟨hol, hb⟩
    have hml : m ≤ k := by
      rw [hol.tree.len]
      exact Nat.le_trans (List.length_filter_le _ _) (by simp; omega)
    have hsz := hb.size
    clear hol
    by_cases hlt : k < n
    · have htr := HT.out.1.below (Nat.le_refl _) hb
      obtain ⟨g, o, v, rfl, hgb, hvk, c0, c1, c2, c3, c4, c5, c6, c7, c8⟩ := htr.1.at hlt
      obtain ⟨x, hx, hcx⟩ := htr.2.at hvk
      have HX : Hid (xs[k]? = some x ∧ ContR wr v x ∧ x.act.data.length ≤ 140737488355328) := ⟨hx, hcx, HT.out.2.1 x (List.mem_of_getElem? hx)⟩
      have HWA : Hid _ := boxR_start wr v
      have HFS : Hid ((xs.take (k + 1)).filter (fun x => !M.nameFB x.act r.a.fid) = (xs.take k).filter (fun x => !M.nameFB x.act r.a.fid) ++ (if (!M.nameFB x.act r.a.fid) then [x] else [])) := filter_step hx fun x => !M.nameFB x.act r.a.fid
      clear hvk htr hx hcx
      go_wp2_with (fail)
      obtain ⟨q1, q2, q3⟩ := HWA.out _ rfl
      have hwq : Below w.heap.size w _ := hb.trans (q1.mono hsz)
      refine (add1_any v.a x.act p r _ (HX.out.2.1.1.below (Nat.le_refl _) q1) (HT.out.2.2.2.below hwq (lt_of_block HT.out.2.2.2))).mono ?_
      rintro e w2 ⟨rfl, hb2⟩
      have hz2 := hb2.size
      rw [q3] at hz2
      have h12 : Below wr.heap.size wr w2 := q1.trans (hb2.mono (by omega))
      have HB2 : Hid (Below w.heap.size w w2 ∧ BoxR w2 wr.heap.size v ∧ OwnL w2 w.heap.size B m d us ((xs.take k).filter fun x => !M.nameFB x.act r.a.fid) ∧ Below wr.heap.size wr w2) := ⟨hb.trans (h12.mono hsz), q2.below hb2 (by omega), HO.out.1.below (Nat.le_refl _) h12, h12⟩
      obtain ⟨b0, b1, b2, b3, b4, b5, b6, b7, b8, bf, bz⟩ := HB2.out.2.1.facts
      clear q1 q2 q3 hb2 HWA hwq h12 hb
      cases hpx : M.nameFB x.act r.a.fid
      · have HFS2 : Hid ((xs.take (k + 1)).filter (fun x => !M.nameFB x.act r.a.fid) = (xs.take k).filter (fun x => !M.nameFB x.act r.a.fid) ++ [x]) := by show _ = _; rw [HFS.out, hpx]; rfl
        go_wp2_with (fail)
        refine (ownRec_any v x _ (HX.out.2.1.below (Nat.le_refl _) HB2.out.2.2.2) HX.out.2.2).mono ?_
        rintro e w3 ⟨r', rfl, hor, hb3⟩
        have hz3 := hb3.size
        have HB3 : Hid (Below w.heap.size w w3 ∧ OwnL w3 w.heap.size B m d us ((xs.take k).filter fun x => !M.nameFB x.act r.a.fid) ∧ OwnR w3 w.heap.size r' x) := ⟨HB2.out.1.trans (hb3.mono (by omega)), HB2.out.2.2.1.below (Nat.le_refl _) hb3, hor.mono (by omega)⟩
        have HWB : Hid _ := boxR_start w3 r'
        clear hor hb3
        go_wp2_with (at_builtin; refine wpList_append_row _ (by rfl) (.tmp 23) (.tmp 26) 46 (by rfl) w.heap.size 48 i48 _ 104 Try.underlying46 hi48 hz48 hs48 hb48 rfl (by decide) _ m _ (by rfl) (own_below HB3.out.2.1.1 (HWB.out _ rfl).1 (Nat.le_refl _)) (some ⟨w3.heap.size, 0, none⟩) 1 1 [r'] (by rfl) (rowR_box (HWB.out _ rfl).2.1) rec_len rec_one (by unfold maxLen; omega) (by omega) (by simp; omega) ?_; intro v4 w4 hown4 hg4; obtain ⟨A4, c4', rfl, _, _⟩ := own_form hown4; have HR : Hid (OwnL w4 w.heap.size A4 (m + 1) c4' (us ++ [r']) ((xs.take (k + 1)).filter (fun x => !M.nameFB x.act r.a.fid)) ∧ Below w.heap.size w w4) := ⟨by rw [HFS2.out]; exact OwnL.snoc (HB3.out.2.1.below (Nat.le_refl _) (HWB.out _ rfl).1) (HB3.out.2.2.below (Nat.le_refl _) (HWB.out _ rfl).1) (by simpa using hown4) hg4, snoc_below (HB3.out.1.trans ((HWB.out _ rfl).1.mono HB3.out.1.size)) (own_below HB3.out.2.1.1 (HWB.out _ rfl).1 (Nat.le_refl _)) hg4⟩; clear hown4 hg4)
        go_roundw
        case rel => exact ⟨k + 1, A4, m + 1, c4', us ++ [r'], by omega, by go_num, rfl, HR.out.1, HR.out.2⟩
        case measure => simp [intOf]; omega
      · have HFS2 : Hid ((xs.take (k + 1)).filter (fun x => !M.nameFB x.act r.a.fid) = (xs.take k).filter (fun x => !M.nameFB x.act r.a.fid)) := by show _ = _; rw [HFS.out, hpx]; simp
        go_wp2
        go_roundw
        case rel => exact ⟨k + 1, B, m, d, us, by omega, by go_num, rfl, by rw [HFS2.out]; exact HB2.out.2.2.1, HB2.out.1⟩
        case measure => simp [intOf]; omega
    · have HL : Hid (xs.take k = xs) := by show _ = _; exact List.take_of_length_le (by rw [← HT.out.1.len]; omega)
      go_wp2
      go_ret
      have h1 := HO.out.1
      rw [HL.out] at h1
      exact ⟨B, m, d, us, rfl, h1, hb⟩
set_option maxRecDepth 8000 in
set_option maxHeartbeats 2000000 in
theorem withoutOver_any (A : Option Addr) (n c : Nat) (vs : List RV) (xs : List M.Rec) (p : Nat) (r : RV) (y : M.Act) (w : World) (ht : TreeR w A n vs xs) (hs : ∀ x ∈ xs, x.act.data.length ≤ 140737488355328) (hn : (n + 1) * 104 ≤ 140737488355328) (hp : BoxR w p r) (hr : ContA w r.a y) :
    Calls Try.prog 38 #[.slice A n c, .func (.func 41) #[] #[.pointer (some ⟨p, 0, none⟩)]] w fun e w' => ∃ (B : Option Addr) (m d : Nat) (us : List RV), e = .returned (.slice B m d) ∧ OwnL w' w.heap.size B m d us (xs.filter fun x => !M.overB y x.act) ∧ Below w.heap.size w w' := by
  obtain ⟨i48, hi48, hz48, hs48, hb48⟩ := info_parts info48
  have HT : Hid (TreeR w A n vs xs ∧ (∀ x ∈ xs, x.act.data.length ≤ 140737488355328) ∧ True ∧ BoxR w p r ∧ ContA w r.a y) := ⟨ht, hs, trivial, hp, hr⟩
  clear ht hs hp hr
  have hbn : i48.bytes * (n + 1) ≤ 281474976710656 := by rw [hb48]; omega
  have HCC : Hid (((n : Int) + 1) = ((n + 1 : Nat) : Int)) := by show _ = _; omega
  go_enter Try.func38, Try.ntmps38
  go_wp2_with (at_make; refine wpList_make_own _ (by rfl) (.const (.int .i64 0)) (.tmp 10) 46 (by rfl) w.heap.size 48 i48 _ 9 Try.underlying46 hi48 hz48 hs48 .i64 .i64 _ (n + 1) rfl rfl HCC.out hbn (by unfold maxLen; omega) (Nat.le_refl _) ?_; intro w1 hown hg1; have hb1 := grown_below hg1; clear hg1)
  have H0 : Hid (OwnL w1 w.heap.size (some ⟨w.heap.size, 0, none⟩) 0 (n + 1) [] [] ∧ Below w.heap.size w w1) := ⟨⟨by simpa using hown, All2.nil⟩, hb1⟩
  clear hown hb1 HCC hbn
  go_loopw [5, 14] (fun v i wr => ∃ (k : Nat) (B : Option Addr) (m d : Nat) (us : List RV), k ≤ n ∧ i = .int .i64 k ∧ v = .slice B m d ∧ OwnL wr w.heap.size B m d us ((xs.take k).filter fun x => !M.overB y x.act) ∧ Below w.heap.size w wr) (fun _ i _ => n - (intOf i).toNat)
  case atStart => exact ⟨0, _, 0, n + 1, [], Nat.zero_le _, rfl, rfl, by simpa using H0.out.1, H0.out.2⟩
  case round =>
    obtain ⟨k, B, m, d, us, hk, rfl, rfl, hol, hb⟩ := hrel
    have HO : Hid (OwnL wr w.heap.size B m d us ((xs.take k).filter fun x => !M.overB y x.act) ∧ Below w.heap.size w wr) := ⟨hol, hb⟩
    have hml : m ≤ k := by
      rw [hol.tree.len]
      exact Nat.le_trans (List.length_filter_le _ _) (by simp; omega)
    have hsz := hb.size
    clear hol
    by_cases hlt : k < n
    · have htr := HT.out.1.below (Nat.le_refl _) hb
      obtain ⟨g, o, v, rfl, hgb, hvk, c0, c1, c2, c3, c4, c5, c6, c7, c8⟩ := htr.1.at hlt
      obtain ⟨x, hx, hcx⟩ := htr.2.at hvk
      have HX : Hid (xs[k]? = some x ∧ ContR wr v x ∧ x.act.data.length ≤ 140737488355328) := ⟨hx, hcx, HT.out.2.1 x (List.mem_of_getElem? hx)⟩
      have HWA : Hid _ := boxR_start wr v
      have HFS : Hid ((xs.take (k + 1)).filter (fun x => !M.overB y x.act) = (xs.take k).filter (fun x => !M.overB y x.act) ++ (if (!M.overB y x.act) then [x] else [])) := filter_step hx fun x => !M.overB y x.act
      clear hvk htr hx hcx
      go_wp2_with (fail)
      obtain ⟨q1, q2, q3⟩ := HWA.out _ rfl
      have hwq : Below w.heap.size w _ := hb.trans (q1.mono hsz)
      refine (add2_any v.a x.act p r y _ (HX.out.2.1.1.below (Nat.le_refl _) q1) (HT.out.2.2.2.1.below hwq (lt_of_block HT.out.2.2.2.1)) (HT.out.2.2.2.2.below (Nat.le_refl _) hwq)).mono ?_
      rintro e w2 ⟨rfl, hb2⟩
      have hz2 := hb2.size
      rw [q3] at hz2
      have h12 : Below wr.heap.size wr w2 := q1.trans (hb2.mono (by omega))
      have HB2 : Hid (Below w.heap.size w w2 ∧ BoxR w2 wr.heap.size v ∧ OwnL w2 w.heap.size B m d us ((xs.take k).filter fun x => !M.overB y x.act) ∧ Below wr.heap.size wr w2) := ⟨hb.trans (h12.mono hsz), q2.below hb2 (by omega), HO.out.1.below (Nat.le_refl _) h12, h12⟩
      obtain ⟨b0, b1, b2, b3, b4, b5, b6, b7, b8, bf, bz⟩ := HB2.out.2.1.facts
      clear q1 q2 q3 hb2 HWA hwq h12 hb
      cases hpx : M.overB y x.act
      · have HFS2 : Hid ((xs.take (k + 1)).filter (fun x => !M.overB y x.act) = (xs.take k).filter (fun x => !M.overB y x.act) ++ [x]) := by show _ = _; rw [HFS.out, hpx]; rfl
        go_wp2_with (fail)
        refine (ownRec_any v x _ (HX.out.2.1.below (Nat.le_refl _) HB2.out.2.2.2) HX.out.2.2).mono ?_
        rintro e w3 ⟨r', rfl, hor, hb3⟩
        have hz3 := hb3.size
        have HB3 : Hid (Below w.heap.size w w3 ∧ OwnL w3 w.heap.size B m d us ((xs.take k).filter fun x => !M.overB y x.act) ∧ OwnR w3 w.heap.size r' x) := ⟨HB2.out.1.trans (hb3.mono (by omega)), HB2.out.2.2.1.below (Nat.le_refl _) hb3, hor.mono (by omega)⟩
        have HWB : Hid _ := boxR_start w3 r'
        clear hor hb3
        go_wp2_with (at_builtin; refine wpList_append_row _ (by rfl) (.tmp 23) (.tmp 26) 46 (by rfl) w.heap.size 48 i48 _ 104 Try.underlying46 hi48 hz48 hs48 hb48 rfl (by decide) _ m _ (by rfl) (own_below HB3.out.2.1.1 (HWB.out _ rfl).1 (Nat.le_refl _)) (some ⟨w3.heap.size, 0, none⟩) 1 1 [r'] (by rfl) (rowR_box (HWB.out _ rfl).2.1) rec_len rec_one (by unfold maxLen; omega) (by omega) (by simp; omega) ?_; intro v4 w4 hown4 hg4; obtain ⟨A4, c4', rfl, _, _⟩ := own_form hown4; have HR : Hid (OwnL w4 w.heap.size A4 (m + 1) c4' (us ++ [r']) ((xs.take (k + 1)).filter (fun x => !M.overB y x.act)) ∧ Below w.heap.size w w4) := ⟨by rw [HFS2.out]; exact OwnL.snoc (HB3.out.2.1.below (Nat.le_refl _) (HWB.out _ rfl).1) (HB3.out.2.2.below (Nat.le_refl _) (HWB.out _ rfl).1) (by simpa using hown4) hg4, snoc_below (HB3.out.1.trans ((HWB.out _ rfl).1.mono HB3.out.1.size)) (own_below HB3.out.2.1.1 (HWB.out _ rfl).1 (Nat.le_refl _)) hg4⟩; clear hown4 hg4)
        go_roundw
        case rel => exact ⟨k + 1, A4, m + 1, c4', us ++ [r'], by omega, by go_num, rfl, HR.out.1, HR.out.2⟩
        case measure => simp [intOf]; omega
      · have HFS2 : Hid ((xs.take (k + 1)).filter (fun x => !M.overB y x.act) = (xs.take k).filter (fun x => !M.overB y x.act)) := by show _ = _; rw [HFS.out, hpx]; simp
        go_wp2
        go_roundw
        case rel => exact ⟨k + 1, B, m, d, us, by omega, by go_num, rfl, by rw [HFS2.out]; exact HB2.out.2.2.1, HB2.out.1⟩
        case measure => simp [intOf]; omega
    · have HL : Hid (xs.take k = xs) := by show _ = _; exact List.take_of_length_le (by rw [← HT.out.1.len]; omega)
      go_wp2
      go_ret
      have h1 := HO.out.1
      rw [HL.out] at h1
      exact ⟨B, m, d, us, rfl, h1, hb⟩
end Go.Proofs.Ytlegjdlmcphhlab
/-
  PACKAGE logs: Own, Add, Acts.
-/
namespace Go.Proofs.Ytlegjdlmcphhlab
open Go.RowKit

theorem ownLog_any (A : Option Addr) (n c : Nat) (vs : List RV) (xs : List M.Rec) (w : World) (ht : TreeR w A n vs xs) (hs : ∀ x ∈ xs, x.act.data.length ≤ 140737488355328) (hn : (n + 1) * 104 ≤ 140737488355328) :
    Calls Try.prog 21 #[.slice A n c] w fun e w' => ∃ (B : Option Addr) (m d : Nat) (us : List RV), e = .returned (.slice B m d) ∧ OwnL w' w.heap.size B m d us xs ∧ Below w.heap.size w w' := by
  have HT : Hid (TreeR w A n vs xs ∧ (∀ x ∈ xs, x.act.data.length ≤ 140737488355328)) := ⟨ht, hs⟩
  clear ht hs
  go_enter Try.func21, Try.ntmps21
  go_wp2_with (fail)
  refine (withoutOwn_any A n c vs xs w HT.out.1 HT.out.2 hn).mono ?_
  rintro e w1 ⟨B, m, d, us, rfl, ho, hb⟩
  have HO : Hid (OwnL w1 w.heap.size B m d us xs ∧ Below w.heap.size w w1) := ⟨by have e : (xs.filter fun _ => !false) = xs := List.filter_eq_self.2 (fun _ _ => rfl); rw [e] at ho; exact ho, hb⟩
  clear ho hb
  go_wp2
  go_ret
  exact ⟨B, m, d, us, rfl, HO.out.1, HO.out.2⟩

/-- what Add answers -/
def Added (w : World) (spec : Int × List M.Rec) (e : Ending) (w' : World) : Prop :=
  ∃ (B : Option Addr) (m d : Nat) (us : List RV), e = .returned (.tuple #[.slice B m d, .int .i64 spec.1]) ∧ OwnL w' w.heap.size B m d us spec.2 ∧ Below w.heap.size w w'
theorem Added.of {w w' : World} {s t : Int × List M.Rec} (h : s = t) {B : Option Addr} {m d : Nat} {us : List RV} (ho : OwnL w' w.heap.size B m d us t.2) (hb : Below w.heap.size w w') : Added w s (.returned (.tuple #[.slice B m d, .int .i64 t.1])) w' := by
  subst h; exact ⟨B, m, d, us, rfl, ho, hb⟩
set_option maxRecDepth 8000 in
set_option maxHeartbeats 2000000 in
theorem add_any (A : Option Addr) (n c : Nat) (vs : List RV) (xs : List M.Rec) (r : RV) (x : M.Rec) (w : World) (ht : TreeR w A n vs xs) (hs : ∀ x ∈ xs, x.act.data.length ≤ 140737488355328) (hn : (n + 2) * 104 ≤ 140737488355328) (hnc : n ≤ c) (hcm : c ≤ maxLen) (hr : ContR w r x) (hsx : x.act.data.length ≤ 140737488355328) :
    Calls Try.prog 18 #[.slice A n c, r.val] w (Added w (M.addS xs x)) := by
  obtain ⟨i48, hi48, hz48, hs48, hb48⟩ := info_parts info48
  have HW : Hid _ := boxR_start w r
  have HT : Hid (TreeR w A n vs xs ∧ (∀ x ∈ xs, x.act.data.length ≤ 140737488355328) ∧ ContR w r x ∧ x.act.data.length ≤ 140737488355328) := ⟨ht, hs, hr, hsx⟩
  have HNL : Hid (n = xs.length) := ht.len
  clear ht hs hr hsx
  go_enter Try.func18, Try.ntmps18
  go_wp2_with (fail)
  obtain ⟨q1, q2, q3⟩ := HW.out _ rfl
  refine (undoes_any r.a x.act A n c vs xs _ (HT.out.2.2.1.1.below (Nat.le_refl _) q1) (HT.out.1.below (Nat.le_refl _) q1) (by omega) hnc hcm).mono ?_
  rintro e w1 ⟨rfl, hb1⟩
  have hz1 := hb1.size
  rw [q3] at hz1
  have HB : Hid (Below w.heap.size w w1 ∧ BoxR w1 w.heap.size r) := ⟨q1.trans (hb1.mono (by omega)), q2.below hb1 (by omega)⟩
  clear q1 q2 q3 hb1 HW
  have hsz := HB.out.1.size
  cases hu : M.undoB xs x.act
  · go_wp2_with (fail)
    refine (withoutOver_any A n c vs xs w.heap.size r x.act w1 (HT.out.1.below (Nat.le_refl _) HB.out.1) HT.out.2.1 (by omega) HB.out.2 (HT.out.2.2.1.1.below (Nat.le_refl _) HB.out.1)).mono ?_
    rintro e w2 ⟨B, m, d, us, rfl, ho, hb2⟩
    have hz2 := hb2.size
    have hm := ho.tree.len
    have hml : m ≤ n := by rw [hm, HNL.out]; exact List.length_filter_le _ _
    have HB2 : Hid (Below w.heap.size w w2 ∧ BoxR w2 w.heap.size r ∧ OwnL w2 w.heap.size B m d us (xs.filter fun y => !M.overB x.act y.act)) := ⟨HB.out.1.trans (hb2.mono hsz), HB.out.2.below hb2 (by omega), ho.mono (by omega)⟩
    have HU : Hid (M.addS xs x = if 20 ≤ m then (5, []) else (0, (xs.filter fun y => !M.overB x.act y.act) ++ [x])) := by
      show _ = _
      unfold M.addS
      rw [hu, if_neg (by simp), ← hm]
    obtain ⟨b0, b1, b2, b3, b4, b5, b6, b7, b8, bf, bz⟩ := HB2.out.2.1.facts
    clear ho hb2 hm hu
    by_cases h20 : 20 ≤ m
    · have h20' : (20 : Int) ≤ (m : Int) := by omega
      have HU2 : Hid (M.addS xs x = (5, [])) := by show _ = _; rw [HU.out, if_pos h20]
      go_wp2
      go_ret2
      exact Added.of HU2.out (OwnL.nil _ _) HB2.out.1
    · have h20' : ¬ (20 : Int) ≤ (m : Int) := by omega
      have HU2 : Hid (M.addS xs x = (0, (xs.filter fun y => !M.overB x.act y.act) ++ [x])) := by show _ = _; rw [HU.out, if_neg h20]
      go_wp2_with (fail)
      refine (ownRec_any r x _ (HT.out.2.2.1.below (Nat.le_refl _) HB2.out.1) HT.out.2.2.2).mono ?_
      rintro e w3 ⟨r', rfl, hor, hb3⟩
      have hz3 := hb3.size
      have HB3 : Hid (Below w.heap.size w w3 ∧ OwnL w3 w.heap.size B m d us (xs.filter fun y => !M.overB x.act y.act) ∧ OwnR w3 w.heap.size r' x) := ⟨HB2.out.1.trans (hb3.mono (by omega)), HB2.out.2.2.below (Nat.le_refl _) hb3, hor.mono (by omega)⟩
      have HWB : Hid _ := boxR_start w3 r'
      clear hor hb3
      go_wp2_with (at_builtin; refine wpList_append_row _ (by rfl) (.tmp 19) (.tmp 22) 46 (by rfl) w.heap.size 48 i48 _ 104 Try.underlying46 hi48 hz48 hs48 hb48 rfl (by decide) _ m _ (by rfl) (own_below HB3.out.2.1.1 (HWB.out _ rfl).1 (Nat.le_refl _)) (some ⟨w3.heap.size, 0, none⟩) 1 1 [r'] (by rfl) (rowR_box (HWB.out _ rfl).2.1) rec_len rec_one (by unfold maxLen; omega) (by omega) (by simp; omega) ?_; intro v4 w4 hown4 hg4; obtain ⟨A4, c4', rfl, _, _⟩ := own_form hown4; have HR : Hid (OwnL w4 w.heap.size A4 (m + 1) c4' (us ++ [r']) ((xs.filter fun y => !M.overB x.act y.act) ++ [x]) ∧ Below w.heap.size w w4) := ⟨OwnL.snoc (HB3.out.2.1.below (Nat.le_refl _) (HWB.out _ rfl).1) (HB3.out.2.2.below (Nat.le_refl _) (HWB.out _ rfl).1) (by simpa using hown4) hg4, snoc_below (HB3.out.1.trans ((HWB.out _ rfl).1.mono HB3.out.1.size)) (own_below HB3.out.2.1.1 (HWB.out _ rfl).1 (Nat.le_refl _)) hg4⟩; clear hown4 hg4)
      go_ret2
      exact Added.of HU2.out HR.out.1 HR.out.2
  · have HU : Hid (M.addS xs x = (0, xs.filter fun y => !M.nameFB y.act r.a.fid)) := by
      show _ = _
      unfold M.addS
      rw [hu, if_pos rfl, HT.out.2.2.1.1.2.1]
    clear hu
    go_wp2_with (fail)
    refine (withoutName_any A n c vs xs w.heap.size r w1 (HT.out.1.below (Nat.le_refl _) HB.out.1) HT.out.2.1 (by omega) HB.out.2).mono ?_
    rintro e w2 ⟨B, m, d, us, rfl, ho, hb2⟩
    have HB2 : Hid (Below w.heap.size w w2 ∧ OwnL w2 w.heap.size B m d us (xs.filter fun y => !M.nameFB y.act r.a.fid)) := ⟨HB.out.1.trans (hb2.mono hsz), ho.mono hsz⟩
    clear ho hb2
    go_wp2
    go_ret2
    exact Added.of HU.out HB2.out.2 HB2.out.1
/-- b for a -/
def turnI (f a b : Int) : Int := if f = a then b else f
theorem turn1_any (f a b : Int) (p q : Nat) (w : World) (hp : w.cell? ⟨p, 0, none⟩ = some (.int .i64 a)) (hq : w.cell? ⟨q, 0, none⟩ = some (.int .i64 b)) :
    Calls Try.prog 46 #[.int .i64 f, .pointer (some ⟨p, 0, none⟩), .pointer (some ⟨q, 0, none⟩)] w fun e w' => e = .returned (.int .i64 (turnI f a b)) ∧ w' = w := by
  by_cases h : f = a
  · have HI : Hid (turnI f a b = b) := by show _ = _; unfold turnI; rw [if_pos h]
    have k : (f == a) = true := by simp [h]
    clear h
    go_enter Try.func46, Try.ntmps46
    go_wp2
    go_ret
    exact ⟨ret_int HI.out.symm, rfl⟩
  · have HI : Hid (turnI f a b = f) := by show _ = _; unfold turnI; rw [if_neg h]
    have k : (f == a) = false := by simp [h]
    clear h
    go_enter Try.func46, Try.ntmps46
    go_wp2
    go_ret
    exact ⟨ret_int HI.out.symm, rfl⟩
end Go.Proofs.Ytlegjdlmcphhlab
/-
  A REGION THAT DRAWS THE ORDER OF MANY OPERATIONS: of each operation it is said what its value is, in words that last while memory below is as it was;
  each operation is looked at once, whatever came up before it.
-/
namespace Go.Proofs.Ytlegjdlmcphhlab
open Go.RowKit

/-- the slot of operation j -/
def slotAt (ops : Array Oper) (j : Nat) : Nat := ((ops[j]?).bind (·.dst)).getD 0
/-- each operation has a slot of its own in the frame, and waits for earlier ones alone -/
def tidy (ops : Array Oper) (size : Nat) : Bool :=
  (List.range ops.size).all fun i => match ops[i]? with
    | some o => (o.after.all fun e => decide (e.on < i)) && (match o.dst with
        | some d => decide (d < size) && ((List.range i).all fun j => ((ops[j]?).bind (·.dst)) != some d)
        | none => false)
    | none => true
/-- operation i waits for operation j -/
def waits (o : Oper) (j : Nat) : Bool := o.after.any fun e => Region.binds .any e && e.on == j
/-- slot t is no operation's -/
def apart (ops : Array Oper) (t : Nat) : Bool := ops.all fun o => o.dst != some t

theorem tidy_at {ops : Array Oper} {size i : Nat} {o : Oper} (h : tidy ops size = true) (hi : ops[i]? = some o) :
    (∀ e ∈ o.after, e.on < i) ∧ ∃ d, o.dst = some d ∧ d < size ∧ slotAt ops i = d ∧ ∀ j, j < i → ((ops[j]?).bind (·.dst)) ≠ some d := by
  unfold tidy at h
  rw [List.all_eq_true] at h
  have hlt : i < ops.size := (Array.getElem?_eq_some_iff.1 hi).1
  have h1 := h i (List.mem_range.2 hlt)
  rw [hi] at h1
  simp only [Bool.and_eq_true] at h1
  obtain ⟨h2, h3⟩ := h1
  refine ⟨fun e he => ?_, ?_⟩
  · have := Array.all_eq_true_iff_forall_mem.1 h2 e he
    simpa using this
  · cases hd : o.dst with
    | none => rw [hd] at h3; cases h3
    | some d =>
      rw [hd] at h3
      simp only [Bool.and_eq_true, decide_eq_true_eq, List.all_eq_true, List.mem_range] at h3
      refine ⟨d, rfl, h3.1, by simp [slotAt, hi, hd], fun j hj => ?_⟩
      have := h3.2 j hj
      simpa using this

theorem tidy_ne {ops : Array Oper} {size i j : Nat} {o u : Oper} (h : tidy ops size = true) (hi : ops[i]? = some o) (hj : ops[j]? = some u) (hne : i ≠ j) : slotAt ops i ≠ slotAt ops j := by
  obtain ⟨_, d, hd, _, hs, hall⟩ := tidy_at h hi
  obtain ⟨_, e, he, _, ht, hall'⟩ := tidy_at h hj
  rw [hs, ht]
  intro hde
  subst hde
  rcases Nat.lt_or_gt_of_ne hne with hl | hl
  · exact hall' i hl (by rw [hi]; exact hd)
  · exact hall j hl (by rw [hj]; exact he)

/-- what lasts while memory below is as it was -/
def Stays (p : Value → World → Prop) : Prop := ∀ v w w', Below w.heap.size w w' → p v w → p v w'

/-- the frame behind some operations of the region -/
structure Framed (ops : Array Oper) (a0 a : Act) : Prop where
  size : a.tmps.size = a0.tmps.size
  defers : a.defers = a0.defers
  keeps : ∀ t, apart ops t = true → a.eval (.tmp t) = a0.eval (.tmp t)

/-- slot t holds, when operation i comes up, what it held when the region began: whoever writes it waits for i -/
def freeFor (ops : Array Oper) (i t : Nat) : Bool := (List.range ops.size).all fun j => match ops[j]? with
  | some o => j == i || o.dst != some t || waits o i
  | none => true
structure FramedAt (ops : Array Oper) (i : Nat) (a0 a : Act) : Prop where
  size : a.tmps.size = a0.tmps.size
  defers : a.defers = a0.defers
  keeps : ∀ t, freeFor ops i t = true → a.eval (.tmp t) = a0.eval (.tmp t)
/-- the frame behind the operations that are listed; what is listed waits for nothing more -/
structure FramedBy (ops : Array Oper) (listed : Array Bool) (a0 a : Act) : Prop where
  size : a.tmps.size = a0.tmps.size
  defers : a.defers = a0.defers
  keeps : ∀ t, (∀ j o, ops[j]? = some o → listed.getD j true = true → o.dst ≠ some t) → a.eval (.tmp t) = a0.eval (.tmp t)
  closed : ∀ j o, ops[j]? = some o → listed.getD j true = true → ∀ i, waits o i = true → listed.getD i true = true
theorem FramedBy.at_ {ops : Array Oper} {listed : Array Bool} {a0 a : Act} (h : FramedBy ops listed a0 a) {i : Nat} (hi : listed.getD i true = false) : FramedAt ops i a0 a := by
  refine ⟨h.size, h.defers, fun t ht => h.keeps t fun j o hj hl hd => ?_⟩
  unfold freeFor at ht
  rw [List.all_eq_true] at ht
  have h1 := ht j (List.mem_range.2 (Array.getElem?_eq_some_iff.1 hj).1)
  simp only [hj, hd, bne_self_eq_false, Bool.or_false, Bool.or_eq_true, beq_iff_eq] at h1
  rcases h1 with h1 | h1
  · subst h1; rw [hl] at hi; cases hi
  · have := h.closed j o hj hl i h1; rw [this] at hi; cases hi
theorem FramedBy.all {ops : Array Oper} {listed : Array Bool} {a0 a : Act} (h : FramedBy ops listed a0 a) : Framed ops a0 a := by
  refine ⟨h.size, h.defers, fun t ht => h.keeps t fun j o hj _ hd => ?_⟩
  have := Array.all_eq_true_iff_forall_mem.1 ht o (Array.mem_of_getElem? hj)
  simp [hd] at this
theorem FramedBy.put {ops : Array Oper} {listed : Array Bool} {a0 a : Act} (h : FramedBy ops listed a0 a) {i : Nat} {o : Oper} (hi : ops[i]? = some o) (hsz : listed.size = ops.size)
    (hw : ∀ j, waits o j = true → listed.getD j true = true) (v : Value) : FramedBy ops (listed.setIfInBounds i true) a0 (a.put o.dst v) := by
  have hil : i < listed.size := by rw [hsz]; exact (Array.getElem?_eq_some_iff.1 hi).1
  have hself : (listed.setIfInBounds i true).getD i true = true := by simp [hil]
  have hup : ∀ j, listed.getD j true = true → (listed.setIfInBounds i true).getD j true = true := by
    intro j hj
    by_cases hji : j = i
    · rw [hji]; exact hself
    · rw [getD_set_ne true (Ne.symm hji)]; exact hj
  refine ⟨?_, ?_, fun t ht => ?_, fun j u hj hl q hq => ?_⟩
  · cases hd : o.dst <;> simp [Act.put, h.size]
  · cases hd : o.dst <;> simp [Act.put, h.defers]
  · rw [Act.eval_put, h.keeps t fun j u hj hl => ht j u hj (hup j hl)]
    intro d hd e
    injection e with e
    exact ht i o hi hself (by rw [hd, e])
  · by_cases hji : j = i
    · subst hji
      rw [hi] at hj
      injection hj with hj
      subst hj
      exact hup q (hw q hq)
    · rw [getD_set_ne true (Ne.symm hji)] at hl
      exact hup q (h.closed j u hj hl q hq)

/-- What is asked of operation i: whatever came up before it, its value is as it is said. -/
def StepAt (P : Program) (ops : Array Oper) (Q : Exit → Act → World → Prop) (a0 : Act) (w0 : World) (V : Nat → Value → World → Prop) (i : Nat) : Prop :=
  ∀ o, ops[i]? = some o → ∀ a w, FramedAt ops i a0 a → Below w0.heap.size w0 w → (∀ j, waits o j = true → V j (a.eval (.tmp (slotAt ops j))) w) →
    ∀ K : Act → World → Prop, Hid (∀ v w', Below w.heap.size w w' → V i v w' → K (a.put o.dst v) w') →
      if Region.wanted o (yielded ops a.tmps) = true then Oper.wp P o a w K Q else K (a.put o.dst undef) w

def unlisted (listed : Array Bool) : Nat := (listed.toList.filter (fun b => !b)).length

theorem unlisted_set {listed : Array Bool} {i : Nat} (h : listed.getD i true = false) : unlisted (listed.setIfInBounds i true) + 1 = unlisted listed := by
  obtain ⟨l⟩ := listed
  simp only [unlisted, Array.getD_eq_getD_getElem?, List.getElem?_toArray, List.setIfInBounds_toArray] at h ⊢
  induction l generalizing i with
  | nil => simp at h
  | cons b l ih =>
    cases i with
    | zero => simp at h; subst h; simp
    | succ i =>
      simp only [List.getElem?_cons_succ] at h
      have := ih (i := i) (by simpa using h)
      cases b <;> simp [List.set_cons_succ] at this ⊢ <;> omega

theorem wpAny_vals {P : Program} {ops : Array Oper} {Q : Exit → Act → World → Prop} {a0 : Act} {w0 : World} {V : Nat → Value → World → Prop} (ht : tidy ops a0.tmps.size = true) (hst : ∀ i, Stays (V i))
    (steps : ∀ i, i < ops.size → StepAt P ops Q a0 w0 V i)
    (last : ∀ a w, Framed ops a0 a → Below w0.heap.size w0 w → (∀ j, j < ops.size → V j (a.eval (.tmp (slotAt ops j))) w) → Q .normal a w) :
    ∀ (fuel : Nat) (listed : Array Bool) (a : Act) (w : World), listed.size = ops.size → unlisted listed ≤ fuel → FramedBy ops listed a0 a → Below w0.heap.size w0 w →
      (∀ j, j < ops.size → listed.getD j true = true → V j (a.eval (.tmp (slotAt ops j))) w) → wpAny P .any ops Q fuel listed a w := by
  have hdone : ∀ (listed : Array Bool), listed.size = ops.size → Region.ready .any ops listed = [] → ∀ j, j < ops.size → listed.getD j true = true := by
    intro listed hsz hr j
    induction j using Nat.strongRecOn with
    | ind j ih =>
      intro hj
      cases hb : listed.getD j true with
      | true => rfl
      | false =>
        have ho : ops[j]? = some ops[j] := Array.getElem?_eq_getElem hj
        have hm : j ∈ Region.ready .any ops listed := by
          rw [mem_ready]
          refine ⟨hb, _, ho, fun e he _ => ?_⟩
          have hlt := (tidy_at ht ho).1 e he
          have h1 := ih e.on hlt (by omega)
          have h2 : e.on < listed.size := by omega
          simp only [Array.getD_eq_getD_getElem?, Array.getElem?_eq_getElem h2, Option.getD_some] at h1 ⊢
          exact h1
        rw [hr] at hm
        cases hm
  intro fuel
  induction fuel with
  | zero =>
    intro listed a w hsz hu hf hb hV
    have hall : ∀ j, listed.getD j true = true := by
      intro j
      have h0 : listed.toList.filter (fun b => !b) = [] := List.eq_nil_of_length_eq_zero (by simpa [unlisted] using hu)
      rw [List.filter_eq_nil_iff] at h0
      rcases Nat.lt_or_ge j listed.size with h | h
      · have := h0 listed[j] (by simp)
        simp [h] at this ⊢
        exact this
      · simp [h]
    refine ⟨?_, last a w hf.all hb fun j hj => hV j hj (hall j)⟩
    unfold Region.ready
    rw [List.filter_eq_nil_iff]
    intro j _
    rw [hall j]
    simp
  | succ fuel ih =>
    intro listed a w hsz hu hf hb hV
    refine ⟨fun hr => last a w hf.all hb fun j hj => hV j hj (hdone listed hsz hr j hj), fun i hi => ?_⟩
    obtain ⟨hun, o, ho, hall⟩ := mem_ready.1 hi
    have hilt : i < ops.size := (Array.getElem?_eq_some_iff.1 ho).1
    obtain ⟨hback, d, hd, hdlt, hslot, _⟩ := tidy_at ht ho
    refine wpOp_step ho fun K' hK => ?_
    have hlw : ∀ j, waits o j = true → listed.getD j true = true := by
      intro j hj
      obtain ⟨e, he, hbe⟩ := Array.any_eq_true'.1 hj
      simp only [Bool.and_eq_true, beq_iff_eq] at hbe
      have h1 := hall e he hbe.1
      have h2 := hback e he
      rw [← hbe.2]
      have h3 : e.on < listed.size := by omega
      simp only [Array.getD_eq_getD_getElem?, Array.getElem?_eq_getElem h3, Option.getD_some] at h1 ⊢
      exact h1
    refine steps i hilt o ho a w (hf.at_ hun) hb ?_ K' ?_
    · intro j hj
      obtain ⟨e, he, hbe⟩ := Array.any_eq_true'.1 hj
      simp only [Bool.and_eq_true, beq_iff_eq] at hbe
      have h1 := hall e he hbe.1
      have h2 := hback e he
      rw [← hbe.2]
      refine hV e.on (by omega) ?_
      have h3 : e.on < listed.size := by omega
      simp only [Array.getD_eq_getD_getElem?, Array.getElem?_eq_getElem h3, Option.getD_some] at h1 ⊢
      exact h1
    · intro v w' hw hv
      refine hK _ _ (ih _ _ _ (by simp [hsz]) (by have := unlisted_set hun; omega) (hf.put ho hsz hlw v) (hb.trans (hw.mono hb.size)) fun j hj hl => ?_)
      by_cases hji : j = i
      · subst hji
        have : (a.put o.dst v).eval (.tmp (slotAt ops j)) = v := by
          rw [hslot, hd]
          have hlt : d < a.tmps.size := by rw [hf.size]; exact hdlt
          simp [Act.eval, Act.put, hlt]
        rw [this]
        exact hv
      · have hoj : ops[j]? = some ops[j] := Array.getElem?_eq_getElem hj
        have hne := tidy_ne ht hoj ho hji
        rw [Act.eval_put (by intro d' hd' e; injection e with e; rw [hd] at hd'; injection hd' with hd'; rw [hslot] at hne; exact hne (e.trans hd'.symm))]
        rw [getD_set_ne true (Ne.symm hji)] at hl
        exact hst j _ _ _ hw (hV j hj hl)

/-- THE RULE. -/
theorem wp_region_vals {P : Program} {ops : Array Oper} {Q : Exit → Act → World → Prop} {a0 : Act} {w0 : World} (V : Nat → Value → World → Prop) {id : Nat} (hm : P.follows .mixedOrders = true)
    (ht : tidy ops a0.tmps.size = true) (hst : ∀ i, Stays (V i)) (steps : ∀ i, i < ops.size → StepAt P ops Q a0 w0.drew V i)
    (last : ∀ a w, Framed ops a0 a → Below w0.heap.size w0 w → (∀ j, j < ops.size → V j (a.eval (.tmp (slotAt ops j))) w) → Q .normal a w) :
    (Code.region id ops true).wp P Q a0 w0 := by
  refine wp_region_any hm ?_
  refine wpAny_vals (w0 := w0.drew) ht hst steps (fun a w hf hb hv => last a w hf ((Below.refl _ _).drew.trans hb) hv) _ _ _ _ (by simp) ?_ ?_ (Below.refl _ _) ?_
  · simp [unlisted]
  · refine ⟨rfl, rfl, fun _ _ => rfl, fun j o hj hl => ?_⟩
    have hlt := (Array.getElem?_eq_some_iff.1 hj).1
    simp [hlt] at hl
  · intro j hj hl
    simp [hj] at hl
end Go.Proofs.Ytlegjdlmcphhlab
/-
  WHAT SINGLE OPERATIONS DO, for regions that draw their order (text Vals).
-/
namespace Go.Proofs.Ytlegjdlmcphhlab
open Go.RowKit

/-- the operation makes a value and a world of which R is true, by itself or by a call -/
def Does (P : Program) (o : Oper) (a : Act) (w : World) (R : Value → World → Prop) : Prop :=
  (∃ v w', (execOp a.eval o).run P w = .ok (.value v) w' ∧ R v w') ∨
  ∃ f args w', (execOp a.eval o).run P w = .ok (.enter f args) w' ∧ Calls P f args w' fun e w'' => ∃ r, e = .returned r ∧ R r w''

theorem StepAt.by {P : Program} {ops : Array Oper} {Q : Exit → Act → World → Prop} {a0 : Act} {w0 : World} {V : Nat → Value → World → Prop} {i : Nat} {o : Oper} (ho : ops[i]? = some o)
    (h : ∀ a w, FramedAt ops i a0 a → Below w0.heap.size w0 w → (∀ j, waits o j = true → V j (a.eval (.tmp (slotAt ops j))) w) →
      (Region.wanted o (yielded ops a.tmps) = true ∧ Does P o a w (fun v w' => Below w.heap.size w w' ∧ V i v w')) ∨ (Region.wanted o (yielded ops a.tmps) = false ∧ V i undef w)) : StepAt P ops Q a0 w0 V i := by
  intro o' ho' a w hf hb hd K hK
  have e : o = o' := Option.some.inj (ho.symm.trans ho')
  subst e
  rcases h a w hf hb hd with ⟨hw, hr⟩ | ⟨hw, hv⟩
  · rw [if_pos hw]
    unfold Oper.wp
    rcases hr with ⟨v, w', hr, hb', hv⟩ | ⟨f, args, w', hr, hc⟩
    · rw [hr]
      exact hK.out v w' hb' hv
    · rw [hr]
      refine Calls.mono hc ?_
      rintro e w'' ⟨r, rfl, hb', hv⟩
      exact hK.out r w'' hb' hv
  · rw [hw]
    exact hK.out undef w (Below.refl _ _) hv

/-- function f is the program's own -/
def Enters (P : Program) (f : FuncId) : Prop := ∀ args w, (callFunc f args).run P w = .ok (.enter f args) w
theorem Enters.out {P : Program} {f : FuncId} (h : Enters P f) (args : Array Value) (w : World) : (callFunc f args).run P w = .ok (.enter f args) w := h args w
theorem eval_func (a : Act) (f : FuncId) : a.eval (.func f) = .func (.func f) #[] #[] := rfl
theorem eval_const (a : Act) (v : Value) : a.eval (.const v) = v := rfl
theorem enters_of {P : Program} {f : FuncId} {fn : Func} (hf : P.funcs[f]? = some fn) (hn : (fn.name == "runtime.NumGoroutine") = false) (hb : fn.body.isNone = false) : Enters P f := by
  intro args w
  unfold callFunc
  simp only [Sem.run_bind, run_program, Result.andThen_ok, hf, hn, hb, Bool.false_eq_true, if_false]
  rfl
theorem run_call {P : Program} {ρ : Operand → Value} {w : World} {d : Option Tmp} {ty : TypeId} {pos : String} {af : Array Edge} {g : Option (Nat × Bool)} {f : FuncId} {xs : Array Operand} {us : Array Value} {ts : Array TypeId} (hcf : Enters P f) (hfn : ρ (.func f) = .func (.func f) #[] #[]) (hx : xs.map ρ = us) :
    (execOp ρ ⟨d, .call { callee := .value (.func f), args := xs, argTypes := ts }, ty, pos, af, g⟩).run P w = .ok (.enter f us) w := by
  simp [execOp, resolve, invoke, hcf.out, hfn, hx, go_sem]
theorem run_not {P : Program} {ρ : Operand → Value} {w : World} {d : Option Tmp} {ty : TypeId} {pos : String} {af : Array Edge} {g : Option (Nat × Bool)} {x : Operand} {b : Bool} {t : TypeId} (hx : ρ x = .bool b) : (execOp ρ ⟨d, .unOp .not t x, ty, pos, af, g⟩).run P w = .ok (.value (.bool !b)) w := by
  simp [execOp, hx, go_sem]
theorem run_pick {P : Program} {ρ : Operand → Value} {w : World} {d : Option Tmp} {ty : TypeId} {pos : String} {af : Array Edge} {g : Option (Nat × Bool)} {c x y : Operand} {b : Bool} (hc : ρ c = .bool b) : (execOp ρ ⟨d, .pick c x y, ty, pos, af, g⟩).run P w = .ok (.value (if b then ρ x else ρ y)) w := by
  cases b <;> simp [execOp, hc, go_sem]
theorem run_neqB {ρ : Operand → Value} {w : World} {d : Option Tmp} {ty : TypeId} {pos : String} {af : Array Edge} {g : Option (Nat × Bool)} {x y : Operand} {b c : Bool} (hx : ρ x = .bool b) (hy : ρ y = .bool c) : (execOp ρ ⟨d, .binOp .neq 4 x y 4, ty, pos, af, g⟩).run Try.prog w = .ok (.value (.bool (b != c))) w := by
  simp [execOp, hx, hy, go_sem, bne]
theorem run_neqI {ρ : Operand → Value} {w : World} {d : Option Tmp} {ty : TypeId} {pos : String} {af : Array Edge} {g : Option (Nat × Bool)} {x y : Operand} {b c : Int} (hx : ρ x = .int .i64 b) (hy : ρ y = .int .i64 c) : (execOp ρ ⟨d, .binOp .neq 3 x y 3, ty, pos, af, g⟩).run Try.prog w = .ok (.value (.bool (b != c))) w := by
  simp [execOp, hx, hy, go_sem, bne]
theorem run_load26 {ρ : Operand → Value} {w : World} {d : Option Tmp} {ty : TypeId} {pos : String} {af : Array Edge} {g : Option (Nat × Bool)} {x : Operand} {s : Nat} {v : NV} (hx : ρ x = .pointer (some ⟨s, 0, none⟩)) (hb : Box w s v) : (execOp ρ ⟨d, .load 40 x, ty, pos, af, g⟩).run Try.prog w = .ok (.value v.val) w := by
  obtain ⟨p0, p1, p2, p3, p4, pf, pz⟩ := hb.facts
  simp [execOp, hx, go_sem, p0, p1, p2, p3, p4]
section
variable {P : Program} {ops : Array Oper} {a : Act} {w : World} {R : Value → World → Prop} {d : Option Tmp} {ty : TypeId} {pos : String} {af : Array Edge} {g : Option (Nat × Bool)} {op : Op}
theorem want_none : Region.wanted ⟨d, op, ty, pos, af, none⟩ (yielded ops a.tmps) = true := rfl
theorem want_some {k t : Nat} {b want : Bool} (hk : (ops[k]?).bind (·.dst) = some t) (h : a.eval (.tmp t) = .bool b) : Region.wanted ⟨d, op, ty, pos, af, some (k, want)⟩ (yielded ops a.tmps) = (b == want) := by
  have ht : a.tmps[t]? = some (.bool b) := by
    have h : a.tmps.getD t undef = .bool b := h
    rw [Array.getD_eq_getD_getElem?] at h
    cases hx : a.tmps[t]? with
    | none => rw [hx] at h; cases h
    | some v => rw [hx] at h; exact congrArg some h
  unfold Region.wanted yielded
  simp only [hk, Option.bind_some, ht]
  cases b <;> cases want <;> rfl

theorem does_move {x : Operand} {v : Value} (hx : a.eval x = v) (h : R v w) : Does P ⟨d, .move x, ty, pos, af, g⟩ a w R := .inl ⟨_, _, rfl, by rw [hx]; exact h⟩
theorem does_assign {x : Operand} {v : Value} (hx : a.eval x = v) (h : R v w) : Does P ⟨d, .assign x, ty, pos, af, g⟩ a w R := .inl ⟨_, _, rfl, by rw [hx]; exact h⟩
theorem does_call0 {f : FuncId} {ts : Array TypeId} (hcf : Enters P f) (h : Calls P f #[] w fun e w'' => ∃ r, e = .returned r ∧ R r w'') :
    Does P ⟨d, .call { callee := .value (.func f), args := #[], argTypes := ts }, ty, pos, af, g⟩ a w R := .inr ⟨f, #[], w, run_call hcf rfl (by simp), h⟩
theorem does_call1 {f : FuncId} {x : Operand} {u : Value} {ts : Array TypeId} (hcf : Enters P f) (hx : a.eval x = u) (h : Calls P f #[u] w fun e w'' => ∃ r, e = .returned r ∧ R r w'') :
    Does P ⟨d, .call { callee := .value (.func f), args := #[x], argTypes := ts }, ty, pos, af, g⟩ a w R := .inr ⟨f, #[u], w, run_call hcf rfl (by simp [hx]), h⟩
theorem does_call2 {f : FuncId} {x y : Operand} {u v : Value} {ts : Array TypeId} (hcf : Enters P f) (hx : a.eval x = u) (hy : a.eval y = v) (h : Calls P f #[u, v] w fun e w'' => ∃ r, e = .returned r ∧ R r w'') :
    Does P ⟨d, .call { callee := .value (.func f), args := #[x, y], argTypes := ts }, ty, pos, af, g⟩ a w R := .inr ⟨f, #[u, v], w, run_call hcf rfl (by simp [hx, hy]), h⟩
theorem does_call3 {f : FuncId} {x y z : Operand} {u v t : Value} {ts : Array TypeId} (hcf : Enters P f) (hx : a.eval x = u) (hy : a.eval y = v) (hz : a.eval z = t) (h : Calls P f #[u, v, t] w fun e w'' => ∃ r, e = .returned r ∧ R r w'') :
    Does P ⟨d, .call { callee := .value (.func f), args := #[x, y, z], argTypes := ts }, ty, pos, af, g⟩ a w R := .inr ⟨f, #[u, v, t], w, run_call hcf rfl (by simp [hx, hy, hz]), h⟩
theorem does_not {x : Operand} {b : Bool} {t : TypeId} (hx : a.eval x = .bool b) (h : R (.bool !b) w) : Does P ⟨d, .unOp .not t x, ty, pos, af, g⟩ a w R := .inl ⟨_, _, run_not hx, h⟩
theorem does_pick {c x y : Operand} {b : Bool} {v : Value} (hc : a.eval c = .bool b) (hv : (if b then a.eval x else a.eval y) = v) (h : R v w) : Does P ⟨d, .pick c x y, ty, pos, af, g⟩ a w R := .inl ⟨_, _, run_pick hc, by rw [hv]; exact h⟩
end
theorem does_neqB {a : Act} {w : World} {R : Value → World → Prop} {d : Option Tmp} {ty : TypeId} {pos : String} {af : Array Edge} {g : Option (Nat × Bool)} {x y : Operand} {b c : Bool} (hx : a.eval x = .bool b) (hy : a.eval y = .bool c) (h : R (.bool (b != c)) w) : Does Try.prog ⟨d, .binOp .neq 4 x y 4, ty, pos, af, g⟩ a w R := .inl ⟨_, _, run_neqB hx hy, h⟩
theorem does_neqI {a : Act} {w : World} {R : Value → World → Prop} {d : Option Tmp} {ty : TypeId} {pos : String} {af : Array Edge} {g : Option (Nat × Bool)} {x y : Operand} {b c : Int} (hx : a.eval x = .int .i64 b) (hy : a.eval y = .int .i64 c) (h : R (.bool (b != c)) w) : Does Try.prog ⟨d, .binOp .neq 3 x y 3, ty, pos, af, g⟩ a w R := .inl ⟨_, _, run_neqI hx hy, h⟩
theorem does_load26 {a : Act} {w : World} {R : Value → World → Prop} {d : Option Tmp} {ty : TypeId} {pos : String} {af : Array Edge} {g : Option (Nat × Bool)} {x : Operand} {s : Nat} {v : NV} (hx : a.eval x = .pointer (some ⟨s, 0, none⟩)) (hb : Box w s v) (h : R v.val w) : Does Try.prog ⟨d, .load 40 x, ty, pos, af, g⟩ a w R := .inl ⟨_, _, run_load26 hx hb, h⟩
end Go.Proofs.Ytlegjdlmcphhlab
