/-
  PACKAGE logs: what is asked of each record; undoes.
-/
import Derived.Test.YtlegjdlmcphhlabLogb
namespace Go.Proofs.Ytlegjdlmcphhlab
open Go.RowKit

theorem boxR_start (w : World) (r : RV) : ∀ W, W = w.alloc (.cells #[.int .i64 r.a.kind, .int .i64 r.a.fid, .int .i64 r.a.dir, .string r.a.name, .int .i64 r.a.to, .string r.a.toName, .slice r.a.dA r.a.dn r.a.dc, .int .i64 r.ver, .int .i64 r.id] 48) → Below w.heap.size w W ∧ BoxR W w.heap.size r ∧ W.heap.size = w.heap.size + 1 := by
  rintro W rfl
  exact ⟨(Below.refl _ _).alloc (Nat.le_refl _) _, BoxR.new w r, by simp⟩
theorem undo1_any (r : RV) (x : M.Rec) (p : Nat) (a : AV) (w : World) (hr : ContR w r x) (hp : BoxA w p a) :
    Calls Try.prog 67 #[r.val, .pointer (some ⟨p, 0, none⟩)] w fun e w' => e = .returned (.bool (M.madeB a.fid x)) ∧ Below w.heap.size w w' := by
  have HW : Hid _ := boxR_start w r
  have HP : Hid (BoxA w p a) := hp
  have hpl : p < w.heap.size := lt_of_block hp
  have HU : Hid (M.madeB a.fid x = ((decide (r.a.kind = 1) || decide (r.a.kind = 2)) && decide (r.a.fid = a.fid))) := by
    show _ = _
    unfold M.madeB M.makeB
    rw [hr.1.1, hr.1.2.1]
  clear hr hp
  go_enter Try.func67, Try.ntmps67
  go_wp2_with (fail)
  obtain ⟨q1, q2, q3⟩ := HW.out _ rfl
  refine (making_any r.a _).mono ?_
  rintro e w1 ⟨rfl, hb1⟩
  have hz1 := hb1.size
  rw [q3] at hz1
  have hw1 : Below w.heap.size w w1 := q1.trans (hb1.mono (by omega))
  have HB : Hid (Below w.heap.size w w1 ∧ BoxR w1 w.heap.size r ∧ BoxA w1 p a) := ⟨hw1, q2.below hb1 (by omega), HP.out.below hw1 hpl⟩
  obtain ⟨b0, b1, b2, b3, b4, b5, b6, b7, b8, bf, bz⟩ := HB.out.2.1.facts
  obtain ⟨a0, a1, a2, a3, a4, a5, a6, af, az⟩ := HB.out.2.2.facts
  clear q1 q2 q3 hb1 HW hw1
  generalize (decide (r.a.kind = 1) || decide (r.a.kind = 2)) = mb at *
  cases mb
  · go_wp2
    go_ret
    exact ⟨ret_bool (by rw [HU.out]; rfl), HB.out.1⟩
  · by_cases hf : r.a.fid = a.fid
    · have kf : (r.a.fid == a.fid) = true := by simp [hf]
      have HU2 : Hid (M.madeB a.fid x = true) := by show _ = _; rw [HU.out]; simp [hf]
      clear hf
      go_wp2
      go_ret
      exact ⟨ret_bool HU2.out.symm, HB.out.1⟩
    · have kf : (r.a.fid == a.fid) = false := by simp [hf]
      have HU2 : Hid (M.madeB a.fid x = false) := by show _ = _; rw [HU.out]; simp [hf]
      clear hf
      go_wp2
      go_ret
      exact ⟨ret_bool HU2.out.symm, HB.out.1⟩
theorem undo2_any (r : RV) (x : M.Rec) (p : Nat) (a : AV) (y : M.Act) (w : World) (hr : ContR w r x) (hp : BoxA w p a) (ha : ContA w a y) :
    Calls Try.prog 70 #[r.val, .pointer (some ⟨p, 0, none⟩)] w fun e w' => e = .returned (.bool (M.hinderB x.act y)) ∧ Below w.heap.size w w' := by
  have HW : Hid _ := boxR_start w r
  have HC : Hid (ContR w r x ∧ ContA w a y) := ⟨hr, ha⟩
  have hpl : p < w.heap.size := lt_of_block hp
  obtain ⟨a0, a1, a2, a3, a4, a5, a6, af, az⟩ := hp.facts
  clear hr ha hp
  go_enter Try.func70, Try.ntmps70
  go_wp2_with (fail)
  obtain ⟨q1, q2, q3⟩ := HW.out _ rfl
  refine (hinders_any r.a a x.act y _ (HC.out.1.1.below (Nat.le_refl _) q1) (HC.out.2.below (Nat.le_refl _) q1)).mono ?_
  rintro e w1 ⟨rfl, hb1⟩
  have HB : Hid (Below w.heap.size w w1) := q1.trans (hb1.mono (by omega))
  clear q1 q2 q3 hb1 HW
  go_wp2
  go_ret
  exact ⟨rfl, HB.out⟩
theorem add1_any (a : AV) (x : M.Act) (p : Nat) (r : RV) (w : World) (ha : ContA w a x) (hp : BoxR w p r) :
    Calls Try.prog 39 #[a.val, .pointer (some ⟨p, 0, none⟩)] w fun e w' => e = .returned (.bool (M.nameFB x r.a.fid)) ∧ Below w.heap.size w w' := by
  have HW : Hid _ := boxA_start w a
  have HC : Hid (ContA w a x) := ha
  have hpl : p < w.heap.size := lt_of_block hp
  obtain ⟨b0, b1, b2, b3, b4, b5, b6, b7, b8, bf, bz⟩ := hp.facts
  clear ha hp
  go_enter Try.func39, Try.ntmps39
  go_wp2_with (fail)
  obtain ⟨q1, q2, q3⟩ := HW.out _ rfl
  refine (naming_any a x r.a.fid _ (HC.out.below (Nat.le_refl _) q1)).mono ?_
  rintro e w1 ⟨rfl, hb1⟩
  have HB : Hid (Below w.heap.size w w1) := q1.trans (hb1.mono (by omega))
  clear q1 q2 q3 hb1 HW
  go_wp2
  go_ret
  exact ⟨rfl, HB.out⟩
theorem add2_any (a : AV) (x : M.Act) (p : Nat) (r : RV) (y : M.Act) (w : World) (ha : ContA w a x) (hp : BoxR w p r) (hr : ContA w r.a y) :
    Calls Try.prog 41 #[a.val, .pointer (some ⟨p, 0, none⟩)] w fun e w' => e = .returned (.bool (M.overB y x)) ∧ Below w.heap.size w w' := by
  have HW : Hid _ := boxA_start w a
  have HU : Hid (M.overB y x = (decide (r.a.kind = 3) && decide (a.kind = 3) && decide (r.a.fid = a.fid))) := by
    show _ = _
    unfold M.overB
    rw [ha.1, ha.2.1, hr.1, hr.2.1]
  have hpl : p < w.heap.size := lt_of_block hp
  obtain ⟨b0, b1, b2, b3, b4, b5, b6, b7, b8, bf, bz⟩ := hp.facts
  clear ha hp hr
  go_enter Try.func41, Try.ntmps41
  go_wp2_with (fail)
  obtain ⟨q1, q2, q3⟩ := HW.out _ rfl
  refine (overwrites_any r.a a _).mono ?_
  rintro e w1 ⟨rfl, hb1⟩
  have HB : Hid (Below w.heap.size w w1) := q1.trans (hb1.mono (by omega))
  clear q1 q2 q3 hb1 HW
  go_wp2
  go_ret
  exact ⟨ret_bool HU.out.symm, HB.out⟩
theorem own1_any (a : AV) (w : World) : Calls Try.prog 45 #[a.val] w fun e w' => e = .returned (.bool false) ∧ Below w.heap.size w w' := by
  have HW : Hid (Below w.heap.size w (w.alloc a.obj)) := (Below.refl _ _).alloc (Nat.le_refl _) _
  go_enter Try.func45, Try.ntmps45
  go_wp2
  go_ret
  exact ⟨rfl, HW.out⟩

/-- an index, or -1 -/
def idxI : Option Nat → Int
  | none => -1
  | some k => k
theorem idxI_none {xs : List M.Rec} {p : M.Rec → Bool} (h : ∀ x ∈ xs, p x = false) : idxI (xs.findIdx? p) = -1 := by
  rw [List.findIdx?_eq_none_iff.2 (fun x hx => by simpa using h x hx)]; rfl
theorem idxI_at {xs : List M.Rec} {p : M.Rec → Bool} {k : Nat} {x : M.Rec} (h : ∀ x ∈ xs.take k, p x = false) (hx : xs[k]? = some x) (hp : p x = true) : idxI (xs.findIdx? p) = (k : Int) := by
  obtain ⟨hk, he⟩ := List.getElem?_eq_some_iff.1 hx
  have : xs.findIdx? p = some k := by
    rw [List.findIdx?_eq_some_iff_getElem]
    refine ⟨hk, by rw [he]; exact hp, fun j hj => ?_⟩
    have hjl : j < xs.length := by omega
    have := h xs[j] (List.mem_of_getElem? (i := j) (by rw [List.getElem?_take, if_pos hj]; exact List.getElem?_eq_getElem hjl))
    rw [this]; simp
  rw [this]; rfl

set_option maxHeartbeats 1000000 in
theorem undoIdx1_any (A : Option Addr) (n c : Nat) (vs : List RV) (xs : List M.Rec) (p : Nat) (a : AV) (w : World) (ht : TreeR w A n vs xs) (hn : n ≤ 140737488355328) (hp : BoxA w p a) :
    Calls Try.prog 66 #[.slice A n c, .func (.func 67) #[] #[.pointer (some ⟨p, 0, none⟩)]] w fun e w' => e = .returned (.int .i64 (idxI (xs.findIdx? fun x => M.madeB a.fid x))) ∧ Below w.heap.size w w' := by
  have hpl : p < w.heap.size := lt_of_block hp
  have HT : Hid (TreeR w A n vs xs ∧ BoxA w p a ∧ True) := ⟨ht, hp, trivial⟩
  clear ht hp
  go_enter Try.func66, Try.ntmps66
  go_wp2
  go_loopw [8] (fun i wr => ∃ k : Nat, k ≤ n ∧ i = .int .i64 k ∧ (∀ x ∈ xs.take k, (M.madeB a.fid x) = false) ∧ Below w.heap.size w wr) (fun i _ => n - (intOf i).toNat)
  case atStart => exact ⟨0, Nat.zero_le _, rfl, by simp, Below.refl _ _⟩
  case round =>
    obtain ⟨k, hk, rfl, hno, hb⟩ := hrel
    have HN : Hid (∀ x ∈ xs.take k, (M.madeB a.fid x) = false) := hno
    clear hno
    have hsz := hb.size
    by_cases hlt : k < n
    · have htr := HT.out.1.below (Nat.le_refl _) hb
      obtain ⟨g, o, v, rfl, hgb, hvk, c0, c1, c2, c3, c4, c5, c6, c7, c8⟩ := htr.1.at hlt
      obtain ⟨x, hx, hcx⟩ := htr.2.at hvk
      have HX : Hid (xs[k]? = some x ∧ ContR wr v x ∧ BoxA wr p a) := ⟨hx, hcx, HT.out.2.1.below hb hpl⟩
      have HB : Hid (Below w.heap.size w wr) := hb
      clear hvk htr hx hcx hb
      go_wp2_with (fail)
      refine (undo1_any v x p a _ HX.out.2.1 HX.out.2.2).mono ?_
      rintro e w1 ⟨rfl, hb1⟩
      have HB1 : Hid (Below w.heap.size w w1) := HB.out.trans (hb1.mono HB.out.size)
      clear hb1
      cases hd : (M.madeB a.fid x)
      · go_wp2
        go_roundw
        case rel => exact ⟨k + 1, by omega, by go_num, fun y hy => by
          rw [take_step HX.out.1] at hy
          rcases List.mem_append.1 hy with h | h
          · exact HN.out y h
          · rw [List.mem_singleton.1 h]; exact hd, HB1.out⟩
        case measure => simp [intOf]; omega
      · go_wp2
        go_ret
        exact ⟨ret_int (idxI_at HN.out HX.out.1 hd).symm, HB1.out⟩
    · have HL : Hid (xs.take k = xs) := by show _ = _; exact List.take_of_length_le (by rw [← HT.out.1.len]; omega)
      go_wp2
      go_ret
      exact ⟨ret_int (idxI_none (fun x hx => HN.out x (by rw [HL.out]; exact hx))).symm, hb⟩
set_option maxHeartbeats 1000000 in
theorem undoIdx2_any (A : Option Addr) (n c : Nat) (vs : List RV) (xs : List M.Rec) (p : Nat) (a : AV) (y : M.Act) (w : World) (ht : TreeR w A n vs xs) (hn : n ≤ 140737488355328) (hp : BoxA w p a) (ha : ContA w a y) :
    Calls Try.prog 66 #[.slice A n c, .func (.func 70) #[] #[.pointer (some ⟨p, 0, none⟩)]] w fun e w' => e = .returned (.int .i64 (idxI (xs.findIdx? fun x => M.hinderB x.act y))) ∧ Below w.heap.size w w' := by
  have hpl : p < w.heap.size := lt_of_block hp
  have HT : Hid (TreeR w A n vs xs ∧ BoxA w p a ∧ ContA w a y) := ⟨ht, hp, ha⟩
  clear ht hp ha
  go_enter Try.func66, Try.ntmps66
  go_wp2
  go_loopw [8] (fun i wr => ∃ k : Nat, k ≤ n ∧ i = .int .i64 k ∧ (∀ x ∈ xs.take k, (M.hinderB x.act y) = false) ∧ Below w.heap.size w wr) (fun i _ => n - (intOf i).toNat)
  case atStart => exact ⟨0, Nat.zero_le _, rfl, by simp, Below.refl _ _⟩
  case round =>
    obtain ⟨k, hk, rfl, hno, hb⟩ := hrel
    have HN : Hid (∀ x ∈ xs.take k, (M.hinderB x.act y) = false) := hno
    clear hno
    have hsz := hb.size
    by_cases hlt : k < n
    · have htr := HT.out.1.below (Nat.le_refl _) hb
      obtain ⟨g, o, v, rfl, hgb, hvk, c0, c1, c2, c3, c4, c5, c6, c7, c8⟩ := htr.1.at hlt
      obtain ⟨x, hx, hcx⟩ := htr.2.at hvk
      have HX : Hid (xs[k]? = some x ∧ ContR wr v x ∧ BoxA wr p a) := ⟨hx, hcx, HT.out.2.1.below hb hpl⟩
      have HB : Hid (Below w.heap.size w wr) := hb
      clear hvk htr hx hcx hb
      go_wp2_with (fail)
      refine (undo2_any v x p a y _ HX.out.2.1 HX.out.2.2 (HT.out.2.2.below (Nat.le_refl _) HB.out)).mono ?_
      rintro e w1 ⟨rfl, hb1⟩
      have HB1 : Hid (Below w.heap.size w w1) := HB.out.trans (hb1.mono HB.out.size)
      clear hb1
      cases hd : (M.hinderB x.act y)
      · go_wp2
        go_roundw
        case rel => exact ⟨k + 1, by omega, by go_num, fun y hy => by
          rw [take_step HX.out.1] at hy
          rcases List.mem_append.1 hy with h | h
          · exact HN.out y h
          · rw [List.mem_singleton.1 h]; exact hd, HB1.out⟩
        case measure => simp [intOf]; omega
      · go_wp2
        go_ret
        exact ⟨ret_int (idxI_at HN.out HX.out.1 hd).symm, HB1.out⟩
    · have HL : Hid (xs.take k = xs) := by show _ = _; exact List.take_of_length_le (by rw [← HT.out.1.len]; omega)
      go_wp2
      go_ret
      exact ⟨ret_int (idxI_none (fun x hx => HN.out x (by rw [HL.out]; exact hx))).symm, hb⟩

theorem any_idx (xs : List M.Rec) (p : M.Rec → Bool) : xs.any p = decide (0 ≤ idxI (xs.findIdx? p)) := by
  cases h : xs.findIdx? p with
  | none =>
    rw [List.findIdx?_eq_none_iff] at h
    rw [List.any_eq_false.2 (fun x hx => by simpa using h x hx)]
    rfl
  | some k =>
    obtain ⟨hk, hp, _⟩ := List.findIdx?_eq_some_iff_getElem.1 h
    rw [List.any_eq_true.2 ⟨xs[k], List.getElem_mem hk, hp⟩]
    show true = decide (0 ≤ (k : Int))
    simp
theorem undoAny_any (A : Option Addr) (n c : Nat) (vs : List RV) (xs : List M.Rec) (p : Nat) (a : AV) (y : M.Act) (w : World) (ht : TreeR w A n vs xs) (hn : n ≤ 140737488355328) (hp : BoxA w p a) (ha : ContA w a y) :
    Calls Try.prog 69 #[.slice A n c, .func (.func 70) #[] #[.pointer (some ⟨p, 0, none⟩)]] w fun e w' => e = .returned (.bool (xs.any fun x => M.hinderB x.act y)) ∧ Below w.heap.size w w' := by
  have HT : Hid (TreeR w A n vs xs ∧ BoxA w p a ∧ ContA w a y) := ⟨ht, hp, ha⟩
  have HU : Hid _ := any_idx xs fun x => M.hinderB x.act y
  clear ht hp ha
  go_enter Try.func69, Try.ntmps69
  go_wp2_with (fail)
  refine (undoIdx2_any A n c vs xs p a y w HT.out.1 hn HT.out.2.1 HT.out.2.2).mono ?_
  rintro e w1 ⟨rfl, hb1⟩
  have HB : Hid (Below w.heap.size w w1) := hb1
  clear hb1
  generalize idxI (xs.findIdx? fun x => M.hinderB x.act y) = r at *
  by_cases h0 : 0 ≤ r
  · go_wp2
    go_ret
    exact ⟨ret_bool (by rw [HU.out]; try simp [h0]), HB.out⟩
  · go_wp2
    go_ret
    exact ⟨ret_bool (by rw [HU.out]; try simp [h0]), HB.out⟩
end Go.Proofs.Ytlegjdlmcphhlab
