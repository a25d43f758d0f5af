/- TEXTS LAID TOGETHER: Certr, Certt, Valsf, Doesg, Put7, Certh, Certu -/
import Derived.Test.YtcjobmbbikfnaacPart13
import Derived.Deep.Cut
import Derived.Deep.CutRange
import Derived.Deep.RegionWith
import Derived.BigRegion
import Derived.Test.YtcjobmbbikfnaacPart10
import Derived.Test.YtcjobmbbikfnaacPart11
import Derived.Test.YtcjobmbbikfnaacPart8
/-
  PACKAGE cert: what rests on what was refused.
-/
namespace Go.Proofs.Ytcjobmbbikfnaac
open Go.RowKit
open Go.ChangeMaps (setBlock)

theorem fids_len3 (ac : M.Act) : (M.fidsS ac).length ≤ 3 := by unfold M.fidsS; split <;> split <;> simp
theorem ref_take {f : Int → Bool} {fs : List Int} {k : Nat} {x : Int} (h : fs[k]? = some x) (hx : f x = false) (hk : ∀ y ∈ fs.take k, f y = false) : ∀ y ∈ fs.take (k + 1), f y = false := by
  intro y hy
  rw [take_step h] at hy
  rcases List.mem_append.1 hy with h1 | h1
  · exact hk y h1
  · rw [List.mem_singleton.1 h1]; exact hx
set_option maxHeartbeats 1000000 in
theorem rests_any (s : M.St) (a : AV) (ac : M.Act) (B sb : Nat) (A : Option Addr) (n c : Nat) (us : List NV) (D : Option Addr) (p q : Nat) (avs : List AV) (b1 b2 b3 : Nat) (w : World) (h : StM w B sb s A n c us D p q avs b1 b2 b3) (ha : ContA w a ac) :
    Calls Try.prog 41 #[.pointer (some ⟨sb, 0, none⟩), a.val] w fun e w' => e = .returned (.bool (M.restS s ac)) ∧ Below w.heap.size w w' := by
  have HW : Hid _ := boxA_start w a
  have HS : Hid (StM w B sb s A n c us D p q avs b1 b2 b3 ∧ ContA w a ac) := ⟨h, ha⟩
  clear h ha
  go_enter Try.func41, Try.ntmps41
  go_wp2_with (fail)
  obtain ⟨q1, q2, q3⟩ := HW.out _ rfl
  refine (fids_any a ac _ (HS.out.2.below (Nat.le_refl _) q1)).mono ?_
  rintro e w1 ⟨Fa, fc, rfl, hfo, hb1⟩
  have hb : Below w.heap.size w w1 := q1.trans (hb1.mono q1.size)
  have H1 : Hid (Below w.heap.size w w1 ∧ StM w1 B sb s A n c us D p q avs b1 b2 b3) := ⟨hb, HS.out.1.below (Nat.le_refl _) hb⟩
  have HR : Hid (Row 1 (fun f : Int => [Value.int .i64 f]) w1 Fa (M.fidsS ac).length (M.fidsS ac)) := Row.ofOwn (fun _ => rfl) (by decide) (by rw [fm_ints]; exact hfo)
  have HL : Hid (M.restS s ac = (M.fidsS ac).any s.ref) := rfl
  have HLEN : Hid ((M.fidsS ac).length ≤ 3) := fids_len3 ac
  generalize M.fidsS ac = fs at HR HL HLEN ⊢
  have hn : fs.length ≤ 3 := HLEN.out
  clear q1 q2 q3 hb1 hb hfo HW HS
  go_wp2_with (fail)
  go_loopw [12] (fun i wr => ∃ k : Nat, k ≤ fs.length ∧ i = .int .i64 k ∧ Hid (∀ y ∈ fs.take k, s.ref y = false) ∧ Below w1.heap.size w1 wr) (fun i _ => fs.length - (intOf i).toNat)
  case atStart => exact ⟨0, Nat.zero_le _, rfl, by show ∀ y ∈ _, _; simp, Below.refl _ _⟩
  case round =>
    obtain ⟨k, hk, rfl, HN, hbr⟩ := hrel
    have hzr := hbr.size
    by_cases hlt : k < fs.length
    · obtain ⟨b, o, x, rfl, _, hx, hc⟩ := Row.at (HR.out.below (Nat.le_refl _) hbr) hlt
      have c0 := hc 0 _ rfl
      simp only [Nat.mul_one, Nat.add_zero] at c0
      have HX : Hid (fs[k]? = some x) := hx
      have HSr : Hid (StM wr B sb s A n c us D p q avs b1 b2 b3) := H1.out.2.below (Nat.le_refl _) hbr
      obtain ⟨f0, f1, f2, f3, f4, f5, f6, ff, fz⟩ := HSr.out.facts
      have hl := ask_set HSr.out.m3 x
      clear hx hc
      cases hrx : s.ref x
      · rw [hrx] at hl
        have HM : Hid (∀ y ∈ fs.take (k + 1), s.ref y = false) := ref_take HX.out hrx HN.out
        clear hrx
        go_wp2_with (fail)
        go_roundw
        case rel => exact ⟨k + 1, by omega, by go_num, HM, hbr.alloc hzr _⟩
        case measure => simp [intOf]; omega
      · rw [hrx] at hl
        have HM : Hid (fs.any s.ref = true) := List.any_eq_true.2 ⟨x, List.mem_of_getElem? HX.out, hrx⟩
        clear hrx
        go_wp2_with (fail)
        go_ret
        exact ⟨ret_bool (HL.out.trans HM.out).symm, (H1.out.1.trans (hbr.mono H1.out.1.size)).alloc (by have := H1.out.1.size; omega) _⟩
    · have HM : Hid (fs.any s.ref = false) := by
        show _ = _
        rw [List.any_eq_false]
        have h := HN.out
        rw [List.take_of_length_le (by omega)] at h
        intro y hy; rw [h y hy]; decide
      go_wp2_with (fail)
      go_ret
      exact ⟨ret_bool (HL.out.trans HM.out).symm, H1.out.1.trans (hbr.mono H1.out.1.size)⟩
end Go.Proofs.Ytcjobmbbikfnaac
/-
  PACKAGE cert: what is stale.
-/
namespace Go.Proofs.Ytcjobmbbikfnaac
open Go.RowKit
open Go.ChangeMaps (setBlock)

theorem hid4 {a b c d : Prop} (ha : a) (hb : b) (hc : c) (hd : d) : Hid (a ∧ b ∧ c ∧ d) := ⟨ha, hb, hc, hd⟩
theorem stale_found {s : M.St} {f v : Int} {x : M.Nd} {b : Bool} (hf : Found s.tr f x b) (hr : M.RsN s.tr) : M.otherS s.tr f v = (!b || !decide (x.ver = v)) := by
  obtain ⟨rfl, rfl⟩ := hf.2.2 hr
  unfold M.otherS
  cases M.find s.tr f <;> rfl
set_option maxHeartbeats 2000000 in
theorem stale_any (s : M.St) (a : AV) (ac : M.Act) (seen : Int) (B sb : Nat) (A : Option Addr) (n c : Nat) (us : List NV) (D : Option Addr) (p q : Nat) (avs : List AV) (b1 b2 b3 : Nat) (w : World) (h : StM w B sb s A n c us D p q avs b1 b2 b3) (hg : Good s.tr) (ha : ContA w a ac) :
    Calls Try.prog 43 #[.pointer (some ⟨sb, 0, none⟩), a.val, .int .i64 seen] w fun e w' => e = .returned (.bool (M.staleS s ac seen)) ∧ Below w.heap.size w w' := by
  have HW : Hid _ := boxA_start w a
  have HK : Hid (a.kind = ac.kind ∧ a.fid = ac.fid) := ⟨ha.1, ha.2.1⟩
  have HS : Hid (StM w B sb s A n c us D p q avs b1 b2 b3 ∧ Good s.tr) := ⟨h, hg⟩
  clear h ha hg
  go_enter Try.func43, Try.ntmps43
  go_upto_region 1 with (fail)
  go_cut [22] from 11 to 22 (fun t W => t = .bool (!(decide (a.kind = 3) || decide (a.kind = 4)) || decide (seen < 0)) ∧ Below w.heap.size w W ∧ BoxA W w.heap.size a ∧ W.heap.size = w.heap.size + 1)
  case first =>
    by_cases h3 : a.kind = 3
    · have k3 : (a.kind != 3) = false := by simp [h3]
      by_cases hn : seen < 0
      · have E1 : Hid ((!(decide (a.kind = 3) || decide (a.kind = 4)) || decide (seen < 0)) = true) := by show _ = _; simp [h3, hn]
        clear h3
        go_wp2_with (fail)
        go_meet
        case rel => exact ⟨congrArg Value.bool E1.out.symm, HW.out _ rfl⟩
      · have E1 : Hid ((!(decide (a.kind = 3) || decide (a.kind = 4)) || decide (seen < 0)) = false) := by show _ = _; simp [h3, hn]
        clear h3
        go_wp2_with (fail)
        go_meet
        case rel => exact ⟨congrArg Value.bool E1.out.symm, HW.out _ rfl⟩
    · have k3 : (a.kind != 3) = true := by simp [h3]
      by_cases h4 : a.kind = 4
      · have k4 : (a.kind != 4) = false := by simp [h4]
        by_cases hn : seen < 0
        · have E1 : Hid ((!(decide (a.kind = 3) || decide (a.kind = 4)) || decide (seen < 0)) = true) := by show _ = _; simp [h4, hn]
          clear h3 h4
          go_wp2_with (fail)
          go_meet
          case rel => exact ⟨congrArg Value.bool E1.out.symm, HW.out _ rfl⟩
        · have E1 : Hid ((!(decide (a.kind = 3) || decide (a.kind = 4)) || decide (seen < 0)) = false) := by show _ = _; simp [h4, hn]
          clear h3 h4
          go_wp2_with (fail)
          go_meet
          case rel => exact ⟨congrArg Value.bool E1.out.symm, HW.out _ rfl⟩
      · have k4 : (a.kind != 4) = true := by simp [h4]
        have E1 : Hid ((!(decide (a.kind = 3) || decide (a.kind = 4)) || decide (seen < 0)) = true) := by show _ = _; simp [h3, h4]
        clear h3 h4
        go_wp2_with (fail)
        go_meet
        case rel => exact ⟨congrArg Value.bool E1.out.symm, HW.out _ rfl⟩
  obtain ⟨rfl, q1, q2, q3⟩ := hcut
  rename World => w1
  have H1 : Hid (Below w.heap.size w w1 ∧ BoxA w1 w.heap.size a ∧ StM w1 B sb s A n c us D p q avs b1 b2 b3) := ⟨q1, q2, HS.out.1.below (Nat.le_refl _) q1⟩
  obtain ⟨kb, hkb⟩ : ∃ kb : Bool, (!(decide (a.kind = 3) || decide (a.kind = 4)) || decide (seen < 0)) = kb := ⟨_, rfl⟩
  rw [hkb]
  have HKB : Hid (M.staleS s ac seen = (!kb && !s.tch a.fid && M.otherS s.tr a.fid seen)) := by
    show _ = _
    unfold M.staleS
    rw [← hkb, ← HK.out.1, ← HK.out.2]
    have : decide (seen < 0) = !decide (0 ≤ seen) := by by_cases h : seen < 0 <;> simp [h] <;> omega
    rw [this]
    cases (decide (a.kind = 3) || decide (a.kind = 4)) <;> cases decide (0 ≤ seen) <;> rfl
  clear q1 q2 q3 hkb HW
  cases kb
  case' true =>
    go_wp2_with (fail)
    go_ret
    exact ⟨by rw [HKB.out]; rfl, H1.out.1⟩
  go_upto_region 3 with (fail)
  go_cut [7, 8] from 23 to 32 (fun _ t W => t = .bool (s.tch a.fid) ∧ Below w1.heap.size w1 W)
  case first =>
    obtain ⟨f0, f1, f2, f3, f4, f5, f6, ff, fz⟩ := H1.out.2.2.facts
    obtain ⟨a0, a1, a2, a3, a4, a5, a6, af, az⟩ := H1.out.2.1.facts
    have hl := ask_set (H1.out.2.2.m2.below (Nat.le_refl _) ((Below.refl _ _).drew)) a.fid
    have hl2 := ask_set (H1.out.2.2.m2.below (Nat.le_refl _) (((Below.refl _ _).alloc (Nat.le_refl _) (.cells #[] 86)).drew)) a.fid
    have HD : Hid (Below w1.heap.size w1 (w1.alloc (.cells #[] 86)).drew) := ((Below.refl _ _).alloc (Nat.le_refl _) (.cells #[] 86)).drew
    go_region
    all_goals
      go_wp2_with (fail)
      go_meet
      case rel => exact ⟨rfl, HD.out⟩
  obtain ⟨rfl, q1⟩ := hcut
  rename World => w2
  have H2 : Hid (Below w.heap.size w w2 ∧ BoxA w2 w.heap.size a ∧ StM w2 B sb s A n c us D p q avs b1 b2 b3) := ⟨H1.out.1.trans (q1.mono H1.out.1.size), H1.out.2.1.below q1 (lt_of_block H1.out.2.1), H1.out.2.2.below (Nat.le_refl _) q1⟩
  have HTC : Hid (M.staleS s ac seen = (!s.tch a.fid && M.otherS s.tr a.fid seen)) := by show _ = _; rw [HKB.out]; rfl
  generalize s.tch a.fid = tb at HTC ⊢
  clear q1 H1 HKB
  cases tb
  case' true =>
    go_wp2_with (fail)
    go_ret
    exact ⟨by rw [HTC.out]; rfl, H2.out.1⟩
  have hm72 : n * 72 ≤ 140737488355328 := by have h1 := H2.out.2.2.tree.tree.1.1; have h2 := H2.out.2.2.tree.tree.2.1; have h3 := HS.out.2.2.2; omega
  go_upto_region 6 with (fail)
  go_cut [9, 10] from 34 to 43 (fun x t W => ∃ (g : Nat) (v : NV) (y : M.Nd) (b : Bool), x = .pointer (some ⟨g, 0, none⟩) ∧ t = .bool b ∧ Hid (Box W g v ∧ v.ver = y.ver ∧ Found s.tr a.fid y b ∧ Below w2.heap.size w2 W))
  case first =>
    obtain ⟨f0, f1, f2, f3, f4, f5, f6, ff, fz⟩ := H2.out.2.2.facts
    obtain ⟨a0, a1, a2, a3, a4, a5, a6, af, az⟩ := H2.out.2.1.facts
    have HZ : Hid (∀ W, W = w2.alloc (.cells #[.int .i64 0, .bool false, .slice none 0 0, .slice none 0 0, .int .i64 0] 56) → Below w2.heap.size w2 W.drew ∧ Box W.drew w2.heap.size NV.zero ∧ W.drew.heap.size = w2.heap.size + 1) := by
      rintro W rfl
      exact ⟨((Below.refl _ _).alloc (Nat.le_refl _) _).drew, Box.new0 w2, by simp⟩
    have HD : Hid (Below w2.heap.size w2 w2.drew) := (Below.refl _ _).drew
    go_region_with (first
      | (go_at_call 45; refine (find_gen A n c us s.tr a.fid w2.drew (H2.out.2.2.tree.tree.below (Nat.le_refl _) HD.out) hm72 HS.out.2.2.1).mono ?_; rintro e w3 ⟨v, y, b, rfl, ho, hf, hb⟩; have H3 : Hid (Below w2.heap.size w2 w3 ∧ v.ver = y.ver ∧ Found s.tr a.fid y b) := ⟨HD.out.trans (hb.mono (Nat.le_refl _)), ho.2.2.1, hf⟩; clear ho hf hb)
      | (go_at_call 45; refine (find_gen A n c us s.tr a.fid (w2.alloc (.cells #[.int .i64 0, .bool false, .slice none 0 0, .slice none 0 0, .int .i64 0] 56)).drew (H2.out.2.2.tree.tree.below (Nat.le_refl _) (HZ.out _ rfl).1) hm72 HS.out.2.2.1).mono ?_; rintro e w3 ⟨v, y, b, rfl, ho, hf, hb⟩; have H3 : Hid (Below w2.heap.size w2 w3 ∧ v.ver = y.ver ∧ Found s.tr a.fid y b) := ⟨(HZ.out _ rfl).1.trans (hb.mono (HZ.out _ rfl).1.size), ho.2.2.1, hf⟩; have HB3 : Hid (Box w3 w2.heap.size NV.zero) := (HZ.out _ rfl).2.1.below hb (by rw [(HZ.out _ rfl).2.2]; omega); obtain ⟨z0, z1, z2, z3, z4, zf, zz⟩ := HB3.out.facts; clear ho hf hb))
    all_goals
      go_wp2_with (fail)
      go_meet
      case rel => first
        | with_reducible exact ⟨w3.heap.size, v, y, b, rfl, rfl, hid4 (Box.new w3 v) H3.out.2.1 H3.out.2.2 (H3.out.1.alloc H3.out.1.size _)⟩
        | with_reducible exact ⟨w2.heap.size, v, y, b, rfl, rfl, hid4 (put5_box HB3.out v) H3.out.2.1 H3.out.2.2 (put5_below H3.out.1 (Nat.le_refl _) 0 v)⟩
  obtain ⟨g, v, y, b, rfl, rfl, H3⟩ := hcut
  rename World => w3
  obtain ⟨z0, z1, z2, z3, z4, zf, zz⟩ := H3.out.1.facts
  have HE : Hid (M.staleS s ac seen = (!b || (v.ver != seen))) := by
    show _ = _
    rw [HTC.out, stale_found H3.out.2.2.1 HS.out.2.1.1, H3.out.2.1]
    by_cases h : y.ver = seen <;> simp [h]
  have HB : Hid (Below w.heap.size w w3) := H2.out.1.trans (H3.out.2.2.2.mono H2.out.1.size)
  clear HTC H2 H3
  cases b
  · go_wp2_with (fail)
    go_ret
    exact ⟨ret_bool (by rw [HE.out]; rfl), HB.out⟩
  · go_wp2_with (fail)
    go_ret
    exact ⟨ret_bool (by rw [HE.out]; rfl), HB.out⟩
end Go.Proofs.Ytcjobmbbikfnaac
/-
  A REGION THAT DRAWS ITS ORDER, and ends in operations (stores) that come in their order, behind all others: the first ones as in text Vals, the rest is walked.
-/
namespace Go.Proofs.Ytcjobmbbikfnaac
open Go.RowKit

/-- the first m operations have a slot of their own each, and wait for earlier ones alone -/
def tidyF (ops : Array Oper) (m size : Nat) : Bool := decide (m ≤ ops.size) &&
  (List.range m).all fun i => match ops[i]? with
    | some o => (o.after.all fun e => !Region.binds .any e || decide (e.on < i)) && (match o.dst with
        | some d => decide (d < size) && ((List.range i).all fun j => ((ops[j]?).bind (·.dst)) != some d)
        | none => false)
    | none => false
/-- operations from m on wait for all ahead of them, at once or by way of another one, and for no later one -/
def tailF (ops : Array Oper) (m : Nat) : Bool :=
  (List.range ops.size).all fun i => decide (i < m) || (match ops[i]? with
    | some o => (o.after.all fun e => !Region.binds .any e || decide (e.on < i)) && ((List.range i).all fun j => waits o j || (List.range i).any fun k => waits o k && (match ops[k]? with | some u => waits u j | none => false))
    | none => true)
theorem tidyF_at {ops : Array Oper} {m size i : Nat} {o : Oper} (h : tidyF ops m size = true) (him : i < m) (hi : ops[i]? = some o) :
    (∀ e ∈ o.after, Region.binds .any e = true → e.on < i) ∧ ∃ d, o.dst = some d ∧ d < size ∧ slotAt ops i = d ∧ ∀ j, j < i → ((ops[j]?).bind (·.dst)) ≠ some d := by
  unfold tidyF at h
  rw [Bool.and_eq_true, List.all_eq_true] at h
  have h1 := h.2 i (List.mem_range.2 him)
  rw [hi] at h1
  simp only [Bool.and_eq_true] at h1
  obtain ⟨h2, h3⟩ := h1
  refine ⟨fun e he hb => ?_, ?_⟩
  · have := Array.all_eq_true_iff_forall_mem.1 h2 e he
    rw [hb] at this
    simpa using this
  · cases hd : o.dst with
    | none => rw [hd] at h3; cases h3
    | some d =>
      rw [hd] at h3
      simp only [Bool.and_eq_true, decide_eq_true_eq, List.all_eq_true, List.mem_range] at h3
      refine ⟨d, rfl, h3.1, by simp [slotAt, hi, hd], fun j hj => ?_⟩
      have := h3.2 j hj
      simpa using this
theorem tidyF_ne {ops : Array Oper} {m size i j : Nat} {o u : Oper} (h : tidyF ops m size = true) (him : i < m) (hjm : j < m) (hi : ops[i]? = some o) (hj : ops[j]? = some u) (hne : i ≠ j) : slotAt ops i ≠ slotAt ops j := by
  obtain ⟨_, d, hd, _, hs, hall⟩ := tidyF_at h him hi
  obtain ⟨_, e, he, _, ht, hall'⟩ := tidyF_at h hjm hj
  rw [hs, ht]
  intro hde
  subst hde
  rcases Nat.lt_or_gt_of_ne hne with hl | hl
  · exact hall' i hl (by rw [hi]; exact hd)
  · exact hall j hl (by rw [hj]; exact he)
theorem tailF_at {ops : Array Oper} {m i : Nat} {o : Oper} (h : tailF ops m = true) (him : m ≤ i) (hi : ops[i]? = some o) :
    (∀ e ∈ o.after, Region.binds .any e = true → e.on < i) ∧ ∀ j, j < i → waits o j = true ∨ ∃ k u, k < i ∧ waits o k = true ∧ ops[k]? = some u ∧ waits u j = true := by
  unfold tailF at h
  rw [List.all_eq_true] at h
  have h1 := h i (List.mem_range.2 (Array.getElem?_eq_some_iff.1 hi).1)
  rw [hi] at h1
  have h0 : decide (i < m) = false := by simp; omega
  rw [h0, Bool.false_or] at h1
  simp only [Bool.and_eq_true] at h1
  refine ⟨fun e he hb => ?_, fun j hj => ?_⟩
  · have := Array.all_eq_true_iff_forall_mem.1 h1.1 e he
    rw [hb] at this
    simpa using this
  · have := h1.2
    rw [List.all_eq_true] at this
    have := this j (List.mem_range.2 hj)
    rw [Bool.or_eq_true] at this
    refine this.imp id fun h2 => ?_
    rw [List.any_eq_true] at h2
    obtain ⟨k, hk, h3⟩ := h2
    rw [Bool.and_eq_true] at h3
    cases hu : ops[k]? with
    | none => rw [hu] at h3; simp at h3
    | some u => rw [hu] at h3; exact ⟨k, u, List.mem_range.1 hk, h3.1, hu, h3.2⟩

/-- the tail, in its order -/
theorem wpAny_tail {P : Program} {ops : Array Oper} {Q : Exit → Act → World → Prop} {m size : Nat} (hti : tidyF ops m size = true) (ht : tailF ops m = true) :
    ∀ (fuel : Nat) (k : Nat) (listed : Array Bool) (a : Act) (w : World), m ≤ k → listed.size = ops.size → k ≤ ops.size → ops.size - k ≤ fuel → (∀ j, j < ops.size → (listed.getD j true = true ↔ j < k)) →
      wpList P ops Q (ops.toList.drop k) a w → wpAny P .any ops Q fuel listed a w := by
  have hready : ∀ (k : Nat) (listed : Array Bool), m ≤ k → listed.size = ops.size → (∀ j, j < ops.size → (listed.getD j true = true ↔ j < k)) → ∀ i, i ∈ Region.ready .any ops listed → i = k := by
    intro k listed hk hsz hl i hi
    obtain ⟨hun, o, ho, hall⟩ := mem_ready.1 hi
    have hilt : i < ops.size := (Array.getElem?_eq_some_iff.1 ho).1
    have hik : k ≤ i := by
      rcases Nat.lt_or_ge i k with h | h
      · have := (hl i hilt).2 h; rw [hun] at this; cases this
      · exact h
    rcases Nat.eq_or_lt_of_le hik with h | h
    · exact h.symm
    · exfalso
      have hkl : k < ops.size := by omega
      have hnl : ¬ listed.getD k true = true := fun h1 => by have := (hl k hkl).1 h1; omega
      have hw : ∀ j, waits o j = true → listed.getD j true = true := by
        intro j hj
        obtain ⟨e, he, hbe⟩ := Array.any_eq_true'.1 hj
        simp only [Bool.and_eq_true, beq_iff_eq] at hbe
        have h1 := hall e he hbe.1
        rw [hbe.2] at h1
        have h3 : j < listed.size := by
          rcases Nat.lt_or_ge j listed.size with h4 | h4
          · exact h4
          · simp [Nat.not_lt.2 h4] at h1
        simp only [Array.getD_eq_getD_getElem?, Array.getElem?_eq_getElem h3, Option.getD_some] at h1 ⊢
        exact h1
      rcases (tailF_at ht (by omega) ho).2 k h with h1 | ⟨q, u, hq, h1, hu, h2⟩
      · exact hnl (hw k h1)
      · have hql : q < ops.size := by omega
        have h3 := (hl q hql).1 (hw q h1)
        -- q is ahead of k, but waits for k
        have h4 : k < q := by
          rcases Nat.lt_or_ge q m with h5 | h5
          · exfalso
            obtain ⟨e, he, hbe⟩ := Array.any_eq_true'.1 h2
            simp only [Bool.and_eq_true, beq_iff_eq] at hbe
            have := (tidyF_at hti h5 hu).1 e he hbe.1
            omega
          · obtain ⟨e, he, hbe⟩ := Array.any_eq_true'.1 h2
            simp only [Bool.and_eq_true, beq_iff_eq] at hbe
            have := (tailF_at ht h5 hu).1 e he hbe.1
            omega
        omega
  intro fuel
  induction fuel with
  | zero =>
    intro k listed a w hk hsz hko hf hl h
    have e : k = ops.size := by omega
    rw [List.drop_eq_nil_iff.2 (by rw [Array.length_toList]; omega)] at h
    refine ⟨?_, h⟩
    apply List.eq_nil_iff_forall_not_mem.2
    intro i hi
    have := hready k listed hk hsz hl i hi
    obtain ⟨_, o, ho, _⟩ := mem_ready.1 hi
    have := (Array.getElem?_eq_some_iff.1 ho).1
    omega
  | succ fuel ih =>
    intro k listed a w hk hsz hko hf hl h
    rcases Nat.eq_or_lt_of_le hko with e | hlt
    · rw [List.drop_eq_nil_iff.2 (by rw [Array.length_toList]; omega)] at h
      refine ⟨fun _ => h, fun i hi => ?_⟩
      have := hready k listed hk hsz hl i hi
      obtain ⟨_, o, ho, _⟩ := mem_ready.1 hi
      have := (Array.getElem?_eq_some_iff.1 ho).1
      omega
    · have ho : ops[k]? = some ops[k] := Array.getElem?_eq_getElem hlt
      have hd : ops.toList.drop k = ops[k] :: ops.toList.drop (k + 1) := by
        rw [List.drop_eq_getElem_cons (by rw [Array.length_toList]; exact hlt)]
        rfl
      have hin : k ∈ Region.ready .any ops listed := by
        rw [mem_ready]
        refine ⟨?_, _, ho, fun e he hb => ?_⟩
        · cases hb : listed.getD k true with
          | false => rfl
          | true => have := (hl k hlt).1 hb; omega
        · have h1 := (tailF_at ht hk ho).1 e he hb
          have h2 := (hl e.on (by omega)).2 h1
          have h3 : e.on < listed.size := by omega
          simp only [Array.getD_eq_getD_getElem?, Array.getElem?_eq_getElem h3, Option.getD_some] at h2 ⊢
          exact h2
      refine ⟨fun hr => (by rw [hr] at hin; cases hin), fun i hi => ?_⟩
      have := hready k listed hk hsz hl i hi
      subst this
      rw [hd] at h
      have hK : ∀ a w, wpList P ops Q (ops.toList.drop (i + 1)) a w → wpAny P .any ops Q fuel (listed.setIfInBounds i true) a w := by
        intro a w h
        refine ih (i + 1) _ a w (by omega) (by simp [hsz]) (by omega) (by omega) (fun j hj => ?_) h
        by_cases hji : j = i
        · subst hji
          have : j < listed.size := by omega
          simp [this]
        · rw [getD_set_ne true (Ne.symm hji), hl j hj]
          omega
      unfold wpOp
      rw [ho]
      unfold wpList at h
      show if Region.wanted ops[i] (yielded ops a.tmps) = true then _ else _
      split
      · rename_i hw
        rw [if_pos hw] at h
        exact h.imp (Oper.wp_mono hK) id
      · rename_i hw
        rw [if_neg hw] at h
        exact hK _ _ h

theorem wpAny_front {P : Program} {ops : Array Oper} {Q : Exit → Act → World → Prop} {a0 : Act} {w0 : World} {V : Nat → Value → World → Prop} {m : Nat} (ht : tidyF ops m a0.tmps.size = true) (htl : tailF ops m = true) (hst : ∀ i, Stays (V i))
    (steps : ∀ i, i < m → StepAt P ops Q a0 w0 V i)
    (last : ∀ a w, Framed ops a0 a → Below w0.heap.size w0 w → (∀ j, j < m → V j (a.eval (.tmp (slotAt ops j))) w) → wpList P ops Q (ops.toList.drop m) a w) :
    ∀ (fuel : Nat) (listed : Array Bool) (a : Act) (w : World), listed.size = ops.size → unlisted listed ≤ fuel → FramedBy ops listed a0 a → Below w0.heap.size w0 w → (∀ j, j < ops.size → m ≤ j → listed.getD j true = false) →
      (∀ j, j < m → listed.getD j true = true → V j (a.eval (.tmp (slotAt ops j))) w) → wpAny P .any ops Q fuel listed a w := by
  have hms : m ≤ ops.size := by unfold tidyF at ht; rw [Bool.and_eq_true] at ht; exact of_decide_eq_true ht.1
  have hlen : ∀ (l : List Bool) (k : Nat), (∀ j, k ≤ j → j < l.length → l.getD j true = false) → l.length - k ≤ (l.filter (fun b => !b)).length := by
    intro l
    induction l with
    | nil => intro k _; simp
    | cons b l ih =>
      intro k h
      cases k with
      | zero =>
        have h0 : b = false := h 0 (Nat.le_refl _) (by simp)
        subst h0
        have := ih 0 (fun j _ hj => h (j + 1) (by omega) (by simpa using hj))
        simp at this ⊢
        omega
      | succ k =>
        have := ih k (fun j hk hj => h (j + 1) (by omega) (by simpa using hj))
        cases b <;> simp at this ⊢ <;> omega
  intro fuel
  induction fuel with
  | zero =>
    intro listed a w hsz hu hf hb hun hV
    have hall : ∀ j, listed.getD j true = true := by
      intro j
      have h0 : listed.toList.filter (fun b => !b) = [] := List.eq_nil_of_length_eq_zero (by simpa [unlisted] using hu)
      rw [List.filter_eq_nil_iff] at h0
      rcases Nat.lt_or_ge j listed.size with h | h
      · have := h0 listed[j] (by simp)
        simp [h] at this ⊢
        exact this
      · simp [h]
    have hme : m = ops.size := by
      rcases Nat.eq_or_lt_of_le hms with h | h
      · exact h
      · have := hun m h (Nat.le_refl _); rw [hall] at this; cases this
    exact wpAny_tail ht htl 0 m listed a w (Nat.le_refl _) hsz hms (by omega) (fun j hj => ⟨fun _ => by omega, fun _ => hall j⟩) (last a w hf.all hb fun j hj => hV j hj (hall j))
  | succ fuel ih =>
    intro listed a w hsz hu hf hb hun hV
    by_cases hfull : ∀ j, j < m → listed.getD j true = true
    · refine wpAny_tail ht htl (fuel + 1) m listed a w (Nat.le_refl _) hsz hms ?_ (fun j hj => ⟨fun h => ?_, fun h => hfull j h⟩) (last a w hf.all hb fun j hj => hV j hj (hfull j hj))
      · have := hlen listed.toList m (fun j hj hjl => by have := hun j (by rw [← hsz]; simpa using hjl) hj; simpa [List.getD_eq_getElem?_getD, Array.getD_eq_getD_getElem?] using this)
        unfold unlisted at hu
        rw [Array.length_toList] at this
        omega
      · rcases Nat.lt_or_ge j m with h1 | h1
        · exact h1
        · have := hun j hj h1; rw [h] at this; cases this
    · have hin : ∀ i, i ∈ Region.ready .any ops listed → i < m := by
        intro i hi
        obtain ⟨hu1, o, ho, hall⟩ := mem_ready.1 hi
        have hilt : i < ops.size := (Array.getElem?_eq_some_iff.1 ho).1
        rcases Nat.lt_or_ge i m with h | h
        · exact h
        · exfalso
          apply hfull
          have hw : ∀ j, waits o j = true → listed.getD j true = true := by
            intro j hj
            obtain ⟨e, he, hbe⟩ := Array.any_eq_true'.1 hj
            simp only [Bool.and_eq_true, beq_iff_eq] at hbe
            have h1 := hall e he hbe.1
            rw [hbe.2] at h1
            have h3 : j < listed.size := by
              rcases Nat.lt_or_ge j listed.size with h4 | h4
              · exact h4
              · simp [Nat.not_lt.2 h4] at h1
            simp only [Array.getD_eq_getD_getElem?, Array.getElem?_eq_getElem h3, Option.getD_some] at h1 ⊢
            exact h1
          intro j hj
          rcases (tailF_at htl h ho).2 j (by omega) with h1 | ⟨q, u, hq, h1, hu2, h2⟩
          · exact hw j h1
          · exact hf.closed q u hu2 (hw q h1) j h2
      have hne : Region.ready .any ops listed ≠ [] := by
        intro hr
        apply hfull
        intro j
        induction j using Nat.strongRecOn with
        | ind j ihj =>
          intro hj
          cases hbj : listed.getD j true with
          | true => rfl
          | false =>
            have hjl : j < ops.size := by omega
            have ho : ops[j]? = some ops[j] := Array.getElem?_eq_getElem hjl
            have hm : j ∈ Region.ready .any ops listed := by
              rw [mem_ready]
              refine ⟨hbj, _, ho, fun e he hbe => ?_⟩
              have hlt := (tidyF_at ht hj ho).1 e he hbe
              have h1 := ihj e.on hlt (by omega)
              have h2 : e.on < listed.size := by omega
              simp only [Array.getD_eq_getD_getElem?, Array.getElem?_eq_getElem h2, Option.getD_some] at h1 ⊢
              exact h1
            rw [hr] at hm
            cases hm
      refine ⟨fun hr => absurd hr hne, fun i hi => ?_⟩
      have him := hin i hi
      obtain ⟨hu1, o, ho, hall⟩ := mem_ready.1 hi
      have hilt : i < ops.size := (Array.getElem?_eq_some_iff.1 ho).1
      obtain ⟨hback, d, hd, hdlt, hslot, _⟩ := tidyF_at ht him ho
      refine wpOp_step ho fun K' hK => ?_
      have hlw : ∀ j, waits o j = true → listed.getD j true = true := by
        intro j hj
        obtain ⟨e, he, hbe⟩ := Array.any_eq_true'.1 hj
        simp only [Bool.and_eq_true, beq_iff_eq] at hbe
        have h1 := hall e he hbe.1
        have h2 := hback e he hbe.1
        rw [← hbe.2]
        have h3 : e.on < listed.size := by omega
        simp only [Array.getD_eq_getD_getElem?, Array.getElem?_eq_getElem h3, Option.getD_some] at h1 ⊢
        exact h1
      refine steps i him o ho a w (hf.at_ hu1) hb ?_ K' ?_
      · intro j hj
        obtain ⟨e, he, hbe⟩ := Array.any_eq_true'.1 hj
        simp only [Bool.and_eq_true, beq_iff_eq] at hbe
        have h2 := hback e he hbe.1
        exact hV j (by rw [← hbe.2]; omega) (hlw j hj)
      · intro v w' hw hv
        refine hK _ _ (ih _ _ _ (by simp [hsz]) (by have := unlisted_set hu1; omega) (hf.put ho hsz hlw v) (hb.trans (hw.mono hb.size)) (fun j hj hmj => by rw [getD_set_ne true (by omega)]; exact hun j hj hmj) fun j hj hl => ?_)
        by_cases hji : j = i
        · subst hji
          have : (a.put o.dst v).eval (.tmp (slotAt ops j)) = v := by
            rw [hslot, hd]
            have hlt : d < a.tmps.size := by rw [hf.size]; exact hdlt
            simp [Act.eval, Act.put, hlt]
          rw [this]
          exact hv
        · have hoj : ops[j]? = some ops[j] := Array.getElem?_eq_getElem (by omega)
          have hnes := tidyF_ne ht hj him hoj ho hji
          rw [Act.eval_put (by intro d' hd' e; injection e with e; rw [hd] at hd'; injection hd' with hd'; rw [hslot] at hnes; exact hnes (e.trans hd'.symm))]
          rw [getD_set_ne true (Ne.symm hji)] at hl
          exact hst j _ _ _ hw (hV j hj hl)

/-- THE RULE. -/
theorem wp_region_front {P : Program} {ops : Array Oper} {Q : Exit → Act → World → Prop} {a0 : Act} {w0 : World} (V : Nat → Value → World → Prop) (m : Nat) {id : Nat} (hm : P.follows .mixedOrders = true)
    (ht : tidyF ops m a0.tmps.size = true) (htl : tailF ops m = true) (hst : ∀ i, Stays (V i)) (steps : ∀ i, i < m → StepAt P ops Q a0 w0.drew V i)
    (last : ∀ a w, Framed ops a0 a → Below w0.heap.size w0 w → (∀ j, j < m → V j (a.eval (.tmp (slotAt ops j))) w) → wpList P ops Q (ops.toList.drop m) a w) :
    (Code.region id ops true).wp P Q a0 w0 := by
  refine wp_region_any hm ?_
  refine wpAny_front (w0 := w0.drew) ht htl hst steps (fun a w hf hb hv => last a w hf ((Below.refl _ _).drew.trans hb) hv) _ _ _ _ (by simp) ?_ ?_ (Below.refl _ _) ?_ ?_
  · simp [unlisted]
  · refine ⟨rfl, rfl, fun _ _ => rfl, fun j o hj hl => ?_⟩
    have hlt := (Array.getElem?_eq_some_iff.1 hj).1
    simp [hlt] at hl
  · intro j hj _
    simp [hj]
  · intro j hj hl
    have hms : m ≤ ops.size := by unfold tidyF at ht; rw [Bool.and_eq_true] at ht; exact of_decide_eq_true ht.1
    have : j < ops.size := by omega
    simp [this] at hl
end Go.Proofs.Ytcjobmbbikfnaac
/-
  WHAT SINGLE OPERATIONS DO, further: an act in a box, a pair's parts (for regions that draw their order).
-/
namespace Go.Proofs.Ytcjobmbbikfnaac
open Go.RowKit

section
variable {w : World} {d : Option Tmp} {ty : TypeId} {pos : String} {af : Array Edge} {g : Option (Nat × Bool)} {x y : Operand}
theorem run_loadAb {ρ : Operand → Value} {s : Nat} {v : AV} (hx : ρ x = .pointer (some ⟨s, 0, none⟩)) (h : BoxA w s v) : (execOp ρ ⟨d, .load 43 x, ty, pos, af, g⟩).run Try.prog w = .ok (.value v.val) w := by
  obtain ⟨b0, b1, b2, b3, b4, b5, b6, bf, bz⟩ := h.facts
  simp [execOp, hx, go_sem, b0, b1, b2, b3, b4, b5, b6]
theorem run_lenF {ρ : Operand → Value} {A : Option Addr} {n c : Nat} {t : TypeId} (h : Try.prog.underlying t = some (.slice (Try.prog.elem t))) (hx : ρ x = .slice A n c) : (execOp ρ ⟨d, .call { callee := .builtin .len, args := #[x], argTypes := #[t] }, ty, pos, af, g⟩).run Try.prog w = .ok (.value (.int .i64 (n : Int))) w := by
  have hl := run_len_slice (P := Try.prog) (w := w) t ty A n c h
  clear h
  simp [hx, go_sem, hl]
theorem run_ext0 {ρ : Operand → Value} {u v : Value} (hx : ρ x = .tuple #[u, v]) : (execOp ρ ⟨d, .extract x 0, ty, pos, af, g⟩).run Try.prog w = .ok (.value u) w := by
  simp [execOp, hx, go_sem]
theorem run_ext1 {ρ : Operand → Value} {u v : Value} (hx : ρ x = .tuple #[u, v]) : (execOp ρ ⟨d, .extract x 1, ty, pos, af, g⟩).run Try.prog w = .ok (.value v) w := by
  simp [execOp, hx, go_sem]
end
/-- what an act comes to, as a map and an error; the map of it -/
def IsAm (spec : Int × List M.Nd) : Value → World → Prop := fun v W => ∃ m, v = .tuple #[.map m, .int .i64 spec.1] ∧ ((spec.1 = 0 ∧ ∃ bm, m = some bm ∧ TMap W bm spec.2) ∨ (spec.1 ≠ 0 ∧ m = none))
def IsAm0 (spec : Int × List M.Nd) : Value → World → Prop := fun v W => ∃ m, v = .map m ∧ ((spec.1 = 0 ∧ ∃ bm, m = some bm ∧ TMap W bm spec.2) ∨ (spec.1 ≠ 0 ∧ m = none))
theorem am_below {spec : Int × List M.Nd} {m : Option Nat} {W W' : World} (hb : Below W.heap.size W W') (h : (spec.1 = 0 ∧ ∃ bm, m = some bm ∧ TMap W bm spec.2) ∨ (spec.1 ≠ 0 ∧ m = none)) : (spec.1 = 0 ∧ ∃ bm, m = some bm ∧ TMap W' bm spec.2) ∨ (spec.1 ≠ 0 ∧ m = none) :=
  h.imp (fun ⟨h0, bm, e, ht⟩ => ⟨h0, bm, e, ht.below (Nat.le_refl _) hb⟩) id
theorem isAm_below {spec : Int × List M.Nd} {v : Value} {W W' : World} (hb : Below W.heap.size W W') (h : IsAm spec v W) : IsAm spec v W' := by
  obtain ⟨m, e, h⟩ := h
  exact ⟨m, e, am_below hb h⟩
theorem isAm0_below {spec : Int × List M.Nd} {v : Value} {W W' : World} (hb : Below W.heap.size W W') (h : IsAm0 spec v W) : IsAm0 spec v W' := by
  obtain ⟨m, e, h⟩ := h
  exact ⟨m, e, am_below hb h⟩
/-- an act's copy -/
def IsAc (y : M.Act) : Value → World → Prop := fun v W => ∃ av : AV, v = AV.val av ∧ ContA W av y
theorem isAc_below {y : M.Act} {v : Value} {W W' : World} (hb : Below W.heap.size W W') (h : IsAc y v W) : IsAc y v W' := by
  obtain ⟨av, e, h3⟩ := h
  exact ⟨av, e, h3.below (Nat.le_refl _) hb⟩
/-- a list of fids that many -/
def IsFn (n : Nat) : Value → World → Prop := fun v _ => ∃ (A : Option Addr) (c : Nat), v = .slice A n c
theorem bring_nil {xs : List M.Nd} {a : M.Act} {v : Int} (h : (M.bringS xs a v).1 ≠ 0) : (M.bringS xs a v).2 = [] := by
  revert h
  unfold M.bringS
  split
  · intro _; rfl
  · split
    · intro _; rfl
    · split
      · intro _; rfl
      · split
        · intro _; rfl
        · intro h; exact absurd rfl h
theorem store_nil {xs : List M.Nd} {a : M.Act} {v : Int} (h : (M.storeS xs a v).1 ≠ 0) : (M.storeS xs a v).2 = [] := by
  revert h
  unfold M.storeS
  split
  · intro _; rfl
  · split
    · intro _; rfl
    · split
      · intro _; rfl
      · intro h; exact absurd rfl h
theorem remove_nil {xs : List M.Nd} {a : M.Act} {v : Int} (h : (M.removeS xs a v).1 ≠ 0) : (M.removeS xs a v).2 = [] := by
  revert h
  unfold M.removeS
  split
  · intro _; rfl
  · split
    · intro _; rfl
    · split
      · intro _; rfl
      · intro h; exact absurd rfl h
theorem rename_nil {xs : List M.Nd} {a : M.Act} {v : Int} (h : (M.renameS xs a v).1 ≠ 0) : (M.renameS xs a v).2 = [] := by
  revert h
  unfold M.renameS
  split
  · intro _; rfl
  · split
    · intro _; rfl
    · split
      · intro _; rfl
      · split
        · intro _; rfl
        · split
          · intro _; rfl
          · intro h; exact absurd rfl h
theorem apply_nil {xs : List M.Nd} {a : M.Act} {v : Int} (h : (M.applyS xs a v).1 ≠ 0) : (M.applyS xs a v).2 = [] := by
  revert h
  unfold M.applyS
  split
  · exact bring_nil
  · split
    · exact store_nil
    · split
      · exact remove_nil
      · split
        · exact rename_nil
        · intro _; rfl
end Go.Proofs.Ytcjobmbbikfnaac
/-
  AN ACT IS STORED, cell by cell.
-/
namespace Go.Proofs.Ytcjobmbbikfnaac
open Go.RowKit

/-- an act is stored, cell by cell; a record -/
abbrev put7 (w : World) (s o : Nat) (a : AV) : World :=
  ((((((w.setCell ⟨s, o, none⟩ (.int .i64 a.kind)).setCell ⟨s, o + 1, none⟩ (.int .i64 a.fid)).setCell ⟨s, o + 2, none⟩ (.int .i64 a.dir)).setCell ⟨s, o + 3, none⟩ (.string a.name)).setCell ⟨s, o + 4, none⟩ (.int .i64 a.to)).setCell ⟨s, o + 5, none⟩ (.string a.toName)).setCell ⟨s, o + 6, none⟩ (.slice a.dA a.dn a.dc)
theorem put7_below {B : Nat} {a w : World} (h : Below B a w) {s : Nat} (hs : B ≤ s) (o : Nat) (v : AV) : Below B a (put7 w s o v) :=
  ((((((h.setCell (by exact hs) _).setCell (by exact hs) _).setCell (by exact hs) _).setCell (by exact hs) _).setCell (by exact hs) _).setCell (by exact hs) _).setCell (by exact hs) _
theorem put7_own {w : World} {B : Nat} {e : TypeId} {k : Nat} {v : Value} {n : Nat} {xs : List Value} (h : w.ownsRow B e k v n xs) {s : Nat} (hs : s < B) (o : Nat) (x : AV) : (put7 w s o x).ownsRow B e k v n xs :=
  ownsRow_setCell_below (ownsRow_setCell_below (ownsRow_setCell_below (ownsRow_setCell_below (ownsRow_setCell_below (ownsRow_setCell_below (ownsRow_setCell_below h (by exact hs) _) (by exact hs) _) (by exact hs) _) (by exact hs) _) (by exact hs) _) (by exact hs) _) (by exact hs) _
theorem boxA_set1 {w : World} {s : Nat} {a : AV} (h : BoxA w s a) (k : Int) : BoxA (w.setCell ⟨s, 1, none⟩ (.int .i64 k)) s ⟨a.kind, k, a.dir, a.name, a.to, a.toName, a.dA, a.dn, a.dc⟩ := by
  unfold BoxA at h ⊢; rw [heap_setCell_same _ _ _ _ _ _ h]; rfl
theorem boxA_set2 {w : World} {s : Nat} {a : AV} (h : BoxA w s a) (k : Int) : BoxA (w.setCell ⟨s, 2, none⟩ (.int .i64 k)) s ⟨a.kind, a.fid, k, a.name, a.to, a.toName, a.dA, a.dn, a.dc⟩ := by
  unfold BoxA at h ⊢; rw [heap_setCell_same _ _ _ _ _ _ h]; rfl
theorem boxA_set4 {w : World} {s : Nat} {a : AV} (h : BoxA w s a) (k : Int) : BoxA (w.setCell ⟨s, 4, none⟩ (.int .i64 k)) s ⟨a.kind, a.fid, a.dir, a.name, k, a.toName, a.dA, a.dn, a.dc⟩ := by
  unfold BoxA at h ⊢; rw [heap_setCell_same _ _ _ _ _ _ h]; rfl
set_option maxHeartbeats 2000000 in
theorem put7_box {w : World} {s : Nat} {v : AV} (h : BoxA w s v) (x : AV) : BoxA (put7 w s 0 x) s x := by
  unfold BoxA at h ⊢
  have e0 := heap_setCell_same w s 0 _ 43 (.int .i64 x.kind) h
  have e1 := heap_setCell_same _ s 1 _ 43 (.int .i64 x.fid) e0
  have e2 := heap_setCell_same _ s 2 _ 43 (.int .i64 x.dir) e1
  have e3 := heap_setCell_same _ s 3 _ 43 (.string x.name) e2
  have e4 := heap_setCell_same _ s 4 _ 43 (.int .i64 x.to) e3
  have e5 := heap_setCell_same _ s 5 _ 43 (.string x.toName) e4
  exact heap_setCell_same _ s 6 _ 43 (.slice x.dA x.dn x.dc) e5
theorem put7_other {w : World} {s t : Nat} (ht : t ≠ s) (o : Nat) (x : AV) : (put7 w s o x).heap[t]? = w.heap[t]? := by
  have h : ∀ (W : World) (k : Nat) (u : Value), (W.setCell ⟨s, k, none⟩ u).heap[t]? = W.heap[t]? := fun W k u => Below.heap_setCell _ _ _ _ (by exact ht)
  simp only [put7, h]
end Go.Proofs.Ytcjobmbbikfnaac
/-
  PACKAGE cert: an act as it is here.
-/
namespace Go.Proofs.Ytcjobmbbikfnaac
open Go.RowKit
open Go.ChangeMaps (setBlock)

section
variable {w : World} {d : Option Tmp} {ty : TypeId} {pos : String} {af : Array Edge} {g : Option (Nat × Bool)} {x y : Operand}
theorem run_alloc3 {ρ : Operand → Value} : (execOp ρ ⟨d, .alloc 3, ty, pos, af, g⟩).run Try.prog w = .ok (.value (.pointer (some ⟨w.heap.size, 0, none⟩))) (w.alloc (.cells #[.int .i64 0] 3)) := by
  simp [execOp, go_sem]
theorem run_alloc4 {ρ : Operand → Value} : (execOp ρ ⟨d, .alloc 4, ty, pos, af, g⟩).run Try.prog w = .ok (.value (.pointer (some ⟨w.heap.size, 0, none⟩))) (w.alloc (.cells #[.bool false] 4)) := by
  simp [execOp, go_sem]
end
/-- a new block of one cell -/
def IsB (lo : Nat) (t : TypeId) (u : Value) : Value → World → Prop := fun v W => ∃ g, v = .pointer (some ⟨g, 0, none⟩) ∧ lo ≤ g ∧ W.heap[g]? = some (.cells #[u] t (0, 0))
theorem isB_stays (lo : Nat) (t : TypeId) (u : Value) : Stays (IsB lo t u) := by
  rintro v W W' hb ⟨g, e, hl, h⟩
  exact ⟨g, e, hl, by rw [hb.block g (lt_of_block h)]; exact h⟩
theorem isB_new {lo : Nat} {t : TypeId} {u : Value} {W : World} (h : lo ≤ W.heap.size) : IsB lo t u (.pointer (some ⟨W.heap.size, 0, none⟩)) (W.alloc (.cells #[u] t)) := ⟨W.heap.size, rfl, h, heap_alloc_new W _⟩
def VH (s : Nat) (a : AV) (mk : Bool) (lo : Nat) : Nat → Value → World → Prop
  | 0 => IsU (.pointer (some ⟨s, 1, none⟩))
  | 1 => IsU (.int .i64 a.fid)
  | 2 => IsU a.val
  | 3 => IsU (.bool mk)
  | 4 => IsB lo 3 (.int .i64 0)
  | 5 => IsB lo 4 (.bool false)
  | _ => fun _ _ => True
theorem VH_stays (s : Nat) (a : AV) (mk : Bool) (lo : Nat) : ∀ i, Stays (VH s a mk lo i) := by
  intro i v W W' hb h
  match i, h with
  | 0, h => exact h
  | 1, h => exact h
  | 2, h => exact h
  | 3, h => exact h
  | 4, h => exact isB_stays _ _ _ _ _ _ hb h
  | 5, h => exact isB_stays _ _ _ _ _ _ hb h
  | k + 6, h => trivial
theorem two_end {W : World} {bo bm : Nat} {u v : Value} (ho : W.heap[bo]? = some (.cells #[u] 3 (0, 0))) (hm : W.heap[bm]? = some (.cells #[v] 4 (0, 0))) (x y : Value) :
    ∀ W3, W3 = (W.setCell ⟨bo, 0, none⟩ x).setCell ⟨bm, 0, none⟩ y → W3.heap[bo]? = some (.cells #[x] 3 (0, 0)) ∧ W3.heap[bm]? = some (.cells #[y] 4 (0, 0)) ∧ (∀ B w, Below B w W → B ≤ bo → B ≤ bm → Below B w W3) := by
  rintro W3 rfl
  have hne : bo ≠ bm := by rintro rfl; rw [ho] at hm; cases hm
  refine ⟨?_, ?_, fun B w hb h1 h2 => (hb.setCell (p := ⟨bo, 0, none⟩) h1 _).setCell (p := ⟨bm, 0, none⟩) h2 _⟩
  · rw [Below.heap_setCell _ _ _ _ (by exact hne)]
    exact heap_setCell_same _ _ _ _ _ _ ho
  · have h := heap_setCell_same (W.setCell ⟨bo, 0, none⟩ x) bm 0 #[v] 4 y (by rw [Below.heap_setCell _ _ _ _ (by exact Ne.symm hne)]; exact hm)
    exact h
theorem here_start (w : World) (a : AV) (sb : Nat) : ∀ W, W = ((w.alloc (.cells #[.pointer (some ⟨sb, 0, none⟩)] 59)).alloc (.cells #[.int .i64 a.kind, .int .i64 a.fid, .int .i64 a.dir, .string a.name, .int .i64 a.to, .string a.toName, .slice a.dA a.dn a.dc] 43)).alloc (.cells #[.int .i64 0, .int .i64 0, .int .i64 0, .string ⟨#[]⟩, .int .i64 0, .string ⟨#[]⟩, .slice none 0 0] 43) →
    Below w.heap.size w W ∧ W.heap[w.heap.size]? = some (.cells #[.pointer (some ⟨sb, 0, none⟩)] 59 (0, 0)) ∧ BoxA W (w.heap.size + 1) a ∧ BoxA W (w.heap.size + 2) AV.zero ∧ W.heap.size = w.heap.size + 3 := by
  rintro W rfl
  refine ⟨(((Below.refl _ _).alloc (Nat.le_refl _) _).alloc (by simp) _).alloc (by simp; omega) _, ?_, ?_, ?_, by simp⟩
  · rw [Below.heap_alloc _ _ _ (by simp; omega), Below.heap_alloc _ _ _ (by simp)]
    exact heap_alloc_new w _
  · have := BoxA.new (w.alloc (.cells #[.pointer (some ⟨sb, 0, none⟩)] 59)) a
    rw [World.size_alloc] at this
    exact this.alloc _
  · unfold BoxA
    have := heap_alloc_new ((w.alloc (.cells #[.pointer (some ⟨sb, 0, none⟩)] 59)).alloc (.cells #[.int .i64 a.kind, .int .i64 a.fid, .int .i64 a.dir, .string a.name, .int .i64 a.to, .string a.toName, .slice a.dA a.dn a.dc] 43)) (.cells #[.int .i64 0, .int .i64 0, .int .i64 0, .string ⟨#[]⟩, .int .i64 0, .string ⟨#[]⟩, .slice none 0 0] 43)
    simpa [AV.zero] using this
/-- where here is, behind its closure's variables -/
structure HereI (w W : World) (sb bo bm : Nat) (x : AV) (ac : M.Act) : Prop where
  below : Below w.heap.size w W
  st : W.heap[w.heap.size]? = some (.cells #[.pointer (some ⟨sb, 0, none⟩)] 59 (0, 0))
  box : BoxA W (w.heap.size + 1) x
  res : BoxA W (w.heap.size + 2) AV.zero
  own : W.ownsRow (w.heap.size + 3) 5 1 (.slice x.dA x.dn x.dc) x.dn (ac.data.flatMap byteCells1)
  ho : W.heap[bo]? = some (.cells #[.int .i64 ac.fid] 3 (0, 0))
  hm : W.heap[bm]? = some (.cells #[.bool (M.makeB ac)] 4 (0, 0))
  lo : w.heap.size + 3 ≤ bo ∧ w.heap.size + 3 ≤ bm
theorem HereI.facts {w W : World} {sb bo bm : Nat} {x : AV} {ac : M.Act} (h : HereI w W sb bo bm x ac) : W.cell? ⟨w.heap.size, 0, none⟩ = some (.pointer (some ⟨sb, 0, none⟩)) ∧ W.cell? ⟨bo, 0, none⟩ = some (.int .i64 ac.fid) ∧ W.cell? ⟨bm, 0, none⟩ = some (.bool (M.makeB ac)) :=
  ⟨by simp [World.cell?, h.st], by simp [World.cell?, h.ho], by simp [World.cell?, h.hm]⟩
/-- a cell of the act is written -/
theorem HereI.set {w W : World} {sb bo bm : Nat} {x y : AV} {ac : M.Act} (h : HereI w W sb bo bm x ac) (o : Nat) (u : Value) (hb : BoxA (W.setCell ⟨w.heap.size + 1, o, none⟩ u) (w.heap.size + 1) y) (hy : y.dA = x.dA ∧ y.dn = x.dn ∧ y.dc = x.dc) : HereI w (W.setCell ⟨w.heap.size + 1, o, none⟩ u) sb bo bm y ac := by
  have hh : ∀ q, q ≠ w.heap.size + 1 → (W.setCell ⟨w.heap.size + 1, o, none⟩ u).heap[q]? = W.heap[q]? := fun q hq => Below.heap_setCell _ _ _ _ (by exact hq)
  refine ⟨h.below.setCell (p := ⟨w.heap.size + 1, o, none⟩) (Nat.le_succ _) u, by rw [hh _ (by omega)]; exact h.st, hb, ?_, ?_, by rw [hh _ (by have := h.lo; omega)]; exact h.ho, by rw [hh _ (by have := h.lo; omega)]; exact h.hm, h.lo⟩
  · unfold BoxA; rw [hh _ (by omega)]; exact h.res
  · rw [hy.1, hy.2.1, hy.2.2]
    exact ownsRow_setCell_below h.own (a := ⟨w.heap.size + 1, o, none⟩) (by show w.heap.size + 1 < _; omega) u
theorem HereI.drew {w W : World} {sb bo bm : Nat} {x : AV} {ac : M.Act} (h : HereI w W sb bo bm x ac) : HereI w W.drew sb bo bm x ac := by
  have hd : Below W.heap.size W W.drew := (Below.refl _ _).drew
  exact ⟨h.below.trans (hd.mono h.below.size), h.st, h.box, h.res, own_below h.own hd (Nat.le_refl _), h.ho, h.hm, h.lo⟩

theorem HereI.of {w w2 W : World} {sb bo bm : Nat} {x : AV} {ac : M.Act} (h : Below w.heap.size w w2 ∧ w2.heap[w.heap.size]? = some (.cells #[.pointer (some ⟨sb, 0, none⟩)] 59 (0, 0)) ∧ BoxA w2 (w.heap.size + 1) x ∧ BoxA w2 (w.heap.size + 2) AV.zero ∧ w2.ownsRow (w.heap.size + 3) 5 1 (.slice x.dA x.dn x.dc) x.dn (ac.data.flatMap byteCells1) ∧ w.heap.size + 3 ≤ w2.heap.size)
    (hb : Below w2.heap.size w2 W) (ho : W.heap[bo]? = some (.cells #[.int .i64 ac.fid] 3 (0, 0))) (hm : W.heap[bm]? = some (.cells #[.bool (M.makeB ac)] 4 (0, 0))) (lo : w2.heap.size ≤ bo ∧ w2.heap.size ≤ bm) : HereI w W sb bo bm x ac :=
  ⟨h.1.trans (hb.mono h.1.size), by rw [hb.block _ (lt_of_block h.2.1)]; exact h.2.1, h.2.2.1.below hb (lt_of_block h.2.2.1), h.2.2.2.1.below hb (lt_of_block h.2.2.2.1), own_below h.2.2.2.2.1 hb (Nat.le_refl _), ho, hm, by have := h.2.2.2.2.2; omega⟩

set_option maxRecDepth 8000 in
set_option maxHeartbeats 4000000 in
theorem here_any (s : M.St) (a : AV) (ac : M.Act) (B sb : Nat) (A : Option Addr) (n c : Nat) (us : List NV) (D : Option Addr) (p q : Nat) (avs : List AV) (b1 b2 b3 : Nat) (w : World) (h : StM w B sb s A n c us D p q avs b1 b2 b3) (ha : ContA w a ac) (hs : ac.data.length ≤ 140737488355328) :
    Calls Try.prog 33 #[.pointer (some ⟨sb, 0, none⟩), a.val] w fun e w' => ∃ a' : AV, e = .returned a'.val ∧ OwnA w' w.heap.size a' (M.hereS s ac) ∧ Below w.heap.size w w' := by
  have HS : Hid (StM w B sb s A n c us D p q avs b1 b2 b3 ∧ ContA w a ac) := ⟨h, ha⟩
  have HW : Hid _ := here_start w a sb
  clear h ha
  go_enter Try.func33, Try.ntmps33
  go_wp2_with (fail)
  obtain ⟨q1, q2, q3, q4, q5⟩ := HW.out _ rfl
  refine (ownAct_any a ac _ (HS.out.2.below (Nat.le_refl _) q1) hs).mono ?_
  rintro e w1 ⟨x1, rfl, ho, hb1⟩
  rw [q5] at ho
  obtain ⟨xk, xf, xd, xn, xt, xtn, dA, dn, dc⟩ := x1
  obtain ⟨rfl, rfl, rfl, rfl, rfl, rfl, how⟩ := ho
  have hz1 := hb1.size
  rw [q5] at hz1
  have H1 : Hid (Below w.heap.size w w1 ∧ w1.heap[w.heap.size]? = some (.cells #[.pointer (some ⟨sb, 0, none⟩)] 59 (0, 0)) ∧ BoxA w1 (w.heap.size + 1) a ∧ BoxA w1 (w.heap.size + 2) AV.zero ∧ w1.ownsRow (w.heap.size + 3) 5 1 (.slice dA dn dc) dn (ac.data.flatMap byteCells1)) :=
    ⟨q1.trans (hb1.mono (by omega)), by rw [hb1.block _ (by omega)]; exact q2, q3.below hb1 (by omega), q4.below hb1 (by omega), how⟩
  have hsz : w.heap.size + 3 ≤ w1.heap.size := hz1
  clear q1 q2 q3 q4 q5 hb1 how HW hz1
  obtain ⟨a0, a1, a2, a3, a4, a5, a6, af, az⟩ := H1.out.2.2.1.facts
  go_upto_region 2 with (fail)
  have hE : ∃ W2, W2 = put7 w1 (w.heap.size + 1) 0 ⟨ac.kind, ac.fid, ac.dir, ac.name, ac.to, ac.toName, dA, dn, dc⟩ := ⟨_, rfl⟩
  obtain ⟨w2, hW2⟩ := hE
  have H2 : Hid (Below w.heap.size w w2 ∧ w2.heap[w.heap.size]? = some (.cells #[.pointer (some ⟨sb, 0, none⟩)] 59 (0, 0)) ∧ BoxA w2 (w.heap.size + 1) ⟨ac.kind, ac.fid, ac.dir, ac.name, ac.to, ac.toName, dA, dn, dc⟩ ∧ BoxA w2 (w.heap.size + 2) AV.zero ∧ w2.ownsRow (w.heap.size + 3) 5 1 (.slice dA dn dc) dn (ac.data.flatMap byteCells1) ∧ w.heap.size + 3 ≤ w2.heap.size) := by
    rw [hW2]
    refine ⟨put7_below H1.out.1 (Nat.le_succ _) 0 _, by rw [put7_other (by omega)]; exact H1.out.2.1, put7_box H1.out.2.2.1 _, ?_, put7_own H1.out.2.2.2.2 (by omega) 0 _, by simp [put7]; exact hsz⟩
    unfold BoxA; rw [put7_other (by omega)]; exact H1.out.2.2.2.1
  simp only [put7, Nat.reduceAdd] at hW2
  rw [← hW2]
  clear hW2 H1 a0 a1 a2 a3 a4 a5 a6 af az hsz
  go_cut [5, 6] from 10 to 13 (fun u v W => ∃ bo bm, u = .pointer (some ⟨bo, 0, none⟩) ∧ v = .pointer (some ⟨bm, 0, none⟩) ∧ Hid (HereI w W sb bo bm ⟨ac.kind, ac.fid, ac.dir, ac.name, ac.to, ac.toName, dA, dn, dc⟩ ac))
  case first =>
    have hbd : ∀ W, Below w2.drew.heap.size w2.drew W → Below w2.heap.size w2 W := fun W hb => (Below.refl _ _).drew.trans hb
    refine wp_region_front (VH (w.heap.size + 1) ⟨ac.kind, ac.fid, ac.dir, ac.name, ac.to, ac.toName, dA, dn, dc⟩ (M.makeB ac) w2.heap.size) 6 (by kernel_rfl) (by kernel_rfl) (by kernel_rfl) (VH_stays _ _ _ _) ?_ ?_
    · intro i hi
      match i, hi with
      | 0, _ =>
        refine StepAt.by rfl fun a' W hf hb hd => .inl ⟨want_none, ?_⟩
        exact does_rn (run_fieldA ((hf.keeps 3 (by kernel_rfl)).trans rfl) (by decide)) ⟨Below.refl _ _, rfl⟩
      | 1, _ =>
        refine StepAt.by rfl fun a' W hf hb hd => .inl ⟨want_none, ?_⟩
        exact does_rn (run_load3 (hd 0 (by kernel_rfl)) (H2.out.2.2.1.below (hbd W hb) (lt_of_block H2.out.2.2.1)).facts.2.1) ⟨Below.refl _ _, rfl⟩
      | 2, _ =>
        refine StepAt.by rfl fun a' W hf hb hd => .inl ⟨want_none, ?_⟩
        exact does_rn (run_loadAb ((hf.keeps 3 (by kernel_rfl)).trans rfl) (H2.out.2.2.1.below (hbd W hb) (lt_of_block H2.out.2.2.1))) ⟨Below.refl _ _, rfl⟩
      | 3, _ =>
        refine StepAt.by rfl fun a' W hf hb hd => .inl ⟨want_none, ?_⟩
        refine does_call1 (enters_of Try.func35 (by kernel_rfl) (by kernel_rfl)) (hd 2 (by kernel_rfl)) ((making_any _ W).mono ?_)
        rintro e w' ⟨rfl, hb'⟩
        exact ⟨_, rfl, hb', rfl⟩
      | 4, _ =>
        refine StepAt.by rfl fun a' W hf hb hd => .inl ⟨want_none, ?_⟩
        exact does_rn run_alloc3 ⟨(Below.refl _ _).alloc (Nat.le_refl _) _, isB_new (hbd W hb).size⟩
      | 5, _ =>
        refine StepAt.by rfl fun a' W hf hb hd => .inl ⟨want_none, ?_⟩
        exact does_rn run_alloc4 ⟨(Below.refl _ _).alloc (Nat.le_refl _) _, isB_new (hbd W hb).size⟩
      | k + 6, hi => exact absurd hi (Nat.not_lt.2 (Nat.le_add_left _ _))
    · intro a' W hf hb0 hv
      have e11 : a'.eval (.tmp 11) = .int .i64 ac.fid := hv 1 (by decide)
      have e13 : a'.eval (.tmp 13) = .bool (M.makeB ac) := hv 3 (by decide)
      obtain ⟨bo, e5, lo, ho⟩ := hv 4 (by decide)
      obtain ⟨bm, e6, lm, hm⟩ := hv 5 (by decide)
      have e5' : a'.eval (.tmp 5) = .pointer (some ⟨bo, 0, none⟩) := e5
      have e6' : a'.eval (.tmp 6) = .pointer (some ⟨bm, 0, none⟩) := e6
      have hl := hf.lit (fun t => decide (10 ≤ t) && decide (t ≤ 13) || decide (t = 5) || decide (t = 6)) (by kernel_rfl)
      simp only [overL, Nat.reduceAdd, Nat.reduceLeDiff, Nat.reduceEqDiff, decide_true, decide_false, Bool.and_true, Bool.and_false, Bool.or_true, Bool.or_false] at hl
      rw [hl, e11, e13, e5', e6']
      have HE : Hid _ := two_end ho hm (.int .i64 ac.fid) (.bool (M.makeB ac))
      have HB0 : Hid (Below w2.heap.size w2 W ∧ w2.heap.size ≤ bo ∧ w2.heap.size ≤ bm) := ⟨hb0, lo, lm⟩
      have co : W.cell? ⟨bo, 0, none⟩ = some (.int .i64 0) := by simp [World.cell?, ho]
      have cm : W.cell? ⟨bm, 0, none⟩ = some (.bool false) := by simp [World.cell?, hm]
      have fo : W.frozen? ⟨bo, 0, none⟩ = false := by simp [World.frozen?, ho]
      have fm : W.frozen? ⟨bm, 0, none⟩ = false := by simp [World.frozen?, hm]
      have hne : bo ≠ bm := by rintro rfl; rw [ho] at hm; cases hm
      clear hl hf hb0 hv e11 e13 e5 e6 e5' e6' ho hm
      simp only [List.drop_succ_cons, List.drop_zero]
      go_wp2_with (fail)
      go_meet
      case rel =>
        obtain ⟨e1, e2, e3⟩ := HE.out _ rfl
        exact ⟨bo, bm, rfl, rfl, HereI.of H2.out (e3 _ _ HB0.out.1 HB0.out.2.1 HB0.out.2.2) e1 e2 HB0.out.2⟩
  obtain ⟨bo, bm, rfl, rfl, HI⟩ := hcut
  rename World => w4
  clear H2
  obtain ⟨ks, ko, km⟩ := HI.out.facts
  obtain ⟨a0, a1, a2, a3, a4, a5, a6, af, az⟩ := HI.out.box.facts
  have HST : Hid (StM w4.drew B sb s A n c us D p q avs b1 b2 b3) := (HS.out.1.below (Nat.le_refl _) HI.out.below).below (Nat.le_refl _) ((Below.refl _ _).drew)
  go_upto_region 4 with (fail)
  go_cut [] from 15 to 24 (fun W => Hid (HereI w W sb bo bm ⟨ac.kind, M.turnS s ac ac.fid, M.turnS s ac ac.dir, ac.name, ac.to, ac.toName, dA, dn, dc⟩ ac))
  case first =>
    have HF : Hid (∀ W, W = ((w4.setCell ⟨w.heap.size + 1, 1, none⟩ (.int .i64 (M.turnS s ac ac.fid))).setCell ⟨w.heap.size + 1, 2, none⟩ (.int .i64 (M.turnS s ac ac.dir))).drew → HereI w W sb bo bm ⟨ac.kind, M.turnS s ac ac.fid, M.turnS s ac ac.dir, ac.name, ac.to, ac.toName, dA, dn, dc⟩ ac) := by
      rintro W rfl
      have h1 := HI.out.set 1 _ (boxA_set1 HI.out.box (M.turnS s ac ac.fid)) ⟨rfl, rfl, rfl⟩
      exact (h1.set 2 _ (boxA_set2 h1.box (M.turnS s ac ac.dir)) ⟨rfl, rfl, rfl⟩).drew
    go_region_with (go_at_call 40; refine (turned_any s ac _ B sb bm bo w.heap.size A n c us D p q avs b1 b2 b3 w4.drew HST.out km ko ks).mono ?_; rintro e w5 ⟨rfl, rfl⟩)
    all_goals
      go_wp2_with (fail)
      go_meet
      case rel => exact HF.out _ rfl
  rename World => w5
  have H5 : Hid (HereI w w5 sb bo bm ⟨ac.kind, M.turnS s ac ac.fid, M.turnS s ac ac.dir, ac.name, ac.to, ac.toName, dA, dn, dc⟩ ac) := hcut
  clear hcut HI HST ks ko km a0 a1 a2 a3 a4 a5 a6 af az
  obtain ⟨ks, ko, km⟩ := H5.out.facts
  obtain ⟨a0, a1, a2, a3, a4, a5, a6, af, az⟩ := H5.out.box.facts
  obtain ⟨z0, z1, z2, z3, z4, z5, z6, zf, zz⟩ := H5.out.res.facts
  have HST : Hid (StM w5 B sb s A n c us D p q avs b1 b2 b3) := HS.out.1.below (Nat.le_refl _) H5.out.below
  by_cases h5 : ac.kind = 5
  · have k5 : (ac.kind == 5) = true := by simp [h5]
    have HP : Hid (∀ W, W = put7 (w5.setCell ⟨w.heap.size + 1, 4, none⟩ (.int .i64 (M.turnS s ac ac.to))) (w.heap.size + 2) 0 ⟨ac.kind, M.turnS s ac ac.fid, M.turnS s ac ac.dir, ac.name, M.turnS s ac ac.to, ac.toName, dA, dn, dc⟩ → OwnA W w.heap.size ⟨ac.kind, M.turnS s ac ac.fid, M.turnS s ac ac.dir, ac.name, M.turnS s ac ac.to, ac.toName, dA, dn, dc⟩ (M.hereS s ac) ∧ Below w.heap.size w W) := by
      rintro W rfl
      have h1 := H5.out.set 4 _ (boxA_set4 H5.out.box (M.turnS s ac ac.to)) ⟨rfl, rfl, rfl⟩
      exact ⟨⟨rfl, rfl, rfl, rfl, by unfold M.hereS; rw [if_pos h5], rfl, own_mono (put7_own h1.own (by omega) 0 _) (Nat.le_add_right _ 3)⟩, put7_below h1.below (by omega) 0 _⟩
    clear h5
    go_wp2_with (go_at_call 40; refine (turned_any s ac _ B sb bm bo w.heap.size A n c us D p q avs b1 b2 b3 w5 HST.out km ko ks).mono ?_; rintro e w6 ⟨rfl, hw⟩; rw [hw]; clear hw)
    exact bodyPost_ret (v := AV.val ⟨ac.kind, M.turnS s ac ac.fid, M.turnS s ac ac.dir, ac.name, M.turnS s ac ac.to, ac.toName, dA, dn, dc⟩) (by simp [results, Try.results33, go_sem, z0, z1, z2, z3, z4, z5, z6]) rfl ⟨_, rfl, HP.out _ rfl⟩
  · have k5 : (ac.kind == 5) = false := by simp [h5]
    have HP : Hid (∀ W, W = put7 w5 (w.heap.size + 2) 0 ⟨ac.kind, M.turnS s ac ac.fid, M.turnS s ac ac.dir, ac.name, ac.to, ac.toName, dA, dn, dc⟩ → OwnA W w.heap.size ⟨ac.kind, M.turnS s ac ac.fid, M.turnS s ac ac.dir, ac.name, ac.to, ac.toName, dA, dn, dc⟩ (M.hereS s ac) ∧ Below w.heap.size w W) := by
      rintro W rfl
      exact ⟨⟨rfl, rfl, rfl, rfl, by unfold M.hereS; rw [if_neg h5], rfl, own_mono (put7_own H5.out.own (by omega) 0 _) (Nat.le_add_right _ 3)⟩, put7_below H5.out.below (by omega) 0 _⟩
    clear h5
    go_wp2_with (fail)
    exact bodyPost_ret (v := AV.val ⟨ac.kind, M.turnS s ac ac.fid, M.turnS s ac ac.dir, ac.name, ac.to, ac.toName, dA, dn, dc⟩) (by simp [results, Try.results33, go_sem, z0, z1, z2, z3, z4, z5, z6]) rfl ⟨_, rfl, HP.out _ rfl⟩
end Go.Proofs.Ytcjobmbbikfnaac
/-
  PACKAGE cert: whether a record may be done.
-/
namespace Go.Proofs.Ytcjobmbbikfnaac
open Go.RowKit
open Go.ChangeMaps (setBlock)

theorem boxR_new (w : World) (r : RV) (a : AV) : ∀ W, W = (w.alloc (.cells #[.int .i64 r.a.kind, .int .i64 r.a.fid, .int .i64 r.a.dir, .string r.a.name, .int .i64 r.a.to, .string r.a.toName, .slice r.a.dA r.a.dn r.a.dc, .int .i64 r.ver, .int .i64 r.id] 53)).alloc (.cells #[.int .i64 a.kind, .int .i64 a.fid, .int .i64 a.dir, .string a.name, .int .i64 a.to, .string a.toName, .slice a.dA a.dn a.dc] 43) → Below w.heap.size w W ∧ BoxR W w.heap.size r ∧ BoxA W (w.heap.size + 1) a ∧ W.heap.size = w.heap.size + 2 := by
  rintro W rfl
  refine ⟨((Below.refl _ _).alloc (Nat.le_refl _) _).alloc (by simp) _, (BoxR.new w r).alloc _, ?_, by simp⟩
  have h := BoxA.new (w.alloc (.cells #[.int .i64 r.a.kind, .int .i64 r.a.fid, .int .i64 r.a.dir, .string r.a.name, .int .i64 r.a.to, .string r.a.toName, .slice r.a.dA r.a.dn r.a.dc, .int .i64 r.ver, .int .i64 r.id] 53)) a
  rw [World.size_alloc] at h
  exact h
/-- what try answers -/
def TryPost (w : World) (spec : Int × List M.Nd) (e : Ending) (w' : World) : Prop :=
  ∃ (A : Option Addr) (m d : Nat) (us : List NV), e = .returned (.tuple #[.slice A m d, .int .i64 spec.1]) ∧ OwnT w' w.heap.size A m d us spec.2 ∧ Below w.heap.size w w'
theorem TryPost.err {w w' : World} {spec : Int × List M.Nd} {k : Int} (h : spec = (k, [])) (hb : Below w.heap.size w w') : TryPost w spec (.returned (.tuple #[.slice none 0 0, .int .i64 k])) w' := by
  rw [h]
  exact ⟨none, 0, 0, [], rfl, ownT_nil _ _, hb⟩

set_option maxRecDepth 8000 in
set_option maxHeartbeats 4000000 in
theorem try_any (s : M.St) (r : RV) (x : M.Rec) (a : AV) (B sb : Nat) (A : Option Addr) (n c : Nat) (us : List NV) (D : Option Addr) (p q : Nat) (avs : List AV) (b1 b2 b3 : Nat) (w : World) (h : StM w B sb s A n c us D p q avs b1 b2 b3) (hg : Good s.tr) (hr : ContR w r x) (ha : ContA w a (M.hereS s x.act)) (hsa : SmallA (M.hereS s x.act)) :
    Calls Try.prog 34 #[.pointer (some ⟨sb, 0, none⟩), r.val, a.val] w (TryPost w (M.tryS s x)) := by
  have HS : Hid (StM w B sb s A n c us D p q avs b1 b2 b3 ∧ ContR w r x ∧ ContA w a (M.hereS s x.act) ∧ Good s.tr ∧ SmallA (M.hereS s x.act)) := ⟨h, hr, ha, hg, hsa⟩
  have HW : Hid _ := boxR_new w r a
  clear h hr ha hg hsa
  go_enter Try.func34, Try.ntmps34
  go_wp2_with (fail)
  obtain ⟨q1, q2, q3, q4⟩ := HW.out _ rfl
  refine (rests_any s r.a x.act B sb A n c us D p q avs b1 b2 b3 _ (HS.out.1.below (Nat.le_refl _) q1) (HS.out.2.1.1.below (Nat.le_refl _) q1)).mono ?_
  rintro e w1 ⟨rfl, hb1⟩
  have hz1 := hb1.size
  rw [q4] at hz1
  have H1 : Hid (Below w.heap.size w w1 ∧ BoxR w1 w.heap.size r ∧ BoxA w1 (w.heap.size + 1) a) := ⟨q1.trans (hb1.mono (by omega)), q2.below hb1 (by omega), q3.below hb1 (by omega)⟩
  clear q1 q2 q3 q4 hb1 hz1 HW
  cases hrs : M.restS s x.act
  case' true =>
    have HT : Hid (M.tryS s x = (14, [])) := by show _ = _; unfold M.tryS; rw [if_pos hrs]
    clear hrs
    go_wp2_with (fail)
    go_ret2
    exact TryPost.err HT.out H1.out.1
  have HR : Hid (M.restS s x.act = false) := hrs
  clear hrs
  have HFID : Hid (r.a.fid = x.act.fid) := HS.out.2.1.1.2.1
  have HMK : Hid ((decide (a.kind = 1) || decide (a.kind = 2)) = M.makeB x.act) := by show _ = _; rw [HS.out.2.2.1.1]; rfl
  go_upto_region 3 with (fail)
  go_cut [13] from 14 to 23 (fun t W => t = .bool (M.makeB x.act && !M.freshS s x.act.fid) ∧ Hid (Below w.heap.size w W ∧ BoxR W w.heap.size r ∧ BoxA W (w.heap.size + 1) a))
  case first =>
    obtain ⟨r0, r1, r2, r3, r4, r5, r6, r7, r8, rf, rz⟩ := H1.out.2.1.facts
    obtain ⟨a0, a1, a2, a3, a4, a5, a6, af, az⟩ := H1.out.2.2.facts
    go_wp2_with (fail)
    refine (making_any a w1).mono ?_
    rintro e w2 ⟨rfl, hb2⟩
    have H2 : Hid (Below w.heap.size w w2 ∧ BoxR w2 w.heap.size r ∧ BoxA w2 (w.heap.size + 1) a) := ⟨H1.out.1.trans (hb2.mono H1.out.1.size), H1.out.2.1.below hb2 rz, H1.out.2.2.below hb2 az⟩
    rw [HMK.out]
    clear hb2 H1 HMK r0 r1 r2 r3 r4 r5 r6 r7 r8 rf a0 a1 a2 a3 a4 a5 a6 af
    obtain ⟨r0, r1, r2, r3, r4, r5, r6, r7, r8, rf, rz⟩ := H2.out.2.1.facts
    have HST2 : Hid (StM w2 B sb s A n c us D p q avs b1 b2 b3) := HS.out.1.below (Nat.le_refl _) H2.out.1
    cases hmk : M.makeB x.act
    · have HMB : Hid (M.makeB x.act = false) := hmk
      clear hmk
      go_wp2_with (fail)
      go_meet
      case rel => exact ⟨by rw [HMB.out]; rfl, H2.out⟩
    · have HMB : Hid (M.makeB x.act = true) := hmk
      clear hmk
      go_wp2_with (go_at_call 42; refine (fresh_any s _ B sb A n c us D p q avs b1 b2 b3 w2 HST2.out).mono ?_; rintro e w3 ⟨rfl, hw⟩; rw [hw]; clear hw)
      go_meet
      case rel => exact ⟨by rw [HMB.out, HFID.out]; rfl, H2.out⟩
  obtain ⟨rfl, H2⟩ := hcut
  rename World => w2
  clear H1 HMK
  have HF1 : Hid ((M.makeB x.act && !M.freshS s x.act.fid) = true → M.tryS s x = (2, [])) := fun h => by unfold M.tryS; rw [if_neg (by rw [HR.out]; decide), if_pos h]
  have HF2 : Hid ((M.makeB x.act && !M.freshS s x.act.fid) = false → M.tryS s x = if M.staleS s (M.hereS s x.act) x.ver = true then (13, []) else M.applyS s.tr (M.hereS s x.act) s.ver) := fun h => by unfold M.tryS; rw [if_neg (by rw [HR.out]; decide), if_neg (by rw [h]; decide)]
  generalize (M.makeB x.act && !M.freshS s x.act.fid) = kb at HF1 HF2 ⊢
  cases kb
  case' true =>
    go_wp2_with (fail)
    go_ret2
    exact TryPost.err (HF1.out (by simp)) H2.out.1
  have HT : Hid (M.tryS s x = if M.staleS s (M.hereS s x.act) x.ver = true then (13, []) else M.applyS s.tr (M.hereS s x.act) s.ver) := HF2.out (by simp)
  clear HF1 HF2 HR
  obtain ⟨r0, r1, r2, r3, r4, r5, r6, r7, r8, rf, rz⟩ := H2.out.2.1.facts
  obtain ⟨a0, a1, a2, a3, a4, a5, a6, af, az⟩ := H2.out.2.2.facts
  have HST2 : Hid (StM w2 B sb s A n c us D p q avs b1 b2 b3 ∧ ContA w2 a (M.hereS s x.act)) := ⟨HS.out.1.below (Nat.le_refl _) H2.out.1, HS.out.2.2.1.below (Nat.le_refl _) H2.out.1⟩
  go_wp2_with (fail)
  refine (stale_any s a (M.hereS s x.act) r.ver B sb A n c us D p q avs b1 b2 b3 w2 HST2.out.1 HS.out.2.2.2.1 HST2.out.2).mono ?_
  rintro e w3 ⟨rfl, hb3⟩
  rw [HS.out.2.1.2.1]
  have H3 : Hid (Below w.heap.size w w3 ∧ BoxA w3 (w.heap.size + 1) a ∧ StM w3 B sb s A n c us D p q avs b1 b2 b3 ∧ ContA w3 a (M.hereS s x.act)) := ⟨H2.out.1.trans (hb3.mono H2.out.1.size), H2.out.2.2.below hb3 az, HST2.out.1.below (Nat.le_refl _) hb3, HST2.out.2.below (Nat.le_refl _) hb3⟩
  clear hb3 H2 HST2 r0 r1 r2 r3 r4 r5 r6 r7 r8 rf a0 a1 a2 a3 a4 a5 a6 af
  generalize M.staleS s (M.hereS s x.act) x.ver = sb2 at HT ⊢
  cases sb2
  case' true =>
    go_wp2_with (fail)
    go_ret2
    exact TryPost.err (by rw [HT.out]; simp) H3.out.1
  have HT2 : Hid (M.tryS s x = M.applyS s.tr (M.hereS s x.act) s.ver) := by show _ = _; rw [HT.out]; simp
  clear HT
  obtain ⟨f0, f1, f2, f3, f4, f5, f6, ff, fz⟩ := H3.out.2.2.1.facts
  obtain ⟨a0, a1, a2, a3, a4, a5, a6, af, az⟩ := H3.out.2.1.facts
  have hn72 : (n + 2) * 72 ≤ 140737488355328 := by have h1 := H3.out.2.2.1.tree.tree.1.1; have h2 := H3.out.2.2.1.tree.tree.2.1; have h3 := HS.out.2.2.2.1.2.2; omega
  have HD : Hid (Below w3.heap.size w3 w3.drew) := (Below.refl _ _).drew
  go_upto_region 7 with (fail)
  go_region_with (go_at_call 44; refine (apply_any A n c us s.tr a (M.hereS s x.act) s.ver w3.drew (H3.out.2.2.1.tree.tree.below (Nat.le_refl _) HD.out) hn72 HS.out.2.2.2.1.2.1 (H3.out.2.2.2.below (Nat.le_refl _) HD.out) HS.out.2.2.2.2).mono ?_; rintro e w4 ⟨B4, m4, d4, k4, rfl, hap, hb4⟩; have H4 : Hid (TryPost w (M.tryS s x) (.returned (.tuple #[.slice B4 m4 d4, .int .i64 k4])) w4) := (by rw [HT2.out]; obtain ⟨hk, us4, ho⟩ := hap HS.out.2.2.2.1.1; exact ⟨B4, m4, d4, us4, by rw [hk], ho.mono H3.out.1.size, H3.out.1.trans ((HD.out.trans (hb4.mono (Nat.le_refl _))).mono H3.out.1.size)⟩); clear hap hb4)
  all_goals
    go_wp2_with (fail)
    go_ret2
    exact H4.out
end Go.Proofs.Ytcjobmbbikfnaac
