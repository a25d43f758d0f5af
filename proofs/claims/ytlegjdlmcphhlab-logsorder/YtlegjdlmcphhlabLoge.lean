/-
  PACKAGE logs: without, Own, Add.
-/
import Derived.Test.YtlegjdlmcphhlabLogd
namespace Go.Proofs.Ytlegjdlmcphhlab
open Go.RowKit

theorem rowR_box {w : World} {s : Nat} {r : RV} (h : BoxR w s r) : Recs w (some ⟨s, 0, none⟩) 1 [r] := by
  refine ⟨rfl, .inr ⟨s, 0, rfl, lt_of_block h, fun j v hv i c hi => ?_⟩⟩
  obtain ⟨b0, b1, b2, b3, b4, b5, b6, b7, b8, bf, bz⟩ := h.facts
  cases j with
  | succ j => cases hv
  | zero =>
    cases hv
    match i, hi with
    | 0, hi => cases hi; exact b0
    | 1, hi => cases hi; exact b1
    | 2, hi => cases hi; exact b2
    | 3, hi => cases hi; exact b3
    | 4, hi => cases hi; exact b4
    | 5, hi => cases hi; exact b5
    | 6, hi => cases hi; exact b6
    | 7, hi => cases hi; exact b7
    | 8, hi => cases hi; exact b8
    | i + 9, hi => cases hi
theorem filter_step {xs : List M.Rec} {k : Nat} {x : M.Rec} (h : xs[k]? = some x) (p : M.Rec → Bool) : (xs.take (k + 1)).filter p = (xs.take k).filter p ++ (if p x then [x] else []) := by
  rw [take_step h, List.filter_append]
  congr 1
  cases hp : p x <;> simp [hp]
/-- behind an append: one more record of one's own, nothing else is touched -/
theorem snoc_below {w W w2 : World} {A : Option Addr} {m c : Nat} {L : List Value} (hb : Below w.heap.size w W) (ho : W.ownsRow w.heap.size 48 9 (.slice A m c) m L) (hg : W.grownBy w2 (Value.slice A m c).ownBlock) : Below w.heap.size w w2 :=
  Below.grown hb hg hb.size (fun k hk => by
    rcases ho.2 with ⟨e, _⟩ | ⟨g, cap, cur, e, h1, _⟩
    · cases e; cases hk
    · cases e; cases hk; exact h1)

set_option maxRecDepth 8000 in
set_option maxHeartbeats 2000000 in
theorem withoutOwn_any (A : Option Addr) (n c : Nat) (vs : List RV) (xs : List M.Rec) (w : World) (ht : TreeR w A n vs xs) (hs : ∀ x ∈ xs, x.act.data.length ≤ 140737488355328) (hn : (n + 1) * 104 ≤ 140737488355328) :
    Calls Try.prog 38 #[.slice A n c, .func (.func 45) #[] #[]] w fun e w' => ∃ (B : Option Addr) (m d : Nat) (us : List RV), e = .returned (.slice B m d) ∧ OwnL w' w.heap.size B m d us (xs.filter fun _ => !false) ∧ Below w.heap.size w w' := by
  obtain ⟨i48, hi48, hz48, hs48, hb48⟩ := info_parts info48
  have HT : Hid (TreeR w A n vs xs ∧ (∀ x ∈ xs, x.act.data.length ≤ 140737488355328) ∧ True) := ⟨ht, hs, trivial⟩
  clear ht hs
  have hbn : i48.bytes * (n + 1) ≤ 281474976710656 := by rw [hb48]; omega
  have HCC : Hid (((n : Int) + 1) = ((n + 1 : Nat) : Int)) := by show _ = _; omega
  go_enter Try.func38, Try.ntmps38
  go_wp2_with (at_make; refine wpList_make_own _ (by rfl) (.const (.int .i64 0)) (.tmp 10) 46 (by rfl) w.heap.size 48 i48 _ 9 Try.underlying46 hi48 hz48 hs48 .i64 .i64 _ (n + 1) rfl rfl HCC.out hbn (by unfold maxLen; omega) (Nat.le_refl _) ?_; intro w1 hown hg1; have hb1 := grown_below hg1; clear hg1)
  have H0 : Hid (OwnL w1 w.heap.size (some ⟨w.heap.size, 0, none⟩) 0 (n + 1) [] [] ∧ Below w.heap.size w w1) := ⟨⟨by simpa using hown, All2.nil⟩, hb1⟩
  clear hown hb1 HCC hbn
  go_loopw [5, 14] (fun v i wr => ∃ (k : Nat) (B : Option Addr) (m d : Nat) (us : List RV), k ≤ n ∧ i = .int .i64 k ∧ v = .slice B m d ∧ OwnL wr w.heap.size B m d us ((xs.take k).filter fun _ => !false) ∧ Below w.heap.size w wr) (fun _ i _ => n - (intOf i).toNat)
  case atStart => exact ⟨0, _, 0, n + 1, [], Nat.zero_le _, rfl, rfl, by simpa using H0.out.1, H0.out.2⟩
  case round =>
    obtain ⟨k, B, m, d, us, hk, rfl, rfl, hol, hb⟩ := hrel
    have HO : Hid (OwnL wr w.heap.size B m d us ((xs.take k).filter fun _ => !false) ∧ Below w.heap.size w wr) := ⟨hol, hb⟩
    have hml : m ≤ k := by
      rw [hol.tree.len]
      exact Nat.le_trans (List.length_filter_le _ _) (by simp; omega)
    have hsz := hb.size
    clear hol
    by_cases hlt : k < n
    · have htr := HT.out.1.below (Nat.le_refl _) hb
      obtain ⟨g, o, v, rfl, hgb, hvk, c0, c1, c2, c3, c4, c5, c6, c7, c8⟩ := htr.1.at hlt
      obtain ⟨x, hx, hcx⟩ := htr.2.at hvk
      have HX : Hid (xs[k]? = some x ∧ ContR wr v x ∧ x.act.data.length ≤ 140737488355328) := ⟨hx, hcx, HT.out.2.1 x (List.mem_of_getElem? hx)⟩
      have HWA : Hid _ := boxR_start wr v
      have HFS : Hid ((xs.take (k + 1)).filter (fun _ => !false) = (xs.take k).filter (fun _ => !false) ++ (if (!false) then [x] else [])) := filter_step hx fun _ => !false
      clear hvk htr hx hcx
      go_wp2_with (fail)
      obtain ⟨q1, q2, q3⟩ := HWA.out _ rfl
      have hwq : Below w.heap.size w _ := hb.trans (q1.mono hsz)
      refine (own1_any v.a _).mono ?_
      rintro e w2 ⟨rfl, hb2⟩
      have hz2 := hb2.size
      rw [q3] at hz2
      have h12 : Below wr.heap.size wr w2 := q1.trans (hb2.mono (by omega))
      have HB2 : Hid (Below w.heap.size w w2 ∧ BoxR w2 wr.heap.size v ∧ OwnL w2 w.heap.size B m d us ((xs.take k).filter fun _ => !false) ∧ Below wr.heap.size wr w2) := ⟨hb.trans (h12.mono hsz), q2.below hb2 (by omega), HO.out.1.below (Nat.le_refl _) h12, h12⟩
      obtain ⟨b0, b1, b2, b3, b4, b5, b6, b7, b8, bf, bz⟩ := HB2.out.2.1.facts
      clear q1 q2 q3 hb2 HWA hwq h12 hb
      cases hpx : false
      · have HFS2 : Hid ((xs.take (k + 1)).filter (fun _ => !false) = (xs.take k).filter (fun _ => !false) ++ [x]) := by show _ = _; rw [HFS.out, hpx]; rfl
        go_wp2_with (fail)
        refine (ownRec_any v x _ (HX.out.2.1.below (Nat.le_refl _) HB2.out.2.2.2) HX.out.2.2).mono ?_
        rintro e w3 ⟨r', rfl, hor, hb3⟩
        have hz3 := hb3.size
        have HB3 : Hid (Below w.heap.size w w3 ∧ OwnL w3 w.heap.size B m d us ((xs.take k).filter fun _ => !false) ∧ OwnR w3 w.heap.size r' x) := ⟨HB2.out.1.trans (hb3.mono (by omega)), HB2.out.2.2.1.below (Nat.le_refl _) hb3, hor.mono (by omega)⟩
        have HWB : Hid _ := boxR_start w3 r'
        clear hor hb3
        go_wp2_with (at_builtin; refine wpList_append_row _ (by rfl) (.tmp 23) (.tmp 26) 46 (by rfl) w.heap.size 48 i48 _ 104 Try.underlying46 hi48 hz48 hs48 hb48 rfl (by decide) _ m _ (by rfl) (own_below HB3.out.2.1.1 (HWB.out _ rfl).1 (Nat.le_refl _)) (some ⟨w3.heap.size, 0, none⟩) 1 1 [r'] (by rfl) (rowR_box (HWB.out _ rfl).2.1) rec_len rec_one (by unfold maxLen; omega) (by omega) (by simp; omega) ?_; intro v4 w4 hown4 hg4; obtain ⟨A4, c4', rfl, _, _⟩ := own_form hown4; have HR : Hid (OwnL w4 w.heap.size A4 (m + 1) c4' (us ++ [r']) ((xs.take (k + 1)).filter (fun _ => !false)) ∧ Below w.heap.size w w4) := ⟨by rw [HFS2.out]; exact OwnL.snoc (HB3.out.2.1.below (Nat.le_refl _) (HWB.out _ rfl).1) (HB3.out.2.2.below (Nat.le_refl _) (HWB.out _ rfl).1) (by simpa using hown4) hg4, snoc_below (HB3.out.1.trans ((HWB.out _ rfl).1.mono HB3.out.1.size)) (own_below HB3.out.2.1.1 (HWB.out _ rfl).1 (Nat.le_refl _)) hg4⟩; clear hown4 hg4)
        go_roundw
        case rel => exact ⟨k + 1, A4, m + 1, c4', us ++ [r'], by omega, by go_num, rfl, HR.out.1, HR.out.2⟩
        case measure => simp [intOf]; omega
      · cases hpx
    · have HL : Hid (xs.take k = xs) := by show _ = _; exact List.take_of_length_le (by rw [← HT.out.1.len]; omega)
      go_wp2
      go_ret
      have h1 := HO.out.1
      rw [HL.out] at h1
      exact ⟨B, m, d, us, rfl, h1, hb⟩
set_option maxRecDepth 8000 in
set_option maxHeartbeats 2000000 in
theorem withoutName_any (A : Option Addr) (n c : Nat) (vs : List RV) (xs : List M.Rec) (p : Nat) (r : RV) (w : World) (ht : TreeR w A n vs xs) (hs : ∀ x ∈ xs, x.act.data.length ≤ 140737488355328) (hn : (n + 1) * 104 ≤ 140737488355328) (hp : BoxR w p r) :
    Calls Try.prog 38 #[.slice A n c, .func (.func 39) #[] #[.pointer (some ⟨p, 0, none⟩)]] w fun e w' => ∃ (B : Option Addr) (m d : Nat) (us : List RV), e = .returned (.slice B m d) ∧ OwnL w' w.heap.size B m d us (xs.filter fun x => !M.nameFB x.act r.a.fid) ∧ Below w.heap.size w w' := by
  obtain ⟨i48, hi48, hz48, hs48, hb48⟩ := info_parts info48
  have HT : Hid (TreeR w A n vs xs ∧ (∀ x ∈ xs, x.act.data.length ≤ 140737488355328) ∧ True ∧ BoxR w p r) := ⟨ht, hs, trivial, hp⟩
  clear ht hs hp
  have hbn : i48.bytes * (n + 1) ≤ 281474976710656 := by rw [hb48]; omega
  have HCC : Hid (((n : Int) + 1) = ((n + 1 : Nat) : Int)) := by show _ = _; omega
  go_enter Try.func38, Try.ntmps38
  go_wp2_with (at_make; refine wpList_make_own _ (by rfl) (.const (.int .i64 0)) (.tmp 10) 46 (by rfl) w.heap.size 48 i48 _ 9 Try.underlying46 hi48 hz48 hs48 .i64 .i64 _ (n + 1) rfl rfl HCC.out hbn (by unfold maxLen; omega) (Nat.le_refl _) ?_; intro w1 hown hg1; have hb1 := grown_below hg1; clear hg1)
  have H0 : Hid (OwnL w1 w.heap.size (some ⟨w.heap.size, 0, none⟩) 0 (n + 1) [] [] ∧ Below w.heap.size w w1) := ⟨⟨by simpa using hown, All2.nil⟩, hb1⟩
  clear hown hb1 HCC hbn
  go_loopw [5, 14] (fun v i wr => ∃ (k : Nat) (B : Option Addr) (m d : Nat) (us : List RV), k ≤ n ∧ i = .int .i64 k ∧ v = .slice B m d ∧ OwnL wr w.heap.size B m d us ((xs.take k).filter fun x => !M.nameFB x.act r.a.fid) ∧ Below w.heap.size w wr) (fun _ i _ => n - (intOf i).toNat)
  case atStart => exact ⟨0, _, 0, n + 1, [], Nat.zero_le _, rfl, rfl, by simpa using H0.out.1, H0.out.2⟩
  case round =>
    obtain ⟨k, B, m, d, us, hk, rfl, rfl, hol, hb⟩ := hrel
    have HO : Hid (OwnL wr w.heap.size B m d us ((xs.take k).filter fun x => !M.nameFB x.act r.a.fid) ∧ Below w.heap.size w wr) := ⟨hol, hb⟩
    have hml : m ≤ k := by
      rw [hol.tree.len]
      exact Nat.le_trans (List.length_filter_le _ _) (by simp; omega)
    have hsz := hb.size
    clear hol
    by_cases hlt : k < n
    · have htr := HT.out.1.below (Nat.le_refl _) hb
      obtain ⟨g, o, v, rfl, hgb, hvk, c0, c1, c2, c3, c4, c5, c6, c7, c8⟩ := htr.1.at hlt
      obtain ⟨x, hx, hcx⟩ := htr.2.at hvk
      have HX : Hid (xs[k]? = some x ∧ ContR wr v x ∧ x.act.data.length ≤ 140737488355328) := ⟨hx, hcx, HT.out.2.1 x (List.mem_of_getElem? hx)⟩
      have HWA : Hid _ := boxR_start wr v
      have HFS : Hid ((xs.take (k + 1)).filter (fun x => !M.nameFB x.act r.a.fid) = (xs.take k).filter (fun x => !M.nameFB x.act r.a.fid) ++ (if (!M.nameFB x.act r.a.fid) then [x] else [])) := filter_step hx fun x => !M.nameFB x.act r.a.fid
      clear hvk htr hx hcx
      go_wp2_with (fail)
      obtain ⟨q1, q2, q3⟩ := HWA.out _ rfl
      have hwq : Below w.heap.size w _ := hb.trans (q1.mono hsz)
      refine (add1_any v.a x.act p r _ (HX.out.2.1.1.below (Nat.le_refl _) q1) (HT.out.2.2.2.below hwq (lt_of_block HT.out.2.2.2))).mono ?_
      rintro e w2 ⟨rfl, hb2⟩
      have hz2 := hb2.size
      rw [q3] at hz2
      have h12 : Below wr.heap.size wr w2 := q1.trans (hb2.mono (by omega))
      have HB2 : Hid (Below w.heap.size w w2 ∧ BoxR w2 wr.heap.size v ∧ OwnL w2 w.heap.size B m d us ((xs.take k).filter fun x => !M.nameFB x.act r.a.fid) ∧ Below wr.heap.size wr w2) := ⟨hb.trans (h12.mono hsz), q2.below hb2 (by omega), HO.out.1.below (Nat.le_refl _) h12, h12⟩
      obtain ⟨b0, b1, b2, b3, b4, b5, b6, b7, b8, bf, bz⟩ := HB2.out.2.1.facts
      clear q1 q2 q3 hb2 HWA hwq h12 hb
      cases hpx : M.nameFB x.act r.a.fid
      · have HFS2 : Hid ((xs.take (k + 1)).filter (fun x => !M.nameFB x.act r.a.fid) = (xs.take k).filter (fun x => !M.nameFB x.act r.a.fid) ++ [x]) := by show _ = _; rw [HFS.out, hpx]; rfl
        go_wp2_with (fail)
        refine (ownRec_any v x _ (HX.out.2.1.below (Nat.le_refl _) HB2.out.2.2.2) HX.out.2.2).mono ?_
        rintro e w3 ⟨r', rfl, hor, hb3⟩
        have hz3 := hb3.size
        have HB3 : Hid (Below w.heap.size w w3 ∧ OwnL w3 w.heap.size B m d us ((xs.take k).filter fun x => !M.nameFB x.act r.a.fid) ∧ OwnR w3 w.heap.size r' x) := ⟨HB2.out.1.trans (hb3.mono (by omega)), HB2.out.2.2.1.below (Nat.le_refl _) hb3, hor.mono (by omega)⟩
        have HWB : Hid _ := boxR_start w3 r'
        clear hor hb3
        go_wp2_with (at_builtin; refine wpList_append_row _ (by rfl) (.tmp 23) (.tmp 26) 46 (by rfl) w.heap.size 48 i48 _ 104 Try.underlying46 hi48 hz48 hs48 hb48 rfl (by decide) _ m _ (by rfl) (own_below HB3.out.2.1.1 (HWB.out _ rfl).1 (Nat.le_refl _)) (some ⟨w3.heap.size, 0, none⟩) 1 1 [r'] (by rfl) (rowR_box (HWB.out _ rfl).2.1) rec_len rec_one (by unfold maxLen; omega) (by omega) (by simp; omega) ?_; intro v4 w4 hown4 hg4; obtain ⟨A4, c4', rfl, _, _⟩ := own_form hown4; have HR : Hid (OwnL w4 w.heap.size A4 (m + 1) c4' (us ++ [r']) ((xs.take (k + 1)).filter (fun x => !M.nameFB x.act r.a.fid)) ∧ Below w.heap.size w w4) := ⟨by rw [HFS2.out]; exact OwnL.snoc (HB3.out.2.1.below (Nat.le_refl _) (HWB.out _ rfl).1) (HB3.out.2.2.below (Nat.le_refl _) (HWB.out _ rfl).1) (by simpa using hown4) hg4, snoc_below (HB3.out.1.trans ((HWB.out _ rfl).1.mono HB3.out.1.size)) (own_below HB3.out.2.1.1 (HWB.out _ rfl).1 (Nat.le_refl _)) hg4⟩; clear hown4 hg4)
        go_roundw
        case rel => exact ⟨k + 1, A4, m + 1, c4', us ++ [r'], by omega, by go_num, rfl, HR.out.1, HR.out.2⟩
        case measure => simp [intOf]; omega
      · have HFS2 : Hid ((xs.take (k + 1)).filter (fun x => !M.nameFB x.act r.a.fid) = (xs.take k).filter (fun x => !M.nameFB x.act r.a.fid)) := by show _ = _; rw [HFS.out, hpx]; simp
        go_wp2
        go_roundw
        case rel => exact ⟨k + 1, B, m, d, us, by omega, by go_num, rfl, by rw [HFS2.out]; exact HB2.out.2.2.1, HB2.out.1⟩
        case measure => simp [intOf]; omega
    · have HL : Hid (xs.take k = xs) := by show _ = _; exact List.take_of_length_le (by rw [← HT.out.1.len]; omega)
      go_wp2
      go_ret
      have h1 := HO.out.1
      rw [HL.out] at h1
      exact ⟨B, m, d, us, rfl, h1, hb⟩
set_option maxRecDepth 8000 in
set_option maxHeartbeats 2000000 in
theorem withoutOver_any (A : Option Addr) (n c : Nat) (vs : List RV) (xs : List M.Rec) (p : Nat) (r : RV) (y : M.Act) (w : World) (ht : TreeR w A n vs xs) (hs : ∀ x ∈ xs, x.act.data.length ≤ 140737488355328) (hn : (n + 1) * 104 ≤ 140737488355328) (hp : BoxR w p r) (hr : ContA w r.a y) :
    Calls Try.prog 38 #[.slice A n c, .func (.func 41) #[] #[.pointer (some ⟨p, 0, none⟩)]] w fun e w' => ∃ (B : Option Addr) (m d : Nat) (us : List RV), e = .returned (.slice B m d) ∧ OwnL w' w.heap.size B m d us (xs.filter fun x => !M.overB y x.act) ∧ Below w.heap.size w w' := by
  obtain ⟨i48, hi48, hz48, hs48, hb48⟩ := info_parts info48
  have HT : Hid (TreeR w A n vs xs ∧ (∀ x ∈ xs, x.act.data.length ≤ 140737488355328) ∧ True ∧ BoxR w p r ∧ ContA w r.a y) := ⟨ht, hs, trivial, hp, hr⟩
  clear ht hs hp hr
  have hbn : i48.bytes * (n + 1) ≤ 281474976710656 := by rw [hb48]; omega
  have HCC : Hid (((n : Int) + 1) = ((n + 1 : Nat) : Int)) := by show _ = _; omega
  go_enter Try.func38, Try.ntmps38
  go_wp2_with (at_make; refine wpList_make_own _ (by rfl) (.const (.int .i64 0)) (.tmp 10) 46 (by rfl) w.heap.size 48 i48 _ 9 Try.underlying46 hi48 hz48 hs48 .i64 .i64 _ (n + 1) rfl rfl HCC.out hbn (by unfold maxLen; omega) (Nat.le_refl _) ?_; intro w1 hown hg1; have hb1 := grown_below hg1; clear hg1)
  have H0 : Hid (OwnL w1 w.heap.size (some ⟨w.heap.size, 0, none⟩) 0 (n + 1) [] [] ∧ Below w.heap.size w w1) := ⟨⟨by simpa using hown, All2.nil⟩, hb1⟩
  clear hown hb1 HCC hbn
  go_loopw [5, 14] (fun v i wr => ∃ (k : Nat) (B : Option Addr) (m d : Nat) (us : List RV), k ≤ n ∧ i = .int .i64 k ∧ v = .slice B m d ∧ OwnL wr w.heap.size B m d us ((xs.take k).filter fun x => !M.overB y x.act) ∧ Below w.heap.size w wr) (fun _ i _ => n - (intOf i).toNat)
  case atStart => exact ⟨0, _, 0, n + 1, [], Nat.zero_le _, rfl, rfl, by simpa using H0.out.1, H0.out.2⟩
  case round =>
    obtain ⟨k, B, m, d, us, hk, rfl, rfl, hol, hb⟩ := hrel
    have HO : Hid (OwnL wr w.heap.size B m d us ((xs.take k).filter fun x => !M.overB y x.act) ∧ Below w.heap.size w wr) := ⟨hol, hb⟩
    have hml : m ≤ k := by
      rw [hol.tree.len]
      exact Nat.le_trans (List.length_filter_le _ _) (by simp; omega)
    have hsz := hb.size
    clear hol
    by_cases hlt : k < n
    · have htr := HT.out.1.below (Nat.le_refl _) hb
      obtain ⟨g, o, v, rfl, hgb, hvk, c0, c1, c2, c3, c4, c5, c6, c7, c8⟩ := htr.1.at hlt
      obtain ⟨x, hx, hcx⟩ := htr.2.at hvk
      have HX : Hid (xs[k]? = some x ∧ ContR wr v x ∧ x.act.data.length ≤ 140737488355328) := ⟨hx, hcx, HT.out.2.1 x (List.mem_of_getElem? hx)⟩
      have HWA : Hid _ := boxR_start wr v
      have HFS : Hid ((xs.take (k + 1)).filter (fun x => !M.overB y x.act) = (xs.take k).filter (fun x => !M.overB y x.act) ++ (if (!M.overB y x.act) then [x] else [])) := filter_step hx fun x => !M.overB y x.act
      clear hvk htr hx hcx
      go_wp2_with (fail)
      obtain ⟨q1, q2, q3⟩ := HWA.out _ rfl
      have hwq : Below w.heap.size w _ := hb.trans (q1.mono hsz)
      refine (add2_any v.a x.act p r y _ (HX.out.2.1.1.below (Nat.le_refl _) q1) (HT.out.2.2.2.1.below hwq (lt_of_block HT.out.2.2.2.1)) (HT.out.2.2.2.2.below (Nat.le_refl _) hwq)).mono ?_
      rintro e w2 ⟨rfl, hb2⟩
      have hz2 := hb2.size
      rw [q3] at hz2
      have h12 : Below wr.heap.size wr w2 := q1.trans (hb2.mono (by omega))
      have HB2 : Hid (Below w.heap.size w w2 ∧ BoxR w2 wr.heap.size v ∧ OwnL w2 w.heap.size B m d us ((xs.take k).filter fun x => !M.overB y x.act) ∧ Below wr.heap.size wr w2) := ⟨hb.trans (h12.mono hsz), q2.below hb2 (by omega), HO.out.1.below (Nat.le_refl _) h12, h12⟩
      obtain ⟨b0, b1, b2, b3, b4, b5, b6, b7, b8, bf, bz⟩ := HB2.out.2.1.facts
      clear q1 q2 q3 hb2 HWA hwq h12 hb
      cases hpx : M.overB y x.act
      · have HFS2 : Hid ((xs.take (k + 1)).filter (fun x => !M.overB y x.act) = (xs.take k).filter (fun x => !M.overB y x.act) ++ [x]) := by show _ = _; rw [HFS.out, hpx]; rfl
        go_wp2_with (fail)
        refine (ownRec_any v x _ (HX.out.2.1.below (Nat.le_refl _) HB2.out.2.2.2) HX.out.2.2).mono ?_
        rintro e w3 ⟨r', rfl, hor, hb3⟩
        have hz3 := hb3.size
        have HB3 : Hid (Below w.heap.size w w3 ∧ OwnL w3 w.heap.size B m d us ((xs.take k).filter fun x => !M.overB y x.act) ∧ OwnR w3 w.heap.size r' x) := ⟨HB2.out.1.trans (hb3.mono (by omega)), HB2.out.2.2.1.below (Nat.le_refl _) hb3, hor.mono (by omega)⟩
        have HWB : Hid _ := boxR_start w3 r'
        clear hor hb3
        go_wp2_with (at_builtin; refine wpList_append_row _ (by rfl) (.tmp 23) (.tmp 26) 46 (by rfl) w.heap.size 48 i48 _ 104 Try.underlying46 hi48 hz48 hs48 hb48 rfl (by decide) _ m _ (by rfl) (own_below HB3.out.2.1.1 (HWB.out _ rfl).1 (Nat.le_refl _)) (some ⟨w3.heap.size, 0, none⟩) 1 1 [r'] (by rfl) (rowR_box (HWB.out _ rfl).2.1) rec_len rec_one (by unfold maxLen; omega) (by omega) (by simp; omega) ?_; intro v4 w4 hown4 hg4; obtain ⟨A4, c4', rfl, _, _⟩ := own_form hown4; have HR : Hid (OwnL w4 w.heap.size A4 (m + 1) c4' (us ++ [r']) ((xs.take (k + 1)).filter (fun x => !M.overB y x.act)) ∧ Below w.heap.size w w4) := ⟨by rw [HFS2.out]; exact OwnL.snoc (HB3.out.2.1.below (Nat.le_refl _) (HWB.out _ rfl).1) (HB3.out.2.2.below (Nat.le_refl _) (HWB.out _ rfl).1) (by simpa using hown4) hg4, snoc_below (HB3.out.1.trans ((HWB.out _ rfl).1.mono HB3.out.1.size)) (own_below HB3.out.2.1.1 (HWB.out _ rfl).1 (Nat.le_refl _)) hg4⟩; clear hown4 hg4)
        go_roundw
        case rel => exact ⟨k + 1, A4, m + 1, c4', us ++ [r'], by omega, by go_num, rfl, HR.out.1, HR.out.2⟩
        case measure => simp [intOf]; omega
      · have HFS2 : Hid ((xs.take (k + 1)).filter (fun x => !M.overB y x.act) = (xs.take k).filter (fun x => !M.overB y x.act)) := by show _ = _; rw [HFS.out, hpx]; simp
        go_wp2
        go_roundw
        case rel => exact ⟨k + 1, B, m, d, us, by omega, by go_num, rfl, by rw [HFS2.out]; exact HB2.out.2.2.1, HB2.out.1⟩
        case measure => simp [intOf]; omega
    · have HL : Hid (xs.take k = xs) := by show _ = _; exact List.take_of_length_le (by rw [← HT.out.1.len]; omega)
      go_wp2
      go_ret
      have h1 := HO.out.1
      rw [HL.out] at h1
      exact ⟨B, m, d, us, rfl, h1, hb⟩
end Go.Proofs.Ytlegjdlmcphhlab
