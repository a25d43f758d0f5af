/-
  PACKAGE logs: Acts.
-/
import Derived.Test.YtlegjdlmcphhlabLogf
namespace Go.Proofs.Ytlegjdlmcphhlab
open Go.RowKit

theorem infoA : (Try.prog.info? 26).map (fun i => (i.zero, i.size, i.bytes)) = some (some (.agg #[.int .i64 0, .int .i64 0, .int .i64 0, .string ByteArray.empty, .int .i64 0, .string ByteArray.empty, .slice none 0 0]), 7, 88) := by kernel_rfl
theorem rowA_box {w : World} {s : Nat} {r : AV} (h : BoxA w s r) : Row 7 AV.cells w (some ⟨s, 0, none⟩) 1 [r] := by
  refine ⟨rfl, .inr ⟨s, 0, rfl, lt_of_block h, fun j v hv i c hi => ?_⟩⟩
  obtain ⟨b0, b1, b2, b3, b4, b5, b6, bf, bz⟩ := h.facts
  cases j with
  | succ j => cases hv
  | zero =>
    cases hv
    match i, hi with
    | 0, hi => cases hi; exact b0
    | 1, hi => cases hi; exact b1
    | 2, hi => cases hi; exact b2
    | 3, hi => cases hi; exact b3
    | 4, hi => cases hi; exact b4
    | 5, hi => cases hi; exact b5
    | 6, hi => cases hi; exact b6
    | i + 7, hi => cases hi
def OwnAs (w : World) (B : Nat) (A : Option Addr) (n c : Nat) (vs : List AV) (xs : List M.Act) : Prop := w.ownsRow B 26 7 (.slice A n c) n (vs.flatMap AV.cells) ∧ All2 (OwnA w B) vs xs
theorem OwnAs.tree {w : World} {B : Nat} {A : Option Addr} {n c : Nat} {vs : List AV} {xs : List M.Act} (h : OwnAs w B A n c vs xs) : TreeA w A n vs xs :=
  ⟨Row.ofOwn act_len (by decide) h.1, h.2.imp fun _ _ h => h.cont⟩
theorem OwnAs.below {B C : Nat} {w w' : World} {A : Option Addr} {n c : Nat} {vs : List AV} {xs : List M.Act} (h : OwnAs w B A n c vs xs) (hC : w.heap.size ≤ C) (hb : Below C w w') : OwnAs w' B A n c vs xs :=
  ⟨own_below h.1 hb hC, h.2.imp fun _ _ h => h.below hC hb⟩
theorem OwnAs.snoc {w w' : World} {B : Nat} {A : Option Addr} {n c : Nat} {A' : Option Addr} {n' c' : Nat} {vs : List AV} {xs : List M.Act} {r : AV} {x : M.Act} (h : OwnAs w B A n c vs xs) (hr : OwnA w B r x) (ho : w'.ownsRow B 26 7 (.slice A' n' c') n' (vs.flatMap AV.cells ++ r.cells)) (hg : w.grownBy w' (Value.slice A n c).ownBlock) : OwnAs w' B A' n' c' (vs ++ [r]) (xs ++ [x]) := by
  refine ⟨?_, All2.append (h.2.imp fun _ _ k => k.grown h.1 (by decide) hg) (All2.one (hr.grown h.1 (by decide) hg))⟩
  rw [List.flatMap_append]
  simpa using ho
theorem snoc_belowA {w W w2 : World} {A : Option Addr} {m c : Nat} {L : List Value} (hb : Below w.heap.size w W) (ho : W.ownsRow w.heap.size 26 7 (.slice A m c) m L) (hg : W.grownBy w2 (Value.slice A m c).ownBlock) : Below w.heap.size w w2 :=
  Below.grown hb hg hb.size (fun k hk => by
    rcases ho.2 with ⟨e, _⟩ | ⟨g, cap, cur, e, h1, _⟩
    · cases e; cases hk
    · cases e; cases hk; exact h1)
theorem actsLen {w : World} {B : Nat} {A : Option Addr} {n c : Nat} {vs : List AV} {xs : List M.Act} (h : OwnAs w B A n c vs xs) : n = xs.length := by rw [h.tree.1.1, h.2.1]

set_option maxRecDepth 8000 in
set_option maxHeartbeats 2000000 in
theorem acts_any (A : Option Addr) (n c : Nat) (vs : List RV) (xs : List M.Rec) (w : World) (ht : TreeR w A n vs xs) (hs : ∀ x ∈ xs, x.act.data.length ≤ 140737488355328) (hn : n * 104 ≤ 140737488355328) :
    Calls Try.prog 22 #[.slice A n c] w fun e w' => ∃ (B : Option Addr) (m d : Nat) (us : List AV), e = .returned (.slice B m d) ∧ OwnAs w' w.heap.size B m d us (xs.map (·.act)) ∧ Below w.heap.size w w' := by
  obtain ⟨iA, hiA, hzA, hsA, hbA⟩ := info_parts infoA
  have HT : Hid (TreeR w A n vs xs ∧ (∀ x ∈ xs, x.act.data.length ≤ 140737488355328)) := ⟨ht, hs⟩
  clear ht hs
  have hbn : iA.bytes * n ≤ 281474976710656 := by rw [hbA]; omega
  go_enter Try.func22, Try.ntmps22
  go_wp2_with (at_make; refine wpList_make_own _ (by rfl) (.const (.int .i64 0)) (.tmp 7) 53 (by rfl) w.heap.size 26 iA _ 7 Try.underlying53 hiA hzA hsA .i64 .i64 _ n rfl rfl rfl hbn (by unfold maxLen; omega) (Nat.le_refl _) ?_; intro w1 hown hg1; have hb1 := grown_below hg1; clear hg1)
  have H0 : Hid (OwnAs w1 w.heap.size (some ⟨w.heap.size, 0, none⟩) 0 n [] [] ∧ Below w.heap.size w w1) := ⟨⟨by simpa using hown, All2.nil⟩, hb1⟩
  clear hown hb1 hbn
  go_loopw [3, 11] (fun v i wr => ∃ (k : Nat) (B : Option Addr) (m d : Nat) (us : List AV), k ≤ n ∧ i = .int .i64 k ∧ v = .slice B m d ∧ OwnAs wr w.heap.size B m d us ((xs.take k).map (·.act)) ∧ Below w.heap.size w wr) (fun _ i _ => n - (intOf i).toNat)
  case atStart => exact ⟨0, _, 0, n, [], Nat.zero_le _, rfl, rfl, by simpa using H0.out.1, H0.out.2⟩
  case round =>
    obtain ⟨k, B, m, d, us, hk, rfl, rfl, hol, hb⟩ := hrel
    have HO : Hid (OwnAs wr w.heap.size B m d us ((xs.take k).map (·.act)) ∧ Below w.heap.size w wr) := ⟨hol, hb⟩
    have hml : m ≤ k := by
      rw [actsLen hol]
      simp; omega
    have hsz := hb.size
    clear hol
    by_cases hlt : k < n
    · have htr := HT.out.1.below (Nat.le_refl _) hb
      obtain ⟨g, o, v, rfl, hgb, hvk, c0, c1, c2, c3, c4, c5, c6, c7, c8⟩ := htr.1.at hlt
      obtain ⟨x, hx, hcx⟩ := htr.2.at hvk
      have HX : Hid (xs[k]? = some x ∧ ContR wr v x ∧ x.act.data.length ≤ 140737488355328) := ⟨hx, hcx, HT.out.2 x (List.mem_of_getElem? hx)⟩
      have HWA : Hid _ := boxR_start wr v
      have HFS : Hid ((xs.take (k + 1)).map (·.act) = (xs.take k).map (·.act) ++ [x.act]) := by show _ = _; rw [take_step hx, List.map_append]; rfl
      clear hvk htr hx hcx
      go_wp2_with (fail)
      obtain ⟨q1, q2, q3⟩ := HWA.out _ rfl
      refine (ownAct_any v.a x.act _ (HX.out.2.1.1.below (Nat.le_refl _) q1) HX.out.2.2).mono ?_
      rintro e w3 ⟨r', rfl, hor, hb3⟩
      have hz3 := hb3.size
      rw [q3] at hz3
      have h13 : Below wr.heap.size wr w3 := q1.trans (hb3.mono (by omega))
      have HB3 : Hid (Below w.heap.size w w3 ∧ OwnAs w3 w.heap.size B m d us ((xs.take k).map (·.act)) ∧ OwnA w3 w.heap.size r' x.act) := ⟨hb.trans (h13.mono hsz), HO.out.1.below (Nat.le_refl _) h13, hor.mono (by rw [q3]; omega)⟩
      have HWB : Hid _ := boxA_start w3 r'
      clear hor hb3 q1 q2 q3 HWA h13 hb
      go_wp2_with (at_builtin; refine wpList_append_row _ (by rfl) (.tmp 15) (.tmp 19) 53 (by rfl) w.heap.size 26 iA _ 88 Try.underlying53 hiA hzA hsA hbA rfl (by decide) _ m _ (by rfl) (own_below HB3.out.2.1.1 (HWB.out _ rfl).1 (Nat.le_refl _)) (some ⟨w3.heap.size, 0, none⟩) 1 1 [r'] (by rfl) (rowA_box (HWB.out _ rfl).2.1) act_len act_one (by unfold maxLen; omega) (by omega) (by simp; omega) ?_; intro v4 w4 hown4 hg4; obtain ⟨A4, c4', rfl, _, _⟩ := own_form hown4; have HR : Hid (OwnAs w4 w.heap.size A4 (m + 1) c4' (us ++ [r']) ((xs.take (k + 1)).map (·.act)) ∧ Below w.heap.size w w4) := ⟨by rw [HFS.out]; exact OwnAs.snoc (HB3.out.2.1.below (Nat.le_refl _) (HWB.out _ rfl).1) (HB3.out.2.2.below (Nat.le_refl _) (HWB.out _ rfl).1) (by simpa using hown4) hg4, snoc_belowA (HB3.out.1.trans ((HWB.out _ rfl).1.mono HB3.out.1.size)) (own_below HB3.out.2.1.1 (HWB.out _ rfl).1 (Nat.le_refl _)) hg4⟩; clear hown4 hg4)
      go_roundw
      case rel => exact ⟨k + 1, A4, m + 1, c4', us ++ [r'], by omega, by go_num, rfl, HR.out.1, HR.out.2⟩
      case measure => simp [intOf]; omega
    · have HL : Hid (xs.take k = xs) := by show _ = _; exact List.take_of_length_le (by rw [← HT.out.1.len]; omega)
      go_wp2
      go_ret
      have h1 := HO.out.1
      rw [HL.out] at h1
      exact ⟨B, m, d, us, rfl, h1, hb⟩
end Go.Proofs.Ytlegjdlmcphhlab
