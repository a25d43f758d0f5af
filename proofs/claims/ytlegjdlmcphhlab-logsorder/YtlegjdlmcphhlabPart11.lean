/- TEXTS LAID TOGETHER: Logj, Alive4, Sameact, Samelog, Samelogb, Doesd -/
import Derived.Test.YtlegjdlmcphhlabPart10
import Derived.Test.YtlegjdlmcphhlabPart8
import Derived.Deep.CutRange
/-
  PACKAGE logs: Rename.
-/
namespace Go.Proofs.Ytlegjdlmcphhlab
open Go.RowKit

theorem map_step {α : Type} {φ : α → α} {xs : List α} {k : Nat} {x : α} (h : xs[k]? = some x) : ((xs.take k).map φ ++ xs.drop k)[k]? = some x ∧ ((xs.take k).map φ ++ xs.drop k).set k (φ x) = (xs.take (k + 1)).map φ ++ xs.drop (k + 1) := by
  have hk : k < xs.length := (List.getElem?_eq_some_iff.1 h).1
  have e : xs[k] = x := by rw [List.getElem?_eq_getElem hk] at h; exact Option.some.inj h
  have hl : ((xs.take k).map φ).length = k := by rw [List.length_map, List.length_take]; omega
  have hd : xs.drop k = x :: xs.drop (k + 1) := by rw [← e]; exact List.drop_eq_getElem_cons hk
  constructor
  · rw [List.getElem?_append_right (by omega), hl, Nat.sub_self, hd]; rfl
  · rw [List.set_append_right (h := by omega), hl, Nat.sub_self, hd, List.take_succ_eq_append_getElem hk, e, List.map_append, List.append_assoc]
    rfl

set_option maxRecDepth 8000 in
set_option maxHeartbeats 2000000 in
theorem renameLog_any (A : Option Addr) (n c : Nat) (vs : List RV) (xs : List M.Rec) (f t : Int) (w : World) (ht : TreeR w A n vs xs) (hs : ∀ x ∈ xs, x.act.data.length ≤ 140737488355328) (hn : (n + 1) * 104 ≤ 140737488355328) :
    Calls Try.prog 23 #[.slice A n c, .int .i64 f, .int .i64 t] w fun e w' => ∃ (B : Option Addr) (d : Nat) (us : List RV), e = .returned (.slice B n d) ∧ OwnL w' w.heap.size B n d us (xs.map (turnR f t)) ∧ Below w.heap.size w w' := by
  have HT : Hid (TreeR w A n vs xs ∧ (∀ x ∈ xs, x.act.data.length ≤ 140737488355328)) := ⟨ht, hs⟩
  clear ht hs
  go_enter Try.func23, Try.ntmps23
  go_wp2_with (fail)
  refine (ownLog_any A n c vs xs w HT.out.1 HT.out.2 hn).mono ?_
  rintro e w1 ⟨B, m, d, us, rfl, ho, hb⟩
  have hmn : m = n := by rw [ho.tree.len, HT.out.1.len]
  subst hmn
  have H0 : Hid (OwnL w1 w.heap.size B m d us xs ∧ Below w.heap.size w w1) := ⟨ho, hb⟩
  clear ho hb
  go_wp2_with (fail)
  go_loopw [12] (fun i wr => ∃ (k : Nat) (us : List RV), k ≤ m ∧ i = .int .i64 k ∧ OwnL wr w.heap.size B m d us ((xs.take k).map (turnR f t) ++ xs.drop k) ∧ Below w.heap.size w wr) (fun i _ => m - (intOf i).toNat)
  case atStart => exact ⟨0, us, Nat.zero_le _, rfl, by simpa using H0.out.1, H0.out.2⟩
  case round =>
    obtain ⟨k, us2, hk, rfl, hol, hb⟩ := hrel
    have HO : Hid (OwnL wr w.heap.size B m d us2 ((xs.take k).map (turnR f t) ++ xs.drop k) ∧ Below w.heap.size w wr) := ⟨hol, hb⟩
    have hsz := hb.size
    clear hol
    by_cases hlt : k < m
    · obtain ⟨x, hx⟩ : ∃ x, xs[k]? = some x := ⟨_, List.getElem?_eq_getElem (by rw [← HT.out.1.len]; exact hlt)⟩
      obtain ⟨hx2, hset⟩ := map_step (φ := turnR f t) hx
      have hgf : ∃ g, B = some ⟨g, 0, none⟩ ∧ w.heap.size ≤ g := by
        rcases HO.out.1.1.2 with ⟨_, h0⟩ | ⟨g, cap, cur, hv, hg, _⟩
        · omega
        · cases hv; exact ⟨g, rfl, hg⟩
      obtain ⟨g, rfl, hwg⟩ := hgf
      obtain ⟨g', o', v, hA, hgb, hvk, c0, c1, c2, c3, c4, c5, c6, c7, c8⟩ := HO.out.1.tree.1.at hlt
      cases hA
      simp only [Nat.zero_add] at c0 c1 c2 c3 c4 c5 c6 c7 c8
      have hcx := HO.out.1.2.2 k v x hvk hx2
      have HX : Hid (us2[k]? = some v ∧ ((xs.take k).map (turnR f t) ++ xs.drop k)[k]? = some x ∧ OwnR wr w.heap.size v x ∧ x.act.data.length ≤ 140737488355328 ∧ ((xs.take k).map (turnR f t) ++ xs.drop k).set k (turnR f t x) = (xs.take (k + 1)).map (turnR f t) ++ xs.drop (k + 1)) := ⟨hvk, hx2, hcx, HT.out.2 x (List.mem_of_getElem? hx), hset⟩
      clear hvk hx hx2 hcx hset hb
      go_wp2_with (fail)
      refine (turn_any v.a x.act f t _ HX.out.2.2.1.1.cont HX.out.2.2.2.1).mono ?_
      rintro e w2 ⟨a', rfl, hoa, hb2⟩
      have hz2 := hb2.size
      have hbw2 := HO.out.2.trans (hb2.mono hsz)
      have hol2 := HO.out.1.below (Nat.le_refl _) hb2
      obtain ⟨cur, hcur⟩ := own_block hol2.1
      have hfz : ∀ o, w2.frozen? ⟨g, o, none⟩ = false := fun o => by simp [World.frozen?, hcur]
      have d0 : w2.cell? ⟨g, k * 9, none⟩ = some (.int .i64 v.a.kind) := by rw [hb2.cell (p := ⟨g, k * 9, none⟩) hgb]; exact c0
      have d1 : w2.cell? ⟨g, k * 9 + 1, none⟩ = some (.int .i64 v.a.fid) := by rw [hb2.cell (p := ⟨g, k * 9 + 1, none⟩) hgb]; exact c1
      have d2 : w2.cell? ⟨g, k * 9 + 2, none⟩ = some (.int .i64 v.a.dir) := by rw [hb2.cell (p := ⟨g, k * 9 + 2, none⟩) hgb]; exact c2
      have d3 : w2.cell? ⟨g, k * 9 + 3, none⟩ = some (.string v.a.name) := by rw [hb2.cell (p := ⟨g, k * 9 + 3, none⟩) hgb]; exact c3
      have d4 : w2.cell? ⟨g, k * 9 + 4, none⟩ = some (.int .i64 v.a.to) := by rw [hb2.cell (p := ⟨g, k * 9 + 4, none⟩) hgb]; exact c4
      have d5 : w2.cell? ⟨g, k * 9 + 5, none⟩ = some (.string v.a.toName) := by rw [hb2.cell (p := ⟨g, k * 9 + 5, none⟩) hgb]; exact c5
      have d6 : w2.cell? ⟨g, k * 9 + 6, none⟩ = some (.slice v.a.dA v.a.dn v.a.dc) := by rw [hb2.cell (p := ⟨g, k * 9 + 6, none⟩) hgb]; exact c6
      have HR : Hid (OwnL (put7 w2 g (k * 9) a') w.heap.size (some ⟨g, 0, none⟩) m d (us2.set k ⟨a', v.ver, v.id⟩) ((xs.take (k + 1)).map (turnR f t) ++ xs.drop (k + 1)) ∧ Below w.heap.size w (put7 w2 g (k * 9) a')) := by
        refine ⟨?_, put7_below hbw2 hwg _ _⟩
        rw [← HX.out.2.2.2.2]
        exact ownL_put7 hol2 HX.out.1 HX.out.2.1 (hoa.mono hsz)
      clear hoa hb2 hbw2 hol2 hcur c0 c1 c2 c3 c4 c5 c6 c7 c8
      go_wp2_with (fail)
      go_roundw
      case rel => exact ⟨k + 1, _, by omega, by go_num, HR.out.1, HR.out.2⟩
      case measure => simp [intOf]; omega
    · have HL : Hid ((xs.take k).map (turnR f t) ++ xs.drop k = xs.map (turnR f t)) := by
        show _ = _
        have hlen := HT.out.1.len
        rw [List.take_of_length_le (by omega), List.drop_eq_nil_iff.2 (by omega), List.append_nil]
      go_wp2
      go_ret
      have h1 := HO.out.1
      rw [HL.out] at h1
      exact ⟨B, d, us2, rfl, h1, hb⟩
end Go.Proofs.Ytlegjdlmcphhlab
/-
  alive: the closed fact of chapter 4's laws.
-/
namespace Go.Proofs.Ytlegjdlmcphhlab
open Go.RowKit

def tx4 : ByteArray := ⟨#[97]⟩
def rec1 : M.Rec := ⟨⟨1, -1, 0, tx4, 0, ⟨#[]⟩, []⟩, -1, 1⟩
def rec2 : M.Rec := ⟨⟨4, -1, 0, tx4, 0, ⟨#[]⟩, []⟩, -1, 2⟩
theorem add_one : M.addS [] rec1 = (0, [rec1]) := rfl
theorem fids_rec1 : M.fidsS rec1.act = [-1, 0] := by unfold M.fidsS; rfl
theorem add_two : M.addS [rec1] rec2 = (0, []) := by
  have h1 : M.undoB [rec1] rec2.act = true := by decide
  have h2 : M.nameFB rec1.act rec2.act.fid = true := by unfold M.nameFB; rw [fids_rec1]; decide
  unfold M.addS
  rw [h1, if_pos rfl]
  simp [h2]

set_option maxRecDepth 8000 in
set_option maxHeartbeats 4000000 in
theorem alive4_any (w : World) : Calls Try.prog 27 #[] w fun e w' => e = .returned (.bool true) ∧ Below w.heap.size w w' := by
  go_enter Try.func27, Try.ntmps27
  go_wp2_with (fail)
  refine (add_any none 0 0 [] [] ⟨⟨1, -1, 0, tx4, 0, ⟨#[]⟩, none, 0, 0⟩, -1, 1⟩ rec1 _ ⟨⟨rfl, .inl rfl⟩, All2.nil⟩ (by simp) (by decide) (by decide) (by decide) ⟨⟨rfl, rfl, rfl, rfl, rfl, rfl, ⟨rfl, .inl rfl⟩⟩, rfl, rfl⟩ (by decide)).mono ?_
  rintro e w1 ⟨B1, m1, d1, us1, rfl, ho1, hb1⟩
  rw [add_one] at ho1 ⊢
  have hm1 : m1 = 1 := by rw [ho1.tree.len]; rfl
  subst hm1
  obtain ⟨_, _, hf1, hnc1, hcm1⟩ := own_form ho1.1
  cases hf1
  have H1 : Hid (TreeR w1 B1 1 us1 [rec1] ∧ Below w.heap.size w w1) := ⟨ho1.tree, hb1⟩
  clear ho1 hb1
  go_wp2_with (fail)
  refine (add_any B1 1 d1 us1 [rec1] ⟨⟨4, -1, 0, tx4, 0, ⟨#[]⟩, none, 0, 0⟩, -1, 2⟩ rec2 _ H1.out.1 (by simp [rec1]) (by decide) hnc1 hcm1 ⟨⟨rfl, rfl, rfl, rfl, rfl, rfl, ⟨rfl, .inl rfl⟩⟩, rfl, rfl⟩ (by decide)).mono ?_
  rintro e w2 ⟨B2, m2, d2, us2, rfl, ho2, hb2⟩
  rw [add_two] at ho2 ⊢
  have hm2 : m2 = 0 := by rw [ho2.tree.len]; rfl
  subst hm2
  have H2 : Hid (TreeR w2 B1 1 us1 [rec1] ∧ Below w.heap.size w w2) := ⟨H1.out.1.below (Nat.le_refl _) hb2, H1.out.2.trans (hb2.mono H1.out.2.size)⟩
  clear ho2 hb2 H1
  go_wp2_with (fail)
  refine (renameLog_any B1 1 d1 us1 [rec1] (-1) 9 _ H2.out.1 (by simp [rec1]) (by decide)).mono ?_
  rintro e w3 ⟨B3, d3, us3, rfl, ho3, hb3⟩
  have H3 : Hid (TreeR w3 B1 1 us1 [rec1] ∧ Below w.heap.size w w3) := ⟨H2.out.1.below (Nat.le_refl _) hb3, H2.out.2.trans (hb3.mono H2.out.2.size)⟩
  obtain ⟨g, o, v, rfl, hgb, hvk, c0, c1, c2, c3, c4, c5, c6, c7, c8⟩ := ho3.tree.1.at (j := 0) (by decide)
  have hfid : v.a.fid = 9 := by
    have h1 := (ho3.tree.2.2 0 v (turnR (-1) 9 rec1) hvk rfl).1.2.1
    rw [h1]; rfl
  rw [hfid] at c1
  simp only [Nat.zero_mul, Nat.add_zero] at c0 c1
  clear ho3 hb3 H2 hvk hfid
  go_wp2_with (fail)
  refine (acts_any B1 1 d1 us1 [rec1] _ H3.out.1 (by simp [rec1]) (by decide)).mono ?_
  rintro e w4 ⟨B4, m4, d4, us4, rfl, ho4, hb4⟩
  have hm4 : m4 = 1 := by rw [actsLen ho4]; rfl
  subst hm4
  have H4 : Hid (TreeR w4 B1 1 us1 [rec1] ∧ Below w.heap.size w w4) := ⟨H3.out.1.below (Nat.le_refl _) hb4, H3.out.2.trans (hb4.mono H3.out.2.size)⟩
  clear ho4 hb4 H3 c0 c1 c2 c3 c4 c5 c6 c7 c8
  go_wp2_with (fail)
  refine (ownLog_any B1 1 d1 us1 [rec1] _ H4.out.1 (by simp [rec1]) (by decide)).mono ?_
  rintro e w5 ⟨B5, m5, d5, us5, rfl, ho5, hb5⟩
  have hm5 : m5 = 1 := by rw [ho5.tree.len]; rfl
  subst hm5
  have H5 : Hid (TreeR w5 B1 1 us1 [rec1] ∧ Below w.heap.size w w5) := ⟨H4.out.1.below (Nat.le_refl _) hb5, H4.out.2.trans (hb5.mono H4.out.2.size)⟩
  clear ho5 hb5 H4
  obtain ⟨g1, o1, v1, rfl, hgb1, hvk1, c0, c1, c2, c3, c4, c5, c6, c7, c8⟩ := H5.out.1.1.at (j := 0) (by decide)
  have HC : Hid (ContA w5 v1.a rec1.act) := (H5.out.1.2.2 0 v1 rec1 hvk1 rfl).1
  simp only [Nat.zero_mul, Nat.add_zero] at c0 c1 c2 c3 c4 c5 c6
  clear hvk1
  go_wp2_with (fail)
  refine (turn_any v1.a rec1.act (-1) 4 _ HC.out (by decide)).mono ?_
  rintro e w6 ⟨a6, rfl, ho6, hb6⟩
  have hf6 : a6.fid = 4 := by rw [ho6.2.1]; rfl
  have hfl : ∀ W : World, (Instr.field 26 a6.val 1).run Try.prog W = .ok (.int .i64 4) W := fun W => by
    have h : (Instr.field 26 a6.val 1).run Try.prog W = .ok (.int .i64 a6.fid) W := by kernel_rfl
    rw [h, hf6]
  have H6 : Hid (Below w.heap.size w w6) := H5.out.2.trans (hb6.mono H5.out.2.size)
  clear ho6 hb6 H5 hf6 c0 c1 c2 c3 c4 c5 c6 c7 c8 HC
  go_wp2
  go_ret
  exact ⟨rfl, H6.out⟩
end Go.Proofs.Ytlegjdlmcphhlab
/-
  THE REFERENCE's SameAct, of an act and its copy.
-/
namespace Go.Proofs.Ytlegjdlmcphhlab
open Go.RowKit

theorem two_boxesA (w : World) (a b : AV) (W : World) (hW : W = (w.alloc (.cells #[.int .i64 a.kind, .int .i64 a.fid, .int .i64 a.dir, .string a.name, .int .i64 a.to, .string a.toName, .slice a.dA a.dn a.dc] 26)).alloc (.cells #[.int .i64 b.kind, .int .i64 b.fid, .int .i64 b.dir, .string b.name, .int .i64 b.to, .string b.toName, .slice b.dA b.dn b.dc] 26)) : Below w.heap.size w W := by
  subst hW
  exact ((Below.refl _ _).alloc (Nat.le_refl _) _).alloc (by simp) _
set_option maxRecDepth 4000 in
set_option maxHeartbeats 2000000 in
theorem sameAct_any (a b : AV) (x : M.Act) (w : World) (ha : ContA w a x) (hb : ContA w b x) :
    Calls Try.prog 25 #[a.val, b.val] w fun e w' => e = .returned (.bool true) ∧ Below w.heap.size w w' := by
  obtain ⟨k1, f1, d1, n1, t1, m1, A1, l1, c1⟩ := a
  obtain ⟨k2, f2, d2, n2, t2, m2, A2, l2, c2⟩ := b
  obtain ⟨rfl, rfl, rfl, rfl, rfl, rfl, hb1⟩ := ha
  obtain ⟨e1, e2, e3, e4, e5, e6, hb2⟩ := hb
  simp only at e1 e2 e3 e4 e5 e6 hb1 hb2
  subst e1 e2 e3 e4 e5 e6
  have HW : Hid _ := two_boxesA w ⟨x.kind, x.fid, x.dir, x.name, x.to, x.toName, A1, l1, c1⟩ ⟨x.kind, x.fid, x.dir, x.name, x.to, x.toName, A2, l2, c2⟩
  have hwb := two_boxesA w ⟨x.kind, x.fid, x.dir, x.name, x.to, x.toName, A1, l1, c1⟩ ⟨x.kind, x.fid, x.dir, x.name, x.to, x.toName, A2, l2, c2⟩ _ rfl
  have q1 := conv_byts (c := c1) (hb1.below (Nat.le_refl _) hwb)
  have q2 := conv_byts (c := c2) (hb2.below (Nat.le_refl _) hwb)
  simp only at q1 q2
  have y1 := raw_yes x.name
  have y2 := raw_yes x.toName
  have y3 := raw_yes (txt x.data)
  clear hb1 hb2 hwb
  go_enter Try.func25, Try.ntmps25
  go_wp2
  go_ret
  exact ⟨ret_bool (by simp), HW.out _ rfl⟩
end Go.Proofs.Ytlegjdlmcphhlab
/-
  THE REFERENCE's SameAct and SameLog, of any two.
-/
namespace Go.Proofs.Ytlegjdlmcphhlab
open Go.RowKit

/-- two acts are the same -/
def sameA (x y : M.Act) : Bool := decide (x.kind = y.kind) && decide (x.fid = y.fid) && decide (x.dir = y.dir) && decide (x.name = y.name) && decide (x.to = y.to) && decide (x.toName = y.toName) && decide (x.data = y.data)
theorem sameA_iff {x y : M.Act} : sameA x y = true ↔ x = y := by
  obtain ⟨k, f, d, n, t, m, b⟩ := x
  obtain ⟨k2, f2, d2, n2, t2, m2, b2⟩ := y
  unfold sameA
  simp [and_assoc]
theorem sameA_self (x : M.Act) : sameA x x = true := sameA_iff.2 rfl
def sameR (x y : M.Rec) : Bool := decide (x.ver = y.ver) && decide (x.id = y.id) && sameA x.act y.act
theorem sameR_iff {x y : M.Rec} : sameR x y = true ↔ x = y := by
  obtain ⟨a, v, i⟩ := x
  obtain ⟨a2, v2, i2⟩ := y
  unfold sameR
  simp only [Bool.and_eq_true, decide_eq_true_eq, sameA_iff, M.Rec.mk.injEq]
  constructor
  · rintro ⟨⟨h1, h2⟩, h3⟩; exact ⟨h3, h1, h2⟩
  · rintro ⟨h1, h2, h3⟩; exact ⟨⟨h2, h3⟩, h1⟩
theorem sameR_self (x : M.Rec) : sameR x x = true := sameR_iff.2 rfl
theorem sameR_no {x y : M.Rec} (h : x ≠ y) : sameR x y = false := by
  cases hb : sameR x y
  · rfl
  · exact absurd (sameR_iff.1 hb) h

set_option maxRecDepth 4000 in
set_option maxHeartbeats 4000000 in
theorem sameActs_any (a b : AV) (x y : M.Act) (w : World) (ha : ContA w a x) (hb : ContA w b y) :
    Calls Try.prog 25 #[a.val, b.val] w fun e w' => e = .returned (.bool (sameA x y)) ∧ Below w.heap.size w w' := by
  by_cases hxy : x = y
  · subst hxy
    refine (sameAct_any a b x w ha hb).mono ?_
    rintro e w' ⟨rfl, h⟩
    exact ⟨ret_bool (sameA_self x).symm, h⟩
  have HN : Hid (sameA x y = false) := by
    show _ = _
    cases hq : sameA x y
    · rfl
    · exact absurd (sameA_iff.1 hq) hxy
  have HXY : Hid (¬ x = y) := hxy
  clear hxy
  have HA : Hid (ContA w a x ∧ ContA w b y) := ⟨ha, hb⟩
  have HW : Hid _ := two_boxesA w a b
  have hwb := two_boxesA w a b _ rfl
  have q1 := conv_byts (c := a.dc) (ha.2.2.2.2.2.2.below (Nat.le_refl _) hwb)
  have q2 := conv_byts (c := b.dc) (hb.2.2.2.2.2.2.below (Nat.le_refl _) hwb)
  clear hwb ha hb
  by_cases h1 : a.kind = b.kind
  case' neg =>
    have k1 : (a.kind == b.kind) = false := by simp [h1]
    clear h1
    go_enter Try.func25, Try.ntmps25
    go_wp2
    go_ret
    exact ⟨ret_bool HN.out.symm, HW.out _ rfl⟩
  have k1 : (a.kind == b.kind) = true := by simp [h1]
  have H1 : Hid (a.kind = b.kind) := h1
  clear h1
  by_cases h2 : a.fid = b.fid
  case' neg =>
    have k2 : (a.fid == b.fid) = false := by simp [h2]
    clear h2
    go_enter Try.func25, Try.ntmps25
    go_wp2
    go_ret
    exact ⟨ret_bool HN.out.symm, HW.out _ rfl⟩
  have k2 : (a.fid == b.fid) = true := by simp [h2]
  have H2 : Hid (a.fid = b.fid) := h2
  clear h2
  by_cases h3 : a.dir = b.dir
  case' neg =>
    have k3 : (a.dir == b.dir) = false := by simp [h3]
    clear h3
    go_enter Try.func25, Try.ntmps25
    go_wp2
    go_ret
    exact ⟨ret_bool HN.out.symm, HW.out _ rfl⟩
  have k3 : (a.dir == b.dir) = true := by simp [h3]
  have H3 : Hid (a.dir = b.dir) := h3
  clear h3
  by_cases h4 : a.name = b.name
  case' neg =>
    have k4 : (a.name.toList == b.name.toList) = false := raw_no h4
    clear h4
    go_enter Try.func25, Try.ntmps25
    go_wp2
    go_ret
    exact ⟨ret_bool HN.out.symm, HW.out _ rfl⟩
  have k4 : (a.name.toList == b.name.toList) = true := by rw [h4]; exact raw_yes _
  have H4 : Hid (a.name = b.name) := h4
  clear h4
  by_cases h5 : a.to = b.to
  case' neg =>
    have k5 : (a.to == b.to) = false := by simp [h5]
    clear h5
    go_enter Try.func25, Try.ntmps25
    go_wp2
    go_ret
    exact ⟨ret_bool HN.out.symm, HW.out _ rfl⟩
  have k5 : (a.to == b.to) = true := by simp [h5]
  have H5 : Hid (a.to = b.to) := h5
  clear h5
  by_cases h6 : a.toName = b.toName
  case' neg =>
    have k6 : (a.toName.toList == b.toName.toList) = false := raw_no h6
    clear h6
    go_enter Try.func25, Try.ntmps25
    go_wp2
    go_ret
    exact ⟨ret_bool HN.out.symm, HW.out _ rfl⟩
  have k6 : (a.toName.toList == b.toName.toList) = true := by rw [h6]; exact raw_yes _
  have H6 : Hid (a.toName = b.toName) := h6
  clear h6
  have hd : x.data ≠ y.data := fun e => by
    obtain ⟨⟨a1, a2, a3, a4, a5, a6, _⟩, b1, b2, b3, b4, b5, b6, _⟩ := HA.out
    have e1 := H1.out
    have e2 := H2.out
    have e3 := H3.out
    have e4 := H4.out
    have e5 := H5.out
    have e6 := H6.out
    rw [a1, b1] at e1
    rw [a2, b2] at e2
    rw [a3, b3] at e3
    rw [a4, b4] at e4
    rw [a5, b5] at e5
    rw [a6, b6] at e6
    obtain ⟨k, f, d, n, t, m, b⟩ := x
    obtain ⟨k2, f2, d2, n2, t2, m2, b2⟩ := y
    simp only at e e1 e2 e3 e4 e5 e6
    subst e e1 e2 e3 e4 e5 e6
    exact HXY.out rfl
  have k7 : ((txt x.data).toList == (txt y.data).toList) = false := by rw [raw_eq, decide_eq_false_iff_not]; exact fun h => hd (txt_inj.1 h)
  clear hd
  go_enter Try.func25, Try.ntmps25
  go_wp2
  go_ret
  exact ⟨ret_bool HN.out.symm, HW.out _ rfl⟩
end Go.Proofs.Ytlegjdlmcphhlab
/-
  THE REFERENCE's SameLog, of any two logs.
-/
namespace Go.Proofs.Ytlegjdlmcphhlab
open Go.RowKit

theorem allR_iff : ∀ {xs ys : List M.Rec}, allB sameR xs ys = true ↔ xs = ys
  | [], [] => by simp [allB]
  | [], y :: ys => by simp [allB]
  | x :: xs, [] => by simp [allB]
  | x :: xs, y :: ys => by
    rw [List.cons.injEq, ← sameR_iff, ← allR_iff (xs := xs) (ys := ys)]
    simp [allB]
def VS1 (b o b2 o2 n ca cb k : Nat) (v u : RV) : Nat → Value → World → Prop
  | 0 => IsW (.slice (some ⟨b, o, none⟩) n ca)
  | 1 => IsW (.int .i64 ((k : Nat) : Int))
  | 2 => IsW (.pointer (some ⟨b, o + k * 9, none⟩))
  | 3 => IsW (.pointer (some ⟨b, o + k * 9 + 7, none⟩))
  | 4 => IsW (.int .i64 (v.ver))
  | 5 => IsW (.slice (some ⟨b2, o2, none⟩) n cb)
  | 6 => IsW (.int .i64 ((k : Nat) : Int))
  | 7 => IsW (.pointer (some ⟨b2, o2 + k * 9, none⟩))
  | 8 => IsW (.pointer (some ⟨b2, o2 + k * 9 + 7, none⟩))
  | 9 => IsW (.int .i64 (u.ver))
  | 10 => IsW (.bool true)
  | 11 => IsW (.bool true)
  | 12 => IsW (undef)
  | 13 => IsW (undef)
  | 14 => IsW (undef)
  | 15 => IsW (undef)
  | 16 => IsW (undef)
  | 17 => IsW (undef)
  | 18 => IsW (undef)
  | 19 => IsW (undef)
  | 20 => IsW (undef)
  | 21 => IsW (undef)
  | 22 => IsW (undef)
  | 23 => IsW (.bool true)
  | 24 => IsW (.bool true)
  | 25 => IsW (undef)
  | 26 => IsW (undef)
  | 27 => IsW (undef)
  | 28 => IsW (undef)
  | 29 => IsW (undef)
  | 30 => IsW (undef)
  | 31 => IsW (undef)
  | 32 => IsW (undef)
  | 33 => IsW (undef)
  | 34 => IsW (undef)
  | 35 => IsW (undef)
  | 36 => IsW (undef)
  | 37 => IsW (.bool true)
  | _ => fun _ _ => True
theorem VS1_stays (b o b2 o2 n ca cb k : Nat) (v u : RV) : ∀ i, Stays (VS1 b o b2 o2 n ca cb k v u i) := by
  intro i v W W' hb h
  match i, h with
  | 0, h => exact h
  | 1, h => exact h
  | 2, h => exact h
  | 3, h => exact h
  | 4, h => exact h
  | 5, h => exact h
  | 6, h => exact h
  | 7, h => exact h
  | 8, h => exact h
  | 9, h => exact h
  | 10, h => exact h
  | 11, h => exact h
  | 12, h => exact h
  | 13, h => exact h
  | 14, h => exact h
  | 15, h => exact h
  | 16, h => exact h
  | 17, h => exact h
  | 18, h => exact h
  | 19, h => exact h
  | 20, h => exact h
  | 21, h => exact h
  | 22, h => exact h
  | 23, h => exact h
  | 24, h => exact h
  | 25, h => exact h
  | 26, h => exact h
  | 27, h => exact h
  | 28, h => exact h
  | 29, h => exact h
  | 30, h => exact h
  | 31, h => exact h
  | 32, h => exact h
  | 33, h => exact h
  | 34, h => exact h
  | 35, h => exact h
  | 36, h => exact h
  | 37, h => exact h
  | k + 38, h => trivial
def VS2 (b o b2 o2 n ca cb k : Nat) (v u : RV) : Nat → Value → World → Prop
  | 0 => IsW (.slice (some ⟨b, o, none⟩) n ca)
  | 1 => IsW (.int .i64 ((k : Nat) : Int))
  | 2 => IsW (.pointer (some ⟨b, o + k * 9, none⟩))
  | 3 => IsW (.pointer (some ⟨b, o + k * 9 + 7, none⟩))
  | 4 => IsW (.int .i64 (v.ver))
  | 5 => IsW (.slice (some ⟨b2, o2, none⟩) n cb)
  | 6 => IsW (.int .i64 ((k : Nat) : Int))
  | 7 => IsW (.pointer (some ⟨b2, o2 + k * 9, none⟩))
  | 8 => IsW (.pointer (some ⟨b2, o2 + k * 9 + 7, none⟩))
  | 9 => IsW (.int .i64 (u.ver))
  | 10 => IsW (.bool false)
  | 11 => IsW (.bool false)
  | 12 => IsW (.slice (some ⟨b, o, none⟩) n ca)
  | 13 => IsW (.int .i64 ((k : Nat) : Int))
  | 14 => IsW (.pointer (some ⟨b, o + k * 9, none⟩))
  | 15 => IsW (.pointer (some ⟨b, o + k * 9 + 8, none⟩))
  | 16 => IsW (.int .i64 (v.id))
  | 17 => IsW (.slice (some ⟨b2, o2, none⟩) n cb)
  | 18 => IsW (.int .i64 ((k : Nat) : Int))
  | 19 => IsW (.pointer (some ⟨b2, o2 + k * 9, none⟩))
  | 20 => IsW (.pointer (some ⟨b2, o2 + k * 9 + 8, none⟩))
  | 21 => IsW (.int .i64 (u.id))
  | 22 => IsW (.bool true)
  | 23 => IsW (.bool true)
  | 24 => IsW (.bool true)
  | 25 => IsW (undef)
  | 26 => IsW (undef)
  | 27 => IsW (undef)
  | 28 => IsW (undef)
  | 29 => IsW (undef)
  | 30 => IsW (undef)
  | 31 => IsW (undef)
  | 32 => IsW (undef)
  | 33 => IsW (undef)
  | 34 => IsW (undef)
  | 35 => IsW (undef)
  | 36 => IsW (undef)
  | 37 => IsW (.bool true)
  | _ => fun _ _ => True
theorem VS2_stays (b o b2 o2 n ca cb k : Nat) (v u : RV) : ∀ i, Stays (VS2 b o b2 o2 n ca cb k v u i) := by
  intro i v W W' hb h
  match i, h with
  | 0, h => exact h
  | 1, h => exact h
  | 2, h => exact h
  | 3, h => exact h
  | 4, h => exact h
  | 5, h => exact h
  | 6, h => exact h
  | 7, h => exact h
  | 8, h => exact h
  | 9, h => exact h
  | 10, h => exact h
  | 11, h => exact h
  | 12, h => exact h
  | 13, h => exact h
  | 14, h => exact h
  | 15, h => exact h
  | 16, h => exact h
  | 17, h => exact h
  | 18, h => exact h
  | 19, h => exact h
  | 20, h => exact h
  | 21, h => exact h
  | 22, h => exact h
  | 23, h => exact h
  | 24, h => exact h
  | 25, h => exact h
  | 26, h => exact h
  | 27, h => exact h
  | 28, h => exact h
  | 29, h => exact h
  | 30, h => exact h
  | 31, h => exact h
  | 32, h => exact h
  | 33, h => exact h
  | 34, h => exact h
  | 35, h => exact h
  | 36, h => exact h
  | 37, h => exact h
  | k + 38, h => trivial
def VS3 (b o b2 o2 n ca cb k : Nat) (v u : RV) (x y : M.Rec) : Nat → Value → World → Prop
  | 0 => IsW (.slice (some ⟨b, o, none⟩) n ca)
  | 1 => IsW (.int .i64 ((k : Nat) : Int))
  | 2 => IsW (.pointer (some ⟨b, o + k * 9, none⟩))
  | 3 => IsW (.pointer (some ⟨b, o + k * 9 + 7, none⟩))
  | 4 => IsW (.int .i64 (v.ver))
  | 5 => IsW (.slice (some ⟨b2, o2, none⟩) n cb)
  | 6 => IsW (.int .i64 ((k : Nat) : Int))
  | 7 => IsW (.pointer (some ⟨b2, o2 + k * 9, none⟩))
  | 8 => IsW (.pointer (some ⟨b2, o2 + k * 9 + 7, none⟩))
  | 9 => IsW (.int .i64 (u.ver))
  | 10 => IsW (.bool false)
  | 11 => IsW (.bool false)
  | 12 => IsW (.slice (some ⟨b, o, none⟩) n ca)
  | 13 => IsW (.int .i64 ((k : Nat) : Int))
  | 14 => IsW (.pointer (some ⟨b, o + k * 9, none⟩))
  | 15 => IsW (.pointer (some ⟨b, o + k * 9 + 8, none⟩))
  | 16 => IsW (.int .i64 (v.id))
  | 17 => IsW (.slice (some ⟨b2, o2, none⟩) n cb)
  | 18 => IsW (.int .i64 ((k : Nat) : Int))
  | 19 => IsW (.pointer (some ⟨b2, o2 + k * 9, none⟩))
  | 20 => IsW (.pointer (some ⟨b2, o2 + k * 9 + 8, none⟩))
  | 21 => IsW (.int .i64 (u.id))
  | 22 => IsW (.bool false)
  | 23 => IsW (.bool false)
  | 24 => IsW (.bool false)
  | 25 => IsW (.slice (some ⟨b, o, none⟩) n ca)
  | 26 => IsW (.int .i64 ((k : Nat) : Int))
  | 27 => IsW (.pointer (some ⟨b, o + k * 9, none⟩))
  | 28 => IsW (.pointer (some ⟨b, o + k * 9, none⟩))
  | 29 => IsW (AV.val v.a)
  | 30 => IsW (.slice (some ⟨b2, o2, none⟩) n cb)
  | 31 => IsW (.int .i64 ((k : Nat) : Int))
  | 32 => IsW (.pointer (some ⟨b2, o2 + k * 9, none⟩))
  | 33 => IsW (.pointer (some ⟨b2, o2 + k * 9, none⟩))
  | 34 => IsW (AV.val u.a)
  | 35 => IsW (.bool (sameA x.act y.act))
  | 36 => IsW (.bool (!(sameA x.act y.act)))
  | 37 => IsW (.bool (!(sameA x.act y.act)))
  | _ => fun _ _ => True
theorem VS3_stays (b o b2 o2 n ca cb k : Nat) (v u : RV) (x y : M.Rec) : ∀ i, Stays (VS3 b o b2 o2 n ca cb k v u x y i) := by
  intro i v W W' hb h
  match i, h with
  | 0, h => exact h
  | 1, h => exact h
  | 2, h => exact h
  | 3, h => exact h
  | 4, h => exact h
  | 5, h => exact h
  | 6, h => exact h
  | 7, h => exact h
  | 8, h => exact h
  | 9, h => exact h
  | 10, h => exact h
  | 11, h => exact h
  | 12, h => exact h
  | 13, h => exact h
  | 14, h => exact h
  | 15, h => exact h
  | 16, h => exact h
  | 17, h => exact h
  | 18, h => exact h
  | 19, h => exact h
  | 20, h => exact h
  | 21, h => exact h
  | 22, h => exact h
  | 23, h => exact h
  | 24, h => exact h
  | 25, h => exact h
  | 26, h => exact h
  | 27, h => exact h
  | 28, h => exact h
  | 29, h => exact h
  | 30, h => exact h
  | 31, h => exact h
  | 32, h => exact h
  | 33, h => exact h
  | 34, h => exact h
  | 35, h => exact h
  | 36, h => exact h
  | 37, h => exact h
  | k + 38, h => trivial

set_option maxRecDepth 8000 in
set_option maxHeartbeats 4000000 in
theorem sameLog_any (A B : Option Addr) (n m ca cb : Nat) (vs us : List RV) (xs ys : List M.Rec) (w : World) (hx : TreeR w A n vs xs) (hy : TreeR w B m us ys) (hn : n * 104 ≤ 140737488355328) (hm : m * 104 ≤ 140737488355328) :
    Calls Try.prog 20 #[.slice A n ca, .slice B m cb] w fun e w' => e = .returned (.bool (allB sameR xs ys)) ∧ Below w.heap.size w w' := by
  have HT : Hid (TreeR w A n vs xs ∧ TreeR w B m us ys) := ⟨hx, hy⟩
  by_cases hnm : n = m
  · subst hnm
    have q0 : ((n : Int) == (n : Int)) = true := by simp
    have q1 : ((n : Int) != (n : Int)) = false := by simp
    clear hx hy
    go_enter Try.func20, Try.ntmps20
    go_wp2
    go_loopw [13] (fun i wr => ∃ k : Nat, k ≤ n ∧ i = .int .i64 k ∧ Hid (allB sameR (xs.take k) (ys.take k) = true) ∧ Below w.heap.size w wr) (fun i _ => n - (intOf i).toNat)
    case atStart => exact ⟨0, Nat.zero_le _, rfl, rfl, Below.refl _ _⟩
    case round =>
      obtain ⟨k, hk, rfl, HE, hb⟩ := hrel
      have hsz := hb.size
      by_cases hlt : k < n
      · have hxr := HT.out.1.below (Nat.le_refl _) hb
        have hyr := HT.out.2.below (Nat.le_refl _) hb
        obtain ⟨b, o, v, rfl, hbl, hvk, _⟩ := hxr.1.at hlt
        obtain ⟨b2, o2, u, rfl, hbl2, huk, _⟩ := hyr.1.at hlt
        obtain ⟨x, hxk, hcx⟩ := hxr.2.at hvk
        obtain ⟨y, hyk, hcy⟩ := hyr.2.at huk
        have HR : Hid (RecAt wr b (o + k * 9) v ∧ RecAt wr b2 (o2 + k * 9) u ∧ b < wr.heap.size ∧ b2 < wr.heap.size) := ⟨Recs.recAt hxr.1 hvk, Recs.recAt hyr.1 huk, hbl, hbl2⟩
        have HX : Hid (ContR wr v x ∧ xs[k]? = some x) := ⟨hcx, hxk⟩
        have HY : Hid (ContR wr u y ∧ ys[k]? = some y) := ⟨hcy, hyk⟩
        have HL : Hid ((xs.take k).length = (ys.take k).length) := by
          show _ = _
          rw [List.length_take, List.length_take, ← HT.out.1.len, ← HT.out.2.len]
        clear hxk hyk hvk huk hcx hcy hxr hyr hbl hbl2
        by_cases h1 : v.ver = u.ver
        case' neg =>
          have r1 : (v.ver != u.ver) = true := by simp [h1]
          have HV1 : Hid (¬ v.ver = u.ver) := h1
          clear h1
          go_wp2_with (fail)
          go_cut [53] from 16 to 53 (fun t W => t = .bool true ∧ Below wr.heap.size wr W)
          case first =>
            have hbd : ∀ W, Below wr.drew.heap.size wr.drew W → Below wr.heap.size wr W := fun W hb => (Below.refl _ _).drew.trans hb
            have HRV : ∀ W, Below wr.drew.heap.size wr.drew W → RecAt W b (o + k * 9) v := fun W hb => HR.out.1.below (hbd W hb) HR.out.2.2.1
            have HRU : ∀ W, Below wr.drew.heap.size wr.drew W → RecAt W b2 (o2 + k * 9) u := fun W hb => HR.out.2.1.below (hbd W hb) HR.out.2.2.2
            have HCA : ∀ W, Below wr.drew.heap.size wr.drew W → ContA W v.a x.act ∧ ContA W u.a y.act := fun W hb => ⟨HX.out.1.1.below (Nat.le_refl _) (hbd W hb), HY.out.1.1.below (Nat.le_refl _) (hbd W hb)⟩
            refine wp_region_vals (VS1 b o b2 o2 n ca cb k v u) (by kernel_rfl) (by kernel_rfl) (VS1_stays b o b2 o2 n ca cb k v u) ?_ ?_
            · intro i hi
              match i, hi with
              | 0, _ =>
                refine StepAt.by rfl fun a' W hf hb hd => ?_
                exact .inl ⟨want_none, does_move ((hf.keeps 0 (by kernel_rfl)).trans rfl) ⟨Below.refl _ _, rfl⟩⟩
              | 1, _ =>
                refine StepAt.by rfl fun a' W hf hb hd => ?_
                exact .inl ⟨want_none, does_move ((hf.keeps 5 (by kernel_rfl)).trans rfl) ⟨Below.refl _ _, rfl⟩⟩
              | 2, _ =>
                refine StepAt.by rfl fun a' W hf hb hd => ?_
                exact .inl ⟨want_none, does_run (run_indexR (hd 0 (by kernel_rfl)) (hd 1 (by kernel_rfl)) (by omega)) ⟨Below.refl _ _, rfl⟩⟩
              | 3, _ =>
                refine StepAt.by rfl fun a' W hf hb hd => ?_
                exact .inl ⟨want_none, does_run (run_fieldR1 (hd 2 (by kernel_rfl))) ⟨Below.refl _ _, rfl⟩⟩
              | 4, _ =>
                refine StepAt.by rfl fun a' W hf hb hd => ?_
                exact .inl ⟨want_none, does_run (run_load3 (hd 3 (by kernel_rfl)) ((HRV W hb) 7 _ rfl)) ⟨Below.refl _ _, rfl⟩⟩
              | 5, _ =>
                refine StepAt.by rfl fun a' W hf hb hd => ?_
                exact .inl ⟨want_none, does_move ((hf.keeps 1 (by kernel_rfl)).trans rfl) ⟨Below.refl _ _, rfl⟩⟩
              | 6, _ =>
                refine StepAt.by rfl fun a' W hf hb hd => ?_
                exact .inl ⟨want_none, does_move ((hf.keeps 5 (by kernel_rfl)).trans rfl) ⟨Below.refl _ _, rfl⟩⟩
              | 7, _ =>
                refine StepAt.by rfl fun a' W hf hb hd => ?_
                exact .inl ⟨want_none, does_run (run_indexR (hd 5 (by kernel_rfl)) (hd 6 (by kernel_rfl)) (by omega)) ⟨Below.refl _ _, rfl⟩⟩
              | 8, _ =>
                refine StepAt.by rfl fun a' W hf hb hd => ?_
                exact .inl ⟨want_none, does_run (run_fieldR1 (hd 7 (by kernel_rfl))) ⟨Below.refl _ _, rfl⟩⟩
              | 9, _ =>
                refine StepAt.by rfl fun a' W hf hb hd => ?_
                exact .inl ⟨want_none, does_run (run_load3 (hd 8 (by kernel_rfl)) ((HRU W hb) 7 _ rfl)) ⟨Below.refl _ _, rfl⟩⟩
              | 10, _ =>
                refine StepAt.by rfl fun a' W hf hb hd => ?_
                exact .inl ⟨want_none, does_run (run_neqI (hd 4 (by kernel_rfl)) (hd 9 (by kernel_rfl))) ⟨Below.refl _ _, by show Value.bool _ = _; rw [r1]⟩⟩
              | 11, _ =>
                refine StepAt.by rfl fun a' W hf hb hd => ?_
                exact .inl ⟨want_none, does_move (hd 10 (by kernel_rfl)) ⟨Below.refl _ _, rfl⟩⟩
              | 12, _ =>
                refine StepAt.by rfl fun a' W hf hb hd => ?_
                exact .inr ⟨want_some (k := 11) (t := 27) rfl (hd 11 (by kernel_rfl)), rfl⟩
              | 13, _ =>
                refine StepAt.by rfl fun a' W hf hb hd => ?_
                exact .inr ⟨want_some (k := 11) (t := 27) rfl (hd 11 (by kernel_rfl)), rfl⟩
              | 14, _ =>
                refine StepAt.by rfl fun a' W hf hb hd => ?_
                exact .inr ⟨want_some (k := 11) (t := 27) rfl (hd 11 (by kernel_rfl)), rfl⟩
              | 15, _ =>
                refine StepAt.by rfl fun a' W hf hb hd => ?_
                exact .inr ⟨want_some (k := 11) (t := 27) rfl (hd 11 (by kernel_rfl)), rfl⟩
              | 16, _ =>
                refine StepAt.by rfl fun a' W hf hb hd => ?_
                exact .inr ⟨want_some (k := 11) (t := 27) rfl (hd 11 (by kernel_rfl)), rfl⟩
              | 17, _ =>
                refine StepAt.by rfl fun a' W hf hb hd => ?_
                exact .inr ⟨want_some (k := 11) (t := 27) rfl (hd 11 (by kernel_rfl)), rfl⟩
              | 18, _ =>
                refine StepAt.by rfl fun a' W hf hb hd => ?_
                exact .inr ⟨want_some (k := 11) (t := 27) rfl (hd 11 (by kernel_rfl)), rfl⟩
              | 19, _ =>
                refine StepAt.by rfl fun a' W hf hb hd => ?_
                exact .inr ⟨want_some (k := 11) (t := 27) rfl (hd 11 (by kernel_rfl)), rfl⟩
              | 20, _ =>
                refine StepAt.by rfl fun a' W hf hb hd => ?_
                exact .inr ⟨want_some (k := 11) (t := 27) rfl (hd 11 (by kernel_rfl)), rfl⟩
              | 21, _ =>
                refine StepAt.by rfl fun a' W hf hb hd => ?_
                exact .inr ⟨want_some (k := 11) (t := 27) rfl (hd 11 (by kernel_rfl)), rfl⟩
              | 22, _ =>
                refine StepAt.by rfl fun a' W hf hb hd => ?_
                exact .inr ⟨want_some (k := 11) (t := 27) rfl (hd 11 (by kernel_rfl)), rfl⟩
              | 23, _ =>
                refine StepAt.by rfl fun a' W hf hb hd => ?_
                exact .inl ⟨want_none, does_pick (b := true) (hd 11 (by kernel_rfl)) rfl ⟨Below.refl _ _, rfl⟩⟩
              | 24, _ =>
                refine StepAt.by rfl fun a' W hf hb hd => ?_
                exact .inl ⟨want_none, does_move (hd 23 (by kernel_rfl)) ⟨Below.refl _ _, rfl⟩⟩
              | 25, _ =>
                refine StepAt.by rfl fun a' W hf hb hd => ?_
                exact .inr ⟨want_some (k := 24) (t := 40) rfl (hd 24 (by kernel_rfl)), rfl⟩
              | 26, _ =>
                refine StepAt.by rfl fun a' W hf hb hd => ?_
                exact .inr ⟨want_some (k := 24) (t := 40) rfl (hd 24 (by kernel_rfl)), rfl⟩
              | 27, _ =>
                refine StepAt.by rfl fun a' W hf hb hd => ?_
                exact .inr ⟨want_some (k := 24) (t := 40) rfl (hd 24 (by kernel_rfl)), rfl⟩
              | 28, _ =>
                refine StepAt.by rfl fun a' W hf hb hd => ?_
                exact .inr ⟨want_some (k := 24) (t := 40) rfl (hd 24 (by kernel_rfl)), rfl⟩
              | 29, _ =>
                refine StepAt.by rfl fun a' W hf hb hd => ?_
                exact .inr ⟨want_some (k := 24) (t := 40) rfl (hd 24 (by kernel_rfl)), rfl⟩
              | 30, _ =>
                refine StepAt.by rfl fun a' W hf hb hd => ?_
                exact .inr ⟨want_some (k := 24) (t := 40) rfl (hd 24 (by kernel_rfl)), rfl⟩
              | 31, _ =>
                refine StepAt.by rfl fun a' W hf hb hd => ?_
                exact .inr ⟨want_some (k := 24) (t := 40) rfl (hd 24 (by kernel_rfl)), rfl⟩
              | 32, _ =>
                refine StepAt.by rfl fun a' W hf hb hd => ?_
                exact .inr ⟨want_some (k := 24) (t := 40) rfl (hd 24 (by kernel_rfl)), rfl⟩
              | 33, _ =>
                refine StepAt.by rfl fun a' W hf hb hd => ?_
                exact .inr ⟨want_some (k := 24) (t := 40) rfl (hd 24 (by kernel_rfl)), rfl⟩
              | 34, _ =>
                refine StepAt.by rfl fun a' W hf hb hd => ?_
                exact .inr ⟨want_some (k := 24) (t := 40) rfl (hd 24 (by kernel_rfl)), rfl⟩
              | 35, _ =>
                refine StepAt.by rfl fun a' W hf hb hd => ?_
                exact .inr ⟨want_some (k := 24) (t := 40) rfl (hd 24 (by kernel_rfl)), rfl⟩
              | 36, _ =>
                refine StepAt.by rfl fun a' W hf hb hd => ?_
                exact .inr ⟨want_some (k := 24) (t := 40) rfl (hd 24 (by kernel_rfl)), rfl⟩
              | 37, _ =>
                refine StepAt.by rfl fun a' W hf hb hd => ?_
                exact .inl ⟨want_none, does_pick (b := true) (hd 24 (by kernel_rfl)) rfl ⟨Below.refl _ _, rfl⟩⟩
              | k + 38, hi => exact absurd hi (Nat.not_lt.2 (Nat.le_add_left _ _))
            · intro a' W hf hb hv
              have h53 : a'.eval (.tmp 53) = .bool true := hv 37 (by decide)
              have hl := hf.lit (fun t => decide (16 ≤ t) && decide (t ≤ 53)) (by kernel_rfl)
              simp only [overL, Nat.reduceAdd, Nat.reduceLeDiff, decide_true, decide_false, Bool.and_true, Bool.and_false] at hl
              rw [hl]
              clear hl
              go_wp2_with (fail)
              go_meet
              case rel => exact ⟨h53, hb⟩
          case rest =>
            obtain ⟨rfl, hbc⟩ := hcut
            have H1 : Hid (Below w.heap.size w wc) := hb.trans (hbc.mono hsz)
            clear hbc
            have HAL : Hid (sameR x y = false) := sameR_no fun e => by rw [e] at HX; exact HV1.out (HX.out.1.2.1.trans HY.out.1.2.1.symm)
            go_wp2
            go_ret
            exact ⟨ret_bool (allB_no HX.out.2 HY.out.2 HAL.out).symm, H1.out⟩
        have r1 : (v.ver != u.ver) = false := by simp [h1]
        have HV1 : Hid (v.ver = u.ver) := h1
        clear h1
        by_cases h2 : v.id = u.id
        case' neg =>
          have r2 : (v.id != u.id) = true := by simp [h2]
          have HV2 : Hid (¬ v.id = u.id) := h2
          clear h2
          go_wp2_with (fail)
          go_cut [53] from 16 to 53 (fun t W => t = .bool true ∧ Below wr.heap.size wr W)
          case first =>
            have hbd : ∀ W, Below wr.drew.heap.size wr.drew W → Below wr.heap.size wr W := fun W hb => (Below.refl _ _).drew.trans hb
            have HRV : ∀ W, Below wr.drew.heap.size wr.drew W → RecAt W b (o + k * 9) v := fun W hb => HR.out.1.below (hbd W hb) HR.out.2.2.1
            have HRU : ∀ W, Below wr.drew.heap.size wr.drew W → RecAt W b2 (o2 + k * 9) u := fun W hb => HR.out.2.1.below (hbd W hb) HR.out.2.2.2
            have HCA : ∀ W, Below wr.drew.heap.size wr.drew W → ContA W v.a x.act ∧ ContA W u.a y.act := fun W hb => ⟨HX.out.1.1.below (Nat.le_refl _) (hbd W hb), HY.out.1.1.below (Nat.le_refl _) (hbd W hb)⟩
            refine wp_region_vals (VS2 b o b2 o2 n ca cb k v u) (by kernel_rfl) (by kernel_rfl) (VS2_stays b o b2 o2 n ca cb k v u) ?_ ?_
            · intro i hi
              match i, hi with
              | 0, _ =>
                refine StepAt.by rfl fun a' W hf hb hd => ?_
                exact .inl ⟨want_none, does_move ((hf.keeps 0 (by kernel_rfl)).trans rfl) ⟨Below.refl _ _, rfl⟩⟩
              | 1, _ =>
                refine StepAt.by rfl fun a' W hf hb hd => ?_
                exact .inl ⟨want_none, does_move ((hf.keeps 5 (by kernel_rfl)).trans rfl) ⟨Below.refl _ _, rfl⟩⟩
              | 2, _ =>
                refine StepAt.by rfl fun a' W hf hb hd => ?_
                exact .inl ⟨want_none, does_run (run_indexR (hd 0 (by kernel_rfl)) (hd 1 (by kernel_rfl)) (by omega)) ⟨Below.refl _ _, rfl⟩⟩
              | 3, _ =>
                refine StepAt.by rfl fun a' W hf hb hd => ?_
                exact .inl ⟨want_none, does_run (run_fieldR1 (hd 2 (by kernel_rfl))) ⟨Below.refl _ _, rfl⟩⟩
              | 4, _ =>
                refine StepAt.by rfl fun a' W hf hb hd => ?_
                exact .inl ⟨want_none, does_run (run_load3 (hd 3 (by kernel_rfl)) ((HRV W hb) 7 _ rfl)) ⟨Below.refl _ _, rfl⟩⟩
              | 5, _ =>
                refine StepAt.by rfl fun a' W hf hb hd => ?_
                exact .inl ⟨want_none, does_move ((hf.keeps 1 (by kernel_rfl)).trans rfl) ⟨Below.refl _ _, rfl⟩⟩
              | 6, _ =>
                refine StepAt.by rfl fun a' W hf hb hd => ?_
                exact .inl ⟨want_none, does_move ((hf.keeps 5 (by kernel_rfl)).trans rfl) ⟨Below.refl _ _, rfl⟩⟩
              | 7, _ =>
                refine StepAt.by rfl fun a' W hf hb hd => ?_
                exact .inl ⟨want_none, does_run (run_indexR (hd 5 (by kernel_rfl)) (hd 6 (by kernel_rfl)) (by omega)) ⟨Below.refl _ _, rfl⟩⟩
              | 8, _ =>
                refine StepAt.by rfl fun a' W hf hb hd => ?_
                exact .inl ⟨want_none, does_run (run_fieldR1 (hd 7 (by kernel_rfl))) ⟨Below.refl _ _, rfl⟩⟩
              | 9, _ =>
                refine StepAt.by rfl fun a' W hf hb hd => ?_
                exact .inl ⟨want_none, does_run (run_load3 (hd 8 (by kernel_rfl)) ((HRU W hb) 7 _ rfl)) ⟨Below.refl _ _, rfl⟩⟩
              | 10, _ =>
                refine StepAt.by rfl fun a' W hf hb hd => ?_
                exact .inl ⟨want_none, does_run (run_neqI (hd 4 (by kernel_rfl)) (hd 9 (by kernel_rfl))) ⟨Below.refl _ _, by show Value.bool _ = _; rw [r1]⟩⟩
              | 11, _ =>
                refine StepAt.by rfl fun a' W hf hb hd => ?_
                exact .inl ⟨want_none, does_move (hd 10 (by kernel_rfl)) ⟨Below.refl _ _, rfl⟩⟩
              | 12, _ =>
                refine StepAt.by rfl fun a' W hf hb hd => ?_
                exact .inl ⟨want_some (k := 11) (t := 27) rfl (hd 11 (by kernel_rfl)), does_move ((hf.keeps 0 (by kernel_rfl)).trans rfl) ⟨Below.refl _ _, rfl⟩⟩
              | 13, _ =>
                refine StepAt.by rfl fun a' W hf hb hd => ?_
                exact .inl ⟨want_some (k := 11) (t := 27) rfl (hd 11 (by kernel_rfl)), does_move ((hf.keeps 5 (by kernel_rfl)).trans rfl) ⟨Below.refl _ _, rfl⟩⟩
              | 14, _ =>
                refine StepAt.by rfl fun a' W hf hb hd => ?_
                exact .inl ⟨want_some (k := 11) (t := 27) rfl (hd 11 (by kernel_rfl)), does_run (run_indexR (hd 12 (by kernel_rfl)) (hd 13 (by kernel_rfl)) (by omega)) ⟨Below.refl _ _, rfl⟩⟩
              | 15, _ =>
                refine StepAt.by rfl fun a' W hf hb hd => ?_
                exact .inl ⟨want_some (k := 11) (t := 27) rfl (hd 11 (by kernel_rfl)), does_run (run_fieldR2 (hd 14 (by kernel_rfl))) ⟨Below.refl _ _, rfl⟩⟩
              | 16, _ =>
                refine StepAt.by rfl fun a' W hf hb hd => ?_
                exact .inl ⟨want_some (k := 11) (t := 27) rfl (hd 11 (by kernel_rfl)), does_run (run_load3 (hd 15 (by kernel_rfl)) ((HRV W hb) 8 _ rfl)) ⟨Below.refl _ _, rfl⟩⟩
              | 17, _ =>
                refine StepAt.by rfl fun a' W hf hb hd => ?_
                exact .inl ⟨want_some (k := 11) (t := 27) rfl (hd 11 (by kernel_rfl)), does_move ((hf.keeps 1 (by kernel_rfl)).trans rfl) ⟨Below.refl _ _, rfl⟩⟩
              | 18, _ =>
                refine StepAt.by rfl fun a' W hf hb hd => ?_
                exact .inl ⟨want_some (k := 11) (t := 27) rfl (hd 11 (by kernel_rfl)), does_move ((hf.keeps 5 (by kernel_rfl)).trans rfl) ⟨Below.refl _ _, rfl⟩⟩
              | 19, _ =>
                refine StepAt.by rfl fun a' W hf hb hd => ?_
                exact .inl ⟨want_some (k := 11) (t := 27) rfl (hd 11 (by kernel_rfl)), does_run (run_indexR (hd 17 (by kernel_rfl)) (hd 18 (by kernel_rfl)) (by omega)) ⟨Below.refl _ _, rfl⟩⟩
              | 20, _ =>
                refine StepAt.by rfl fun a' W hf hb hd => ?_
                exact .inl ⟨want_some (k := 11) (t := 27) rfl (hd 11 (by kernel_rfl)), does_run (run_fieldR2 (hd 19 (by kernel_rfl))) ⟨Below.refl _ _, rfl⟩⟩
              | 21, _ =>
                refine StepAt.by rfl fun a' W hf hb hd => ?_
                exact .inl ⟨want_some (k := 11) (t := 27) rfl (hd 11 (by kernel_rfl)), does_run (run_load3 (hd 20 (by kernel_rfl)) ((HRU W hb) 8 _ rfl)) ⟨Below.refl _ _, rfl⟩⟩
              | 22, _ =>
                refine StepAt.by rfl fun a' W hf hb hd => ?_
                exact .inl ⟨want_some (k := 11) (t := 27) rfl (hd 11 (by kernel_rfl)), does_run (run_neqI (hd 16 (by kernel_rfl)) (hd 21 (by kernel_rfl))) ⟨Below.refl _ _, by show Value.bool _ = _; rw [r2]⟩⟩
              | 23, _ =>
                refine StepAt.by rfl fun a' W hf hb hd => ?_
                exact .inl ⟨want_none, does_pick (b := false) (hd 11 (by kernel_rfl)) (hd 22 (by kernel_rfl)) ⟨Below.refl _ _, rfl⟩⟩
              | 24, _ =>
                refine StepAt.by rfl fun a' W hf hb hd => ?_
                exact .inl ⟨want_none, does_move (hd 23 (by kernel_rfl)) ⟨Below.refl _ _, rfl⟩⟩
              | 25, _ =>
                refine StepAt.by rfl fun a' W hf hb hd => ?_
                exact .inr ⟨want_some (k := 24) (t := 40) rfl (hd 24 (by kernel_rfl)), rfl⟩
              | 26, _ =>
                refine StepAt.by rfl fun a' W hf hb hd => ?_
                exact .inr ⟨want_some (k := 24) (t := 40) rfl (hd 24 (by kernel_rfl)), rfl⟩
              | 27, _ =>
                refine StepAt.by rfl fun a' W hf hb hd => ?_
                exact .inr ⟨want_some (k := 24) (t := 40) rfl (hd 24 (by kernel_rfl)), rfl⟩
              | 28, _ =>
                refine StepAt.by rfl fun a' W hf hb hd => ?_
                exact .inr ⟨want_some (k := 24) (t := 40) rfl (hd 24 (by kernel_rfl)), rfl⟩
              | 29, _ =>
                refine StepAt.by rfl fun a' W hf hb hd => ?_
                exact .inr ⟨want_some (k := 24) (t := 40) rfl (hd 24 (by kernel_rfl)), rfl⟩
              | 30, _ =>
                refine StepAt.by rfl fun a' W hf hb hd => ?_
                exact .inr ⟨want_some (k := 24) (t := 40) rfl (hd 24 (by kernel_rfl)), rfl⟩
              | 31, _ =>
                refine StepAt.by rfl fun a' W hf hb hd => ?_
                exact .inr ⟨want_some (k := 24) (t := 40) rfl (hd 24 (by kernel_rfl)), rfl⟩
              | 32, _ =>
                refine StepAt.by rfl fun a' W hf hb hd => ?_
                exact .inr ⟨want_some (k := 24) (t := 40) rfl (hd 24 (by kernel_rfl)), rfl⟩
              | 33, _ =>
                refine StepAt.by rfl fun a' W hf hb hd => ?_
                exact .inr ⟨want_some (k := 24) (t := 40) rfl (hd 24 (by kernel_rfl)), rfl⟩
              | 34, _ =>
                refine StepAt.by rfl fun a' W hf hb hd => ?_
                exact .inr ⟨want_some (k := 24) (t := 40) rfl (hd 24 (by kernel_rfl)), rfl⟩
              | 35, _ =>
                refine StepAt.by rfl fun a' W hf hb hd => ?_
                exact .inr ⟨want_some (k := 24) (t := 40) rfl (hd 24 (by kernel_rfl)), rfl⟩
              | 36, _ =>
                refine StepAt.by rfl fun a' W hf hb hd => ?_
                exact .inr ⟨want_some (k := 24) (t := 40) rfl (hd 24 (by kernel_rfl)), rfl⟩
              | 37, _ =>
                refine StepAt.by rfl fun a' W hf hb hd => ?_
                exact .inl ⟨want_none, does_pick (b := true) (hd 24 (by kernel_rfl)) rfl ⟨Below.refl _ _, rfl⟩⟩
              | k + 38, hi => exact absurd hi (Nat.not_lt.2 (Nat.le_add_left _ _))
            · intro a' W hf hb hv
              have h53 : a'.eval (.tmp 53) = .bool true := hv 37 (by decide)
              have hl := hf.lit (fun t => decide (16 ≤ t) && decide (t ≤ 53)) (by kernel_rfl)
              simp only [overL, Nat.reduceAdd, Nat.reduceLeDiff, decide_true, decide_false, Bool.and_true, Bool.and_false] at hl
              rw [hl]
              clear hl
              go_wp2_with (fail)
              go_meet
              case rel => exact ⟨h53, hb⟩
          case rest =>
            obtain ⟨rfl, hbc⟩ := hcut
            have H1 : Hid (Below w.heap.size w wc) := hb.trans (hbc.mono hsz)
            clear hbc
            have HAL : Hid (sameR x y = false) := sameR_no fun e => by rw [e] at HX; exact HV2.out (HX.out.1.2.2.trans HY.out.1.2.2.symm)
            go_wp2
            go_ret
            exact ⟨ret_bool (allB_no HX.out.2 HY.out.2 HAL.out).symm, H1.out⟩
        have r2 : (v.id != u.id) = false := by simp [h2]
        have HV2 : Hid (v.id = u.id) := h2
        clear h2
        go_wp2_with (fail)
        go_cut [53] from 16 to 53 (fun t W => t = .bool (!(sameA x.act y.act)) ∧ Below wr.heap.size wr W)
        case first =>
          have hbd : ∀ W, Below wr.drew.heap.size wr.drew W → Below wr.heap.size wr W := fun W hb => (Below.refl _ _).drew.trans hb
          have HRV : ∀ W, Below wr.drew.heap.size wr.drew W → RecAt W b (o + k * 9) v := fun W hb => HR.out.1.below (hbd W hb) HR.out.2.2.1
          have HRU : ∀ W, Below wr.drew.heap.size wr.drew W → RecAt W b2 (o2 + k * 9) u := fun W hb => HR.out.2.1.below (hbd W hb) HR.out.2.2.2
          have HCA : ∀ W, Below wr.drew.heap.size wr.drew W → ContA W v.a x.act ∧ ContA W u.a y.act := fun W hb => ⟨HX.out.1.1.below (Nat.le_refl _) (hbd W hb), HY.out.1.1.below (Nat.le_refl _) (hbd W hb)⟩
          refine wp_region_vals (VS3 b o b2 o2 n ca cb k v u x y) (by kernel_rfl) (by kernel_rfl) (VS3_stays b o b2 o2 n ca cb k v u x y) ?_ ?_
          · intro i hi
            match i, hi with
            | 0, _ =>
              refine StepAt.by rfl fun a' W hf hb hd => ?_
              exact .inl ⟨want_none, does_move ((hf.keeps 0 (by kernel_rfl)).trans rfl) ⟨Below.refl _ _, rfl⟩⟩
            | 1, _ =>
              refine StepAt.by rfl fun a' W hf hb hd => ?_
              exact .inl ⟨want_none, does_move ((hf.keeps 5 (by kernel_rfl)).trans rfl) ⟨Below.refl _ _, rfl⟩⟩
            | 2, _ =>
              refine StepAt.by rfl fun a' W hf hb hd => ?_
              exact .inl ⟨want_none, does_run (run_indexR (hd 0 (by kernel_rfl)) (hd 1 (by kernel_rfl)) (by omega)) ⟨Below.refl _ _, rfl⟩⟩
            | 3, _ =>
              refine StepAt.by rfl fun a' W hf hb hd => ?_
              exact .inl ⟨want_none, does_run (run_fieldR1 (hd 2 (by kernel_rfl))) ⟨Below.refl _ _, rfl⟩⟩
            | 4, _ =>
              refine StepAt.by rfl fun a' W hf hb hd => ?_
              exact .inl ⟨want_none, does_run (run_load3 (hd 3 (by kernel_rfl)) ((HRV W hb) 7 _ rfl)) ⟨Below.refl _ _, rfl⟩⟩
            | 5, _ =>
              refine StepAt.by rfl fun a' W hf hb hd => ?_
              exact .inl ⟨want_none, does_move ((hf.keeps 1 (by kernel_rfl)).trans rfl) ⟨Below.refl _ _, rfl⟩⟩
            | 6, _ =>
              refine StepAt.by rfl fun a' W hf hb hd => ?_
              exact .inl ⟨want_none, does_move ((hf.keeps 5 (by kernel_rfl)).trans rfl) ⟨Below.refl _ _, rfl⟩⟩
            | 7, _ =>
              refine StepAt.by rfl fun a' W hf hb hd => ?_
              exact .inl ⟨want_none, does_run (run_indexR (hd 5 (by kernel_rfl)) (hd 6 (by kernel_rfl)) (by omega)) ⟨Below.refl _ _, rfl⟩⟩
            | 8, _ =>
              refine StepAt.by rfl fun a' W hf hb hd => ?_
              exact .inl ⟨want_none, does_run (run_fieldR1 (hd 7 (by kernel_rfl))) ⟨Below.refl _ _, rfl⟩⟩
            | 9, _ =>
              refine StepAt.by rfl fun a' W hf hb hd => ?_
              exact .inl ⟨want_none, does_run (run_load3 (hd 8 (by kernel_rfl)) ((HRU W hb) 7 _ rfl)) ⟨Below.refl _ _, rfl⟩⟩
            | 10, _ =>
              refine StepAt.by rfl fun a' W hf hb hd => ?_
              exact .inl ⟨want_none, does_run (run_neqI (hd 4 (by kernel_rfl)) (hd 9 (by kernel_rfl))) ⟨Below.refl _ _, by show Value.bool _ = _; rw [r1]⟩⟩
            | 11, _ =>
              refine StepAt.by rfl fun a' W hf hb hd => ?_
              exact .inl ⟨want_none, does_move (hd 10 (by kernel_rfl)) ⟨Below.refl _ _, rfl⟩⟩
            | 12, _ =>
              refine StepAt.by rfl fun a' W hf hb hd => ?_
              exact .inl ⟨want_some (k := 11) (t := 27) rfl (hd 11 (by kernel_rfl)), does_move ((hf.keeps 0 (by kernel_rfl)).trans rfl) ⟨Below.refl _ _, rfl⟩⟩
            | 13, _ =>
              refine StepAt.by rfl fun a' W hf hb hd => ?_
              exact .inl ⟨want_some (k := 11) (t := 27) rfl (hd 11 (by kernel_rfl)), does_move ((hf.keeps 5 (by kernel_rfl)).trans rfl) ⟨Below.refl _ _, rfl⟩⟩
            | 14, _ =>
              refine StepAt.by rfl fun a' W hf hb hd => ?_
              exact .inl ⟨want_some (k := 11) (t := 27) rfl (hd 11 (by kernel_rfl)), does_run (run_indexR (hd 12 (by kernel_rfl)) (hd 13 (by kernel_rfl)) (by omega)) ⟨Below.refl _ _, rfl⟩⟩
            | 15, _ =>
              refine StepAt.by rfl fun a' W hf hb hd => ?_
              exact .inl ⟨want_some (k := 11) (t := 27) rfl (hd 11 (by kernel_rfl)), does_run (run_fieldR2 (hd 14 (by kernel_rfl))) ⟨Below.refl _ _, rfl⟩⟩
            | 16, _ =>
              refine StepAt.by rfl fun a' W hf hb hd => ?_
              exact .inl ⟨want_some (k := 11) (t := 27) rfl (hd 11 (by kernel_rfl)), does_run (run_load3 (hd 15 (by kernel_rfl)) ((HRV W hb) 8 _ rfl)) ⟨Below.refl _ _, rfl⟩⟩
            | 17, _ =>
              refine StepAt.by rfl fun a' W hf hb hd => ?_
              exact .inl ⟨want_some (k := 11) (t := 27) rfl (hd 11 (by kernel_rfl)), does_move ((hf.keeps 1 (by kernel_rfl)).trans rfl) ⟨Below.refl _ _, rfl⟩⟩
            | 18, _ =>
              refine StepAt.by rfl fun a' W hf hb hd => ?_
              exact .inl ⟨want_some (k := 11) (t := 27) rfl (hd 11 (by kernel_rfl)), does_move ((hf.keeps 5 (by kernel_rfl)).trans rfl) ⟨Below.refl _ _, rfl⟩⟩
            | 19, _ =>
              refine StepAt.by rfl fun a' W hf hb hd => ?_
              exact .inl ⟨want_some (k := 11) (t := 27) rfl (hd 11 (by kernel_rfl)), does_run (run_indexR (hd 17 (by kernel_rfl)) (hd 18 (by kernel_rfl)) (by omega)) ⟨Below.refl _ _, rfl⟩⟩
            | 20, _ =>
              refine StepAt.by rfl fun a' W hf hb hd => ?_
              exact .inl ⟨want_some (k := 11) (t := 27) rfl (hd 11 (by kernel_rfl)), does_run (run_fieldR2 (hd 19 (by kernel_rfl))) ⟨Below.refl _ _, rfl⟩⟩
            | 21, _ =>
              refine StepAt.by rfl fun a' W hf hb hd => ?_
              exact .inl ⟨want_some (k := 11) (t := 27) rfl (hd 11 (by kernel_rfl)), does_run (run_load3 (hd 20 (by kernel_rfl)) ((HRU W hb) 8 _ rfl)) ⟨Below.refl _ _, rfl⟩⟩
            | 22, _ =>
              refine StepAt.by rfl fun a' W hf hb hd => ?_
              exact .inl ⟨want_some (k := 11) (t := 27) rfl (hd 11 (by kernel_rfl)), does_run (run_neqI (hd 16 (by kernel_rfl)) (hd 21 (by kernel_rfl))) ⟨Below.refl _ _, by show Value.bool _ = _; rw [r2]⟩⟩
            | 23, _ =>
              refine StepAt.by rfl fun a' W hf hb hd => ?_
              exact .inl ⟨want_none, does_pick (b := false) (hd 11 (by kernel_rfl)) (hd 22 (by kernel_rfl)) ⟨Below.refl _ _, rfl⟩⟩
            | 24, _ =>
              refine StepAt.by rfl fun a' W hf hb hd => ?_
              exact .inl ⟨want_none, does_move (hd 23 (by kernel_rfl)) ⟨Below.refl _ _, rfl⟩⟩
            | 25, _ =>
              refine StepAt.by rfl fun a' W hf hb hd => ?_
              exact .inl ⟨want_some (k := 24) (t := 40) rfl (hd 24 (by kernel_rfl)), does_move ((hf.keeps 0 (by kernel_rfl)).trans rfl) ⟨Below.refl _ _, rfl⟩⟩
            | 26, _ =>
              refine StepAt.by rfl fun a' W hf hb hd => ?_
              exact .inl ⟨want_some (k := 24) (t := 40) rfl (hd 24 (by kernel_rfl)), does_move ((hf.keeps 5 (by kernel_rfl)).trans rfl) ⟨Below.refl _ _, rfl⟩⟩
            | 27, _ =>
              refine StepAt.by rfl fun a' W hf hb hd => ?_
              exact .inl ⟨want_some (k := 24) (t := 40) rfl (hd 24 (by kernel_rfl)), does_run (run_indexR (hd 25 (by kernel_rfl)) (hd 26 (by kernel_rfl)) (by omega)) ⟨Below.refl _ _, rfl⟩⟩
            | 28, _ =>
              refine StepAt.by rfl fun a' W hf hb hd => ?_
              exact .inl ⟨want_some (k := 24) (t := 40) rfl (hd 24 (by kernel_rfl)), does_run (run_fieldR0 (hd 27 (by kernel_rfl))) ⟨Below.refl _ _, rfl⟩⟩
            | 29, _ =>
              refine StepAt.by rfl fun a' W hf hb hd => ?_
              exact .inl ⟨want_some (k := 24) (t := 40) rfl (hd 24 (by kernel_rfl)), does_run (run_loadA (hd 28 (by kernel_rfl)) (RecAt.act (HRV W hb))) ⟨Below.refl _ _, rfl⟩⟩
            | 30, _ =>
              refine StepAt.by rfl fun a' W hf hb hd => ?_
              exact .inl ⟨want_some (k := 24) (t := 40) rfl (hd 24 (by kernel_rfl)), does_move ((hf.keeps 1 (by kernel_rfl)).trans rfl) ⟨Below.refl _ _, rfl⟩⟩
            | 31, _ =>
              refine StepAt.by rfl fun a' W hf hb hd => ?_
              exact .inl ⟨want_some (k := 24) (t := 40) rfl (hd 24 (by kernel_rfl)), does_move ((hf.keeps 5 (by kernel_rfl)).trans rfl) ⟨Below.refl _ _, rfl⟩⟩
            | 32, _ =>
              refine StepAt.by rfl fun a' W hf hb hd => ?_
              exact .inl ⟨want_some (k := 24) (t := 40) rfl (hd 24 (by kernel_rfl)), does_run (run_indexR (hd 30 (by kernel_rfl)) (hd 31 (by kernel_rfl)) (by omega)) ⟨Below.refl _ _, rfl⟩⟩
            | 33, _ =>
              refine StepAt.by rfl fun a' W hf hb hd => ?_
              exact .inl ⟨want_some (k := 24) (t := 40) rfl (hd 24 (by kernel_rfl)), does_run (run_fieldR0 (hd 32 (by kernel_rfl))) ⟨Below.refl _ _, rfl⟩⟩
            | 34, _ =>
              refine StepAt.by rfl fun a' W hf hb hd => ?_
              exact .inl ⟨want_some (k := 24) (t := 40) rfl (hd 24 (by kernel_rfl)), does_run (run_loadA (hd 33 (by kernel_rfl)) (RecAt.act (HRU W hb))) ⟨Below.refl _ _, rfl⟩⟩
            | 35, _ =>
              refine StepAt.by rfl fun a' W hf hb hd => ?_
              refine .inl ⟨want_some (k := 24) (t := 40) rfl (hd 24 (by kernel_rfl)), ?_⟩
              exact does_call2 (enters_of Try.func25 (by kernel_rfl) (by kernel_rfl)) (hd 29 (by kernel_rfl)) (hd 34 (by kernel_rfl)) ((sameActs_any v.a u.a x.act y.act W (HCA W hb).1 (HCA W hb).2).mono fun e W' ⟨he, hb'⟩ => ⟨_, he, hb', rfl⟩)
            | 36, _ =>
              refine StepAt.by rfl fun a' W hf hb hd => ?_
              exact .inl ⟨want_some (k := 24) (t := 40) rfl (hd 24 (by kernel_rfl)), does_not (hd 35 (by kernel_rfl)) ⟨Below.refl _ _, rfl⟩⟩
            | 37, _ =>
              refine StepAt.by rfl fun a' W hf hb hd => ?_
              exact .inl ⟨want_none, does_pick (b := false) (hd 24 (by kernel_rfl)) (hd 36 (by kernel_rfl)) ⟨Below.refl _ _, rfl⟩⟩
            | k + 38, hi => exact absurd hi (Nat.not_lt.2 (Nat.le_add_left _ _))
          · intro a' W hf hb hv
            have h53 : a'.eval (.tmp 53) = .bool (!(sameA x.act y.act)) := hv 37 (by decide)
            have hl := hf.lit (fun t => decide (16 ≤ t) && decide (t ≤ 53)) (by kernel_rfl)
            simp only [overL, Nat.reduceAdd, Nat.reduceLeDiff, decide_true, decide_false, Bool.and_true, Bool.and_false] at hl
            rw [hl]
            clear hl
            go_wp2_with (fail)
            go_meet
            case rel => exact ⟨h53, hb⟩
        case rest =>
          obtain ⟨rfl, hbc⟩ := hcut
          have H1 : Hid (Below w.heap.size w wc) := hb.trans (hbc.mono hsz)
          clear hbc
          cases hsa : sameA x.act y.act
          · have HAL : Hid (sameR x y = false) := by show _ = _; unfold sameR; rw [hsa]; simp
            clear hsa
            go_wp2
            go_ret
            exact ⟨ret_bool (allB_no HX.out.2 HY.out.2 HAL.out).symm, H1.out⟩
          · have HAL : Hid (sameR x y = true) := by
              have e1 := HV1.out
              have e2 := HV2.out
              rw [HX.out.1.2.1, HY.out.1.2.1] at e1
              rw [HX.out.1.2.2, HY.out.1.2.2] at e2
              show _ = _
              unfold sameR
              rw [hsa, e1, e2]
              simp
            clear hsa
            go_wp2
            go_roundw
            case rel => exact ⟨k + 1, by omega, by go_num, by show _ = true; rw [take_step HX.out.2, take_step HY.out.2, allB_snoc HL.out, HE.out, HAL.out]; rfl, H1.out⟩
            case measure => simp [intOf]; omega
      · have HN : Hid (xs.length ≤ k ∧ ys.length ≤ k) := by show _ ∧ _; rw [← HT.out.1.len, ← HT.out.2.len]; omega
        go_wp2
        go_ret
        exact ⟨ret_bool (by
          have e := HE.out
          rw [List.take_of_length_le HN.out.1, List.take_of_length_le HN.out.2] at e
          exact e.symm), hb⟩
  · have HN : Hid (xs.length ≠ ys.length) := by show _ ≠ _; rw [← hx.len, ← hy.len]; exact hnm
    have q0 : ((n : Int) == (m : Int)) = false := by rw [beq_eq_false_iff_ne]; omega
    have q1 : ((n : Int) != (m : Int)) = true := by rw [bne, q0]; rfl
    clear hx hy
    go_enter Try.func20, Try.ntmps20
    go_wp2
    go_ret
    exact ⟨ret_bool (allB_len HN.out).symm, Below.refl _ _⟩
end Go.Proofs.Ytlegjdlmcphhlab
/-
  WHAT SINGLE OPERATIONS DO, further: parts of a log, a log of one record.
-/
namespace Go.Proofs.Ytlegjdlmcphhlab
open Go.RowKit
section
variable {w : World} {d : Option Tmp} {ty : TypeId} {pos : String} {af : Array Edge} {g : Option (Nat × Bool)} {x y z : Operand}
theorem run_sliceLoR {ρ : Operand → Value} {b o n c lo : Nat} (hx : ρ x = .slice (some ⟨b, o, none⟩) n c) (hy : ρ y = .int .i64 (lo : Int)) (h1 : lo < n) (h2 : n ≤ c) : (execOp ρ ⟨d, .slice 46 x (some y) none none, ty, pos, af, g⟩).run Try.prog w = .ok (.value (.slice (some ⟨b, o + lo * 9, none⟩) (n - lo) (c - lo))) w := by
  have k1 : (lo : Int) ≤ (n : Int) := by omega
  have k2 : (n : Int) ≤ (c : Int) := by omega
  have k3 : ¬ c = lo := by omega
  simp [execOp, hx, hy, go_sem, k1, k3]
theorem run_sliceLoHiR {ρ : Operand → Value} {b o n c lo hi : Nat} (hx : ρ x = .slice (some ⟨b, o, none⟩) n c) (hy : ρ y = .int .i64 (lo : Int)) (hz : ρ z = .int .i64 (hi : Int)) (h1 : lo < hi) (h4 : hi ≤ n) (h2 : n ≤ c) : (execOp ρ ⟨d, .slice 46 x (some y) (some z) none, ty, pos, af, g⟩).run Try.prog w = .ok (.value (.slice (some ⟨b, o + lo * 9, none⟩) (hi - lo) (c - lo))) w := by
  have k1 : (lo : Int) ≤ (hi : Int) := by omega
  have k2 : (hi : Int) ≤ (c : Int) := by omega
  have k3 : ¬ c = lo := by omega
  simp [execOp, hx, hy, hz, go_sem, k1, k2, k3]
end
/-- a log of these records -/
def IsR (ys : List M.Rec) : Value → World → Prop := fun v W => ∃ (B : Option Addr) (m d : Nat) (us : List RV), v = .slice B m d ∧ TreeR W B m us ys
theorem isR_below {ys : List M.Rec} {v : Value} {W W' : World} (hb : Below W.heap.size W W') (h : IsR ys v W) : IsR ys v W' := by
  obtain ⟨B, m, d, us, e, ht⟩ := h
  exact ⟨B, m, d, us, e, ht.below (Nat.le_refl _) hb⟩
/-- a log of one record, new -/
theorem does_buildR {a : Act} {w : World} {d : Option Tmp} {ty : TypeId} {pos : String} {af : Array Edge} {g : Option (Nat × Bool)} {x : Operand} {r : RV} {y : M.Rec} (hx : a.eval x = r.val) (hr : ContR w r y) :
    Does Try.prog ⟨d, .buildSlice 46 1 #[(0, x)], ty, pos, af, g⟩ a w (fun v w' => Below w.heap.size w w' ∧ IsR [y] v w') := by
  have hb : Below w.heap.size w (w.alloc r.obj) := (Below.refl _ _).alloc (Nat.le_refl _) _
  exact does_run (run_buildR hx) ⟨hb, some ⟨w.heap.size, 0, none⟩, 1, 1, [r], rfl, rowR_box (BoxR.new w r), All2.one (hr.below (Nat.le_refl _) hb)⟩
theorem recs_one {w : World} {b o n : Nat} {vs : List RV} (h : Recs w (some ⟨b, o, none⟩) n vs) {j : Nat} {v : RV} (hv : vs[j]? = some v) : Recs w (some ⟨b, o + j * 9, none⟩) 1 [v] := by
  have hj : j < n := by rw [h.1]; exact (List.getElem?_eq_some_iff.1 hv).1
  obtain ⟨b', o', v', e, hlt, _⟩ := h.at hj
  cases e
  refine ⟨rfl, .inr ⟨b, o + j * 9, rfl, hlt, fun i u hu q c hc => ?_⟩⟩
  cases i with
  | succ i => cases hu
  | zero =>
    cases hu
    have := (Recs.recAt h hv) q c hc
    simpa using this
theorem treeR_one {w : World} {b o n : Nat} {vs : List RV} {xs : List M.Rec} (h : TreeR w (some ⟨b, o, none⟩) n vs xs) {j : Nat} {v : RV} {x : M.Rec} (hv : vs[j]? = some v) (hx : xs[j]? = some x) : TreeR w (some ⟨b, o + j * 9, none⟩) 1 [v] [x] :=
  ⟨recs_one h.1 hv, All2.one (h.2.2 j v x hv hx)⟩
end Go.Proofs.Ytlegjdlmcphhlab
