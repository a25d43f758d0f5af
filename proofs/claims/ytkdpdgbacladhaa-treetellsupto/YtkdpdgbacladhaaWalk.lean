/-
  New, step, Walk.
-/
import Derived.Test.YtkdpdgbacladhaaSame
namespace Go.Proofs.Ytkdpdgbacladhaa
open Go.RowKit

namespace M
def stepS (xs : List Nd) (a : Int) (s : ByteArray) : Int × Int :=
  match find xs a with
  | none => (0, 12)
  | some x => if x.dir then (match look x.ents s with
    | none => (0, 6)
    | some e => (e.2, 0)) else (0, 8)
def walkS (xs : List Nd) : Int → List ByteArray → Int × Int
  | a, [] => (a, 0)
  | a, s :: l => if (stepS xs a s).2 = 0 then walkS xs (stepS xs a s).1 l else (0, (stepS xs a s).2)
theorem step_none {xs : List Nd} {a : Int} {s : ByteArray} (h : find xs a = none) : stepS xs a s = (0, 12) := by unfold stepS; rw [h]
theorem step_file {xs : List Nd} {a : Int} {s : ByteArray} {x : Nd} (h : find xs a = some x) (hd : x.dir = false) : stepS xs a s = (0, 8) := by unfold stepS; rw [h]; simp [hd]
theorem step_no {xs : List Nd} {a : Int} {s : ByteArray} {x : Nd} (h : find xs a = some x) (hd : x.dir = true) (hl : look x.ents s = none) : stepS xs a s = (0, 6) := by unfold stepS; rw [h]; simp [hd, hl]
theorem step_yes {xs : List Nd} {a : Int} {s : ByteArray} {x : Nd} {e : ByteArray × Int} (h : find xs a = some x) (hd : x.dir = true) (hl : look x.ents s = some e) : stepS xs a s = (e.2, 0) := by unfold stepS; rw [h]; simp [hd, hl]
end M


set_option maxHeartbeats 400000 in
theorem step_any (A : Option Addr) (n c : Nat) (vs : List NV) (xs : List M.Nd) (a : Int) (s : ByteArray) (w : World) (ht : Tree w A n vs xs) (hr : M.Rise xs) (hn : n * 72 ≤ 140737488355328) (hs : ∀ x ∈ xs, Small x) :
    Calls Try.prog 47 #[.slice A n c, .int .i64 a, .string s] w fun e w' => e = .returned (.tuple #[.int .i64 (M.stepS xs a s).1, .int .i64 (M.stepS xs a s).2]) ∧ Below w.heap.size w w' := by
  have HR : Hid (M.Rise xs ∧ ∀ x ∈ xs, Small x) := ⟨hr, hs⟩
  clear hr hs
  go_enter Try.func47, Try.ntmps47
  go_wp2_with (fail)
  refine (place_any A n c vs a _ ht.1 (by omega)).mono ?_
  rintro e w1 ⟨i, b, rfl, hin, hb, hm, hb1⟩
  rw [fids ht] at hb hm
  have ht1 := ht.below (Nat.le_refl _) hb1
  have hsz := hb1.size
  have HM : Hid (M.Mid M.ltI (xs.map (·.fid)) a i i) := hm
  clear hm
  cases b
  · have HF : Hid (M.find xs a = none) := find_miss HR.out.1.1 HM.out (of_decide_eq_false hb.symm)
    clear hb
    go_wp2
    go_ret2
    exact ⟨ret_two (M.step_none HF.out).symm, hb1⟩
  · have hk := of_decide_eq_true hb.symm
    clear hb
    have hil : i < n := by
      rw [ht.1.1, ht.2.1]
      rcases Nat.lt_or_ge i (xs.map (·.fid)).length with h1 | h1
      · simpa using h1
      · rw [List.getElem?_eq_none h1] at hk; cases hk
    obtain ⟨g, o, v, rfl, hgl, hvk, c0, c1, c2, c3, c4⟩ := ht1.1.at hil
    obtain ⟨x, hx, hcx⟩ := ht1.2.at hvk
    have HF : Hid (M.find xs a = some x) := find_hit HR.out.1.1 HM.out hk hx
    have HC : Hid (Cont w1 v x ∧ Small x ∧ M.RsE x.ents) := ⟨hcx, HR.out.2 x (List.mem_of_getElem? hx), HR.out.1.2 x (List.mem_of_getElem? hx)⟩
    have hdir := hcx.2.1
    clear hcx hx hvk hk ht1
    cases hd : x.dir
    · rw [hd] at hdir
      rw [hdir] at c1
      go_wp2
      go_ret2
      exact ⟨ret_two (M.step_file HF.out hd).symm, hb1⟩
    · rw [hd] at hdir
      rw [hdir] at c1
      have HD : Hid (x.dir = true) := hd
      have HVD : Hid (v.dir = true) := hdir
      clear hd hdir
      have hcall : ∀ {R : Ending → World → Prop}, (∀ e w2, (∃ (f : Int) (b : Bool), e = .returned (.tuple #[.int .i64 f, .bool b]) ∧ (M.RsE x.ents → f = ((M.look x.ents s).map (·.2)).getD 0 ∧ b = (M.look x.ents s).isSome) ∧ Below w1.heap.size w1 w2) → R e w2) → Calls Try.prog 24 #[.agg #[.int .i64 v.fid, .bool true, .slice v.dA v.dn v.dc, .slice v.eA v.en v.ec, .int .i64 v.ver], .string s] w1 R := by
        intro R hR
        have h := entry_any v x s w1 HC.out.1 HC.out.2.1
        unfold NV.val at h
        rw [HVD.out] at h
        exact h.mono hR
      have HCA : Hid _ := @hcall
      clear hcall
      cases hl : M.look x.ents s
      · have HL : Hid (M.look x.ents s = none) := hl
        clear hl
        go_wp2_with (go_at_call 24; refine HCA.out ?_; rintro e w2 ⟨f, b, rfl, hfb, hb2⟩; obtain ⟨hf1, hf2⟩ := hfb HC.out.2.2; rw [HL.out] at hf1 hf2; subst hf1 hf2)
        go_ret2
        exact ⟨ret_two (M.step_no HF.out HD.out HL.out).symm, hb1.trans (hb2.mono hsz)⟩
      · rename_i y
        have HL : Hid (M.look x.ents s = some y) := hl
        clear hl
        go_wp2_with (go_at_call 24; refine HCA.out ?_; rintro e w2 ⟨f, b, rfl, hfb, hb2⟩; obtain ⟨hf1, hf2⟩ := hfb HC.out.2.2; rw [HL.out] at hf1 hf2; simp at hf1 hf2; subst hf1 hf2)
        go_ret2
        exact ⟨ret_two (M.step_yes HF.out HD.out HL.out).symm, hb1.trans (hb2.mono hsz)⟩

theorem Strs.at {w : World} {A : Option Addr} {n : Nat} {vs : List ByteArray} (h : Strs w A n vs) {j : Nat} (hj : j < n) :
    ∃ b o v, A = some ⟨b, o, none⟩ ∧ b < w.heap.size ∧ vs[j]? = some v ∧ w.cell? ⟨b, o + j, none⟩ = some (.string v) := by
  obtain ⟨b, o, v, e, hlt, hv, hc⟩ := Row.at h hj
  exact ⟨b, o, v, e, hlt, hv, by have := hc 0 _ rfl; simpa using this⟩

set_option maxHeartbeats 400000 in
theorem walk_any (A B : Option Addr) (n c m d : Nat) (vs : List NV) (xs : List M.Nd) (ls : List ByteArray) (w : World) (ht : Tree w A n vs xs) (hr : M.Rise xs) (hn : n * 72 ≤ 140737488355328) (hs : ∀ x ∈ xs, Small x) (hl : Strs w B m ls) (hm : m ≤ 140737488355328) :
    Calls Try.prog 20 #[.slice A n c, .slice B m d] w fun e w' => e = .returned (.tuple #[.int .i64 (M.walkS xs 0 ls).1, .int .i64 (M.walkS xs 0 ls).2]) ∧ Below w.heap.size w w' := by
  have HR : Hid (M.Rise xs ∧ ∀ x ∈ xs, Small x) := ⟨hr, hs⟩
  clear hr hs
  go_enter Try.func20, Try.ntmps20
  go_wp2
  go_loopw [6, 13] (fun a i wr => ∃ (k : Nat) (f : Int), k ≤ m ∧ i = .int .i64 k ∧ a = .int .i64 f ∧ M.walkS xs 0 ls = M.walkS xs f (ls.drop k) ∧ Below w.heap.size w wr) (fun _ i _ => m - (intOf i).toNat)
  case atStart => exact ⟨0, 0, Nat.zero_le _, rfl, rfl, rfl, Below.refl _ _⟩
  case round =>
    obtain ⟨k, f, hk, rfl, rfl, heq, hb⟩ := hrel
    have HE : Hid (M.walkS xs 0 ls = M.walkS xs f (ls.drop k)) := heq
    clear heq
    have hsz := hb.size
    by_cases hlt : k < m
    · have htr := ht.below (Nat.le_refl _) hb
      obtain ⟨b, o, s, rfl, _, hsk, hs0⟩ := Strs.at (hl.below (Nat.le_refl _) hb) hlt
      have HD : Hid (M.walkS xs 0 ls = if (M.stepS xs f s).2 = 0 then M.walkS xs (M.stepS xs f s).1 (ls.drop (k + 1)) else (0, (M.stepS xs f s).2)) := by
        show _ = _
        rw [HE.out]
        obtain ⟨h1, h2⟩ := List.getElem?_eq_some_iff.1 hsk
        rw [List.drop_eq_getElem_cons h1, h2]
        rfl
      clear hsk
      have HT : Hid (Tree wr A n vs xs) := htr
      clear htr
      by_cases h0 : (M.stepS xs f s).2 = 0
      · have H0 : Hid ((M.stepS xs f s).2 = 0) := h0
        go_wp2_with (go_at_call 47; refine (step_any A n c vs xs f s wr HT.out HR.out.1 hn HR.out.2).mono ?_; rintro e w1 ⟨rfl, hb1⟩)
        go_roundw
        case rel => exact ⟨k + 1, (M.stepS xs f s).1, by omega, by go_num, rfl, by rw [HD.out, if_pos H0.out], hb.trans (hb1.mono hsz)⟩
        case measure => simp [intOf]; omega
      · have h0' : ((M.stepS xs f s).2 == 0) = false := by simp [h0]
        have H0 : Hid (¬ (M.stepS xs f s).2 = 0) := h0
        clear h0
        go_wp2_with (go_at_call 47; refine (step_any A n c vs xs f s wr HT.out HR.out.1 hn HR.out.2).mono ?_; rintro e w1 ⟨rfl, hb1⟩)
        go_ret2
        exact ⟨ret_two (by rw [HD.out, if_neg H0.out]), hb.trans (hb1.mono hsz)⟩
    · have HN : Hid (ls.length ≤ k) := by show _ ≤ _; rw [← hl.1]; omega
      go_wp2
      go_ret2
      exact ⟨ret_two (by rw [HE.out, List.drop_of_length_le HN.out]; rfl), hb⟩

/-- the root alone -/
def root0 : List M.Nd := [⟨0, true, [], [], 0⟩]
theorem new_any (w : World) : Calls Try.prog 18 #[] w fun e w' => ∃ (g : Nat) (vs : List NV), e = .returned (.slice (some ⟨g, 0, none⟩) 1 1) ∧ OwnT w' w.heap.size (some ⟨g, 0, none⟩) 1 1 vs root0 ∧ Below w.heap.size w w' := by
  go_enter Try.func18, Try.ntmps18
  go_wp2
  go_ret
  refine ⟨_, [⟨0, true, none, 0, 0, none, 0, 0, 0⟩], rfl, ⟨World.ownsRow_lit w #[.int .i64 0, .bool true, .slice none 0 0, .slice none 0 0, .int .i64 0] 1 (Nat.le_refl _) (by decide) rfl, All2.one ⟨rfl, rfl, rfl, World.ownsRow_nil _ _ _ _, World.ownsRow_nil _ _ _ _⟩⟩, (Below.refl _ _).alloc (Nat.le_refl _) _⟩
end Go.Proofs.Ytkdpdgbacladhaa
