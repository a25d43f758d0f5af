/-
  THE REFERENCE's Walk.
-/
import Derived.Test.YtkdpdgbacladhaaWith
import Derived.Test.YtkdpdgbacladhaaAsk
import Derived.Test.YtkdpdgbacladhaaRefd
import Derived.Test.YtkdpdgbacladhaaWalk
namespace Go.Proofs.Ytkdpdgbacladhaa
open Go.RowKit

set_option maxHeartbeats 4000000 in
theorem refWalk_any (bm : Nat) (B : Option Addr) (m d : Nat) (xs : List M.Nd) (ls : List ByteArray) (w : World) (ht : TMap w bm xs) (hs : ∀ x ∈ xs, Small x) (hl : Strs w B m ls) (hm : m ≤ 140737488355328) :
    Calls Try.prog 21 #[.map (some bm), .slice B m d] w fun e w' => e = .returned (.tuple #[.int .i64 (M.walkS xs 0 ls).1, .int .i64 (M.walkS xs 0 ls).2]) ∧ Below w.heap.size w w' := by
  have HT : Hid (TMap w bm xs ∧ (∀ x ∈ xs, Small x) ∧ Strs w B m ls) := ⟨ht, hs, hl⟩
  have HL : Hid (m = ls.length) := hl.1
  clear ht hs hl
  go_enter Try.func21, Try.ntmps21
  go_wp2
  go_loopw [6, 14] (fun a i wr => ∃ (k : Nat) (f : Int), k ≤ m ∧ i = .int .i64 k ∧ a = .int .i64 f ∧ Hid (M.walkS xs 0 ls = M.walkS xs f (ls.drop k)) ∧ Below w.heap.size w wr) (fun _ i _ => m - (intOf i).toNat)
  case atStart => exact ⟨0, 0, Nat.zero_le _, rfl, rfl, rfl, Below.refl _ _⟩
  case round =>
    obtain ⟨k, f, hk, rfl, rfl, HE, hb⟩ := hrel
    have hsz := hb.size
    by_cases hlt : k < m
    · obtain ⟨b, o, s, hB, _, hsk, hs0⟩ := Strs.at (HT.out.2.2.below (Nat.le_refl _) hb) hlt
      have HD : Hid (M.walkS xs 0 ls = if (M.stepS xs f s).2 = 0 then M.walkS xs (M.stepS xs f s).1 (ls.drop (k + 1)) else (0, (M.stepS xs f s).2)) := by
        show _ = _
        rw [HE.out]
        obtain ⟨h1, h2⟩ := List.getElem?_eq_some_iff.1 hsk
        rw [List.drop_eq_getElem_cons h1, h2]
        rfl
      subst hB
      have hkn : (k : Int) < (m : Int) := by omega
      have hk0 : (0 : Int) ≤ (k : Int) := by omega
      clear hsk HE
      rcases IMap.ask (HT.out.1.below (Nat.le_refl _) hb) f with ⟨hf, hlk⟩ | ⟨v, x, hf, hcx, hlk⟩
      · have hlk := hlk true
        simp only [if_true] at hlk
        have hbz : Below w.heap.size w (wr.alloc (.cells #[.int .i64 NV.zero.fid, .bool NV.zero.dir, .slice NV.zero.dA NV.zero.dn NV.zero.dc, .slice NV.zero.eA NV.zero.en NV.zero.ec, .int .i64 NV.zero.ver] 26)) := hb.trans (((Below.refl _ _).alloc (Nat.le_refl _) _).mono hsz)
        have HB : Hid (M.stepS xs f s = (0, 12) ∧ Below w.heap.size w (wr.alloc (.cells #[.int .i64 NV.zero.fid, .bool NV.zero.dir, .slice NV.zero.dA NV.zero.dn NV.zero.dc, .slice NV.zero.eA NV.zero.en NV.zero.ec, .int .i64 NV.zero.ver] 26))) := ⟨M.step_none hf, hbz⟩
        clear hf hbz
        go_wp2
        go_ret2
        exact ⟨ret_two (by rw [HD.out, HB.out.1]; rfl), HB.out.2⟩
      · have hlk := hlk true
        simp only [if_true] at hlk
        have hwa : Below wr.heap.size wr (wr.alloc (.cells #[.int .i64 v.fid, .bool v.dir, .slice v.dA v.dn v.dc, .slice v.eA v.en v.ec, .int .i64 v.ver] 26)) := (Below.refl _ _).alloc (Nat.le_refl _) _
        have HX : Hid (M.find xs f = some x ∧ Cont (wr.alloc (.cells #[.int .i64 v.fid, .bool v.dir, .slice v.dA v.dn v.dc, .slice v.eA v.en v.ec, .int .i64 v.ver] 26)) v x ∧ Small x ∧ Below w.heap.size w (wr.alloc (.cells #[.int .i64 v.fid, .bool v.dir, .slice v.dA v.dn v.dc, .slice v.eA v.en v.ec, .int .i64 v.ver] 26)) ∧ v.dir = x.dir) := ⟨hf, hcx.below (Nat.le_refl _) hwa, HT.out.2.1 x (List.mem_of_find?_eq_some hf), hb.trans (hwa.mono hsz), hcx.2.1⟩
        clear hf hcx hwa
        obtain ⟨fid, dir, dA, dn, dc, eA, en, ec, ver⟩ := v
        cases dir
        · have HS : Hid (M.stepS xs f s = (0, 8)) := M.step_file HX.out.1 HX.out.2.2.2.2.symm
          go_wp2
          go_ret2
          exact ⟨ret_two (by rw [HD.out, HS.out]; rfl), HX.out.2.2.2.1⟩
        · have HDX : Hid (x.dir = true) := HX.out.2.2.2.2.symm
          go_wp2_with (fail)
          refine (refEntry_any ⟨fid, true, dA, dn, dc, eA, en, ec, ver⟩ x s _ HX.out.2.1 HX.out.2.2.1).mono ?_
          rintro e w1 ⟨rfl, hb1⟩
          have HB1 : Hid (Below w.heap.size w w1) := HX.out.2.2.2.1.trans (hb1.mono HX.out.2.2.2.1.size)
          clear hb1
          cases hlook : M.look x.ents s with
          | none =>
            have HS : Hid (M.stepS xs f s = (0, 6)) := M.step_no HX.out.1 HDX.out hlook
            clear hlook
            go_wp2
            go_ret2
            exact ⟨ret_two (by rw [HD.out, HS.out]; rfl), HB1.out⟩
          | some y =>
            have HS : Hid (M.stepS xs f s = (y.2, 0)) := M.step_yes HX.out.1 HDX.out hlook
            clear hlook
            go_wp2
            go_roundw
            case rel => exact ⟨k + 1, y.2, by omega, by go_num, rfl, by show _ = _; rw [HD.out, HS.out]; rfl, HB1.out⟩
            case measure => simp [intOf]; omega
    · have HN : Hid (ls.length ≤ k) := by have := HL.out; show _ ≤ _; omega
      go_wp2
      go_ret2
      exact ⟨ret_two (by rw [HE.out, List.drop_of_length_le HN.out]; rfl), hb⟩
end Go.Proofs.Ytkdpdgbacladhaa
