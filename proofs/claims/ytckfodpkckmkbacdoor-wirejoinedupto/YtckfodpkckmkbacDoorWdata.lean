/-
  PACKAGE wire: writeData, readData.
-/
import Derived.Test.YtckfodpkckmkbacDoorWleaf
import Derived.Deep.CutRange
namespace Go.Proofs.YtckfodpkckmkbacDoor
open Go.RowKit

theorem cells_snoc (l : List UInt8) (c : UInt8) : Lib.byteCells (l ++ [c]) = Lib.byteCells l ++ [.int .u8 (c.toNat : Int)] := by simp [Lib.byteCells]
theorem fm_snoc (l : List UInt8) (c : UInt8) : (l ++ [c]).flatMap M.hexS = l.flatMap M.hexS ++ [M.hexD.getD (c.toNat / 16) 0] ++ [M.hexD.getD (c.toNat % 16) 0] := by
  simp [M.hexS]
def hexB : ByteArray := ⟨#[48, 49, 50, 51, 52, 53, 54, 55, 56, 57, 97, 98, 99, 100, 101, 102]⟩
theorem hex_all : ∀ n : Fin 16, hexB[n.val]'(n.isLt) = M.hexD.getD n.val 0 := by decide +kernel
theorem hex_at (k : Nat) (h : k < 16) (h' : k < (⟨#[48, 49, 50, 51, 52, 53, 54, 55, 56, 57, 97, 98, 99, 100, 101, 102]⟩ : ByteArray).size) :
    (⟨#[48, 49, 50, 51, 52, 53, 54, 55, 56, 57, 97, 98, 99, 100, 101, 102]⟩ : ByteArray)[k]'h' = M.hexD.getD k 0 := hex_all ⟨k, h⟩
theorem hex_len : ∀ l : List UInt8, (l.flatMap M.hexS).length = 2 * l.length
  | [] => rfl
  | b :: l => by rw [List.flatMap_cons, List.length_append, hex_len l, List.length_cons]; simp [M.hexS]; omega
theorem cells_len (l : List UInt8) : (Lib.byteCells l).length = l.length := by simp [Lib.byteCells]
set_option maxHeartbeats 1000000 in
theorem writeData_any (A : Option Addr) (n c : Nat) (l : List UInt8) (w : World) (hx : Byts w A n l) (hl : l.length ≤ 17592186044416) :
    Calls Tryd.prog 23 #[.slice A n c] w fun e w' => e = .returned (.string (M.datB l)) ∧ Below w.heap.size w w' := by
  have hn : n = l.length := hx.1
  by_cases h0 : n = 0
  · subst h0
    have HR : Hid (M.datB l = ⟨#[45]⟩) := by
      have : l = [] := List.length_eq_zero_iff.1 hn.symm
      subst this; rfl
    clear hx hn
    go_enter Tryd.func23, Tryd.ntmps23
    go_wp2
    go_ret
    exact ⟨ret_str HR.out.symm, Below.refl _ _⟩
  · have HN : Hid (n = l.length) := hn
    have hnl : n ≤ 17592186044416 := by omega
    have h0' : ((n : Int) == 0) = false := by rw [beq_eq_false_iff_ne]; omega
    clear hn
    go_enter Tryd.func23, Tryd.ntmps23
    go_wp2
    go_loopw [11] (fun i wr => ∃ k : Nat, k ≤ n ∧ i = .int .i64 k ∧ Below w.heap.size w wr ∧ Lib.IsBuilder 42 5 w.heap.size w.heap.size (Lib.byteCells ((l.take k).flatMap M.hexS)) wr) (fun i _ => n - (intOf i).toNat)
    case atStart => exact ⟨0, Nat.zero_le _, rfl, (Below.refl _ _).alloc (Nat.le_refl _) _, Lib.fresh_isBuilder _ _ _⟩
    case round =>
      obtain ⟨k, hk, rfl, hb, hB⟩ := hrel
      by_cases hlt : k < n
      · obtain ⟨g, o, x, hA, _, hxk, hc⟩ := Row.at (hx.below (Nat.le_refl _) hb) hlt
        have c0 := hc 0 _ rfl
        simp only [Nat.mul_one, Nat.add_zero] at c0
        have HX : Hid (l[k]? = some x) := hxk
        have HB : Hid (Lib.IsBuilder 42 5 w.heap.size w.heap.size (Lib.byteCells ((l.take k).flatMap M.hexS)) wr) := hB
        subst hA
        clear hxk hc hx hB
        have x256 : x.toNat < 256 := x.toNat_lt
        have x16 : (x.toNat : Int) / 16 < 16 := by omega
        have x16' : x.toNat / 16 < 16 := by omega
        go_wp2_with (fail)
        refine (Tryd.Builder_WriteByte _ _ _ _ _ HB.out (by rw [cells_len, hex_len, List.length_take]; omega) hb.size).mono ?_
        rintro e w2 ⟨rfl, hB2, hb2⟩
        have hbz : Below w.heap.size w w2 := hb.trans hb2
        have HB2 : Hid (Lib.IsBuilder 42 5 w.heap.size w.heap.size _ w2) := .inr hB2
        clear hb hb2 hB2 HB
        go_wp2_with (fail)
        refine (Tryd.Builder_WriteByte _ _ _ _ _ HB2.out (by rw [List.length_append, cells_len, hex_len, List.length_take, List.length_singleton]; omega) hbz.size).mono ?_
        rintro e w3 ⟨rfl, hB3, hb3⟩
        have HB3 : Hid (Lib.IsBuilder 42 5 w.heap.size w.heap.size (Lib.byteCells ((l.take (k + 1)).flatMap M.hexS)) w3) := by
          show Lib.IsBuilder _ _ _ _ _ _
          rw [take_step HX.out, fm_snoc, cells_snoc, cells_snoc]
          rw [hex_at _ x16', hex_at _ (by omega)] at hB3
          exact .inr hB3
        have hbw : Below w.heap.size w w3 := hbz.trans hb3
        clear hB3 hb3 hbz
        go_wp2_with (fail)
        go_roundw
        case rel => exact ⟨k + 1, by omega, by go_num, hbw, HB3.out⟩
        case measure => simp [intOf]; omega
      · go_wp2_with (go_at_call 12; refine (Tryd.Builder_String_any _ _ _ _ hB hb.size).mono ?_; rintro e w2 ⟨rfl, hb2⟩)
        go_ret
        have HR : (⟨((l.take k).flatMap M.hexS).toArray⟩ : ByteArray) = M.datB l := by
          rw [List.take_of_length_le (by have := HN.out; omega)]
          unfold M.datB
          rw [if_neg (fun e => h0 (by rw [HN.out, e]; rfl))]
        exact ⟨ret_str HR, hb.trans hb2⟩
end Go.Proofs.YtckfodpkckmkbacDoor
