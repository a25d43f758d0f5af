/-
  PACKAGE wire: readData.
-/
import Derived.Test.YtckfodpkckmkbacDoorWdata
namespace Go.Proofs.YtckfodpkckmkbacDoor
open Go.RowKit

/-- behind an append: nothing else is touched -/
theorem snoc_b {w W w2 : World} {B : Nat} {e : TypeId} {k : Nat} {A : Option Addr} {m c : Nat} {L : List Value} (hb : Below B w W) (hB : B ≤ W.heap.size) (ho : W.ownsRow B e k (.slice A m c) m L) (hg : W.grownBy w2 (Value.slice A m c).ownBlock) : Below B w w2 :=
  Below.grown hb hg hB (fun k hk => by
    rcases ho.2 with ⟨e, _⟩ | ⟨g, cap, cur, e, h1, _⟩
    · cases e; cases hk
    · cases e; cases hk; exact h1)
theorem row_new1 {α : Type} (W : World) (u : Value) (t : TypeId) (cs : α → List Value) (a : α) (h : cs a = [u]) : Row 1 cs (W.alloc (.cells #[u] t)) (some ⟨W.heap.size, 0, none⟩) 1 [a] := by
  refine ⟨rfl, .inr ⟨W.heap.size, 0, rfl, by simp, fun j v hv i c hi => ?_⟩⟩
  cases j with
  | zero =>
    cases hv
    rw [h] at hi
    cases i with
    | zero => cases hi; rw [World.cell?_alloc_at _ _ _ _ rfl]; rfl
    | succ i => cases hi
  | succ j => cases hv
theorem or_all : ∀ p q : Fin 16, bits .or .i64 (((p.val : Nat) : Int) * 16) ((q.val : Nat) : Int) = ((16 * p.val + q.val : Nat) : Int) := by decide +kernel
theorem or_hex {p q : Nat} (hp : p < 16) (hq : q < 16) : bits .or .i64 ((p : Int) * 16) (q : Int) = ((UInt8.ofNat (16 * p + q)).toNat : Int) := by
  rw [or_all ⟨p, hp⟩ ⟨q, hq⟩, UInt8.toNat_ofNat']
  show ((16 * p + q : Nat) : Int) = ((((16 * p + q) % 2 ^ 8 : Nat)) : Int)
  rw [Nat.mod_eq_of_lt (by omega)]
theorem unhex_append : ∀ (x : List UInt8) (l y : List UInt8), M.unhex x = some l → M.unhex (x ++ y) = (M.unhex y).map (l ++ ·)
  | [], l, y, h => by simp [M.unhex] at h; subst h; simp
  | [_], l, y, h => by simp [M.unhex] at h
  | a :: b :: r, l, y, h => by
    rw [M.unhex] at h
    by_cases hd : M.digS a < 0 ∨ M.digS b < 0
    · rw [if_pos hd] at h; cases h
    · rw [if_neg hd] at h
      cases hu : M.unhex r with
      | none => rw [hu] at h; cases h
      | some m =>
        rw [hu] at h
        simp only [Option.map_some, Option.some.injEq] at h
        subst h
        rw [List.cons_append, List.cons_append, M.unhex, if_neg hd, unhex_append r m y hu]
        simp [Function.comp_def]
theorem idx_any (x : UInt8) (w : World) : Calls Tryd.prog 42 #[.string ⟨#[48, 49, 50, 51, 52, 53, 54, 55, 56, 57, 97, 98, 99, 100, 101, 102]⟩, .int .u8 (x.toNat : Int)] w fun e w' => e = .returned (.int .i64 (M.digS x)) ∧ w' = w := by
  refine (Tryd.strings_IndexByte _ _ _).mono ?_
  rintro e w' ⟨rfl, rfl⟩
  refine ⟨ret_int ?_, rfl⟩
  show Lib.indexByte M.hexD _ = _
  rw [Int.toNat_natCast, Nat.toUInt8_eq, UInt8.ofNat_toNat]
  rfl
/-- what readData answers -/
def ReadTo (s : ByteArray) (w : World) (e : Ending) (w' : World) : Prop :=
  ∃ (A : Option Addr) (n c : Nat), e = .returned (.tuple #[.slice A n c, .bool (M.datS s).isSome]) ∧ w'.ownsRow w.heap.size 5 1 (.slice A n c) n (((M.datS s).getD []).flatMap byteCells1) ∧ Below w.heap.size w w'
theorem read_none {s : ByteArray} {w w' : World} (h : M.datS s = none) (hb : Below w.heap.size w w') : ReadTo s w (.returned (.tuple #[.slice none 0 0, .bool false])) w' :=
  ⟨none, 0, 0, by rw [h]; rfl, by rw [h]; exact World.ownsRow_nil _ _ _ _, hb⟩
theorem odd_none : ∀ (l : List UInt8), l.length % 2 = 1 → M.unhex l = none
  | [], h => by simp at h
  | [_], _ => rfl
  | a :: b :: r, h => by
    rw [M.unhex, odd_none r (by simp at h; omega)]
    split <;> rfl
theorem take_two (s : ByteArray) (k : Nat) (h : k + 1 < s.size) : s.data.toList = s.data.toList.take k ++ s[k] :: s[k + 1] :: s.data.toList.drop (k + 2) := by
  have e1 := take_snoc s k (by omega)
  have e2 := take_snoc s (k + 1) (by omega)
  have e3 := List.take_append_drop (k + 2) s.data.toList
  rw [e2, e1] at e3
  simpa using e3.symm
set_option maxRecDepth 8000 in
set_option maxHeartbeats 2000000 in
theorem readData_any (s : ByteArray) (w : World) (hs : s.size ≤ 17592186044416) :
    Calls Tryd.prog 33 #[.string s] w (ReadTo s w) := by
  obtain ⟨i5, hi5, hz5, hs5, hb5⟩ := info_parts info5
  by_cases h1 : s = ⟨#[45]⟩
  · have HR : Hid (M.datS s = some []) := by subst h1; rfl
    subst h1
    have hq := raw_yes ⟨#[45]⟩
    go_enter Tryd.func33, Tryd.ntmps33
    go_wp2
    go_ret2
    exact ⟨none, 0, 0, rfl, World.ownsRow_nil _ _ _ _, Below.refl _ _⟩
  have hq : (s.toList == [45]) = false := by
    have := raw_no h1
    rwa [ByteArray.toList_eq ⟨#[45]⟩] at this
  have d1 : ¬ s.data.toList = [45] := fun e => h1 (M.ba_ext e)
  clear h1
  by_cases h2 : s = ⟨#[]⟩
  · have HR : Hid (M.datS s = none) := by show _ = _; subst h2; rfl
    subst h2
    have hq := raw_yes ⟨#[]⟩
    go_enter Tryd.func33, Tryd.ntmps33
    go_wp2
    go_ret2
    exact read_none HR.out (Below.refl _ _)
  have hq2 : (s.toList == []) = false := by
    have := raw_no h2
    rwa [ByteArray.toList_eq ⟨#[]⟩] at this
  have d2 : ¬ s.data.toList = [] := fun e => h2 (M.ba_ext e)
  have HD : Hid (M.datS s = M.unhex s.data.toList) := by show _ = _; unfold M.datS; rw [if_neg d1, if_neg d2]
  clear h2 d1 d2
  by_cases h3 : s.size % 2 = 0
  case' neg =>
    have HR : Hid (M.datS s = none) := by show _ = _; rw [HD.out]; exact odd_none _ (by rw [len_data]; omega)
    have h3' : ¬ (s.size : Int) % 2 = 0 := by omega
    have h3'' : ((s.size : Int) % 2 == 0) = false := by rw [beq_eq_false_iff_ne]; omega
    go_enter Tryd.func33, Tryd.ntmps33
    go_wp2
    go_ret2
    exact read_none HR.out (Below.refl _ _)
  have h3' : (s.size : Int) % 2 = 0 := by omega
  have hbn : i5.bytes * (s.size / 2) ≤ 281474976710656 := by rw [hb5]; omega
  have HCC : Hid (((s.size : Int) / 2) = ((s.size / 2 : Nat) : Int)) := by show _ = _; omega
  go_enter Tryd.func33, Tryd.ntmps33
  go_wp2_with (at_make; refine wpList_make_own _ (by rfl) (.const (.int .i64 0)) (.tmp 20) 33 (by rfl) w.heap.size 5 i5 _ 1 Tryd.underlying33 hi5 hz5 hs5 .i64 .i64 _ (s.size / 2) rfl rfl HCC.out hbn (by unfold maxLen; omega) (Nat.le_refl _) ?_; intro w1 hown hg1; have hb1 := grown_below hg1; clear hg1)
  have H0 : Hid (w1.ownsRow w.heap.size 5 1 (.slice (some ⟨w.heap.size, 0, none⟩) 0 (s.size / 2)) 0 ([].flatMap byteCells1) ∧ Below w.heap.size w w1) := ⟨by simpa using hown, hb1⟩
  clear hown hb1 HCC hbn
  go_loopw [4, 5] (fun v i wr => ∃ (j k : Nat) (A : Option Addr) (c : Nat) (l : List UInt8), Hid (j = 2 * k) ∧ j ≤ s.size ∧ i = .int .i64 j ∧ v = .slice A k c ∧ M.unhex (s.data.toList.take j) = some l ∧ wr.ownsRow w.heap.size 5 1 (.slice A k c) k (l.flatMap byteCells1) ∧ Below w.heap.size w wr) (fun _ i _ => s.size - (intOf i).toNat)
  case atStart => exact ⟨0, 0, _, _, [], rfl, Nat.zero_le _, rfl, rfl, rfl, H0.out.1, H0.out.2⟩
  case round =>
    obtain ⟨j, k, A, c, l, HJ, hk, rfl, rfl, hu, ho, hb⟩ := hrel
    have HO : Hid (wr.ownsRow w.heap.size 5 1 (.slice A k c) k (l.flatMap byteCells1) ∧ Below w.heap.size w wr) := ⟨ho, hb⟩
    have HU : Hid (M.unhex (s.data.toList.take j) = some l) := hu
    clear ho hb hu
    have hkj : k ≤ s.size := by have := HJ.out; omega
    by_cases hlt : j < s.size
    · have hlt2 : j + 1 < s.size := by have := HJ.out; omega
      have hwr : IntKind.i64.wrap ((j : Int) + 1) = (j : Int) + 1 := by rw [IntKind.wrap_i64]; omega
      have hj1 : (j : Int) + 1 < (s.size : Int) := by omega
      have hj0 : (0 : Int) ≤ (j : Int) + 1 := by omega
      have hjt : ((j : Int) + 1).toNat = j + 1 := by omega
      go_wp2_with (fail)
      go_quiet ((go_at_call 42; exact Calls.quiet_of_same (idx_any _ _)))
      have hda := M.dig_lt s[j]
      have hdb := M.dig_lt s[j + 1]
      have HN : Hid ((M.digS s[j] < 0 ∨ M.digS s[j + 1] < 0) → M.datS s = none) := by
        intro hd
        rw [HD.out, take_two s j hlt2, unhex_append _ l _ HU.out, M.unhex, if_pos hd]; rfl
      have HY : Hid (¬ (M.digS s[j] < 0 ∨ M.digS s[j + 1] < 0) → M.unhex (s.data.toList.take (j + 2)) = some (l ++ [UInt8.ofNat (16 * (M.digS s[j]).toNat + (M.digS s[j + 1]).toNat)])) := by
        intro hd
        rw [show j + 2 = j + 1 + 1 from rfl, take_snoc s (j + 1) hlt2, take_snoc s j hlt, List.append_assoc, unhex_append _ l _ HU.out]
        show Option.map _ (M.unhex [s[j], s[j + 1]]) = _
        rw [M.unhex, if_neg hd]; rfl
      generalize M.digS s[j] = a at hda HN HY ⊢
      generalize M.digS s[j + 1] = b at hdb HN HY ⊢
      have ha2 := hda.2.1
      have ha1 := hda.1
      have hb2 := hdb.2.1
      have hb1 := hdb.1
      clear hda hdb
      by_cases ha : a < 0
      · go_wp2_with (fail)
        go_ret2
        exact read_none (HN.out (.inl ha)) (below_drewN HO.out.2 _)
      by_cases hbb : b < 0
      · go_wp2_with (fail)
        go_ret2
        exact read_none (HN.out (.inr hbb)) (below_drewN HO.out.2 _)
      obtain ⟨p, rfl⟩ : ∃ p : Nat, a = p := ⟨a.toNat, by omega⟩
      obtain ⟨q, rfl⟩ : ∃ q : Nat, b = q := ⟨b.toNat, by omega⟩
      have hor : bits .or .i64 ((p : Int) * 16) (q : Int) = ((UInt8.ofNat (16 * p + q)).toNat : Int) := or_hex (by omega) (by omega)
      have HY2 : Hid (M.unhex (s.data.toList.take (j + 2)) = some (l ++ [UInt8.ofNat (16 * p + q)])) := by
        have := HY.out (by omega)
        rw [Int.toNat_natCast, Int.toNat_natCast] at this
        exact this
      generalize UInt8.ofNat (16 * p + q) = x at hor HY2
      have x256 : ((x.toNat : Nat) : Int) % 256 = (x.toNat : Int) := by have := x.toNat_lt; omega
      have HO2 : Hid (((wr.drewN nq).alloc (.cells #[.int .u8 (x.toNat : Int)] 5)).ownsRow w.heap.size 5 1 (.slice A k c) k (l.flatMap byteCells1) ∧ Below w.heap.size w ((wr.drewN nq).alloc (.cells #[.int .u8 (x.toNat : Int)] 5))) :=
        ⟨own_below (own_below HO.out.1 (below_drewN (Below.refl _ _) nq) (Nat.le_refl _)) ((Below.refl _ _).alloc (Nat.le_refl _) _) (Nat.le_refl _), (below_drewN HO.out.2 nq).alloc (below_drewN HO.out.2 nq).size _⟩
      clear HN HY HO HU
      go_wp2_with (at_builtin; refine wpList_append_row _ (by rfl) (.tmp 43) (.tmp 49) 33 (by rfl) w.heap.size 5 i5 (.int .u8 0) 1 Tryd.underlying33 hi5 hz5 hs5 hb5 rfl (by decide) _ k _ (by rfl) HO2.out.1 (some ⟨(wr.drewN nq).heap.size, 0, none⟩) 1 1 [x] (by rfl) (row_new1 (wr.drewN nq) _ 5 byteCells1 x rfl) byt_len byt_one (by unfold maxLen; omega) (by omega) (Nat.le_trans HO2.out.2.size (Nat.le_refl _)) ?_; intro v4 w4 hown4 hg4; obtain ⟨A4, c4, rfl, _, _⟩ := own_form hown4; have HR : Hid (w4.ownsRow w.heap.size 5 1 (.slice A4 (k + 1) c4) (k + 1) ((l ++ [x]).flatMap byteCells1) ∧ Below w.heap.size w w4) := ⟨by rw [List.flatMap_append]; exact hown4, snoc_b HO2.out.2 HO2.out.2.size HO2.out.1 hg4⟩; clear hown4 hg4)
      go_roundw
      case rel => exact ⟨j + 2, k + 1, A4, c4, l ++ [x], by have := HJ.out; show _ = _; omega, by omega, by go_num, rfl, HY2.out, HR.out.1, HR.out.2⟩
      case measure => simp [intOf]; omega
    · have HR : Hid (M.datS s = some l) := by
        show _ = _
        rw [HD.out, ← HU.out, take_all s j (by omega)]
      go_wp2
      go_ret2
      exact ⟨A, k, c, by rw [HR.out]; rfl, by rw [HR.out]; exact HO.out.1, HO.out.2⟩
end Go.Proofs.YtckfodpkckmkbacDoor
