/-
  THE LAW WireTurns, walked: of any log and any text it answers true, and all that was there stays.
-/
import Derived.Test.YtckfodpkckmkbacDoorWlaw
namespace Go.Proofs.YtckfodpkckmkbacDoor
open Go.RowKit

theorem txt_data (l : List UInt8) : (txt l).data.toList = l := by simp [txt]
theorem txt_back (t : ByteArray) : txt t.data.toList = t := M.ba_ext (by simp [txt])
theorem TxIn.below {w w' : World} {xs : List M.Rec} (h : TxIn w xs) (hb : Below w.heap.size w w') : TxIn w' xs := ⟨h.env.below h.env.g hb, h.fit, h.nm, h.len⟩
theorem below_two {a b : World} {w : World} (h1 : Below w.heap.size w a) (h2 : Below a.heap.size a b) : Below w.heap.size w b := h1.trans (h2.mono h1.size)
set_option maxRecDepth 8000 in
set_option maxHeartbeats 4000000 in
theorem turns_any (A : Option Addr) (n c : Nat) (vs : List RV) (xs : List M.Rec) (t : ByteArray) (w : World) (hx : TreeR w A n vs xs) (hi : TxIn w xs) (hl : M.lenR xs < 4294967281) (ht : t.size < 4294967281) :
    Calls Tryd.prog 3 #[.slice A n c, .string t] w fun e w' => e = .returned (.bool true) ∧ Below w.heap.size w w' := by
  have HX : Hid (TreeR w A n vs xs ∧ TxIn w xs ∧ M.lenR xs < 4294967281 ∧ n = xs.length) := ⟨hx, hi, hl, hx.len⟩
  have HT : Hid (t.size < 4294967281) := ht
  clear hx hi hl ht
  by_cases h0 : (M.textS xs).1 = 0
  case' pos =>
    have hq : ((M.textS xs).1 == 0) = true := by rw [h0]; rfl
    have H0 : Hid ((M.textS xs).1 = 0) := h0
    clear h0
    go_enter Tryd.func3, Tryd.ntmps3
    go_wp2_with (fail)
    refine (alive_any _ HX.out.2.1.env).mono ?_
    rintro e w1 ⟨rfl, hb1⟩
    have HB1 : Hid (Below w.heap.size w w1) := hb1
    clear hb1
    go_wp2_with (fail)
    refine (text_any A n c vs xs _ (HX.out.1.below (Nat.le_refl _) HB1.out) (HX.out.2.1.below HB1.out)).mono ?_
    rintro e w2 ⟨rfl, hb2⟩
    have HB2 : Hid (Below w.heap.size w w2) := below_two HB1.out hb2
    clear hb2
    have HS : Hid ((txt (M.textS xs).2).size < 4294967281) := by
      have h1 := M.text_len xs HX.out.2.1.fit
      have h2 : (txt (M.textS xs).2).size = (M.textS xs).2.length := rfl
      have h3 := HX.out.2.2.1
      show _ < _
      omega
    go_wp2_with (fail)
    refine (log_any (txt (M.textS xs).2) _ HS.out (HX.out.2.1.below HB2.out).env).mono ?_
    rintro e w3 ⟨A3, n3, c3, vs3, rfl, hol, hb3, _⟩
    have HL := M.log_text xs HX.out.2.1.fit H0.out
    rw [txt_data] at hol
    have hn3 : n3 = n := by rw [hol.tree.len, HL.2, HX.out.2.2.2]
    subst hn3
    rw [txt_data, HL.1]
    have hn0 : ((n3 : Int) == (n3 : Int)) = true := by simp
    have HB3 : Hid (Below w.heap.size w w3 ∧ TreeR w3 A3 n3 vs3 (M.logS (M.textS xs).2).2) := ⟨below_two HB2.out hb3, hol.tree⟩
    have HT3 : Hid (M.textS (M.logS (M.textS xs).2).2 = (0, (M.textS xs).2)) := M.text_log _ _ (Nat.le_refl _) HL.1
    clear hol hb3 HL
    go_wp2_with (fail)
    have HI3 : Hid (TxIn w3 (M.logS (M.textS xs).2).2) := by
      have := txIn_log (w := w3) HS.out (HX.out.2.1.below HB3.out.1).env
      rw [txt_data] at this
      exact this
    refine (text_any A3 n3 c3 vs3 _ _ HB3.out.2 HI3.out).mono ?_
    rintro e w4 ⟨rfl, hb4⟩
    rw [HT3.out]
    have HB : Hid (Below w.heap.size w w4) := below_two HB3.out.1 hb4
    clear hb4
    have hq4 := raw_yes (txt (M.textS xs).2)
    clear HB1 HB2 HB3 HT3 HI3
    go_wp2_with (fail)
  case' neg =>
    have hq : ((M.textS xs).1 == 0) = false := by rw [beq_eq_false_iff_ne]; exact h0
    clear h0
    go_enter Tryd.func3, Tryd.ntmps3
    go_wp2_with (fail)
    refine (alive_any _ HX.out.2.1.env).mono ?_
    rintro e w1 ⟨rfl, hb1⟩
    have HB1 : Hid (Below w.heap.size w w1) := hb1
    clear hb1
    go_wp2_with (fail)
    refine (text_any A n c vs xs _ (HX.out.1.below (Nat.le_refl _) HB1.out) (HX.out.2.1.below HB1.out)).mono ?_
    rintro e w4 ⟨rfl, hb2⟩
    have HB : Hid (Below w.heap.size w w4) := below_two HB1.out hb2
    clear hb2 HB1
    go_wp2_with (fail)
  all_goals
    refine (log_any t _ HT.out (HX.out.2.1.below HB.out).env).mono ?_
    rintro e w5 ⟨A5, n5, c5, vs5, rfl, hol, hb5, _⟩
    have HB5 : Hid (Below w.heap.size w w5 ∧ TreeR w5 A5 n5 vs5 (M.logS t.data.toList).2) := ⟨below_two HB.out hb5, hol.tree⟩
    clear hol hb5
    by_cases h5 : (M.logS t.data.toList).1 = 0
    · have hq5 : ((M.logS t.data.toList).1 == 0) = true := by rw [h5]; rfl
      have HT5 : Hid (M.textS (M.logS t.data.toList).2 = (0, t.data.toList)) := M.text_log _ _ (Nat.le_refl _) h5
      clear h5
      go_wp2_with (fail)
      refine (text_any A5 n5 c5 vs5 _ _ HB5.out.2 (txIn_log HT.out (HX.out.2.1.below HB5.out.1).env)).mono ?_
      rintro e w6 ⟨rfl, hb6⟩
      rw [HT5.out, txt_back]
      have hq6 := raw_yes t
      go_wp2_with (fail)
      go_ret
      exact ⟨rfl, below_two HB5.out.1 hb6⟩
    · have hq5 : ((M.logS t.data.toList).1 == 0) = false := by rw [beq_eq_false_iff_ne]; exact h5
      have hn5 : n5 = 0 := by rw [HB5.out.2.len, M.log_err h5]; rfl
      subst hn5
      clear h5
      go_wp2_with (fail)
      go_ret
      exact ⟨rfl, HB5.out.1⟩
end Go.Proofs.YtckfodpkckmkbacDoor
