/-
  PACKAGE acts, its small functions: has, directory, put, free.
-/
import Derived.Test.YtlegjdlmcphhlabIn
import Derived.Test.YtlegjdlmcphhlabMathd
namespace Go.Proofs.Ytlegjdlmcphhlab
open Go.RowKit

theorem OwnN.alloc {w : World} {B : Nat} {v : NV} {x : M.Nd} (h : OwnN w B v x) (o : Obj) : OwnN (w.alloc o) B v x := ⟨h.1, h.2.1, h.2.2.1, h.2.2.2.1.alloc _, h.2.2.2.2.alloc _⟩
theorem OwnN.put5 {w : World} {B : Nat} {v : NV} {x : M.Nd} (h : OwnN w B v x) {s : Nat} (hs : s < B) (o : Nat) (y : NV) : OwnN (put5 w s o y) B v x := ⟨h.1, h.2.1, h.2.2.1, put5_own h.2.2.2.1 hs _ _, put5_own h.2.2.2.2 hs _ _⟩
theorem small_nd0 : Small nd0 := ⟨by simp [nd0], by simp [nd0]⟩
theorem Found.small {xs : List M.Nd} {t : Int} {x : M.Nd} {b : Bool} (h : Found xs t x b) (hs : ∀ x ∈ xs, Small x) : Small x := by
  cases b
  · rw [h.2.1 rfl]; exact small_nd0
  · exact hs x (h.1 rfl).1

theorem has_any (A : Option Addr) (n c : Nat) (vs : List NV) (xs : List M.Nd) (t : Int) (w : World) (ht : Tree w A n vs xs) (hn : n * 72 ≤ 140737488355328) (hs : ∀ x ∈ xs, Small x) :
    Calls Try.prog 58 #[.slice A n c, .int .i64 t] w fun e w' => ∃ b : Bool, e = .returned (.bool b) ∧ (M.RsN xs → b = (M.find xs t).isSome) ∧ Below w.heap.size w w' := by
  go_enter Try.func58, Try.ntmps58
  go_wp2_with (fail)
  refine (find_gen A n c vs xs t w ht hn hs).mono ?_
  rintro e w1 ⟨v, x, b, rfl, ho, hf, hb⟩
  have HB : Hid (Below w.heap.size w w1) := hb
  have HF : Hid (Found xs t x b) := hf
  clear hb hf ho
  go_wp2
  go_ret
  exact ⟨b, rfl, fun hr => (HF.out.2.2 hr).1, HB.out.alloc HB.out.size _⟩

set_option maxHeartbeats 400000 in
theorem dir_any (A : Option Addr) (n c : Nat) (vs : List NV) (xs : List M.Nd) (t : Int) (w : World) (ht : Tree w A n vs xs) (hn : n * 72 ≤ 140737488355328) (hs : ∀ x ∈ xs, Small x) :
    Calls Try.prog 56 #[.slice A n c, .int .i64 t] w fun e w' => ∃ (v : NV) (x : M.Nd) (r : Int), e = .returned (.tuple #[v.val, .int .i64 r]) ∧ OwnN w' w.heap.size v x ∧ Small x ∧ (M.RsN xs → r = (M.dirS xs t).1 ∧ x = (M.dirS xs t).2) ∧ Below w.heap.size w w' := by
  have hwa : ∀ W, W = w.alloc (.cells #[.int .i64 0, .bool false, .slice none 0 0, .slice none 0 0, .int .i64 0] 40) → Below w.heap.size w W ∧ Box W w.heap.size NV.zero ∧ W.heap.size = w.heap.size + 1 := by
    rintro W rfl
    exact ⟨(Below.refl _ _).alloc (Nat.le_refl _) _, Box.new0 w, by simp⟩
  have HW : Hid _ := hwa
  clear hwa
  have HT : Hid (Tree w A n vs xs ∧ ∀ x ∈ xs, Small x) := ⟨ht, hs⟩
  clear ht hs
  go_enter Try.func56, Try.ntmps56
  go_wp2_with (fail)
  obtain ⟨q1, q2, q3⟩ := HW.out _ rfl
  refine (find_gen A n c vs xs t _ (HT.out.1.below (Nat.le_refl _) q1) hn HT.out.2).mono ?_
  rintro e w1 ⟨v, x, b, rfl, ho, hf, hb1⟩
  have hz1 := hb1.size
  rw [q3] at hz1
  have hbw : Below w.heap.size w w1 := q1.trans (hb1.mono (by omega))
  have HX1 : Hid (Box w1 w.heap.size NV.zero) := q2.below hb1 (by omega)
  have HO : Hid (OwnN w1 (w.heap.size + 1) v x) := by rw [q3] at ho; exact ho
  have HF : Hid (Found xs t x b) := hf
  clear q1 q2 q3 hb1 ho hf HW
  obtain ⟨z0, z1, z2, z3, z4, zf, zz⟩ := HX1.out.facts
  have HS : Hid (Small x) := HF.out.small HT.out.2
  cases b
  · have HR : Hid (M.RsN xs → M.dirS xs t = (12, nd0)) := fun hr => M.dir_none (by have h := (HF.out.2.2 hr).1; cases hx : M.find xs t with
      | none => rfl
      | some y => rw [hx] at h; cases h)
    go_wp2
    exact bodyPost_ret (v := .tuple #[NV.zero.val, .int .i64 12]) (by simp [results, Try.results56, go_sem, z0, z1, z2, z3, z4, zz, NV.zero]) rfl ⟨NV.zero, nd0, 12, rfl, own0 _ _, small_nd0, fun hr => by rw [HR.out hr]; exact ⟨rfl, rfl⟩, (put5_below hbw (Nat.le_refl _) 0 NV.zero).alloc (by simp; omega) _⟩
  · have HY : Hid (M.RsN xs → M.find xs t = some x) := fun hr => by
      have h := HF.out.2.2 hr
      cases hx : M.find xs t with
      | none => rw [hx] at h; cases h.1
      | some y => rw [hx] at h; rw [h.2]; rfl
    obtain ⟨fi, di, dA, dn, dc, eA, en, ec, ve⟩ := v
    cases di
    · have HR : Hid (M.RsN xs → M.dirS xs t = (8, nd0)) := fun hr => M.dir_file (HY.out hr) HO.out.2.1.symm
      go_wp2
      exact bodyPost_ret (v := .tuple #[NV.zero.val, .int .i64 8]) (by simp [results, Try.results56, go_sem, z0, z1, z2, z3, z4, zz, NV.zero]) rfl ⟨NV.zero, nd0, 8, rfl, own0 _ _, small_nd0, fun hr => by rw [HR.out hr]; exact ⟨rfl, rfl⟩, (put5_below hbw (Nat.le_refl _) 0 NV.zero).alloc (by simp; omega) _⟩
    · have HR : Hid (M.RsN xs → M.dirS xs t = (0, x)) := fun hr => M.dir_yes (HY.out hr) HO.out.2.1.symm
      go_wp2
      exact bodyPost_ret (v := .tuple #[NV.val ⟨fi, true, dA, dn, dc, eA, en, ec, ve⟩, .int .i64 0]) (by simp [results, Try.results56, go_sem, z0, z1, z2, z3, z4, zz]) rfl ⟨⟨fi, true, dA, dn, dc, eA, en, ec, ve⟩, x, 0, rfl, ((HO.out.put5 (by omega) 0 ⟨fi, true, dA, dn, dc, eA, en, ec, ve⟩).alloc _).mono (by omega), HS.out, fun hr => by rw [HR.out hr]; exact ⟨rfl, rfl⟩, (put5_below hbw (Nat.le_refl _) 0 ⟨fi, true, dA, dn, dc, eA, en, ec, ve⟩).alloc (by simp; omega) _⟩

theorem Cont.ver {w : World} {v : NV} {x : M.Nd} (h : Cont w v x) (ver : Int) : Cont w ⟨v.fid, v.dir, v.dA, v.dn, v.dc, v.eA, v.en, v.ec, ver⟩ (M.withV x ver) := ⟨h.1, h.2.1, rfl, h.2.2.2.1, h.2.2.2.2⟩

theorem vput_any (A : Option Addr) (n c : Nat) (vs : List NV) (xs : List M.Nd) (v : NV) (x : M.Nd) (ver : Int) (w : World) (ht : Tree w A n vs xs) (hn : (n + 1) * 72 ≤ 140737488355328) (hs : ∀ x ∈ xs, Small x) (hc : Cont w v x) (hsx : Small x) :
    Calls Try.prog 59 #[.slice A n c, v.val, .int .i64 ver] w fun e w' => ∃ (B : Option Addr) (m d : Nat) (us : List NV) (ys : List M.Nd), e = .returned (.slice B m d) ∧ m ≤ n + 1 ∧ OwnT w' w.heap.size B m d us ys ∧ Putted xs (M.withV x ver) ys ∧ Below w.heap.size w w' := by
  have HT : Hid (Tree w A n vs xs ∧ (∀ x ∈ xs, Small x) ∧ Cont w v x ∧ Small x) := ⟨ht, hs, hc, hsx⟩
  have hwa : ∀ W, W = w.alloc (.cells #[.int .i64 v.fid, .bool v.dir, .slice v.dA v.dn v.dc, .slice v.eA v.en v.ec, .int .i64 ver] 40) → Below w.heap.size w W := by
    rintro W rfl
    exact (Below.refl _ _).alloc (Nat.le_refl _) _
  have HW : Hid _ := hwa
  clear ht hs hc hsx hwa
  go_enter Try.func59, Try.ntmps59
  go_wp2_with (fail)
  have q1 := HW.out _ rfl
  refine (put_gen A n c vs xs ⟨v.fid, v.dir, v.dA, v.dn, v.dc, v.eA, v.en, v.ec, ver⟩ (M.withV x ver) _ (HT.out.1.below (Nat.le_refl _) q1) hn HT.out.2.1 (Cont.ver (HT.out.2.2.1.below (Nat.le_refl _) q1) ver) HT.out.2.2.2).mono ?_
  rintro e w1 ⟨B, m, d, us, ys, rfl, hm, ho, hp, hb1⟩
  have HR : Hid (m ≤ n + 1 ∧ OwnT w1 w.heap.size B m d us ys ∧ Putted xs (M.withV x ver) ys ∧ Below w.heap.size w w1) := ⟨hm, ho.mono (by simp), hp, q1.trans (hb1.mono (by simp))⟩
  clear hm ho hp hb1 q1 HW
  go_wp2
  go_ret
  exact ⟨B, m, d, us, ys, rfl, HR.out⟩

/-- what free answers -/
def Freed (x : M.Nd) (s : ByteArray) (r : Int) : Prop := (r = 0 → x.ents.length < 6) ∧ (M.RsE x.ents → r = M.freeS x s)
set_option maxHeartbeats 400000 in
theorem free_any (v : NV) (x : M.Nd) (s : ByteArray) (w : World) (hc : Cont w v x) (hs : Small x) (hl : s.size ≤ maxLen) :
    Calls Try.prog 57 #[v.val, .string s] w fun e w' => ∃ r : Int, e = .returned (.int .i64 r) ∧ Freed x s r ∧ Below w.heap.size w w' := by
  have HT : Hid (Cont w v x ∧ Small x ∧ s.size ≤ maxLen) := ⟨hc, hs, hl⟩
  have HW : Hid (Below w.heap.size w (w.alloc (.cells #[.int .i64 v.fid, .bool v.dir, .slice v.dA v.dn v.dc, .slice v.eA v.en v.ec, .int .i64 v.ver] 40)) ∧ Box (w.alloc (.cells #[.int .i64 v.fid, .bool v.dir, .slice v.dA v.dn v.dc, .slice v.eA v.en v.ec, .int .i64 v.ver] 40)) w.heap.size v) := ⟨(Below.refl _ _).alloc (Nat.le_refl _) _, Box.new w v⟩
  clear hc hs hl
  go_enter Try.func57, Try.ntmps57
  go_wp2_with (fail)
  refine (entry_any v x s _ (HT.out.1.below (Nat.le_refl _) HW.out.1) HT.out.2.1).mono ?_
  rintro e w1 ⟨f, b, rfl, hfb, hb1⟩
  have HF : Hid (M.RsE x.ents → b = (M.look x.ents s).isSome) := fun hr => (hfb hr).2
  have HB : Hid (Below w.heap.size w w1 ∧ Box w1 w.heap.size v) := ⟨HW.out.1.trans (hb1.mono (by simp)), HW.out.2.below hb1 (by simp)⟩
  have hen : v.en = x.ents.length := HT.out.1.2.2.2.2.1
  have HEN : Hid (v.en = x.ents.length) := hen
  clear hfb hb1 HW hen
  obtain ⟨z0, z1, z2, z3, z4, zf, zz⟩ := HB.out.2.facts
  have HR : Hid (∀ r : Int, (r = 0 → x.ents.length < 6) → (M.RsE x.ents → r = M.freeS x s) → (Freed x s r ∧ Below w.heap.size w w1)) := fun r h1 h2 => ⟨⟨h1, h2⟩, HB.out.1⟩
  have hu : ∀ (hr : M.RsE x.ents), M.freeS x s = if b || !M.nameB s.data.toList then 7 else if 6 ≤ x.ents.length then 5 else 0 := fun hr => by unfold M.freeS; rw [← HF.out hr]
  have HU : Hid _ := hu
  clear hu
  cases b
  · cases hnb : M.nameB s.data.toList
    · have HV : Hid (M.RsE x.ents → (7 : Int) = M.freeS x s) := fun hr => by rw [HU.out hr, hnb]; rfl
      go_wp2_with (go_at_call 75; refine (name_any s _ HT.out.2.2).mono ?_; rintro e w2 ⟨rfl, hw⟩; rw [hw, hnb]; clear hw)
      go_ret
      exact ⟨7, rfl, HR.out 7 (by omega) HV.out⟩
    · by_cases h6 : 6 ≤ v.en
      · have HV : Hid (M.RsE x.ents → (5 : Int) = M.freeS x s) := fun hr => by rw [HU.out hr, hnb, ← HEN.out, if_neg (by simp), if_pos h6]
        have h6' : (6 : Int) ≤ (v.en : Int) := by omega
        go_wp2_with (go_at_call 75; refine (name_any s _ HT.out.2.2).mono ?_; rintro e w2 ⟨rfl, hw⟩; rw [hw, hnb]; clear hw)
        go_ret
        exact ⟨5, rfl, HR.out 5 (by omega) HV.out⟩
      · have HV : Hid (M.RsE x.ents → (0 : Int) = M.freeS x s) := fun hr => by rw [HU.out hr, hnb, ← HEN.out, if_neg (by simp), if_neg h6]
        have h6' : ¬ (6 : Int) ≤ (v.en : Int) := by omega
        go_wp2_with (go_at_call 75; refine (name_any s _ HT.out.2.2).mono ?_; rintro e w2 ⟨rfl, hw⟩; rw [hw, hnb]; clear hw)
        go_ret
        exact ⟨0, rfl, HR.out 0 (fun _ => by rw [← HEN.out]; omega) HV.out⟩
  · have HV : Hid (M.RsE x.ents → (7 : Int) = M.freeS x s) := fun hr => by rw [HU.out hr]; rfl
    go_wp2_with (fail)
    go_ret
    exact ⟨7, rfl, HR.out 7 (by omega) HV.out⟩
end Go.Proofs.Ytlegjdlmcphhlab
