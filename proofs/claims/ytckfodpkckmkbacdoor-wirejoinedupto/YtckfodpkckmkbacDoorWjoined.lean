/-
  THE LAW WireJoined, walked: of any two texts it answers true, and all that was there stays.
-/
import Derived.Test.YtckfodpkckmkbacDoorWturns
namespace Go.Proofs.YtckfodpkckmkbacDoor
open Go.RowKit

theorem allB_self : ∀ xs : List M.Rec, allB sameR xs xs = true
  | [] => rfl
  | x :: xs => by rw [allB, allB_self xs]; simp [sameR, sameA]
theorem wpList_append_rowG {α : Type} {k : Nat} {cs : α → List Value} {P : Program} (w : World) {ops : Array Oper} {rest : List Oper} {o : Oper} {a : Act} {Q : Exit → Act → World → Prop} (hgd : Region.wanted o (yielded ops a.tmps) = true) (s x : Operand) (t : TypeId)
    (ho : o.op = .call { callee := .builtin .append, args := #[s, x], argTypes := #[t, t] })
    (B : Nat) (e : TypeId) (i : TypeInfo) (z : Value) (bytes : Nat) (ht : P.underlying t = some (.slice e)) (hi : P.info? e = some i) (hz : i.zero = some z)
    (hsize : i.size = k) (hby : i.bytes = bytes) (hzs : z.cells.size = k) (hsz : 0 < k) (v : Value) (n : Nat) (xs : List Value) (hs : a.eval s = v) (hown : w.ownsRow B e k v n xs)
    (A : Option Addr) (m c : Nat) (vs : List α) (hx : a.eval x = .slice A m c) (hrow : Row k cs w A m vs) (hk : ∀ v, (cs v).length = k) (h1 : ∀ v, ∀ u ∈ cs v, u.oneCell' = true)
    (h63 : n + m ≤ maxLen) (hbytes : (n + m) * bytes ≤ 140737488355328) (hbase : B ≤ w.heap.size)
    (h : ∀ v' w', w'.ownsRow B e k v' (n + m) (xs ++ vs.flatMap cs) → w.grownBy w' v.ownBlock → wpList P ops Q rest (a.put o.dst v') w') : wpList P ops Q (o :: rest) a w := by
  obtain ⟨v', w', hr, h2, h3⟩ := run_append_row (P := P) w B t o.type e i z bytes ht hi hz hsize hby hzs hsz v n xs hown A m c vs hrow hk h1 h63 hbytes hbase
  refine wpList_step fun K hK => ?_
  rw [if_pos hgd]
  unfold Oper.wp execOp
  simp only [ho, resolve, invoke, builtin, Sem.run_bind, Sem.run_pure, Result.andThen_ok, List.map_toArray, List.map_cons, List.map_nil, hs, hx, hr]
  exact hK _ _ (h v' w' h2 h3)
set_option maxRecDepth 8000 in
set_option maxHeartbeats 4000000 in
theorem joined_any (s t : ByteArray) (w : World) (hs : s.size + t.size < 4294967281) (he : Env w) :
    Calls Tryd.prog 4 #[.string s, .string t] w fun e w' => e = .returned (.bool true) ∧ Below w.heap.size w w' := by
  obtain ⟨i48, hi48, hz48, hs48, hb48⟩ := info_parts info48
  have HE : Hid (Env w ∧ s.size + t.size < 4294967281) := ⟨he, hs⟩
  have hadd : ∀ W : World, (Op.stringOp .add s t).run Tryd.prog W = .ok (.string (s ++ t)) W := add_any _ _ (by omega)
  clear he hs
  go_enter Tryd.func4, Tryd.ntmps4
  go_wp2_with (fail)
  refine (alive_any _ HE.out.1).mono ?_
  rintro e w1 ⟨rfl, hb1⟩
  have HB1 : Hid (Below w.heap.size w w1) := hb1
  clear hb1
  go_wp2_with (fail)
  refine (log_any s _ (by have := HE.out.2; omega) (HE.out.1.below HE.out.1.g HB1.out)).mono ?_
  rintro e w2 ⟨A2, n2, c2, vs2, rfl, hol2, hb2, hn2⟩
  have HB2 : Hid (Below w.heap.size w w2 ∧ TreeR w2 A2 n2 vs2 (M.logS s.data.toList).2 ∧ n2 ≤ s.size) := ⟨below_two HB1.out hb2, hol2.tree, hn2⟩
  clear hol2 hb2 hn2
  go_wp2_with (fail)
  refine (log_any t _ (by have := HE.out.2; omega) (HE.out.1.below HE.out.1.g HB2.out.1)).mono ?_
  rintro e w3 ⟨A3, n3, c3, vs3, rfl, hol3, hb3, hn3⟩
  have HB3 : Hid (Below w.heap.size w w3 ∧ TreeR w3 A2 n2 vs2 (M.logS s.data.toList).2 ∧ TreeR w3 A3 n3 vs3 (M.logS t.data.toList).2 ∧ n3 ≤ t.size) := ⟨below_two HB2.out.1 hb3, HB2.out.2.1.below (Nat.le_refl _) hb3, hol3.tree, hn3⟩
  clear hol3 hb3 hn3
  have HZ : Hid ((s ++ t).size < 4294967281) := by
    have := HE.out.2
    rw [Hid, ByteArray.size_append]
    exact this
  go_wp2_with (fail)
  refine (log_any (s ++ t) _ HZ.out (HE.out.1.below HE.out.1.g HB3.out.1)).mono ?_
  rintro e w4 ⟨A4, n4, c4, vs4, rfl, hol4, hb4, hn4⟩
  rw [data_append] at hol4
  rw [data_append]
  have HB4 : Hid (Below w.heap.size w w4 ∧ TreeR w4 A2 n2 vs2 (M.logS s.data.toList).2 ∧ TreeR w4 A3 n3 vs3 (M.logS t.data.toList).2 ∧ TreeR w4 A4 n4 vs4 (M.logS (s.data.toList ++ t.data.toList)).2 ∧ n4 ≤ (s ++ t).size) := ⟨below_two HB3.out.1 hb4, HB3.out.2.1.below (Nat.le_refl _) hb4, HB3.out.2.2.1.below (Nat.le_refl _) hb4, hol4.tree, hn4⟩
  clear hol4 hb4 hn4
  by_cases h1 : (M.logS s.data.toList).1 = 0
  case neg =>
    have hq1 : ((M.logS s.data.toList).1 == 0) = false := by rw [beq_eq_false_iff_ne]; exact h1
    clear h1
    go_wp2_with (fail)
    go_ret
    exact ⟨rfl, HB4.out.1⟩
  have hq1 : ((M.logS s.data.toList).1 == 0) = true := by rw [h1]; rfl
  have HJ : Hid (M.logS (s.data.toList ++ t.data.toList) = if (M.logS t.data.toList).1 ≠ 0 then ((M.logS t.data.toList).1, []) else (0, (M.logS s.data.toList).2 ++ (M.logS t.data.toList).2)) := by
    exact M.log_append t.data.toList _ s.data.toList (Nat.le_refl _) h1
  clear h1
  by_cases h2 : (M.logS t.data.toList).1 = 0
  case neg =>
    have hq2 : ((M.logS t.data.toList).1 == 0) = false := by rw [beq_eq_false_iff_ne]; exact h2
    have hq3 : ((M.logS (s.data.toList ++ t.data.toList)).1 == (M.logS t.data.toList).1) = true := by
      rw [HJ.out, if_pos h2]; simp
    clear h2
    go_wp2_with (fail)
    go_ret
    exact ⟨rfl, HB4.out.1⟩
  have hq2 : ((M.logS t.data.toList).1 == 0) = true := by rw [h2]; rfl
  have HK : Hid (M.logS (s.data.toList ++ t.data.toList) = (0, (M.logS s.data.toList).2 ++ (M.logS t.data.toList).2)) := by
    rw [Hid, HJ.out, if_neg (by simpa using h2)]
  have hq3 : ((M.logS (s.data.toList ++ t.data.toList)).1 == 0) = true := by rw [HK.out]; rfl
  clear h2 HJ
  have HN : Hid (n2 + n3 < 4294967281 ∧ n4 < 4294967281) := by
    have h1 := HE.out.2
    have h2 := HB2.out.2.2
    have h3 := HB3.out.2.2.2
    have h4 := HB4.out.2.2.2.2
    have h5 := HZ.out
    exact ⟨by omega, by omega⟩
  have HB0 : Hid ((w4.alloc (.cells #[] 37)).ownsRow w4.heap.size 37 9 (.slice (some ⟨w4.heap.size, 0, none⟩) 0 0) 0 [] ∧ Below w4.heap.size w4 (w4.alloc (.cells #[] 37))) :=
    ⟨World.ownsRow_lit w4 #[] 0 (Nat.le_refl _) (by decide) (by simp), (Below.refl _ _).alloc (Nat.le_refl _) _⟩
  clear HB1 HB2 HB3
  go_wp2_with (first
    | (go_at_call 8; refine (sameLog_any A4 A6 n4 (n2 + n3) c4 c6 vs4 (vs2 ++ vs3) _ _ _ (HB4.out.2.2.2.1.below (Nat.le_refl _) HR6.out.2) ⟨Row.ofOwn rec_len (by decide) HR6.out.1, All2.append ((HB4.out.2.1.below (Nat.le_refl _) HR6.out.2).2) ((HB4.out.2.2.1.below (Nat.le_refl _) HR6.out.2).2)⟩ (by have := HN.out; omega) (by have := HN.out; omega)).mono ?_; rintro e w7 ⟨rfl, hb7⟩; rw [HK.out, allB_self])
    | (at_builtin; have HR5' := HR5; refine wpList_append_rowG _ (by rfl) (.tmp 43) (.tmp 44) 22 (by rfl) w4.heap.size 37 i48 _ 104 Tryd.underlying22 hi48 hz48 hs48 hb48 rfl (by decide) _ n2 _ (by rfl) HR5.out.1 A3 n3 c3 vs3 (by rfl) (HB4.out.2.2.1.below (Nat.le_refl _) HR5.out.2).1 rec_len rec_one (by have := HN.out; unfold maxLen; omega) (by have := HN.out; omega) HR5.out.2.size ?_; intro v6 w6 hown6 hg6; obtain ⟨A6, c6, rfl, _, _⟩ := own_form hown6; have HR6 : Hid (w6.ownsRow w4.heap.size 37 9 (.slice A6 (n2 + n3) c6) (n2 + n3) ((vs2 ++ vs3).flatMap RV.cells) ∧ Below w4.heap.size w4 w6) := ⟨by rw [List.flatMap_append]; exact hown6, snoc_b HR5.out.2 HR5.out.2.size HR5.out.1 hg6⟩; clear hown6 hg6 HR5' HR5)
    | (at_builtin; have HB0' := HB0; refine wpList_append_rowG _ (by rfl) (.tmp 41) (.tmp 42) 22 (by rfl) w4.heap.size 37 i48 _ 104 Tryd.underlying22 hi48 hz48 hs48 hb48 rfl (by decide) _ 0 _ (by rfl) HB0.out.1 A2 n2 c2 vs2 (by rfl) (HB4.out.2.1.below (Nat.le_refl _) HB0.out.2).1 rec_len rec_one (by have := HN.out; unfold maxLen; omega) (by have := HN.out; omega) (by simp) ?_; intro v5 w5 hown5 hg5; have hown5 : w5.ownsRow w4.heap.size 37 9 v5 n2 (vs2.flatMap RV.cells) := (by simpa using hown5); obtain ⟨A5, c5, rfl, _, _⟩ := own_form hown5; have HR5 : Hid (w5.ownsRow w4.heap.size 37 9 (.slice A5 n2 c5) n2 (vs2.flatMap RV.cells) ∧ Below w4.heap.size w4 w5) := ⟨hown5, snoc_b HB0.out.2 HB0.out.2.size HB0.out.1 hg5⟩; clear hown5 hg5 HB0' HB0))
  go_ret
  exact ⟨rfl, (below_two HB4.out.1 HR6.out.2).trans (hb7.mono (below_two HB4.out.1 HR6.out.2).size)⟩
end Go.Proofs.YtckfodpkckmkbacDoor
