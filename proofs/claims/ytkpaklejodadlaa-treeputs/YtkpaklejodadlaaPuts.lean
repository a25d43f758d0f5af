/-
  THE LAW TreePuts, walked: of any tree, node and fid it answers true, and all that was there stays.
-/
import Derived.Test.YtkpaklejodadlaaAlive
import Derived.Deep.Cut
namespace Go.Proofs.Ytkpaklejodadlaa
open Go.RowKit

theorem findN_put (xs : List M.Nd) (x : M.Nd) : M.find (M.putN xs x) x.fid = some x := M.put_find (fun y : M.Nd => y.fid) xs M.ordI x
theorem findN_other (xs : List M.Nd) (x : M.Nd) (t : Int) (h : t ≠ x.fid) : M.find (M.putN xs x) t = M.find xs t := M.put_find_other (fun y : M.Nd => y.fid) xs M.ordI x t h
theorem findN_drop (xs : List M.Nd) (t : Int) : M.find (M.dropN xs t) t = none := M.find_filter_none (fun y : M.Nd => y.fid) xs _ t (fun y _ e => by simp [e])
theorem rs_put {xs : List M.Nd} (x : M.Nd) (h : M.RsN xs) : M.RsN (M.putN xs x) := M.put_rs (fun y : M.Nd => y.fid) xs M.ordI x h
theorem rs_drop {xs : List M.Nd} (t : Int) (h : M.RsN xs) : M.RsN (M.dropN xs t) := M.rs_sub h (List.filter_sublist.map _)
theorem small_put {xs : List M.Nd} {x : M.Nd} (h : ∀ y ∈ xs, Small y) (hx : Small x) : ∀ y ∈ M.putN xs x, Small y := by
  intro y hy
  unfold M.putN M.put at hy
  rcases List.mem_append.1 hy with h1 | h1
  · exact h y (List.mem_filter.1 h1).1
  · rcases List.mem_cons.1 h1 with h2 | h2
    · rw [h2]; exact hx
    · exact h y (List.mem_filter.1 h2).1
theorem small_drop {xs : List M.Nd} (t : Int) (h : ∀ y ∈ xs, Small y) : ∀ y ∈ M.dropN xs t, Small y := fun y hy => h y (List.mem_filter.1 hy).1
theorem small_get {xs : List M.Nd} (t : Int) (h : ∀ y ∈ xs, Small y) : Small ((M.find xs t).getD nd0) := by
  cases hf : M.find xs t with
  | none => exact small_any (by simp [nd0]) (by simp [nd0])
  | some y => exact h y (List.mem_of_find?_eq_some hf)

theorem below_new {w w' : World} (h : Below w.heap.size w w') (o : Obj) : Below w.heap.size w (w'.alloc o) := h.alloc h.size o

set_option maxHeartbeats 20000000 in
theorem puts_any (A : Option Addr) (n c : Nat) (vs : List NV) (xs : List M.Nd) (v : NV) (x : M.Nd) (t : Int) (w : World) (ht : Tree w A n vs xs) (hn : (n + 1) * 72 ≤ 140737488355328) (hs : ∀ x ∈ xs, Small x) (hc : Cont w v x) (hsx : Small x) :
    Calls Try.prog 4 #[.slice A n c, v.val, .int .i64 t] w fun e w' => e = .returned (.bool true) ∧ Below w.heap.size w w' := by
  have HC : Hid (Tree w A n vs xs ∧ (∀ x ∈ xs, Small x) ∧ Cont w v x ∧ Small x) := ⟨ht, hs, hc, hsx⟩
  have hwa : Below w.heap.size w (w.alloc (.cells #[.int .i64 v.fid, .bool v.dir, .slice v.dA v.dn v.dc, .slice v.eA v.en v.ec, .int .i64 v.ver] 26)) := (Below.refl _ _).alloc (Nat.le_refl _) _
  have HB : Hid (Box (w.alloc (.cells #[.int .i64 v.fid, .bool v.dir, .slice v.dA v.dn v.dc, .slice v.eA v.en v.ec, .int .i64 v.ver] 26)) w.heap.size v) := Box.new w v
  have HVX : Hid (v.fid = x.fid) := hc.1
  clear ht hs hc hsx
  go_enter Try.func4, Try.ntmps4
  go_wp2_with (fail)
  refine (alive_any _).mono ?_
  rintro e w1 ⟨rfl, hb1⟩
  have H1 : Hid (Below w.heap.size w w1 ∧ Box w1 w.heap.size v) := ⟨hwa.trans (hb1.mono (by simp)), HB.out.below hb1 (by simp)⟩
  clear hb1 hwa HB
  go_wp2_with (fail)
  refine (rises_any A n c vs xs _ (HC.out.1.below (Nat.le_refl _) H1.out.1) (by omega) HC.out.2.1).mono ?_
  rintro e w2 ⟨rfl, hb2⟩
  have H2 : Hid (Below w.heap.size w w2 ∧ Box w2 w.heap.size v) := ⟨H1.out.1.trans (hb2.mono H1.out.1.size), H1.out.2.below hb2 (lt_of_block H1.out.2)⟩
  clear hb2 H1
  cases hrb : riseB xs
  case' false =>
    go_wp2
    go_ret
    exact ⟨rfl, H2.out.1⟩
  have HR : Hid (M.RsN xs) := (riseB_iff.1 hrb).1
  clear hrb
  obtain ⟨p0, p1, p2, p3, p4, pf, pz⟩ := H2.out.2.facts
  go_wp2_with (fail)
  refine (put_any A n c vs xs v x _ (HC.out.1.below (Nat.le_refl _) H2.out.1) HR.out hn HC.out.2.1 (HC.out.2.2.1.below (Nat.le_refl _) H2.out.1) HC.out.2.2.2).mono ?_
  rintro e w3 ⟨P, m, d, us, rfl, hmn, hot3, hb3⟩
  have H3 : Hid (Below w.heap.size w w3 ∧ Box w3 w.heap.size v ∧ Tree w3 P m us (M.putN xs x)) := ⟨H2.out.1.trans (hb3.mono H2.out.1.size), H2.out.2.below hb3 pz, hot3.tree⟩
  clear hb3 hot3 H2 p0 p1 p2 p3 p4 pf pz
  obtain ⟨p0, p1, p2, p3, p4, pf, pz⟩ := H3.out.2.1.facts
  have HSP : Hid (∀ y ∈ M.putN xs x, Small y) := small_put HC.out.2.1 HC.out.2.2.2
  have HRP : Hid (M.RsN (M.putN xs x)) := rs_put x HR.out
  go_wp2_with (fail)
  refine (find_any P m d us (M.putN xs x) v.fid _ H3.out.2.2 HRP.out (by omega) HSP.out).mono ?_
  rintro e w4 ⟨v4, rfl, hon4, hb4⟩
  have hf4 : M.find (M.putN xs x) v.fid = some x := by rw [HVX.out]; exact findN_put xs x
  rw [hf4] at hon4 ⊢
  simp only [Option.isSome_some]
  have hwd : Below w4.heap.size w4 (w4.alloc (.cells #[.int .i64 v4.fid, .bool v4.dir, .slice v4.dA v4.dn v4.dc, .slice v4.eA v4.en v4.ec, .int .i64 v4.ver] 26)) := (Below.refl _ _).alloc (Nat.le_refl _) _
  have hbw4 : Below w.heap.size w w4 := H3.out.1.trans (hb4.mono H3.out.1.size)
  have H4 : Hid (Below w.heap.size w (w4.alloc (.cells #[.int .i64 v4.fid, .bool v4.dir, .slice v4.dA v4.dn v4.dc, .slice v4.eA v4.en v4.ec, .int .i64 v4.ver] 26)) ∧ Box (w4.alloc (.cells #[.int .i64 v4.fid, .bool v4.dir, .slice v4.dA v4.dn v4.dc, .slice v4.eA v4.en v4.ec, .int .i64 v4.ver] 26)) w.heap.size v ∧ Tree (w4.alloc (.cells #[.int .i64 v4.fid, .bool v4.dir, .slice v4.dA v4.dn v4.dc, .slice v4.eA v4.en v4.ec, .int .i64 v4.ver] 26)) P m us (M.putN xs x) ∧ Cont (w4.alloc (.cells #[.int .i64 v4.fid, .bool v4.dir, .slice v4.dA v4.dn v4.dc, .slice v4.eA v4.en v4.ec, .int .i64 v4.ver] 26)) v4 x) :=
    ⟨hbw4.trans (hwd.mono hbw4.size), (H3.out.2.1.below hb4 pz).alloc _, (H3.out.2.2.below (Nat.le_refl _) hb4).below (Nat.le_refl _) hwd, hon4.cont.below (Nat.le_refl _) hwd⟩
  clear hon4 hb4 hwd hbw4 hf4 H3 p0 p1 p2 p3 p4 pf pz
  obtain ⟨p0, p1, p2, p3, p4, pf, pz⟩ := H4.out.2.1.facts
  go_wp2_with (fail)
  refine (sameNode_any v4 v x x true _ H4.out.2.2.2 (HC.out.2.2.1.below (Nat.le_refl _) H4.out.1) HC.out.2.2.2 HC.out.2.2.2).mono ?_
  rintro e w5 ⟨rfl, hb5⟩
  rw [same_self]
  have H5 : Hid (Below w.heap.size w w5 ∧ Box w5 w.heap.size v ∧ Tree w5 P m us (M.putN xs x)) := ⟨H4.out.1.trans (hb5.mono H4.out.1.size), H4.out.2.1.below hb5 pz, H4.out.2.2.1.below (Nat.le_refl _) hb5⟩
  clear hb5 H4 p0 p1 p2 p3 p4 pf pz
  obtain ⟨p0, p1, p2, p3, p4, pf, pz⟩ := H5.out.2.1.facts
  have HFD : Hid (M.find (M.dropN (M.putN xs x) v.fid) v.fid = none) := findN_drop _ _
  have HRD : Hid (M.RsN (M.dropN (M.putN xs x) v.fid)) := rs_drop _ HRP.out
  have HSD : Hid (∀ y ∈ M.dropN (M.putN xs x) v.fid, Small y) := small_drop _ HSP.out
  go_upto_region 9 with (fail)
  go_cut [10, 11] from 38 (fun _ b W => b = .bool false ∧ Below w5.heap.size w5 W)
  case first =>
   go_region_with (first
    | (go_at_call 8; refine (find_any B6 m6 d6 us6 (M.dropN (M.putN xs x) v.fid) v.fid (w6.alloc (.cells #[.int .i64 0, .bool false, .slice none 0 0, .slice none 0 0, .int .i64 0] 26)) (H6.out.2.1.below (Nat.le_refl _) ((Below.refl _ _).alloc (Nat.le_refl _) _)) HRD.out (by omega) HSD.out).mono ?_; rintro e w7 ⟨v7, rfl, hon7, hb7⟩; rw [HFD.out]; simp only [Option.isSome_none]; have H7 : Hid (Below w5.heap.size w5 w7 ∧ Box w7 w.heap.size v) := ⟨H6.out.1.trans (((Below.refl _ _).alloc (Nat.le_refl _) _ : Below w6.heap.size w6 (w6.alloc (.cells #[.int .i64 0, .bool false, .slice none 0 0, .slice none 0 0, .int .i64 0] 26))).mono H6.out.1.size |>.trans (hb7.mono (by simp; have := H6.out.1.size; omega))), (H6.out.2.2.alloc _).below hb7 (by simp; have := lt_of_block H6.out.2.2; omega)⟩; have HZ : Hid (Box w7 w6.heap.size NV.zero) := (Box.new0 w6).below hb7 (by simp); obtain ⟨z0, z1, z2, z3, z4, zf, zz⟩ := HZ.out.facts; clear hon7 hb7 p0 p1 p2 p3 p4 pf; obtain ⟨p0, p1, p2, p3, p4, pf, pz7⟩ := H7.out.2.facts)
    | (go_at_call 8; refine (find_any B6 m6 d6 us6 (M.dropN (M.putN xs x) v.fid) v.fid w6 H6.out.2.1 HRD.out (by omega) HSD.out).mono ?_; rintro e w7 ⟨v7, rfl, hon7, hb7⟩; rw [HFD.out]; simp only [Option.isSome_none]; have H7 : Hid (Below w5.heap.size w5 w7 ∧ Box w7 w.heap.size v) := ⟨H6.out.1.trans (hb7.mono H6.out.1.size), H6.out.2.2.below hb7 (lt_of_block H6.out.2.2)⟩; first | (have HZ7 : Hid (Box w7 w5.heap.size NV.zero) := HZ6.out.below hb7 (lt_of_block HZ6.out); obtain ⟨z0, z1, z2, z3, z4, zf, zz⟩ := HZ7.out.facts; clear hon7 hb7) | (clear hon7 hb7); clear p0 p1 p2 p3 p4 pf; obtain ⟨p0, p1, p2, p3, p4, pf, pz7⟩ := H7.out.2.facts)
    | (go_at_call 14; refine (drop_any P m d us (M.putN xs x) v.fid (w5.alloc (.cells #[.int .i64 0, .bool false, .slice none 0 0, .slice none 0 0, .int .i64 0] 26)).drew (H5.out.2.2.below (Nat.le_refl _) (((Below.refl _ _).alloc (Nat.le_refl _) _).drew)) (by omega) HSP.out).mono ?_; rintro e w6 ⟨B6, m6, d6, us6, rfl, hm6, hot6, hb6⟩; have H6 : Hid (Below w5.heap.size w5 w6 ∧ Tree w6 B6 m6 us6 (M.dropN (M.putN xs x) v.fid) ∧ Box w6 w.heap.size v) := ⟨((((Below.refl _ _).alloc (Nat.le_refl _) _).drew : Below w5.heap.size w5 (w5.alloc (.cells #[.int .i64 0, .bool false, .slice none 0 0, .slice none 0 0, .int .i64 0] 26)).drew).trans (hb6.mono (by simp))), hot6.tree, Box.below (w := (w5.alloc (.cells #[.int .i64 0, .bool false, .slice none 0 0, .slice none 0 0, .int .i64 0] 26)).drew) (H5.out.2.1.alloc _) hb6 (by simp; omega)⟩; have HZ6 : Hid (Box w6 w5.heap.size NV.zero) := Box.below (w := (w5.alloc (.cells #[.int .i64 0, .bool false, .slice none 0 0, .slice none 0 0, .int .i64 0] 26)).drew) (Box.new0 w5) hb6 (by simp); have HS65 : Hid (w5.heap.size ≤ w6.heap.size ∧ w5.heap.size ≤ w5.heap.size) := ⟨H6.out.1.size, Nat.le_refl _⟩; clear hot6 hb6 p0 p1 p2 p3 p4 pf; obtain ⟨p0, p1, p2, p3, p4, pf, pz6⟩ := H6.out.2.2.facts)
    | (go_at_call 14; refine (drop_any P m d us (M.putN xs x) v.fid w5.drew (H5.out.2.2.below (Nat.le_refl _) ((Below.refl _ _).drew)) (by omega) HSP.out).mono ?_; rintro e w6 ⟨B6, m6, d6, us6, rfl, hm6, hot6, hb6⟩; have H6 : Hid (Below w5.heap.size w5 w6 ∧ Tree w6 B6 m6 us6 (M.dropN (M.putN xs x) v.fid) ∧ Box w6 w.heap.size v) := ⟨(((Below.refl _ _).drew : Below w5.heap.size w5 w5.drew).trans (hb6.mono (Nat.le_refl _))), hot6.tree, Box.below (w := w5.drew) H5.out.2.1 hb6 pz⟩; have HS65 : Hid (w5.heap.size ≤ w6.heap.size ∧ w5.heap.size ≤ w5.heap.size) := ⟨H6.out.1.size, Nat.le_refl _⟩; clear hot6 hb6 p0 p1 p2 p3 p4 pf; obtain ⟨p0, p1, p2, p3, p4, pf, pz6⟩ := H6.out.2.2.facts))
   all_goals
    go_wp2_with (fail)
    go_meet
    case rel => exact ⟨rfl, by first | with_reducible exact below_new H7.out.1 _ | with_reducible exact put5_below H7.out.1 HS65.out.1 0 v7 | with_reducible exact put5_below H7.out.1 HS65.out.2 0 v7⟩
  case rest =>
    obtain ⟨rfl, hbc⟩ := hcut
    have Hc : Hid (Below w.heap.size w wc ∧ Box wc w.heap.size v ∧ Tree wc P m us (M.putN xs x)) := ⟨H5.out.1.trans (hbc.mono H5.out.1.size), H5.out.2.1.below hbc pz, H5.out.2.2.below (Nat.le_refl _) hbc⟩
    clear hbc H5 p0 p1 p2 p3 p4 pf pz
    obtain ⟨p0, p1, p2, p3, p4, pf, pz⟩ := Hc.out.2.1.facts
    by_cases htv : t = v.fid
    · have q : (t == v.fid) = true := by simp [htv]
      clear htv
      go_wp2
      go_ret
      exact ⟨rfl, Hc.out.1⟩
    · have q : (t == v.fid) = false := by simp [htv]
      have HOT : Hid (M.find (M.putN xs x) t = M.find xs t) := findN_other xs x t (by rw [← HVX.out]; exact htv)
      clear htv
      go_wp2_with (fail)
      refine (find_any A n c vs xs t _ (HC.out.1.below (Nat.le_refl _) Hc.out.1) HR.out (by omega) HC.out.2.1).mono ?_
      rintro e w8 ⟨v8, rfl, hon8, hb8⟩
      have hwe : Below w8.heap.size w8 (w8.alloc (.cells #[.int .i64 v8.fid, .bool v8.dir, .slice v8.dA v8.dn v8.dc, .slice v8.eA v8.en v8.ec, .int .i64 v8.ver] 26)) := (Below.refl _ _).alloc (Nat.le_refl _) _
      have hbw8 : Below w.heap.size w w8 := Hc.out.1.trans (hb8.mono Hc.out.1.size)
      have H8 : Hid (Below w.heap.size w (w8.alloc (.cells #[.int .i64 v8.fid, .bool v8.dir, .slice v8.dA v8.dn v8.dc, .slice v8.eA v8.en v8.ec, .int .i64 v8.ver] 26)) ∧ Tree (w8.alloc (.cells #[.int .i64 v8.fid, .bool v8.dir, .slice v8.dA v8.dn v8.dc, .slice v8.eA v8.en v8.ec, .int .i64 v8.ver] 26)) P m us (M.putN xs x) ∧ Cont (w8.alloc (.cells #[.int .i64 v8.fid, .bool v8.dir, .slice v8.dA v8.dn v8.dc, .slice v8.eA v8.en v8.ec, .int .i64 v8.ver] 26)) v8 ((M.find xs t).getD nd0) ∧ Box (w8.alloc (.cells #[.int .i64 v8.fid, .bool v8.dir, .slice v8.dA v8.dn v8.dc, .slice v8.eA v8.en v8.ec, .int .i64 v8.ver] 26)) w8.heap.size v8) :=
        ⟨hbw8.trans (hwe.mono hbw8.size), (Hc.out.2.2.below (Nat.le_refl _) hb8).below (Nat.le_refl _) hwe, hon8.cont.below (Nat.le_refl _) hwe, Box.new w8 v8⟩
      clear hon8 hb8 hwe hbw8 Hc p0 p1 p2 p3 p4 pf pz
      go_wp2_with (fail)
      refine (find_any P m d us (M.putN xs x) t _ H8.out.2.1 HRP.out (by omega) HSP.out).mono ?_
      rintro e w9 ⟨v9, rfl, hon9, hb9⟩
      rw [HOT.out] at hon9 ⊢
      have hz9 := hb9.size
      simp at hz9
      have hwf : Below w9.heap.size w9 (w9.alloc (.cells #[.int .i64 v9.fid, .bool v9.dir, .slice v9.dA v9.dn v9.dc, .slice v9.eA v9.en v9.ec, .int .i64 v9.ver] 26)) := (Below.refl _ _).alloc (Nat.le_refl _) _
      have hbw9 : Below w.heap.size w w9 := H8.out.1.trans (hb9.mono H8.out.1.size)
      have H9 : Hid (Below w.heap.size w (w9.alloc (.cells #[.int .i64 v9.fid, .bool v9.dir, .slice v9.dA v9.dn v9.dc, .slice v9.eA v9.en v9.ec, .int .i64 v9.ver] 26)) ∧ Cont (w9.alloc (.cells #[.int .i64 v9.fid, .bool v9.dir, .slice v9.dA v9.dn v9.dc, .slice v9.eA v9.en v9.ec, .int .i64 v9.ver] 26)) v8 ((M.find xs t).getD nd0) ∧ Cont (w9.alloc (.cells #[.int .i64 v9.fid, .bool v9.dir, .slice v9.dA v9.dn v9.dc, .slice v9.eA v9.en v9.ec, .int .i64 v9.ver] 26)) v9 ((M.find xs t).getD nd0)) :=
        ⟨hbw9.trans (hwf.mono hbw9.size), (H8.out.2.2.1.below (Nat.le_refl _) hb9).below (Nat.le_refl _) hwf, hon9.cont.below (Nat.le_refl _) hwf⟩
      have hb89 : Box w9 w8.heap.size v8 := H8.out.2.2.2.below hb9 (by simp)
      obtain ⟨p0, p1, p2, p3, p4, pf, pz⟩ := hb89.facts
      have qq : ((M.find xs t).isSome == (M.find xs t).isSome) = true := by simp
      have HSG : Hid (Small ((M.find xs t).getD nd0)) := small_get t HC.out.2.1
      clear hon9 hb9 hwf hbw9 hb89
      go_wp2_with (fail)
      refine (sameNode_any v8 v9 _ _ true _ H9.out.2.1 H9.out.2.2 HSG.out HSG.out).mono ?_
      rintro e w10 ⟨rfl, hb10⟩
      rw [same_self]
      go_wp2
      go_ret
      exact ⟨rfl, H9.out.1.trans (hb10.mono H9.out.1.size)⟩
end Go.Proofs.Ytkpaklejodadlaa
