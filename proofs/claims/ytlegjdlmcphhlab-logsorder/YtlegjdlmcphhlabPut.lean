/-
  set, Put, Enter.
-/
import Derived.Test.YtlegjdlmcphhlabIns
import Derived.Deep.RegionWith
namespace Go.Proofs.Ytlegjdlmcphhlab
open Go.RowKit

/-- x at i: in the place of what stands there, if that is its own, else ahead of it -/
def setAt {α : Type} (own : Bool) (i : Nat) (x : α) (xs : List α) : List α := if own then xs.set i x else xs.take i ++ x :: xs.drop i

set_option maxHeartbeats 1000000 in
theorem setE_any (A : Option Addr) (B n c i : Nat) (own : Bool) (xs : List (ByteArray × Int)) (x : (ByteArray × Int)) (w : World) (hown : w.ownsRow B 68 2 (.slice A n c) n (xs.flatMap entCells)) (hin : i ≤ n) (ho : own = true → i < n) (hbig : (n + 1) * 24 ≤ 140737488355328) (hB : B ≤ w.heap.size) :
    Calls Try.prog 78 #[.slice A n c, .int .i64 i, .bool own, .agg #[.string x.1, .int .i64 x.2]] w fun e w' => ∃ A' n' c', e = .returned (.slice A' n' c') ∧ n' ≤ n + 1 ∧ w'.ownsRow B 68 2 (.slice A' n' c') n' ((setAt own i x xs).flatMap entCells) ∧ w.grownBy w' (Value.slice A n c).ownBlock := by
  have HO : Hid (w.ownsRow B 68 2 (.slice A n c) n (xs.flatMap entCells)) := hown
  clear hown
  cases own
  · have hbx := (Box2.new w x)
    have hlt : (Value.slice A n c).ownBlock ≠ some (w.heap.size + 1) := fun e => by have := (HO.out.lt _ e).2; omega
    have HLT : Hid ((Value.slice A n c).ownBlock ≠ some (w.heap.size + 1)) := hlt
    clear hbx hlt
    go_enter Try.func78, Try.ntmps78
    go_wp2_with (fail)
    refine (insE_any A B n c i (w.heap.size + 1) xs x _ ((HO.out.alloc _).alloc _) hin hbig (by simp; omega) (by have := Box2.new (w.alloc (.cells #[.string x.1, .int .i64 x.2] 68)) x; simpa using this) HLT.out).mono ?_
    rintro e w1 ⟨A1, c1, rfl, hown1, hg1⟩
    go_wp2
    go_ret
    exact ⟨A1, n + 1, c1, rfl, Nat.le_refl _, hown1, grown_trans (grown_trans (World.grownBy_alloc _ _ _) (World.grownBy_alloc _ _ _)) hg1⟩
  · have hi := ho rfl
    obtain ⟨g, rfl, hBg, hgl⟩ := own_some HO.out (by omega)
    obtain ⟨y, _, c0, c1, hfz, hgz⟩ := own_at2 HO.out hi
    have HP := own_put2 HO.out i hi x
    have HPH : Hid _ := HP
    clear HP
    go_enter Try.func78, Try.ntmps78
    go_wp2
    go_ret
    exact ⟨_, n, c, rfl, by omega, HPH.out.1.alloc _, grown_trans HPH.out.2 (World.grownBy_alloc _ _ _)⟩

set_option maxHeartbeats 1000000 in
theorem setN_any (A : Option Addr) (B n c i : Nat) (own : Bool) (xs : List NV) (x : NV) (w : World) (hown : w.ownsRow B 40 5 (.slice A n c) n (xs.flatMap NV.cells)) (hin : i ≤ n) (ho : own = true → i < n) (hbig : (n + 1) * 72 ≤ 140737488355328) (hB : B ≤ w.heap.size) :
    Calls Try.prog 90 #[.slice A n c, .int .i64 i, .bool own, x.val] w fun e w' => ∃ A' n' c', e = .returned (.slice A' n' c') ∧ n' ≤ n + 1 ∧ w'.ownsRow B 40 5 (.slice A' n' c') n' ((setAt own i x xs).flatMap NV.cells) ∧ w.grownBy w' (Value.slice A n c).ownBlock := by
  have HO : Hid (w.ownsRow B 40 5 (.slice A n c) n (xs.flatMap NV.cells)) := hown
  clear hown
  cases own
  · have hbx := (Box5.new w x)
    have hlt : (Value.slice A n c).ownBlock ≠ some (w.heap.size + 1) := fun e => by have := (HO.out.lt _ e).2; omega
    have HLT : Hid ((Value.slice A n c).ownBlock ≠ some (w.heap.size + 1)) := hlt
    clear hbx hlt
    go_enter Try.func90, Try.ntmps90
    go_wp2_with (fail)
    refine (insN_any A B n c i (w.heap.size + 1) xs x _ ((HO.out.alloc _).alloc _) hin hbig (by simp; omega) (by have := Box5.new (w.alloc (.cells #[.int .i64 x.fid, .bool x.dir, .slice x.dA x.dn x.dc, .slice x.eA x.en x.ec, .int .i64 x.ver] 40)) x; simpa using this) HLT.out).mono ?_
    rintro e w1 ⟨A1, c1, rfl, hown1, hg1⟩
    go_wp2
    go_ret
    exact ⟨A1, n + 1, c1, rfl, Nat.le_refl _, hown1, grown_trans (grown_trans (World.grownBy_alloc _ _ _) (World.grownBy_alloc _ _ _)) hg1⟩
  · have hi := ho rfl
    obtain ⟨g, rfl, hBg, hgl⟩ := own_some HO.out (by omega)
    obtain ⟨y, _, c0, c1, c2, c3, c4, hfz, hgz⟩ := own_at5 HO.out hi
    have HP := own_put5 HO.out i hi x
    have HPH : Hid _ := HP
    clear HP
    go_enter Try.func90, Try.ntmps90
    go_wp2
    go_ret
    exact ⟨_, n, c, rfl, by omega, HPH.out.1.alloc _, grown_trans HPH.out.2 (World.grownBy_alloc _ _ _)⟩

/-- a node, with these entries -/
def withE (x : M.Nd) (es : List (ByteArray × Int)) : M.Nd := { x with ents := es }
theorem setAt_putE {es : List (ByteArray × Int)} {t : ByteArray} {f : Int} {i : Nat} {b : Bool} (hr : M.RsE es) (hm : M.Mid M.ltB (es.map (·.1)) t i i) (hb : b = decide ((es.map (·.1))[i]? = some t)) : setAt b i (t, f) es = M.putE es (t, f) := by
  unfold setAt M.putE M.put
  have hlow := M.mid_low (·.1) es t hr hm
  cases b
  · have hne := of_decide_eq_false hb.symm
    have hhigh := M.mid_high (·.1) es t M.ordB hr hm hne
    simp only [hlow, hhigh]
    rfl
  · have he := of_decide_eq_true hb.symm
    have hhigh := M.mid_high_at (·.1) es t M.ordB hr hm he
    simp only [hlow, hhigh]
    have hi : i < es.length := by
      rcases Nat.lt_or_ge i (es.map (·.1)).length with h1 | h1
      · simpa using h1
      · rw [List.getElem?_eq_none h1] at he; cases he
    rw [if_pos trivial, List.set_eq_take_append_cons_drop, if_pos hi]
theorem setAt_putN {us : List NV} {xs : List M.Nd} {w : World} {B : Nat} {v : NV} {x : M.Nd} {i : Nat} {b : Bool} (ha : All2 (OwnN w B) us xs) (hv : OwnN w B v x) (hr : M.RsN xs) (hm : M.Mid M.ltI (xs.map (·.fid)) x.fid i i) (hb : b = decide ((xs.map (·.fid))[i]? = some x.fid)) : All2 (OwnN w B) (setAt b i v us) (M.putN xs x) := by
  unfold setAt M.putN M.put
  have hlow := M.mid_low (·.fid) xs x.fid hr hm
  cases b
  · have hne := of_decide_eq_false hb.symm
    have hhigh := M.mid_high (·.fid) xs x.fid M.ordI hr hm hne
    simp only [hlow, hhigh]
    exact All2.append (ha.take i) (All2.cons hv (ha.drop i))
  · have he := of_decide_eq_true hb.symm
    have hhigh := M.mid_high_at (·.fid) xs x.fid M.ordI hr hm he
    simp only [hlow, hhigh]
    have hi : i < us.length := by
      rw [ha.1]
      rcases Nat.lt_or_ge i (xs.map (·.fid)).length with h1 | h1
      · simpa using h1
      · rw [List.getElem?_eq_none h1] at he; cases he
    rw [if_pos trivial, List.set_eq_take_append_cons_drop, if_pos hi]
    exact All2.append (ha.take i) (All2.cons hv (ha.drop (i + 1)))

theorem setAt_len {α : Type} (b : Bool) (i : Nat) (x : α) (xs : List α) : (setAt b i x xs).length ≤ xs.length + 1 := by
  unfold setAt
  split
  · rw [List.length_set]; omega
  · rw [List.length_append, List.length_cons, List.length_take, List.length_drop]; omega
theorem setAt_mem {α : Type} {b : Bool} {i : Nat} {x y : α} {xs : List α} (h : y ∈ setAt b i x xs) : y = x ∨ y ∈ xs := by
  unfold setAt at h
  split at h
  · rcases List.mem_or_eq_of_mem_set h with h | h
    · exact .inr h
    · exact .inl h
  · rcases List.mem_append.1 h with h | h
    · exact .inr (List.mem_of_mem_take h)
    · rcases List.mem_cons.1 h with h | h
      · exact .inl h
      · exact .inr (List.mem_of_mem_drop h)
theorem setAt_all2 {α β : Type} {R : α → β → Prop} {us : List α} {xs : List β} {v : α} {x : β} (ha : All2 R us xs) (hv : R v x) (b : Bool) (i : Nat) (hi : b = true → i < us.length) : All2 R (setAt b i v us) (setAt b i x xs) := by
  unfold setAt
  cases b
  · simp only [Bool.false_eq_true, if_false]
    exact All2.append (ha.take i) (All2.cons hv (ha.drop i))
  · simp only [if_true]
    rw [List.set_eq_take_append_cons_drop, if_pos (hi rfl), List.set_eq_take_append_cons_drop, if_pos (by rw [← ha.1]; exact hi rfl)]
    exact All2.append (ha.take i) (All2.cons hv (ha.drop (i + 1)))
theorem setAt_putN' {xs : List M.Nd} {x : M.Nd} {i : Nat} {b : Bool} (hr : M.RsN xs) (hm : M.Mid M.ltI (xs.map (·.fid)) x.fid i i) (hb : b = decide ((xs.map (·.fid))[i]? = some x.fid)) : setAt b i x xs = M.putN xs x := by
  unfold setAt M.putN M.put
  have hlow := M.mid_low (·.fid) xs x.fid hr hm
  cases b
  · have hne := of_decide_eq_false hb.symm
    have hhigh := M.mid_high (·.fid) xs x.fid M.ordI hr hm hne
    simp only [hlow, hhigh]
    rfl
  · have he := of_decide_eq_true hb.symm
    have hhigh := M.mid_high_at (·.fid) xs x.fid M.ordI hr hm he
    simp only [hlow, hhigh]
    have hi : i < xs.length := by
      rcases Nat.lt_or_ge i (xs.map (·.fid)).length with h1 | h1
      · simpa using h1
      · rw [List.getElem?_eq_none h1] at he; cases he
    rw [if_pos trivial, List.set_eq_take_append_cons_drop, if_pos hi]
/-- what comes of a name that is entered; of a list that rises: in its place -/
def Entered (es : List (ByteArray × Int)) (s : ByteArray) (f : Int) (es' : List (ByteArray × Int)) : Prop := es'.length ≤ es.length + 1 ∧ (M.RsE es → es' = M.putE es (s, f))
/-- what comes of a node that is put -/
def Putted (xs : List M.Nd) (x : M.Nd) (ys : List M.Nd) : Prop := (∀ y ∈ ys, y = x ∨ y ∈ xs) ∧ (M.RsN xs → ys = M.putN xs x)

set_option maxHeartbeats 1000000 in
theorem enter_gen (v : NV) (x : M.Nd) (s : ByteArray) (f : Int) (w : World) (hc : Cont w v x) (hs : Small x) (hs1 : (x.ents.length + 1) * 24 ≤ 140737488355328) :
    Calls Try.prog 60 #[v.val, .string s, .int .i64 f] w fun e w' => ∃ (v' : NV) (es : List (ByteArray × Int)), e = .returned v'.val ∧ OwnN w' w.heap.size v' (withE x es) ∧ Entered x.ents s f es ∧ Below w.heap.size w w' := by
  have hB0 : ∀ W : World, W = (w.alloc (.cells #[.int .i64 v.fid, .bool v.dir, .slice v.dA v.dn v.dc, .slice v.eA v.en v.ec, .int .i64 v.ver] 40)).alloc (.cells #[.int .i64 0, .bool false, .slice none 0 0, .slice none 0 0, .int .i64 0] 40) →
      Box W w.heap.size v ∧ Box W (w.heap.size + 1) NV.zero ∧ W.heap.size = w.heap.size + 2 ∧ Below w.heap.size w W := by
    rintro W rfl
    refine ⟨(Box.new w v).alloc _, ?_, by simp, ((Below.refl _ _).alloc (Nat.le_refl _) _).alloc (by simp) _⟩
    have := Box.new0 (w.alloc (.cells #[.int .i64 v.fid, .bool v.dir, .slice v.dA v.dn v.dc, .slice v.eA v.en v.ec, .int .i64 v.ver] 40))
    simpa using this
  have HB0 : Hid _ := hB0
  have HC : Hid (Cont w v x ∧ Small x) := ⟨hc, hs⟩
  have hen : v.en ≤ 140737488355328 := by have := hc.2.2.2.2.1; omega
  clear hB0 hc hs
  go_enter Try.func60, Try.ntmps60
  go_wp2_with (fail)
  obtain ⟨q0, q2, q3, q4⟩ := HB0.out _ rfl
  refine (spot_any v.eA v.en v.ec x.ents s _ (HC.out.1.2.2.2.2.below (Nat.le_refl _) q4) (by omega)).mono ?_
  rintro e w0 ⟨i, b, rfl, hin, hb, hm, hb0⟩
  have hz0 := hb0.size
  rw [q3] at hz0
  have HM : Hid (M.Mid M.ltB (x.ents.map (·.1)) s i i ∧ b = decide ((x.ents.map (·.1))[i]? = some s)) := ⟨hm, hb⟩
  have HX0 : Hid (Box w0 w.heap.size v ∧ Box w0 (w.heap.size + 1) NV.zero ∧ Below w.heap.size w w0) := ⟨q0.below hb0 (by omega), q2.below hb0 (by omega), q4.trans (hb0.mono (by omega))⟩
  clear q0 q2 q3 q4 hb0 HB0 hb hm
  obtain ⟨p0, p1, p2, p3, p4, pf, pz⟩ := HX0.out.1.facts
  go_wp2_with (fail)
  refine (ownNode_any v x _ (HC.out.1.below (Nat.le_refl _) HX0.out.2.2) HC.out.2).mono ?_
  rintro e w1 ⟨v1, rfl, hon, hb1⟩
  have hz1 := hb1.size
  have HX1 : Hid (Box w1 w.heap.size v ∧ Box w1 (w.heap.size + 1) NV.zero ∧ Below w.heap.size w w1) := ⟨HX0.out.1.below hb1 (by omega), HX0.out.2.1.below hb1 (by omega), HX0.out.2.2.trans (hb1.mono (by omega))⟩
  have hon' : OwnN w1 (w.heap.size + 2) v1 x := hon.mono (by omega)
  clear hb1 p0 p1 p2 p3 p4 pf pz hon
  obtain ⟨p0, p1, p2, p3, p4, pf, pz⟩ := HX1.out.1.facts
  have HO2 : Hid (OwnN (put5 w1 w.heap.size 0 v1) (w.heap.size + 2) v1 x) := ⟨hon'.1, hon'.2.1, hon'.2.2.1, put5_own hon'.2.2.2.1 (by omega) _ _, put5_own hon'.2.2.2.2 (by omega) _ _⟩
  have HX2 : Hid (Box (put5 w1 w.heap.size 0 v1) w.heap.size v1 ∧ Box (put5 w1 w.heap.size 0 v1) (w.heap.size + 1) NV.zero ∧ Below w.heap.size w (put5 w1 w.heap.size 0 v1)) :=
    ⟨put5_box HX1.out.1 v1, put5_box_other HX1.out.2.1 (by omega) 0 v1, put5_below HX1.out.2.2 (Nat.le_refl _) _ _⟩
  have hen1 := own_len ent_len (by decide) hon'.2.2.2.2
  have hven := HC.out.1.2.2.2.2.1
  have HI : Hid (i ≤ v1.en ∧ (b = true → i < v1.en) ∧ (v1.en + 1) * 24 ≤ 140737488355328) := by
    refine ⟨by omega, fun hbt => ?_, by omega⟩
    have := HM.out.2
    rw [hbt] at this
    have hk := of_decide_eq_true this.symm
    rw [hen1]
    rcases Nat.lt_or_ge i (x.ents.map (·.1)).length with h1 | h1
    · simpa using h1
    · rw [List.getElem?_eq_none h1] at hk; cases hk
  clear hon' hen1 hven
  go_wp2_with (fail)
  refine (setE_any v1.eA (w.heap.size + 2) v1.en v1.ec i b x.ents (s, f) _ HO2.out.2.2.2.2 HI.out.1 HI.out.2.1 HI.out.2.2 (by simp; omega)).mono ?_
  rintro e w3 ⟨A3, n3, c3, rfl, _, hown3, hg3⟩
  have HE : Hid (Entered x.ents s f (setAt b i (s, f) x.ents)) := ⟨setAt_len _ _ _ _, fun hr => setAt_putE hr HM.out.1 HM.out.2⟩
  have HX3 : Hid (Box w3 w.heap.size v1 ∧ Box w3 (w.heap.size + 1) NV.zero ∧ Below w.heap.size w w3 ∧ w3.ownsRow (w.heap.size + 2) 5 1 (.slice v1.dA v1.dn v1.dc) v1.dn (x.data.flatMap byteCells1)) :=
    ⟨HX2.out.1.grown hg3 (Ne.symm (own_ge HO2.out.2.2.2.2 (by omega))), HX2.out.2.1.grown hg3 (Ne.symm (own_ge HO2.out.2.2.2.2 (by omega))), Below.grown HX2.out.2.2 hg3 HX2.out.2.2.size (fun k hk => by have := (HO2.out.2.2.2.2.lt k hk).1; omega), own_grown HO2.out.2.2.2.1 HO2.out.2.2.2.2 (by decide) hg3⟩
  clear hg3 p0 p1 p2 p3 p4 pf
  obtain ⟨p0, p1, p2, p3, p4, pf, pz3⟩ := HX3.out.1.facts
  obtain ⟨z0, z1, z2, z3, z4, zf, zz3⟩ := HX3.out.2.1.facts
  go_wp2
  have hbr := put5_below (HX3.out.2.2.1.setCell (p := ⟨w.heap.size, 3, none⟩) (Nat.le_refl _) (.slice A3 n3 c3)) (s := w.heap.size + 1) (by omega) 0 ⟨v1.fid, v1.dir, v1.dA, v1.dn, v1.dc, A3, n3, c3, v1.ver⟩
  have hod := put5_own (ownsRow_setCell_below HX3.out.2.2.2 (a := ⟨w.heap.size, 3, none⟩) (by show w.heap.size < _; omega) (.slice A3 n3 c3)) (s := w.heap.size + 1) (by omega) 0 ⟨v1.fid, v1.dir, v1.dA, v1.dn, v1.dc, A3, n3, c3, v1.ver⟩
  have hoe := put5_own (ownsRow_setCell_below hown3 (a := ⟨w.heap.size, 3, none⟩) (by show w.heap.size < _; omega) (.slice A3 n3 c3)) (s := w.heap.size + 1) (by omega) 0 ⟨v1.fid, v1.dir, v1.dA, v1.dn, v1.dc, A3, n3, c3, v1.ver⟩
  exact bodyPost_ret (v := NV.val ⟨v1.fid, v1.dir, v1.dA, v1.dn, v1.dc, A3, n3, c3, v1.ver⟩) (by simp [results, Try.results60, go_sem, z0, z1, z2, z3, z4]) rfl ⟨⟨v1.fid, v1.dir, v1.dA, v1.dn, v1.dc, A3, n3, c3, v1.ver⟩, setAt b i (s, f) x.ents, rfl, ⟨HO2.out.1, HO2.out.2.1, HO2.out.2.2.1, own_mono hod (by omega), own_mono hoe (by omega)⟩, HE.out, hbr⟩

theorem enter_any (v : NV) (x : M.Nd) (s : ByteArray) (f : Int) (w : World) (hc : Cont w v x) (hr : M.RsE x.ents) (hs : Small x) (hs1 : (x.ents.length + 1) * 24 ≤ 140737488355328) :
    Calls Try.prog 60 #[v.val, .string s, .int .i64 f] w fun e w' => ∃ v' : NV, e = .returned v'.val ∧ OwnN w' w.heap.size v' (withE x (M.putE x.ents (s, f))) ∧ Below w.heap.size w w' := by
  refine (enter_gen v x s f w hc hs hs1).mono ?_
  rintro e w1 ⟨v', es, rfl, ho, he, hb⟩
  rw [he.2 hr] at ho
  exact ⟨v', rfl, ho, hb⟩

set_option maxHeartbeats 2000000 in
theorem put_gen (A : Option Addr) (n c : Nat) (vs : List NV) (xs : List M.Nd) (v : NV) (x : M.Nd) (w : World) (ht : Tree w A n vs xs) (hn : (n + 1) * 72 ≤ 140737488355328) (hs : ∀ x ∈ xs, Small x) (hc : Cont w v x) (hsx : Small x) :
    Calls Try.prog 76 #[.slice A n c, v.val] w fun e w' => ∃ (B : Option Addr) (m d : Nat) (us : List NV) (ys : List M.Nd), e = .returned (.slice B m d) ∧ m ≤ n + 1 ∧ OwnT w' w.heap.size B m d us ys ∧ Putted xs x ys ∧ Below w.heap.size w w' := by
  have hwa : ∀ W : World, W = w.alloc (.cells #[.int .i64 v.fid, .bool v.dir, .slice v.dA v.dn v.dc, .slice v.eA v.en v.ec, .int .i64 v.ver] 40) → Below w.heap.size w W ∧ Box W w.heap.size v ∧ W.heap.size = w.heap.size + 1 := by
    rintro W rfl
    exact ⟨(Below.refl _ _).alloc (Nat.le_refl _) _, Box.new _ _, by simp⟩
  have HW : Hid _ := hwa
  have HS : Hid ((∀ x ∈ xs, Small x) ∧ Cont w v x ∧ Small x) := ⟨hs, hc, hsx⟩
  have HT : Hid (Tree w A n vs xs) := ht
  clear hwa hs hc hsx ht
  go_enter Try.func76, Try.ntmps76
  go_wp2_with (fail)
  obtain ⟨q0, q1, q2⟩ := HW.out _ rfl
  refine (place_any A n c vs v.fid _ (HT.out.1.below (Nat.le_refl _) q0) (by omega)).mono ?_
  rintro e w1 ⟨i, b, rfl, hin, hb, hm, hb1⟩
  rw [fids HT.out] at hb hm
  have hz1 := hb1.size
  rw [q2] at hz1
  have HM : Hid (M.Mid M.ltI (xs.map (·.fid)) v.fid i i ∧ b = decide ((xs.map (·.fid))[i]? = some v.fid)) := ⟨hm, hb⟩
  have HB1 : Hid (Box w1 w.heap.size v ∧ Below w.heap.size w w1) := ⟨q1.below hb1 (by omega), q0.trans (hb1.mono (by omega))⟩
  clear q0 q1 q2 hb1 hb hm HW
  obtain ⟨p0, p1, p2, p3, p4, pf, pz⟩ := HB1.out.1.facts
  go_wp2_with (fail)
  have hfx : v.fid = x.fid := HS.out.2.1.1
  have HI : Hid (b = true → i < n) := by
    intro hbt
    have := HM.out.2
    rw [hbt] at this
    have hk := of_decide_eq_true this.symm
    rw [HT.out.1.1, HT.out.2.1]
    rcases Nat.lt_or_ge i (xs.map (·.fid)).length with h1 | h1
    · simpa using h1
    · rw [List.getElem?_eq_none h1] at hk; cases hk
  have HFX : Hid (v.fid = x.fid) := hfx
  clear hfx
  go_region_with (first
    | (go_at_call 73; refine (ownNode_any v x _ (HS.out.2.1.below (Nat.le_refl _) hba.2) HS.out.2.2).mono ?_; rintro e wb ⟨v2, rfl, hon, hb2⟩; have HC : Hid (OwnT wb w1.heap.size (some ⟨g, 0, none⟩) n n us xs ∧ OwnN wb w1.heap.size v2 x ∧ Below w.heap.size w wb ∧ w1.heap.size ≤ wb.heap.size) := ⟨hba.1.out.below (Nat.le_refl _) hb2, hon.mono hza, hba.2.trans (hb2.mono (by omega)), Nat.le_trans hza hb2.size⟩; clear hb2 hon)
    | (go_at_call 55; refine (own_any A n c vs xs _ (HT.out.below (Nat.le_refl _) hbb.2) (by omega) HS.out.1).mono ?_; rintro e wb ⟨g, us, rfl, hot, hb2⟩; have HC : Hid (OwnT wb w1.heap.size (some ⟨g, 0, none⟩) n n us xs ∧ OwnN wb w1.heap.size v2 x ∧ Below w.heap.size w wb ∧ w1.heap.size ≤ wb.heap.size) := ⟨hot.mono hza, hbb.1.out.below (Nat.le_refl _) hb2, hbb.2.trans (hb2.mono (by omega)), Nat.le_trans hza hb2.size⟩; clear hb2 hot)
    | (go_at_call 90; refine (setN_any (some ⟨g, 0, none⟩) w1.heap.size n n i b us v2 _ HC.out.1.1 hin HI.out hn HC.out.2.2.2).mono ?_; rintro e w3 ⟨A3, n3, c3, rfl, hn3, hown3, hg3⟩)
    | (go_at_call 55; refine (own_any A n c vs xs w1.drew (HT.out.below (Nat.le_refl _) HB1.out.2.drew) (by omega) HS.out.1).mono ?_; rintro e wa ⟨g, us, rfl, hot, hb2⟩; have hza : w1.heap.size ≤ wa.heap.size := hb2.size; have hba : Hid (OwnT wa w1.heap.size (some ⟨g, 0, none⟩) n n us xs) ∧ Below w.heap.size w wa := ⟨hot, HB1.out.2.drew.trans (hb2.mono (by show w.heap.size ≤ w1.heap.size; omega))⟩; have HBa : Hid (Box wa w.heap.size v) := Box.below (w := w1.drew) HB1.out.1 hb2 pz; clear hb2 hot p0 p1 p2 p3 p4 pf; obtain ⟨p0, p1, p2, p3, p4, pf, pza⟩ := HBa.out.facts)
    | (go_at_call 73; refine (ownNode_any v x w1.drew (HS.out.2.1.below (Nat.le_refl _) HB1.out.2.drew) HS.out.2.2).mono ?_; rintro e wa ⟨v2, rfl, hon, hb2⟩; have hza : w1.heap.size ≤ wa.heap.size := hb2.size; have hbb : Hid (OwnN wa w1.heap.size v2 x) ∧ Below w.heap.size w wa := ⟨hon, HB1.out.2.drew.trans (hb2.mono (by show w.heap.size ≤ w1.heap.size; omega))⟩; clear hb2 hon))
  all_goals
    have hfin : All2 (OwnN w3 w1.heap.size) (setAt b i v2 us) (setAt b i x xs) ∧ Putted xs x (setAt b i x xs) := by
      have hh := HM.out
      rw [HFX.out] at hh
      exact ⟨setAt_all2 (HC.out.1.2.imp fun _ _ h => h.grown26 HC.out.1.1 hg3) (HC.out.2.1.grown26 HC.out.1.1 hg3) b i (fun hb => by have h0 := HI.out hb; have h1 := HC.out.1.2.1; have h2 := HT.out.1.1; have h3 := HT.out.2.1; omega), fun y hy => setAt_mem hy, fun hr => setAt_putN' hr hh.1 hh.2⟩
    have hbf : Below w.heap.size w w3 := Below.grown HC.out.2.2.1 hg3 HC.out.2.2.1.size (fun k hk => by have := (HC.out.1.1.lt k hk).1; omega)
    clear hg3
    go_wp2
    go_ret
    exact ⟨A3, n3, c3, _, _, rfl, hn3, ⟨own_mono hown3 (by omega), hfin.1.imp fun _ _ h => h.mono (by omega)⟩, hfin.2, hbf⟩
theorem put_any (A : Option Addr) (n c : Nat) (vs : List NV) (xs : List M.Nd) (v : NV) (x : M.Nd) (w : World) (ht : Tree w A n vs xs) (hr : M.RsN xs) (hn : (n + 1) * 72 ≤ 140737488355328) (hs : ∀ x ∈ xs, Small x) (hc : Cont w v x) (hsx : Small x) :
    Calls Try.prog 76 #[.slice A n c, v.val] w fun e w' => ∃ (B : Option Addr) (m d : Nat) (us : List NV), e = .returned (.slice B m d) ∧ m ≤ n + 1 ∧ OwnT w' w.heap.size B m d us (M.putN xs x) ∧ Below w.heap.size w w' := by
  refine (put_gen A n c vs xs v x w ht hn hs hc hsx).mono ?_
  rintro e w1 ⟨B, m, d, us, ys, rfl, hm, ho, hp, hb⟩
  rw [hp.2 hr] at ho
  exact ⟨B, m, d, us, rfl, hm, ho, hb⟩
end Go.Proofs.Ytlegjdlmcphhlab
