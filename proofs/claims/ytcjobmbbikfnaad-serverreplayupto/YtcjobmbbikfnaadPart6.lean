/- TEXTS LAID TOGETHER: Actc, Actd, Acte, Mathe, Actl -/
import Derived.Test.YtcjobmbbikfnaadPart5
/-
  PACKAGE acts: bring, store.
-/
namespace Go.Proofs.Ytcjobmbbikfnaad
open Go.RowKit

/-- what an act comes to: of a tree that rises, the document's answer -/
def Applied (xs : List M.Nd) (spec : Int × List M.Nd) (w : World) (e : Ending) (w' : World) : Prop :=
  ∃ (B : Option Addr) (m d : Nat) (r : Int), e = .returned (.tuple #[.slice B m d, .int .i64 r]) ∧ (M.Rise xs → r = spec.1 ∧ ∃ us, OwnT w' w.heap.size B m d us spec.2) ∧ Below w.heap.size w w'
theorem ownT_nil (w : World) (B : Nat) : OwnT w B none 0 0 [] [] := ⟨World.ownsRow_nil _ _ _ _, All2.nil⟩
theorem Applied.err {xs : List M.Nd} {spec : Int × List M.Nd} {w w' : World} {r : Int} (h : M.Rise xs → spec = (r, [])) (hb : Below w.heap.size w w') : Applied xs spec w (.returned (.tuple #[.slice none 0 0, .int .i64 r])) w' :=
  ⟨none, 0, 0, r, rfl, fun hr => by rw [h hr]; exact ⟨rfl, [], ownT_nil _ _⟩, hb⟩
theorem Applied.ok {xs ys : List M.Nd} {spec : Int × List M.Nd} {w w' : World} {B : Option Addr} {m d : Nat} {us : List NV} (h : M.Rise xs → spec = (0, ys)) (ho : OwnT w' w.heap.size B m d us ys) (hb : Below w.heap.size w w') : Applied xs spec w (.returned (.tuple #[.slice B m d, .int .i64 0])) w' :=
  ⟨B, m, d, 0, rfl, fun hr => by rw [h hr]; exact ⟨rfl, us, ho⟩, hb⟩
theorem putted_small {xs ys : List M.Nd} {x : M.Nd} (h : Putted xs x ys) (hs : ∀ x ∈ xs, Small x) (hx : Small x) : ∀ y ∈ ys, Small y := by
  intro y hy
  rcases h.1 y hy with h1 | h1
  · rw [h1]; exact hx
  · exact hs y h1
theorem boxA_start (w : World) (a : AV) : ∀ W, W = w.alloc (.cells #[.int .i64 a.kind, .int .i64 a.fid, .int .i64 a.dir, .string a.name, .int .i64 a.to, .string a.toName, .slice a.dA a.dn a.dc] 36) → Below w.heap.size w W ∧ BoxA W w.heap.size a ∧ W.heap.size = w.heap.size + 1 := by
  rintro W rfl
  exact ⟨(Below.refl _ _).alloc (Nat.le_refl _) _, BoxA.new w a, by simp⟩
theorem box_start (w : World) (v : NV) : ∀ W, W = w.alloc (.cells #[.int .i64 v.fid, .bool v.dir, .slice v.dA v.dn v.dc, .slice v.eA v.en v.ec, .int .i64 v.ver] 41) → Below w.heap.size w W ∧ Box W w.heap.size v ∧ W.heap.size = w.heap.size + 1 := by
  rintro W rfl
  exact ⟨(Below.refl _ _).alloc (Nat.le_refl _) _, Box.new w v, by simp⟩

set_option maxHeartbeats 1000000 in
theorem store_any (A : Option Addr) (n c : Nat) (vs : List NV) (xs : List M.Nd) (a : AV) (ac : M.Act) (ver : Int) (w : World) (ht : Tree w A n vs xs) (hn : (n + 1) * 72 ≤ 140737488355328) (hs : ∀ x ∈ xs, Small x) (ha : ContA w a ac) (hsa : SmallA ac) :
    Calls Try.prog 34 #[.slice A n c, a.val, .int .i64 ver] w (Applied xs (M.storeS xs ac ver) w) := by
  have HW : Hid _ := boxA_start w a
  have HT : Hid (Tree w A n vs xs ∧ (∀ x ∈ xs, Small x) ∧ ContA w a ac ∧ SmallA ac) := ⟨ht, hs, ha, hsa⟩
  clear ht hs ha hsa
  go_enter Try.func34, Try.ntmps34
  go_wp2_with (fail)
  obtain ⟨q1, q2, q3⟩ := HW.out _ rfl
  refine (find_gen A n c vs xs a.fid _ (HT.out.1.below (Nat.le_refl _) q1) (by omega) HT.out.2.1).mono ?_
  rintro e w1 ⟨v, x, b, rfl, ho, hf, hb1⟩
  have hz1 := hb1.size
  rw [q3] at hz1
  have HB1 : Hid (Below w.heap.size w w1 ∧ BoxA w1 w.heap.size a) := ⟨q1.trans (hb1.mono (by omega)), q2.below hb1 (by omega)⟩
  have HO : Hid (OwnN w1 (w.heap.size + 1) v x) := by rw [q3] at ho; exact ho
  have HF : Hid (Found xs ac.fid x b) := by rw [HT.out.2.2.1.2.1] at hf; exact hf
  clear q1 q2 q3 hb1 ho hf HW
  obtain ⟨a0, a1, a2, a3, a4, a5, a6, af, az⟩ := HB1.out.2.facts
  cases b
  · have HR : Hid (M.Rise xs → M.storeS xs ac ver = (12, [])) := fun hr => by
      have h := (HF.out.2.2 hr.1).1
      unfold M.storeS
      cases hx : M.find xs ac.fid with
      | none => rfl
      | some y => rw [hx] at h; cases h
    go_wp2
    go_ret2
    exact Applied.err HR.out (HB1.out.1.alloc (by omega) _)
  · have HY : Hid (M.Rise xs → M.find xs ac.fid = some x) := fun hr => by
      have h := HF.out.2.2 hr.1
      cases hx : M.find xs ac.fid with
      | none => rw [hx] at h; cases h.1
      | some y => rw [hx] at h; rw [h.2]; rfl
    obtain ⟨fi, di, dA, dn, dc, eA, en, ec, ve⟩ := v
    cases di
    · by_cases h20 : 20 < a.dn
      · have HR : Hid (M.Rise xs → M.storeS xs ac ver = (4, [])) := fun hr => by
          unfold M.storeS
          rw [HY.out hr]
          simp only
          rw [← HO.out.2.1, if_neg (by simp), if_pos (by rw [← HT.out.2.2.1.2.2.2.2.2.2.1]; exact h20)]
        have h20' : (20 : Int) < (a.dn : Int) := by omega
        go_wp2
        go_ret2
        exact Applied.err HR.out (HB1.out.1.alloc (by omega) _)
      · have HR : Hid (M.Rise xs → M.storeS xs ac ver = (0, M.putN xs (M.withV { x with data := ac.data } ver))) := fun hr => by
          unfold M.storeS
          rw [HY.out hr]
          simp only
          rw [← HO.out.2.1, if_neg (by simp), if_neg (by rw [← HT.out.2.2.1.2.2.2.2.2.2.1]; exact h20)]
        have h20' : ¬ (20 : Int) < (a.dn : Int) := by omega
        go_wp2_with (fail)
        obtain ⟨p1, p2, p3⟩ := box_start w1 ⟨fi, false, a.dA, a.dn, a.dc, eA, en, ec, ve⟩ _ rfl
        refine (vput_any A n c vs xs ⟨fi, false, a.dA, a.dn, a.dc, eA, en, ec, ve⟩ { x with data := ac.data } ver _ (HT.out.1.below (Nat.le_refl _) (HB1.out.1.trans (p1.mono (by omega)))) hn HT.out.2.1 ⟨HO.out.1, HO.out.2.1, HO.out.2.2.1, HT.out.2.2.1.2.2.2.2.2.2.below (Nat.le_refl _) (HB1.out.1.trans (p1.mono (by omega))), HO.out.cont.2.2.2.2.below (Nat.le_refl _) p1⟩ ⟨HT.out.2.2.2.2.2, (HF.out.small HT.out.2.1).2⟩).mono ?_
        rintro e w2 ⟨B, m, d, us, ys, rfl, hm, hot, hp, hb2⟩
        have HP : Hid (Applied xs (M.storeS xs ac ver) w (.returned (.tuple #[.slice B m d, .int .i64 0])) w2) := Applied.ok (us := us) (fun hr => by rw [HR.out hr, hp.2 hr.1]) (hot.mono (by rw [p3]; omega)) (HB1.out.1.trans ((p1.trans (hb2.mono (by rw [p3]; omega))).mono (by omega)))
        clear hm hot hp hb2 p1 p2 p3
        go_wp2
        go_ret2
        exact HP.out
    · have HR : Hid (M.Rise xs → M.storeS xs ac ver = (9, [])) := fun hr => by
        unfold M.storeS
        rw [HY.out hr]
        simp only
        rw [← HO.out.2.1, if_pos rfl]
      go_wp2
      go_ret2
      exact Applied.err HR.out (HB1.out.1.alloc (by omega) _)

/-- what bring needs, step by step -/
theorem bring_dir {xs : List M.Nd} {ac : M.Act} {v : Int} (h : (M.dirS xs ac.dir).1 ≠ 0) : M.bringS xs ac v = ((M.dirS xs ac.dir).1, []) := by unfold M.bringS; rw [if_pos h]
theorem bring_free {xs : List M.Nd} {ac : M.Act} {v : Int} (h : (M.dirS xs ac.dir).1 = 0) (h2 : M.freeS (M.dirS xs ac.dir).2 ac.name ≠ 0) : M.bringS xs ac v = (M.freeS (M.dirS xs ac.dir).2 ac.name, []) := by unfold M.bringS; rw [if_neg (by simp [h]), if_pos h2]
theorem bring_stale {xs : List M.Nd} {ac : M.Act} {v : Int} (h : (M.dirS xs ac.dir).1 = 0) (h2 : M.freeS (M.dirS xs ac.dir).2 ac.name = 0) (h3 : ac.fid = 0 ∨ (M.find xs ac.fid).isSome) : M.bringS xs ac v = (13, []) := by unfold M.bringS; rw [if_neg (by simp [h]), if_neg (by simp [h2]), if_pos h3]
theorem bring_many {xs : List M.Nd} {ac : M.Act} {v : Int} (h : (M.dirS xs ac.dir).1 = 0) (h2 : M.freeS (M.dirS xs ac.dir).2 ac.name = 0) (h3 : ¬ (ac.fid = 0 ∨ (M.find xs ac.fid).isSome)) (h4 : 24 ≤ xs.length) : M.bringS xs ac v = (5, []) := by
  unfold M.bringS; rw [if_neg (by simp [h]), if_neg (by simp [h2]), if_neg h3, if_pos h4]
theorem bring_ok {xs : List M.Nd} {ac : M.Act} {v : Int} (h : (M.dirS xs ac.dir).1 = 0) (h2 : M.freeS (M.dirS xs ac.dir).2 ac.name = 0) (h3 : ¬ (ac.fid = 0 ∨ (M.find xs ac.fid).isSome)) (h4 : ¬ 24 ≤ xs.length) :
    M.bringS xs ac v = (0, M.putN (M.putN xs (M.withV (withE (M.dirS xs ac.dir).2 (M.putE (M.dirS xs ac.dir).2.ents (ac.name, ac.fid))) v)) ⟨ac.fid, decide (ac.kind = 2), [], [], v⟩) := by
  unfold M.bringS; rw [if_neg (by simp [h]), if_neg (by simp [h2]), if_neg h3, if_neg h4]; rfl
theorem put_rise {xs : List M.Nd} {x : M.Nd} (hr : M.Rise xs) (hx : M.RsE x.ents) : M.Rise (M.putN xs x) := by
  refine ⟨M.put_rs (·.fid) xs M.ordI x hr.1, fun y hy => ?_⟩
  unfold M.putN M.put at hy
  rcases List.mem_append.1 hy with h | h
  · exact hr.2 y (List.mem_filter.1 h).1
  · rcases List.mem_cons.1 h with h | h
    · rw [h]; exact hx
    · exact hr.2 y (List.mem_filter.1 h).1

set_option maxHeartbeats 2000000 in
theorem bring_any (A : Option Addr) (n c : Nat) (vs : List NV) (xs : List M.Nd) (a : AV) (ac : M.Act) (ver : Int) (w : World) (ht : Tree w A n vs xs) (hn : (n + 1) * 72 ≤ 140737488355328) (hs : ∀ x ∈ xs, Small x) (ha : ContA w a ac) (hsa : SmallA ac) :
    Calls Try.prog 33 #[.slice A n c, a.val, .int .i64 ver] w (Applied xs (M.bringS xs ac ver) w) := by
  have HW : Hid _ := boxA_start w a
  have HT : Hid (Tree w A n vs xs ∧ (∀ x ∈ xs, Small x) ∧ ContA w a ac ∧ SmallA ac) := ⟨ht, hs, ha, hsa⟩
  have HN : Hid (n = xs.length) := by show n = _; rw [ht.1.1, ht.2.1]
  clear ht hs ha hsa
  go_enter Try.func33, Try.ntmps33
  go_wp2_with (fail)
  obtain ⟨q1, q2, q3⟩ := HW.out _ rfl
  refine (dir_any A n c vs xs a.dir _ (HT.out.1.below (Nat.le_refl _) q1) (by omega) HT.out.2.1).mono ?_
  rintro e w1 ⟨v, x, r, rfl, ho, hsx, hf, hb1⟩
  have hz1 := hb1.size
  rw [q3] at hz1
  have HB1 : Hid (Below w.heap.size w w1 ∧ BoxA w1 w.heap.size a) := ⟨q1.trans (hb1.mono (by omega)), q2.below hb1 (by omega)⟩
  have HO : Hid (OwnN w1 (w.heap.size + 1) v x ∧ Small x) := by rw [q3] at ho; exact ⟨ho, hsx⟩
  have HF : Hid (M.Rise xs → r = (M.dirS xs ac.dir).1 ∧ x = (M.dirS xs ac.dir).2) := by rw [HT.out.2.2.1.2.2.1] at hf; exact fun hr => hf hr.1
  clear q1 q2 q3 hb1 ho hf HW hsx
  by_cases hr0 : r = 0
  case' neg =>
    have r0 : (r == 0) = false := by simp [hr0]
    have r1 : (r != 0) = true := by simp [hr0]
    have HR : Hid (M.Rise xs → M.bringS xs ac ver = (r, [])) := fun hr => by have h := HF.out hr; rw [bring_dir (by rw [← h.1]; exact hr0), ← h.1]
    clear hr0
    go_wp2
    go_ret2
    exact Applied.err HR.out (HB1.out.1.alloc (by omega) _)
  subst hr0
  obtain ⟨a0, a1, a2, a3, a4, a5, a6, af, az⟩ := HB1.out.2.facts
  have HV : Hid _ := box_start w1 v
  go_wp2_with (fail)
  obtain ⟨p1, p2, p3⟩ := HV.out _ rfl
  refine (free_any v x a.name _ (HO.out.1.cont.below (Nat.le_refl _) p1) HO.out.2 (by rw [HT.out.2.2.1.2.2.2.1]; exact HT.out.2.2.2.1)).mono ?_
  rintro e w2 ⟨r, rfl, hfr, hb2⟩
  have hz2 := hb2.size
  rw [p3] at hz2
  have hb12 := p1.trans (hb2.mono (by omega))
  have HB2 : Hid (Below w.heap.size w w2 ∧ BoxA w2 w.heap.size a ∧ Box w2 w1.heap.size v ∧ OwnN w2 (w.heap.size + 1) v x) := ⟨HB1.out.1.trans (hb12.mono (by omega)), HB1.out.2.below hb12 (by omega), p2.below hb2 (by omega), HO.out.1.below (Nat.le_refl _) hb12⟩
  have HFR : Hid (Freed x ac.name r) := by rw [HT.out.2.2.1.2.2.2.1] at hfr; exact hfr
  have HXE : Hid (M.Rise xs → M.RsE x.ents) := fun hr => dir_rise hr (show M.dirS xs ac.dir = (0, x) by have h := HF.out hr; rw [h.1, h.2])
  clear p1 p2 p3 hb2 hb12 hfr a0 a1 a2 a3 a4 a5 a6 af HV
  by_cases hr0 : r = 0
  case' neg =>
    have r0 : (r == 0) = false := by simp [hr0]
    have r1 : (r != 0) = true := by simp [hr0]
    have HR : Hid (M.Rise xs → M.bringS xs ac ver = (r, [])) := fun hr => by
      have h := HF.out hr
      have h2 := HFR.out.2 (HXE.out hr)
      rw [h.2] at h2
      rw [bring_free h.1.symm (by rw [← h2]; exact hr0), ← h2]
    clear hr0
    go_wp2
    go_ret2
    exact Applied.err HR.out HB2.out.1
  subst hr0
  have HR2 : Hid (M.Rise xs → (M.dirS xs ac.dir).1 = 0 ∧ M.freeS (M.dirS xs ac.dir).2 ac.name = 0) := fun hr => by
    have h := HF.out hr
    have h2 := HFR.out.2 (HXE.out hr)
    rw [h.2] at h2
    exact ⟨h.1.symm, h2.symm⟩
  obtain ⟨a0, a1, a2, a3, a4, a5, a6, af, az2⟩ := HB2.out.2.1.facts
  obtain ⟨y0, y1, y2, y3, y4, yf, yz⟩ := HB2.out.2.2.1.facts
  by_cases hf0 : a.fid = 0
  case' pos =>
    have r0 : (a.fid == 0) = true := by simp [hf0]
    have HR : Hid (M.Rise xs → M.bringS xs ac ver = (13, [])) := fun hr => bring_stale (HR2.out hr).1 (HR2.out hr).2 (.inl (by rw [← HT.out.2.2.1.2.1]; exact hf0))
    clear hf0
    go_wp2
    go_ret2
    exact Applied.err HR.out HB2.out.1
  have r0 : (a.fid == 0) = false := by simp [hf0]
  go_wp2_with (fail)
  refine (has_any A n c vs xs a.fid _ (HT.out.1.below (Nat.le_refl _) HB2.out.1) (by omega) HT.out.2.1).mono ?_
  rintro e w3 ⟨b, rfl, hfb, hb3⟩
  have hz3 := hb3.size
  have HB3 : Hid (Below w.heap.size w w3 ∧ BoxA w3 w.heap.size a ∧ Box w3 w1.heap.size v ∧ OwnN w3 (w.heap.size + 1) v x) := ⟨HB2.out.1.trans (hb3.mono (by omega)), HB2.out.2.1.below hb3 (by omega), HB2.out.2.2.1.below hb3 (by omega), HB2.out.2.2.2.below (Nat.le_refl _) hb3⟩
  have HFB : Hid (M.Rise xs → b = (M.find xs ac.fid).isSome) := by rw [HT.out.2.2.1.2.1] at hfb; exact fun hr => hfb hr.1
  clear hb3 hfb a0 a1 a2 a3 a4 a5 a6 af y0 y1 y2 y3 y4 yf
  cases b
  case' true =>
    have HR : Hid (M.Rise xs → M.bringS xs ac ver = (13, [])) := fun hr => bring_stale (HR2.out hr).1 (HR2.out hr).2 (.inr (HFB.out hr).symm)
    go_wp2
    go_ret2
    exact Applied.err HR.out HB3.out.1
  have HST : Hid (M.Rise xs → ¬ (ac.fid = 0 ∨ (M.find xs ac.fid).isSome)) := fun hr => by
    rintro (h | h)
    · rw [← HT.out.2.2.1.2.1] at h; exact hf0 h
    · rw [← HFB.out hr] at h; cases h
  by_cases h24 : 24 ≤ n
  case' pos =>
    have HR : Hid (M.Rise xs → M.bringS xs ac ver = (5, [])) := fun hr => bring_many (HR2.out hr).1 (HR2.out hr).2 (HST.out hr) (by rw [← HN.out]; exact h24)
    have h24' : (24 : Int) ≤ (n : Int) := by omega
    go_wp2
    go_ret2
    exact Applied.err HR.out HB3.out.1
  have HOK : Hid (M.Rise xs → M.bringS xs ac ver = _) := fun hr => bring_ok (HR2.out hr).1 (HR2.out hr).2 (HST.out hr) (by rw [← HN.out]; exact h24)
  have h24' : ¬ (24 : Int) ≤ (n : Int) := by omega
  obtain ⟨a0, a1, a2, a3, a4, a5, a6, af, az3⟩ := HB3.out.2.1.facts
  obtain ⟨y0, y1, y2, y3, y4, yf, yz3⟩ := HB3.out.2.2.1.facts
  have h6 := HFR.out.1 rfl
  go_wp2_with (fail)
  refine (enter_gen v x a.name a.fid _ HB3.out.2.2.2.cont HO.out.2 (by omega)).mono ?_
  rintro e w4 ⟨v4, es, rfl, ho4, hen, hb4⟩
  have hz4 := hb4.size
  have HB4 : Hid (Below w.heap.size w w4 ∧ BoxA w4 w.heap.size a) := ⟨HB3.out.1.trans (hb4.mono (by omega)), HB3.out.2.1.below hb4 (by omega)⟩
  have HE : Hid (OwnN w4 w3.heap.size v4 (withE x es) ∧ Small (withE x es) ∧ Entered x.ents ac.name ac.fid es) := by
    refine ⟨ho4, ⟨HO.out.2.1, ?_⟩, ?_⟩
    · show es.length * 24 ≤ _
      have := hen.1
      omega
    · rw [HT.out.2.2.1.2.1, HT.out.2.2.1.2.2.2.1] at hen; exact hen
  clear ho4 hen hb4 a0 a1 a2 a3 a4 a5 a6 af y0 y1 y2 y3 y4 yf
  obtain ⟨a0, a1, a2, a3, a4, a5, a6, af, az4⟩ := HB4.out.2.facts
  go_wp2_with (fail)
  refine (vput_any A n c vs xs v4 (withE x es) ver _ (HT.out.1.below (Nat.le_refl _) HB4.out.1) hn HT.out.2.1 HE.out.1.cont HE.out.2.1).mono ?_
  rintro e w5 ⟨B5, m5, d5, us5, ys5, rfl, hm5, ho5, hp5, hb5⟩
  have hz5 := hb5.size
  have HB5 : Hid (Below w.heap.size w w5 ∧ BoxA w5 w.heap.size a) := ⟨HB4.out.1.trans (hb5.mono (by omega)), HB4.out.2.below hb5 (by omega)⟩
  have HP5 : Hid (OwnT w5 w4.heap.size B5 m5 d5 us5 ys5 ∧ Putted xs (M.withV (withE x es) ver) ys5 ∧ m5 ≤ n + 1) := ⟨ho5, hp5, hm5⟩
  clear ho5 hp5 hm5 hb5 a0 a1 a2 a3 a4 a5 a6 af
  obtain ⟨a0, a1, a2, a3, a4, a5, a6, af, az5⟩ := HB5.out.2.facts
  go_wp2_with (fail)
  refine (vput_any B5 m5 d5 us5 ys5 ⟨a.fid, a.kind == 2, none, 0, 0, none, 0, 0, 0⟩ ⟨ac.fid, decide (ac.kind = 2), [], [], 0⟩ ver _ HP5.out.1.tree (by have := HP5.out.2.2; omega) (putted_small HP5.out.2.1 HT.out.2.1 HE.out.2.1) ⟨HT.out.2.2.1.2.1, by rw [HT.out.2.2.1.1]; by_cases h : ac.kind = 2 <;> simp [h], rfl, ⟨rfl, .inl rfl⟩, ⟨rfl, .inl rfl⟩⟩ ⟨by simp, by simp⟩).mono ?_
  rintro e w6 ⟨B, m, d, us, ys, rfl, hm, hot, hp, hb6⟩
  have HP : Hid (Applied xs (M.bringS xs ac ver) w (.returned (.tuple #[.slice B m d, .int .i64 0])) w6) := Applied.ok (us := us) (fun hr => by
    rw [HOK.out hr]
    have h5 := HP5.out.2.1.2 hr.1
    have h6 := hp.2 (by rw [h5]; exact M.put_rs (·.fid) xs M.ordI _ hr.1)
    rw [h6, h5, HE.out.2.2.2 (HXE.out hr), ← (HF.out hr).2]
    rfl) (hot.mono (by omega)) (HB5.out.1.trans (hb6.mono (by omega)))
  clear hm hot hp hb6
  go_wp2
  go_ret2
  exact HP.out
end Go.Proofs.Ytcjobmbbikfnaad
/-
  PACKAGE acts: remove, rename, Apply.
-/
namespace Go.Proofs.Ytcjobmbbikfnaad
open Go.RowKit

theorem remove_hold {xs : List M.Nd} {ac : M.Act} {v : Int} (h : (M.holdS xs ac.dir ac.name ac.fid).1 ≠ 0) : M.removeS xs ac v = ((M.holdS xs ac.dir ac.name ac.fid).1, []) := by unfold M.removeS; rw [if_pos h]
theorem remove_away {xs : List M.Nd} {ac : M.Act} {v : Int} (h : (M.holdS xs ac.dir ac.name ac.fid).1 = 0) (hf : M.find xs ac.fid = none) : M.removeS xs ac v = (12, []) := by unfold M.removeS; rw [if_neg (by simp [h]), hf]
theorem remove_full {xs : List M.Nd} {ac : M.Act} {v : Int} {x : M.Nd} (h : (M.holdS xs ac.dir ac.name ac.fid).1 = 0) (hf : M.find xs ac.fid = some x) (he : 0 < x.ents.length) : M.removeS xs ac v = (10, []) := by unfold M.removeS; rw [if_neg (by simp [h]), hf]; simp only; rw [if_pos he]
theorem remove_ok {xs : List M.Nd} {ac : M.Act} {v : Int} {x : M.Nd} (h : (M.holdS xs ac.dir ac.name ac.fid).1 = 0) (hf : M.find xs ac.fid = some x) (he : ¬ 0 < x.ents.length) : M.removeS xs ac v = (0, M.dropN (M.putN xs (M.withV (withE (M.holdS xs ac.dir ac.name ac.fid).2 (M.dropE (M.holdS xs ac.dir ac.name ac.fid).2.ents ac.name)) v)) ac.fid) := by
  unfold M.removeS; rw [if_neg (by simp [h]), hf]; simp only; rw [if_neg he]; rfl
theorem drop_le (es : List (ByteArray × Int)) (s : ByteArray) : (M.dropE es s).length ≤ es.length := List.length_filter_le _ _
/-- without a name -/
def lvS (x : M.Nd) (s : ByteArray) : M.Nd := { x with ents := M.dropE x.ents s }
theorem small_leave {x : M.Nd} (h : Small x) (s : ByteArray) : Small (lvS x s) := ⟨h.1, by have := drop_le x.ents s; have := h.2; show (M.dropE x.ents s).length * 24 ≤ _; omega⟩

set_option maxHeartbeats 2000000 in
theorem remove_any (A : Option Addr) (n c : Nat) (vs : List NV) (xs : List M.Nd) (a : AV) (ac : M.Act) (ver : Int) (w : World) (ht : Tree w A n vs xs) (hn : (n + 1) * 72 ≤ 140737488355328) (hs : ∀ x ∈ xs, Small x) (ha : ContA w a ac) :
    Calls Try.prog 35 #[.slice A n c, a.val, .int .i64 ver] w (Applied xs (M.removeS xs ac ver) w) := by
  have HW : Hid _ := boxA_start w a
  have HT : Hid (Tree w A n vs xs ∧ (∀ x ∈ xs, Small x) ∧ ContA w a ac) := ⟨ht, hs, ha⟩
  clear ht hs ha
  go_enter Try.func35, Try.ntmps35
  go_wp2_with (fail)
  obtain ⟨q1, q2, q3⟩ := HW.out _ rfl
  refine (holder_any A n c vs xs a _ (HT.out.1.below (Nat.le_refl _) q1) (by omega) HT.out.2.1).mono ?_
  rintro e w1 ⟨v, x, r, rfl, ho, hsx, hf, hb1⟩
  have hz1 := hb1.size
  rw [q3] at hz1
  have HB1 : Hid (Below w.heap.size w w1 ∧ BoxA w1 w.heap.size a) := ⟨q1.trans (hb1.mono (by omega)), q2.below hb1 (by omega)⟩
  have HO : Hid (OwnN w1 (w.heap.size + 1) v x ∧ Small x) := by rw [q3] at ho; exact ⟨ho, hsx⟩
  have HF : Hid (M.Rise xs → r = (M.holdS xs ac.dir ac.name ac.fid).1 ∧ x = (M.holdS xs ac.dir ac.name ac.fid).2) := by rw [HT.out.2.2.2.1, HT.out.2.2.2.2.1, HT.out.2.2.2.2.2.1] at hf; exact hf
  clear q1 q2 q3 hb1 ho hf HW hsx
  by_cases hr0 : r = 0
  case' neg =>
    have r0 : (r == 0) = false := by simp [hr0]
    have r1 : (r != 0) = true := by simp [hr0]
    have HR : Hid (M.Rise xs → M.removeS xs ac ver = (r, [])) := fun hr => by have h := HF.out hr; rw [remove_hold (by rw [← h.1]; exact hr0), ← h.1]
    clear hr0
    go_wp2
    go_ret2
    exact Applied.err HR.out (HB1.out.1.alloc (by omega) _)
  subst hr0
  obtain ⟨a0, a1, a2, a3, a4, a5, a6, af, az⟩ := HB1.out.2.facts
  have HV : Hid _ := box_start w1 v
  go_wp2_with (fail)
  obtain ⟨p1, p2, p3⟩ := HV.out _ rfl
  refine (find_gen A n c vs xs a.fid _ (HT.out.1.below (Nat.le_refl _) (HB1.out.1.trans (p1.mono (by omega)))) (by omega) HT.out.2.1).mono ?_
  rintro e w2 ⟨v2, x2, b, rfl, ho2, hf2, hb2⟩
  have hz2 := hb2.size
  rw [p3] at hz2
  have hb12 := p1.trans (hb2.mono (by omega))
  have HB2 : Hid (Below w.heap.size w w2 ∧ BoxA w2 w.heap.size a ∧ Box w2 w1.heap.size v ∧ OwnN w2 (w.heap.size + 1) v x) := ⟨HB1.out.1.trans (hb12.mono (by omega)), HB1.out.2.below hb12 (by omega), p2.below hb2 (by omega), HO.out.1.below (Nat.le_refl _) hb12⟩
  have HO2 : Hid (v2.en = x2.ents.length) := by show v2.en = _; exact own_len ent_len (by decide) ho2.2.2.2.2
  have HF2 : Hid (Found xs ac.fid x2 b) := by rw [HT.out.2.2.2.1] at hf2; exact hf2
  clear p1 p2 p3 hb2 hb12 hf2 ho2 a0 a1 a2 a3 a4 a5 a6 af HV
  obtain ⟨a0, a1, a2, a3, a4, a5, a6, af, az2⟩ := HB2.out.2.1.facts
  obtain ⟨y0, y1, y2, y3, y4, yf, yz⟩ := HB2.out.2.2.1.facts
  cases b
  case' false =>
    have HR : Hid (M.Rise xs → M.removeS xs ac ver = (12, [])) := fun hr => remove_away (HF.out hr).1.symm (by
      have h := (HF2.out.2.2 hr.1).1
      cases hx : M.find xs ac.fid with
      | none => rfl
      | some y => rw [hx] at h; cases h)
    go_wp2
    go_ret2
    exact Applied.err HR.out (HB2.out.1.alloc (by omega) _)
  have HY : Hid (M.Rise xs → M.find xs ac.fid = some x2) := fun hr => by
    have h := HF2.out.2.2 hr.1
    cases hx : M.find xs ac.fid with
    | none => rw [hx] at h; cases h.1
    | some y => rw [hx] at h; rw [h.2]; rfl
  by_cases h0 : 0 < v2.en
  case' pos =>
    have HR : Hid (M.Rise xs → M.removeS xs ac ver = (10, [])) := fun hr => remove_full (HF.out hr).1.symm (HY.out hr) (by rw [← HO2.out]; exact h0)
    have h0' : (0 : Int) < (v2.en : Int) := by omega
    go_wp2
    go_ret2
    exact Applied.err HR.out (HB2.out.1.alloc (by omega) _)
  have HOK : Hid (M.Rise xs → M.removeS xs ac ver = _) := fun hr => remove_ok (HF.out hr).1.symm (HY.out hr) (by rw [← HO2.out]; exact h0)
  have h0' : ¬ (0 : Int) < (v2.en : Int) := by omega
  have h00 : v2.en = 0 := by omega
  have HV : Hid _ := box_start w2 ⟨v2.fid, v2.dir, v2.dA, v2.dn, v2.dc, v2.eA, 0, v2.ec, v2.ver⟩
  go_wp2_with (fail)
  obtain ⟨p1, _, p3⟩ := HV.out _ rfl
  refine (leave_any v x a.name _ (HB2.out.2.2.2.cont.below (Nat.le_refl _) p1) HO.out.2).mono ?_
  rintro e w3 ⟨v3, rfl, ho3, hb3⟩
  have hz3 := hb3.size
  rw [p3] at hz3
  have hb13 := p1.trans (hb3.mono (by omega))
  have HB3 : Hid (Below w.heap.size w w3 ∧ BoxA w3 w.heap.size a) := ⟨HB2.out.1.trans (hb13.mono (by omega)), HB2.out.2.1.below hb13 (by omega)⟩
  have HO3 : Hid (OwnN w3 (w.heap.size + 1) v3 { x with ents := M.dropE x.ents ac.name }) := by rw [HT.out.2.2.2.2.2.1] at ho3; exact ho3.mono (by omega)
  clear p1 p3 hb3 hb13 ho3 HV a0 a1 a2 a3 a4 a5 a6 af y0 y1 y2 y3 y4 yf
  obtain ⟨a0, a1, a2, a3, a4, a5, a6, af, az3⟩ := HB3.out.2.facts
  go_wp2_with (fail)
  refine (vput_any A n c vs xs v3 _ ver _ (HT.out.1.below (Nat.le_refl _) HB3.out.1) hn HT.out.2.1 HO3.out.cont (small_leave HO.out.2 _)).mono ?_
  rintro e w5 ⟨B5, m5, d5, us5, ys5, rfl, hm5, ho5, hp5, hb5⟩
  have hz5 := hb5.size
  have HB5 : Hid (Below w.heap.size w w5 ∧ BoxA w5 w.heap.size a) := ⟨HB3.out.1.trans (hb5.mono (by omega)), HB3.out.2.below hb5 (by omega)⟩
  have HP5 : Hid (OwnT w5 w3.heap.size B5 m5 d5 us5 ys5 ∧ Putted xs (M.withV { x with ents := M.dropE x.ents ac.name } ver) ys5 ∧ m5 ≤ n + 1) := ⟨ho5, hp5, hm5⟩
  clear ho5 hp5 hm5 hb5 a0 a1 a2 a3 a4 a5 a6 af
  obtain ⟨a0, a1, a2, a3, a4, a5, a6, af, az5⟩ := HB5.out.2.facts
  go_wp2_with (fail)
  refine (drop_any B5 m5 d5 us5 ys5 a.fid _ HP5.out.1.tree (by have := HP5.out.2.2; omega) (putted_small HP5.out.2.1 HT.out.2.1 (small_leave HO.out.2 _))).mono ?_
  rintro e w6 ⟨B, m, d, us, rfl, hm, hot, hb6⟩
  have HP : Hid (Applied xs (M.removeS xs ac ver) w (.returned (.tuple #[.slice B m d, .int .i64 0])) w6) := Applied.ok (us := us) (fun hr => by
    rw [HOK.out hr, HP5.out.2.1.2 hr.1, ← (HF.out hr).2, HT.out.2.2.2.1]
    rfl) (hot.mono (by omega)) (HB5.out.1.trans (hb6.mono (by omega)))
  clear hm hot hb6
  go_wp2
  go_ret2
  exact HP.out

theorem rename_hold {xs : List M.Nd} {ac : M.Act} {v : Int} (h : (M.holdS xs ac.dir ac.name ac.fid).1 ≠ 0) : M.renameS xs ac v = ((M.holdS xs ac.dir ac.name ac.fid).1, []) := by unfold M.renameS; rw [if_pos h]
theorem rename_dir {xs : List M.Nd} {ac : M.Act} {v : Int} (h : (M.holdS xs ac.dir ac.name ac.fid).1 = 0) (h2 : (M.dirS xs ac.to).1 ≠ 0) : M.renameS xs ac v = ((M.dirS xs ac.to).1, []) := by unfold M.renameS; rw [if_neg (by simp [h]), if_pos h2]
theorem rename_free {xs : List M.Nd} {ac : M.Act} {v : Int} (h : (M.holdS xs ac.dir ac.name ac.fid).1 = 0) (h2 : (M.dirS xs ac.to).1 = 0) (h3 : M.freeS (M.toS xs ac) ac.toName ≠ 0) : M.renameS xs ac v = (M.freeS (M.toS xs ac) ac.toName, []) := by unfold M.renameS; rw [if_neg (by simp [h]), if_neg (by simp [h2]), if_pos h3]
theorem rename_away {xs : List M.Nd} {ac : M.Act} {v : Int} (h : (M.holdS xs ac.dir ac.name ac.fid).1 = 0) (h2 : (M.dirS xs ac.to).1 = 0) (h3 : M.freeS (M.toS xs ac) ac.toName = 0) (h4 : M.find xs ac.fid = none) : M.renameS xs ac v = (12, []) := by unfold M.renameS; rw [if_neg (by simp [h]), if_neg (by simp [h2]), if_neg (by simp [h3]), if_pos (by simp [h4])]
theorem rename_loop {xs : List M.Nd} {ac : M.Act} {v : Int} (h : (M.holdS xs ac.dir ac.name ac.fid).1 = 0) (h2 : (M.dirS xs ac.to).1 = 0) (h3 : M.freeS (M.toS xs ac) ac.toName = 0) (h4 : M.find xs ac.fid ≠ none) (h5 : M.Reach xs ac.fid ac.to) : M.renameS xs ac v = (11, []) := by
  unfold M.renameS; rw [if_neg (by simp [h]), if_neg (by simp [h2]), if_neg (by simp [h3]), if_neg (by simpa using h4), if_pos h5]
theorem rename_ok {xs : List M.Nd} {ac : M.Act} {v : Int} (h : (M.holdS xs ac.dir ac.name ac.fid).1 = 0) (h2 : (M.dirS xs ac.to).1 = 0) (h3 : M.freeS (M.toS xs ac) ac.toName = 0) (h4 : M.find xs ac.fid ≠ none) (h5 : ¬ M.Reach xs ac.fid ac.to) :
    M.renameS xs ac v = (0, M.putN (M.putN xs (M.withV (M.fromS xs ac) v)) (M.withV (withE (M.toS xs ac) (M.putE (M.toS xs ac).ents (ac.toName, ac.fid))) v)) := by
  unfold M.renameS; rw [if_neg (by simp [h]), if_neg (by simp [h2]), if_neg (by simp [h3]), if_neg (by simpa using h4), if_neg h5]; rfl
theorem drop_rise {es : List (ByteArray × Int)} {s : ByteArray} (h : M.RsE es) : M.RsE (M.dropE es s) := M.rs_sub h (List.filter_sublist.map _)
theorem hold_ok {xs : List M.Nd} {d : Int} {s : ByteArray} {f : Int} (h : (M.holdS xs d s f).1 = 0) : M.dirS xs d = (0, (M.holdS xs d s f).2) ∧ M.look (M.holdS xs d s f).2.ents s = some (s, f) := by
  unfold M.holdS at h ⊢
  by_cases h0 : (M.dirS xs d).1 = 0
  · rw [if_pos h0] at h ⊢
    cases hl : M.look (M.dirS xs d).2.ents s with
    | none => rw [hl] at h; simp at h
    | some e =>
      rw [hl] at h
      simp only at h ⊢
      by_cases hf : e.2 = f
      · rw [if_pos hf]
        refine ⟨Prod.ext h0 rfl, ?_⟩
        rw [hl]
        have := List.find?_some hl
        simp at this
        rw [← hf, ← this]
      · rw [if_neg hf] at h; simp at h
  · rw [if_neg h0] at h; exact absurd h h0

set_option maxHeartbeats 2000000 in
theorem rename_any (A : Option Addr) (n c : Nat) (vs : List NV) (xs : List M.Nd) (a : AV) (ac : M.Act) (ver : Int) (w : World) (ht : Tree w A n vs xs) (hn : (n + 2) * 72 ≤ 140737488355328) (hs : ∀ x ∈ xs, Small x) (ha : ContA w a ac) (hsa : SmallA ac) :
    Calls Try.prog 36 #[.slice A n c, a.val, .int .i64 ver] w (Applied xs (M.renameS xs ac ver) w) := by
  have HW : Hid _ := boxA_start w a
  have HT : Hid (Tree w A n vs xs ∧ (∀ x ∈ xs, Small x) ∧ ContA w a ac ∧ SmallA ac) := ⟨ht, hs, ha, hsa⟩
  clear ht hs ha hsa
  go_enter Try.func36, Try.ntmps36
  go_wp2_with (fail)
  obtain ⟨q1, q2, q3⟩ := HW.out _ rfl
  refine (holder_any A n c vs xs a _ (HT.out.1.below (Nat.le_refl _) q1) (by omega) HT.out.2.1).mono ?_
  rintro e w1 ⟨v, x, r, rfl, ho, hsx, hf, hb1⟩
  have hz1 := hb1.size
  rw [q3] at hz1
  have HB1 : Hid (Below w.heap.size w w1 ∧ BoxA w1 w.heap.size a) := ⟨q1.trans (hb1.mono (by omega)), q2.below hb1 (by omega)⟩
  have HO : Hid (OwnN w1 (w.heap.size + 1) v x ∧ Small x) := by rw [q3] at ho; exact ⟨ho, hsx⟩
  have HF : Hid (M.Rise xs → r = (M.holdS xs ac.dir ac.name ac.fid).1 ∧ x = (M.holdS xs ac.dir ac.name ac.fid).2) := by rw [HT.out.2.2.1.2.1, HT.out.2.2.1.2.2.1, HT.out.2.2.1.2.2.2.1] at hf; exact hf
  clear q1 q2 q3 hb1 ho hf HW hsx
  by_cases hr0 : r = 0
  case' neg =>
    have r0 : (r == 0) = false := by simp [hr0]
    have r1 : (r != 0) = true := by simp [hr0]
    have HR : Hid (M.Rise xs → M.renameS xs ac ver = (r, [])) := fun hr => by have h := HF.out hr; rw [rename_hold (by rw [← h.1]; exact hr0), ← h.1]
    clear hr0
    go_wp2
    go_ret2
    exact Applied.err HR.out (HB1.out.1.alloc (by omega) _)
  subst hr0
  have HXE : Hid (M.Rise xs → M.RsE x.ents) := fun hr => by have h := HF.out hr; rw [h.2]; exact dir_rise hr (hold_ok h.1.symm).1
  obtain ⟨a0, a1, a2, a3, a4, a5, a6, af, az⟩ := HB1.out.2.facts
  have HV : Hid _ := box_start w1 v
  go_wp2_with (fail)
  obtain ⟨p1, p2, p3⟩ := HV.out _ rfl
  refine (dir_any A n c vs xs a.to _ (HT.out.1.below (Nat.le_refl _) (HB1.out.1.trans (p1.mono (by omega)))) (by omega) HT.out.2.1).mono ?_
  rintro e w2 ⟨u, y, r, rfl, ho2, hsy, hf2, hb2⟩
  have hz2 := hb2.size
  rw [p3] at hz2
  have hb12 := p1.trans (hb2.mono (by omega))
  have HB2 : Hid (Below w.heap.size w w2 ∧ BoxA w2 w.heap.size a ∧ Box w2 w1.heap.size v ∧ OwnN w2 (w.heap.size + 1) v x) := ⟨HB1.out.1.trans (hb12.mono (by omega)), HB1.out.2.below hb12 (by omega), p2.below hb2 (by omega), HO.out.1.below (Nat.le_refl _) hb12⟩
  have HO2 : Hid (OwnN w2 (w1.heap.size + 1) u y ∧ Small y) := by rw [p3] at ho2; exact ⟨ho2, hsy⟩
  have HF2 : Hid (M.Rise xs → r = (M.dirS xs ac.to).1 ∧ y = (M.dirS xs ac.to).2) := by rw [HT.out.2.2.1.2.2.2.2.1] at hf2; exact fun hr => hf2 hr.1
  clear p1 p2 p3 hb2 hb12 hf2 ho2 hsy a0 a1 a2 a3 a4 a5 a6 af HV
  by_cases hr0 : r = 0
  case' neg =>
    have r0 : (r == 0) = false := by simp [hr0]
    have r1 : (r != 0) = true := by simp [hr0]
    have HR : Hid (M.Rise xs → M.renameS xs ac ver = (r, [])) := fun hr => by have h := HF2.out hr; rw [rename_dir (HF.out hr).1.symm (by rw [← h.1]; exact hr0), ← h.1]
    clear hr0
    go_wp2
    go_ret2
    exact Applied.err HR.out (HB2.out.1.alloc (by omega) _)
  subst hr0
  have HYE : Hid (M.Rise xs → M.RsE y.ents) := fun hr => dir_rise hr (show M.dirS xs ac.to = (0, y) by have h := HF2.out hr; rw [h.1, h.2])
  obtain ⟨a0, a1, a2, a3, a4, a5, a6, af, az2⟩ := HB2.out.2.1.facts
  obtain ⟨y0, y1, y2, y3, y4, yf, yz⟩ := HB2.out.2.2.1.facts
  have HV : Hid _ := box_start w2 u
  go_wp2_with (fail)
  obtain ⟨p1, p2, p3⟩ := HV.out _ rfl
  refine (leave_any v x a.name _ (HB2.out.2.2.2.cont.below (Nat.le_refl _) p1) HO.out.2).mono ?_
  rintro e w3 ⟨v3, rfl, ho3, hb3⟩
  have hz3 := hb3.size
  rw [p3] at hz3
  have hb13 := p1.trans (hb3.mono (by omega))
  have HB3 : Hid (Below w.heap.size w w3 ∧ BoxA w3 w.heap.size a ∧ Box w3 w1.heap.size v ∧ Box w3 w2.heap.size u ∧ OwnN w3 (w1.heap.size + 1) u y) := ⟨HB2.out.1.trans (hb13.mono (by omega)), HB2.out.2.1.below hb13 (by omega), HB2.out.2.2.1.below hb13 (by omega), p2.below hb3 (by omega), HO2.out.1.below (Nat.le_refl _) hb13⟩
  have HO3 : Hid (OwnN w3 (w2.heap.size + 1) v3 (lvS x ac.name)) := by rw [HT.out.2.2.1.2.2.2.1] at ho3; exact ho3.mono (by omega)
  clear p1 p2 p3 hb3 hb13 ho3 HV a0 a1 a2 a3 a4 a5 a6 af y0 y1 y2 y3 y4 yf
  obtain ⟨a0, a1, a2, a3, a4, a5, a6, af, az3⟩ := HB3.out.2.1.facts
  obtain ⟨y0, y1, y2, y3, y4, yf, yz3⟩ := HB3.out.2.2.1.facts
  obtain ⟨z0, z1, z2, z3, z4, zf, zz3⟩ := HB3.out.2.2.2.1.facts
  by_cases htd : a.to = a.dir
  · have rt : (a.to == a.dir) = true := by simp [htd]
    have HTD : Hid (a.to = a.dir) := htd
    clear htd
    have HB4 : Hid (∀ W, W = put5 (put5 w3 w1.heap.size 0 v3) w2.heap.size 0 v3 → Below w.heap.size w W ∧ BoxA W w.heap.size a ∧ Box W w1.heap.size v3 ∧ Box W w2.heap.size v3 ∧ OwnN W (w.heap.size + 1) v3 (lvS x ac.name) ∧ OwnN W (w.heap.size + 1) v3 (lvS x ac.name) ∧ W.heap.size = w3.heap.size) := by
      rintro W rfl
      exact ⟨put5_below (put5_below HB3.out.1 (by omega) _ _) (by omega) _ _, put5_boxA (put5_boxA HB3.out.2.1 (by omega) _ _) (by omega) _ _, put5_box_other (put5_box HB3.out.2.2.1 v3) (by omega) _ _, put5_box (put5_box_other HB3.out.2.2.2.1 (by omega) _ _) v3, ((HO3.out.put5 (by omega) _ _).put5 (by omega) _ _).mono (by omega), ((HO3.out.put5 (by omega) _ _).put5 (by omega) _ _).mono (by omega), by simp⟩
    have HTO : Hid (M.Rise xs → (lvS x ac.name) = M.toS xs ac) := fun hr => by unfold M.toS; rw [if_pos (by rw [← HT.out.2.2.1.2.2.2.2.1, ← HT.out.2.2.1.2.2.1]; exact HTD.out)]; unfold M.fromS; rw [← (HF.out hr).2]; rfl
    have HSY : Hid (Small (lvS x ac.name)) := small_leave HO.out.2 _
    have HYR : Hid (M.Rise xs → M.RsE (M.dropE x.ents ac.name)) := fun hr => drop_rise (HXE.out hr)
    go_wp2_with (fail)
    obtain ⟨p1, p2, p3, p4, p5, p6, p7⟩ := HB4.out _ rfl
    refine (free_any v3 (lvS x ac.name) a.toName _ p6.cont HSY.out (by rw [HT.out.2.2.1.2.2.2.2.2.1]; exact HT.out.2.2.2.2.1)).mono ?_
    rintro e w5 ⟨r, rfl, hfr, hb5⟩
    have hz5 := hb5.size
    rw [p7] at hz5
    have hb5' := hb5
    rw [p7] at hb5'
    have HB5 : Hid (Below w.heap.size w w5 ∧ BoxA w5 w.heap.size a ∧ Box w5 w1.heap.size v3 ∧ Box w5 w2.heap.size v3 ∧ OwnN w5 (w.heap.size + 1) v3 (lvS x ac.name) ∧ OwnN w5 (w.heap.size + 1) v3 (lvS x ac.name)) := ⟨p1.trans (hb5'.mono (by omega)), p2.below hb5' (by omega), p3.below hb5' (by omega), p4.below hb5' (by omega), p5.below (Nat.le_refl _) hb5, p6.below (Nat.le_refl _) hb5⟩
    have HFR : Hid (Freed (lvS x ac.name) ac.toName r) := by rw [HT.out.2.2.1.2.2.2.2.2.1] at hfr; exact hfr
    clear p1 p2 p3 p4 p5 p6 p7 hb5 hb5' hfr HB4 a0 a1 a2 a3 a4 a5 a6 af y0 y1 y2 y3 y4 yf z0 z1 z2 z3 z4 zf
    by_cases hr0 : r = 0
    case' neg =>
      have r0 : (r == 0) = false := by simp [hr0]
      have r1 : (r != 0) = true := by simp [hr0]
      have HR : Hid (M.Rise xs → M.renameS xs ac ver = (r, [])) := fun hr => by
        have h := HFR.out.2 (HYR.out hr)
        rw [HTO.out hr] at h
        rw [rename_free (HF.out hr).1.symm (HF2.out hr).1.symm (by rw [← h]; exact hr0), ← h]
      clear hr0
      go_wp2
      go_ret2
      exact Applied.err HR.out HB5.out.1
    subst hr0
    have HR3 : Hid (M.Rise xs → M.freeS (M.toS xs ac) ac.toName = 0) := fun hr => by
      have h := HFR.out.2 (HYR.out hr)
      rw [HTO.out hr] at h
      exact h.symm
    obtain ⟨a0, a1, a2, a3, a4, a5, a6, af, az5⟩ := HB5.out.2.1.facts
    go_wp2_with (fail)
    refine (has_any A n c vs xs a.fid _ (HT.out.1.below (Nat.le_refl _) HB5.out.1) (by omega) HT.out.2.1).mono ?_
    rintro e w6 ⟨b, rfl, hfb, hb6⟩
    have hz6 := hb6.size
    have HB6 : Hid (Below w.heap.size w w6 ∧ BoxA w6 w.heap.size a ∧ Box w6 w1.heap.size v3 ∧ Box w6 w2.heap.size v3 ∧ OwnN w6 (w.heap.size + 1) v3 (lvS x ac.name) ∧ OwnN w6 (w.heap.size + 1) v3 (lvS x ac.name)) := ⟨HB5.out.1.trans (hb6.mono (by omega)), HB5.out.2.1.below hb6 (by omega), HB5.out.2.2.1.below hb6 (by omega), HB5.out.2.2.2.1.below hb6 (by omega), HB5.out.2.2.2.2.1.below (Nat.le_refl _) hb6, HB5.out.2.2.2.2.2.below (Nat.le_refl _) hb6⟩
    have HFB : Hid (M.Rise xs → b = (M.find xs ac.fid).isSome) := by rw [HT.out.2.2.1.2.1] at hfb; exact fun hr => hfb hr.1
    clear hb6 hfb a0 a1 a2 a3 a4 a5 a6 af
    cases b
    case' false =>
      have HR : Hid (M.Rise xs → M.renameS xs ac ver = (12, [])) := fun hr => rename_away (HF.out hr).1.symm (HF2.out hr).1.symm (HR3.out hr) (by
        have h := HFB.out hr
        cases hx : M.find xs ac.fid with
        | none => rfl
        | some y => rw [hx] at h; cases h)
      go_wp2
      go_ret2
      exact Applied.err HR.out HB6.out.1
    have HNN : Hid (M.Rise xs → M.find xs ac.fid ≠ none) := fun hr h => by have h2 := HFB.out hr; rw [h] at h2; cases h2
    obtain ⟨a0, a1, a2, a3, a4, a5, a6, af, az6⟩ := HB6.out.2.1.facts
    go_wp2_with (fail)
    refine (within_gen A n c vs xs a.to a.fid _ (HT.out.1.below (Nat.le_refl _) HB6.out.1) (by omega) HT.out.2.1).mono ?_
    rintro e w7 ⟨b, rfl, hwi, hb7⟩
    have hz7 := hb7.size
    have HB7 : Hid (Below w.heap.size w w7 ∧ BoxA w7 w.heap.size a ∧ Box w7 w1.heap.size v3 ∧ Box w7 w2.heap.size v3 ∧ OwnN w7 (w.heap.size + 1) v3 (lvS x ac.name) ∧ OwnN w7 (w.heap.size + 1) v3 (lvS x ac.name)) := ⟨HB6.out.1.trans (hb7.mono (by omega)), HB6.out.2.1.below hb7 (by omega), HB6.out.2.2.1.below hb7 (by omega), HB6.out.2.2.2.1.below hb7 (by omega), HB6.out.2.2.2.2.1.below (Nat.le_refl _) hb7, HB6.out.2.2.2.2.2.below (Nat.le_refl _) hb7⟩
    have HWI : Hid (M.Rise xs → (b = true ↔ M.Reach xs ac.fid ac.to)) := by rw [HT.out.2.2.1.2.1, HT.out.2.2.1.2.2.2.2.1] at hwi; exact fun hr => hwi hr.1
    clear hb7 hwi a0 a1 a2 a3 a4 a5 a6 af
    cases b
    case' true =>
      have HR : Hid (M.Rise xs → M.renameS xs ac ver = (11, [])) := fun hr => rename_loop (HF.out hr).1.symm (HF2.out hr).1.symm (HR3.out hr) (HNN.out hr) ((HWI.out hr).1 rfl)
      go_wp2
      go_ret2
      exact Applied.err HR.out HB7.out.1
    have HOK : Hid (M.Rise xs → M.renameS xs ac ver = _) := fun hr => rename_ok (HF.out hr).1.symm (HF2.out hr).1.symm (HR3.out hr) (HNN.out hr) (fun h => by have := (HWI.out hr).2 h; cases this)
    obtain ⟨y0, y1, y2, y3, y4, yf, yz7⟩ := HB7.out.2.2.1.facts
    go_wp2_with (fail)
    refine (vput_any A n c vs xs v3 (lvS x ac.name) ver _ (HT.out.1.below (Nat.le_refl _) HB7.out.1) (by omega) HT.out.2.1 HB7.out.2.2.2.2.1.cont (small_leave HO.out.2 _)).mono ?_
    rintro e w8 ⟨B8, m8, d8, us8, ys8, rfl, hm8, ho8, hp8, hb8⟩
    have hz8 := hb8.size
    have HB8 : Hid (Below w.heap.size w w8 ∧ BoxA w8 w.heap.size a ∧ Box w8 w2.heap.size v3 ∧ OwnN w8 (w.heap.size + 1) v3 (lvS x ac.name)) := ⟨HB7.out.1.trans (hb8.mono (by omega)), HB7.out.2.1.below hb8 (by omega), HB7.out.2.2.2.1.below hb8 (by omega), HB7.out.2.2.2.2.2.below (Nat.le_refl _) hb8⟩
    have HP8 : Hid (OwnT w8 (w.heap.size + 1) B8 m8 d8 us8 ys8 ∧ Putted xs (M.withV (lvS x ac.name) ver) ys8 ∧ m8 ≤ n + 1) := ⟨ho8.mono (by omega), hp8, hm8⟩
    clear ho8 hp8 hm8 hb8 y0 y1 y2 y3 y4 yf
    obtain ⟨a0, a1, a2, a3, a4, a5, a6, af, az8⟩ := HB8.out.2.1.facts
    obtain ⟨z0, z1, z2, z3, z4, zf, zz8⟩ := HB8.out.2.2.1.facts
    have h6 : Hid ((M.dropE x.ents ac.name).length < 6) := HFR.out.1 rfl
    go_wp2_with (fail)
    refine (enter_gen v3 (lvS x ac.name) a.toName a.fid _ HB8.out.2.2.2.cont HSY.out (by have h := h6.out; show ((M.dropE x.ents ac.name).length + 1) * 24 ≤ _; omega)).mono ?_
    rintro e w9 ⟨v9, es, rfl, ho9, hen, hb9⟩
    have hz9 := hb9.size
    have HB9 : Hid (Below w.heap.size w w9 ∧ BoxA w9 w.heap.size a ∧ OwnT w9 (w.heap.size + 1) B8 m8 d8 us8 ys8) := ⟨HB8.out.1.trans (hb9.mono (by omega)), HB8.out.2.1.below hb9 (by omega), HP8.out.1.below (Nat.le_refl _) hb9⟩
    have HE : Hid (OwnN w9 (w.heap.size + 1) v9 (withE (lvS x ac.name) es) ∧ Small (withE (lvS x ac.name) es) ∧ Entered (M.dropE x.ents ac.name) ac.toName ac.fid es) := by
      refine ⟨ho9.mono (by omega), ⟨HSY.out.1, ?_⟩, ?_⟩
      · show es.length * 24 ≤ _
        have h1 : es.length ≤ (M.dropE x.ents ac.name).length + 1 := hen.1
        have h2 := h6.out
        omega
      · rw [HT.out.2.2.1.2.1, HT.out.2.2.1.2.2.2.2.2.1] at hen; exact hen
    clear ho9 hen hb9 a0 a1 a2 a3 a4 a5 a6 af z0 z1 z2 z3 z4 zf
    go_wp2_with (fail)
    refine (vput_any B8 m8 d8 us8 ys8 v9 (withE (lvS x ac.name) es) ver _ HB9.out.2.2.tree (by have := HP8.out.2.2; omega) (putted_small HP8.out.2.1 HT.out.2.1 (small_leave HO.out.2 _)) HE.out.1.cont HE.out.2.1).mono ?_
    rintro e w10 ⟨B, m, d, us, ys, rfl, hm, hot, hp, hb10⟩
    have HP : Hid (Applied xs (M.renameS xs ac ver) w (.returned (.tuple #[.slice B m d, .int .i64 0])) w10) := Applied.ok (us := us) (fun hr => by
      have h5 := HP8.out.2.1.2 hr.1
      have h7 := hp.2 (by rw [h5]; exact M.put_rs (·.fid) xs M.ordI _ hr.1)
      rw [HOK.out hr, h7, h5, HE.out.2.2.2 (HYR.out hr), ← HTO.out hr, (HF.out hr).2]
      rfl) (hot.mono (by omega)) (HB9.out.1.trans (hb10.mono (by omega)))
    clear hm hot hp hb10
    go_wp2
    go_ret2
    exact HP.out
  · have rt : (a.to == a.dir) = false := by simp [htd]
    have HB4 : Hid (∀ W, W = put5 w3 w1.heap.size 0 v3 → Below w.heap.size w W ∧ BoxA W w.heap.size a ∧ Box W w1.heap.size v3 ∧ Box W w2.heap.size u ∧ OwnN W (w.heap.size + 1) v3 (lvS x ac.name) ∧ OwnN W (w.heap.size + 1) u y ∧ W.heap.size = w3.heap.size) := by
      rintro W rfl
      exact ⟨put5_below HB3.out.1 (by omega) _ _, put5_boxA HB3.out.2.1 (by omega) _ _, put5_box HB3.out.2.2.1 v3, put5_box_other HB3.out.2.2.2.1 (by omega) _ _, (HO3.out.put5 (by omega) _ _).mono (by omega), (HB3.out.2.2.2.2.put5 (by omega) _ _).mono (by omega), by simp⟩
    have HTO : Hid (M.Rise xs → y = M.toS xs ac) := fun hr => by unfold M.toS; rw [if_neg (by rw [← HT.out.2.2.1.2.2.2.2.1, ← HT.out.2.2.1.2.2.1]; exact htd), ← (HF2.out hr).2]
    have HSY : Hid (Small y) := HO2.out.2
    have HYR : Hid (M.Rise xs → M.RsE y.ents) := HYE.out
    go_wp2_with (fail)
    obtain ⟨p1, p2, p3, p4, p5, p6, p7⟩ := HB4.out _ rfl
    refine (free_any u y a.toName _ p6.cont HSY.out (by rw [HT.out.2.2.1.2.2.2.2.2.1]; exact HT.out.2.2.2.2.1)).mono ?_
    rintro e w5 ⟨r, rfl, hfr, hb5⟩
    have hz5 := hb5.size
    rw [p7] at hz5
    have hb5' := hb5
    rw [p7] at hb5'
    have HB5 : Hid (Below w.heap.size w w5 ∧ BoxA w5 w.heap.size a ∧ Box w5 w1.heap.size v3 ∧ Box w5 w2.heap.size u ∧ OwnN w5 (w.heap.size + 1) v3 (lvS x ac.name) ∧ OwnN w5 (w.heap.size + 1) u y) := ⟨p1.trans (hb5'.mono (by omega)), p2.below hb5' (by omega), p3.below hb5' (by omega), p4.below hb5' (by omega), p5.below (Nat.le_refl _) hb5, p6.below (Nat.le_refl _) hb5⟩
    have HFR : Hid (Freed y ac.toName r) := by rw [HT.out.2.2.1.2.2.2.2.2.1] at hfr; exact hfr
    clear p1 p2 p3 p4 p5 p6 p7 hb5 hb5' hfr HB4 a0 a1 a2 a3 a4 a5 a6 af y0 y1 y2 y3 y4 yf z0 z1 z2 z3 z4 zf
    by_cases hr0 : r = 0
    case' neg =>
      have r0 : (r == 0) = false := by simp [hr0]
      have r1 : (r != 0) = true := by simp [hr0]
      have HR : Hid (M.Rise xs → M.renameS xs ac ver = (r, [])) := fun hr => by
        have h := HFR.out.2 (HYR.out hr)
        rw [HTO.out hr] at h
        rw [rename_free (HF.out hr).1.symm (HF2.out hr).1.symm (by rw [← h]; exact hr0), ← h]
      clear hr0
      go_wp2
      go_ret2
      exact Applied.err HR.out HB5.out.1
    subst hr0
    have HR3 : Hid (M.Rise xs → M.freeS (M.toS xs ac) ac.toName = 0) := fun hr => by
      have h := HFR.out.2 (HYR.out hr)
      rw [HTO.out hr] at h
      exact h.symm
    obtain ⟨a0, a1, a2, a3, a4, a5, a6, af, az5⟩ := HB5.out.2.1.facts
    go_wp2_with (fail)
    refine (has_any A n c vs xs a.fid _ (HT.out.1.below (Nat.le_refl _) HB5.out.1) (by omega) HT.out.2.1).mono ?_
    rintro e w6 ⟨b, rfl, hfb, hb6⟩
    have hz6 := hb6.size
    have HB6 : Hid (Below w.heap.size w w6 ∧ BoxA w6 w.heap.size a ∧ Box w6 w1.heap.size v3 ∧ Box w6 w2.heap.size u ∧ OwnN w6 (w.heap.size + 1) v3 (lvS x ac.name) ∧ OwnN w6 (w.heap.size + 1) u y) := ⟨HB5.out.1.trans (hb6.mono (by omega)), HB5.out.2.1.below hb6 (by omega), HB5.out.2.2.1.below hb6 (by omega), HB5.out.2.2.2.1.below hb6 (by omega), HB5.out.2.2.2.2.1.below (Nat.le_refl _) hb6, HB5.out.2.2.2.2.2.below (Nat.le_refl _) hb6⟩
    have HFB : Hid (M.Rise xs → b = (M.find xs ac.fid).isSome) := by rw [HT.out.2.2.1.2.1] at hfb; exact fun hr => hfb hr.1
    clear hb6 hfb a0 a1 a2 a3 a4 a5 a6 af
    cases b
    case' false =>
      have HR : Hid (M.Rise xs → M.renameS xs ac ver = (12, [])) := fun hr => rename_away (HF.out hr).1.symm (HF2.out hr).1.symm (HR3.out hr) (by
        have h := HFB.out hr
        cases hx : M.find xs ac.fid with
        | none => rfl
        | some y => rw [hx] at h; cases h)
      go_wp2
      go_ret2
      exact Applied.err HR.out HB6.out.1
    have HNN : Hid (M.Rise xs → M.find xs ac.fid ≠ none) := fun hr h => by have h2 := HFB.out hr; rw [h] at h2; cases h2
    obtain ⟨a0, a1, a2, a3, a4, a5, a6, af, az6⟩ := HB6.out.2.1.facts
    go_wp2_with (fail)
    refine (within_gen A n c vs xs a.to a.fid _ (HT.out.1.below (Nat.le_refl _) HB6.out.1) (by omega) HT.out.2.1).mono ?_
    rintro e w7 ⟨b, rfl, hwi, hb7⟩
    have hz7 := hb7.size
    have HB7 : Hid (Below w.heap.size w w7 ∧ BoxA w7 w.heap.size a ∧ Box w7 w1.heap.size v3 ∧ Box w7 w2.heap.size u ∧ OwnN w7 (w.heap.size + 1) v3 (lvS x ac.name) ∧ OwnN w7 (w.heap.size + 1) u y) := ⟨HB6.out.1.trans (hb7.mono (by omega)), HB6.out.2.1.below hb7 (by omega), HB6.out.2.2.1.below hb7 (by omega), HB6.out.2.2.2.1.below hb7 (by omega), HB6.out.2.2.2.2.1.below (Nat.le_refl _) hb7, HB6.out.2.2.2.2.2.below (Nat.le_refl _) hb7⟩
    have HWI : Hid (M.Rise xs → (b = true ↔ M.Reach xs ac.fid ac.to)) := by rw [HT.out.2.2.1.2.1, HT.out.2.2.1.2.2.2.2.1] at hwi; exact fun hr => hwi hr.1
    clear hb7 hwi a0 a1 a2 a3 a4 a5 a6 af
    cases b
    case' true =>
      have HR : Hid (M.Rise xs → M.renameS xs ac ver = (11, [])) := fun hr => rename_loop (HF.out hr).1.symm (HF2.out hr).1.symm (HR3.out hr) (HNN.out hr) ((HWI.out hr).1 rfl)
      go_wp2
      go_ret2
      exact Applied.err HR.out HB7.out.1
    have HOK : Hid (M.Rise xs → M.renameS xs ac ver = _) := fun hr => rename_ok (HF.out hr).1.symm (HF2.out hr).1.symm (HR3.out hr) (HNN.out hr) (fun h => by have := (HWI.out hr).2 h; cases this)
    obtain ⟨y0, y1, y2, y3, y4, yf, yz7⟩ := HB7.out.2.2.1.facts
    go_wp2_with (fail)
    refine (vput_any A n c vs xs v3 (lvS x ac.name) ver _ (HT.out.1.below (Nat.le_refl _) HB7.out.1) (by omega) HT.out.2.1 HB7.out.2.2.2.2.1.cont (small_leave HO.out.2 _)).mono ?_
    rintro e w8 ⟨B8, m8, d8, us8, ys8, rfl, hm8, ho8, hp8, hb8⟩
    have hz8 := hb8.size
    have HB8 : Hid (Below w.heap.size w w8 ∧ BoxA w8 w.heap.size a ∧ Box w8 w2.heap.size u ∧ OwnN w8 (w.heap.size + 1) u y) := ⟨HB7.out.1.trans (hb8.mono (by omega)), HB7.out.2.1.below hb8 (by omega), HB7.out.2.2.2.1.below hb8 (by omega), HB7.out.2.2.2.2.2.below (Nat.le_refl _) hb8⟩
    have HP8 : Hid (OwnT w8 (w.heap.size + 1) B8 m8 d8 us8 ys8 ∧ Putted xs (M.withV (lvS x ac.name) ver) ys8 ∧ m8 ≤ n + 1) := ⟨ho8.mono (by omega), hp8, hm8⟩
    clear ho8 hp8 hm8 hb8 y0 y1 y2 y3 y4 yf
    obtain ⟨a0, a1, a2, a3, a4, a5, a6, af, az8⟩ := HB8.out.2.1.facts
    obtain ⟨z0, z1, z2, z3, z4, zf, zz8⟩ := HB8.out.2.2.1.facts
    have h6 : Hid ((y.ents).length < 6) := HFR.out.1 rfl
    go_wp2_with (fail)
    refine (enter_gen u y a.toName a.fid _ HB8.out.2.2.2.cont HSY.out (by have h := h6.out; show ((y.ents).length + 1) * 24 ≤ _; omega)).mono ?_
    rintro e w9 ⟨v9, es, rfl, ho9, hen, hb9⟩
    have hz9 := hb9.size
    have HB9 : Hid (Below w.heap.size w w9 ∧ BoxA w9 w.heap.size a ∧ OwnT w9 (w.heap.size + 1) B8 m8 d8 us8 ys8) := ⟨HB8.out.1.trans (hb9.mono (by omega)), HB8.out.2.1.below hb9 (by omega), HP8.out.1.below (Nat.le_refl _) hb9⟩
    have HE : Hid (OwnN w9 (w.heap.size + 1) v9 (withE y es) ∧ Small (withE y es) ∧ Entered (y.ents) ac.toName ac.fid es) := by
      refine ⟨ho9.mono (by omega), ⟨HSY.out.1, ?_⟩, ?_⟩
      · show es.length * 24 ≤ _
        have h1 : es.length ≤ (y.ents).length + 1 := hen.1
        have h2 := h6.out
        omega
      · rw [HT.out.2.2.1.2.1, HT.out.2.2.1.2.2.2.2.2.1] at hen; exact hen
    clear ho9 hen hb9 a0 a1 a2 a3 a4 a5 a6 af z0 z1 z2 z3 z4 zf
    go_wp2_with (fail)
    refine (vput_any B8 m8 d8 us8 ys8 v9 (withE y es) ver _ HB9.out.2.2.tree (by have := HP8.out.2.2; omega) (putted_small HP8.out.2.1 HT.out.2.1 (small_leave HO.out.2 _)) HE.out.1.cont HE.out.2.1).mono ?_
    rintro e w10 ⟨B, m, d, us, ys, rfl, hm, hot, hp, hb10⟩
    have HP : Hid (Applied xs (M.renameS xs ac ver) w (.returned (.tuple #[.slice B m d, .int .i64 0])) w10) := Applied.ok (us := us) (fun hr => by
      have h5 := HP8.out.2.1.2 hr.1
      have h7 := hp.2 (by rw [h5]; exact M.put_rs (·.fid) xs M.ordI _ hr.1)
      rw [HOK.out hr, h7, h5, HE.out.2.2.2 (HYR.out hr), ← HTO.out hr, (HF.out hr).2]
      rfl) (hot.mono (by omega)) (HB9.out.1.trans (hb10.mono (by omega)))
    clear hm hot hp hb10
    go_wp2
    go_ret2
    exact HP.out
end Go.Proofs.Ytcjobmbbikfnaad
/-
  PACKAGE acts: Apply.
-/
namespace Go.Proofs.Ytcjobmbbikfnaad
open Go.RowKit

theorem Applied.over {xs : List M.Nd} {spec : Int × List M.Nd} {w W w' : World} {e : Ending} (h : Applied xs spec W e w') (hb : Below w.heap.size w W) : Applied xs spec w e w' := by
  obtain ⟨B, m, d, r, e1, h1, h2⟩ := h
  exact ⟨B, m, d, r, e1, fun hr => ⟨(h1 hr).1, (h1 hr).2.choose, (h1 hr).2.choose_spec.mono hb.size⟩, hb.trans (h2.mono hb.size)⟩

set_option maxHeartbeats 1000000 in
theorem apply_any (A : Option Addr) (n c : Nat) (vs : List NV) (xs : List M.Nd) (a : AV) (ac : M.Act) (ver : Int) (w : World) (ht : Tree w A n vs xs) (hn : (n + 2) * 72 ≤ 140737488355328) (hs : ∀ x ∈ xs, Small x) (ha : ContA w a ac) (hsa : SmallA ac) :
    Calls Try.prog 24 #[.slice A n c, a.val, .int .i64 ver] w (Applied xs (M.applyS xs ac ver) w) := by
  have HW : Hid (∀ W, W = w.alloc (.cells #[.int .i64 a.kind, .int .i64 a.fid, .int .i64 a.dir, .string a.name, .int .i64 a.to, .string a.toName, .slice a.dA a.dn a.dc] 36) → Below w.heap.size w W ∧ Tree W A n vs xs ∧ ContA W a ac) := fun W hW => by
    obtain ⟨q1, q2, q3⟩ := boxA_start w a W hW
    exact ⟨q1, ht.below (Nat.le_refl _) q1, ha.below (Nat.le_refl _) q1⟩
  have HT : Hid ((∀ x ∈ xs, Small x) ∧ SmallA ac) := ⟨hs, hsa⟩
  have HK : Hid (a.kind = ac.kind) := ha.1
  clear ht hs ha hsa
  by_cases h1 : a.kind = 1
  case' pos =>
    have HS : Hid (M.applyS xs ac ver = M.bringS xs ac ver) := by show _ = _; unfold M.applyS; rw [← HK.out, if_pos (.inl h1)]
    have k1 : (a.kind == 1) = true := by simp [h1]
    clear h1
    go_enter Try.func24, Try.ntmps24
    go_wp2_with (fail)
    obtain ⟨q1, q2, q3⟩ := HW.out _ rfl
    refine (bring_any A n c vs xs a ac ver _ q2 (by omega) HT.out.1 q3 HT.out.2).mono ?_
    rintro e w1 hap
    rw [← HS.out] at hap
    have HP : Hid (Applied xs (M.applyS xs ac ver) w e w1) := hap.over q1
    obtain ⟨B, m, d, r, rfl, _, _⟩ := hap
    clear q1 q2 q3
    go_wp2
    go_ret2
    exact HP.out
  by_cases h2 : a.kind = 2
  case' pos =>
    have HS : Hid (M.applyS xs ac ver = M.bringS xs ac ver) := by show _ = _; unfold M.applyS; rw [← HK.out, if_pos (.inr h2)]
    have k1 : (a.kind == 1) = false := by simp [h1]
    have k2 : (a.kind == 2) = true := by simp [h2]
    clear h1 h2
    go_enter Try.func24, Try.ntmps24
    go_wp2_with (fail)
    obtain ⟨q1, q2, q3⟩ := HW.out _ rfl
    refine (bring_any A n c vs xs a ac ver _ q2 (by omega) HT.out.1 q3 HT.out.2).mono ?_
    rintro e w1 hap
    rw [← HS.out] at hap
    have HP : Hid (Applied xs (M.applyS xs ac ver) w e w1) := hap.over q1
    obtain ⟨B, m, d, r, rfl, _, _⟩ := hap
    clear q1 q2 q3
    go_wp2
    go_ret2
    exact HP.out
  have k1 : (a.kind == 1) = false := by simp [h1]
  have k2 : (a.kind == 2) = false := by simp [h2]
  have HN12 : Hid (¬ (ac.kind = 1 ∨ ac.kind = 2)) := by rw [HK.out] at h1 h2; exact fun h => h.elim h1 h2
  clear h1 h2
  by_cases h3 : a.kind = 3
  case' pos =>
    have HS : Hid (M.applyS xs ac ver = M.storeS xs ac ver) := by show _ = _; unfold M.applyS; rw [if_neg HN12.out, if_pos (by rw [← HK.out]; exact h3)]
    have k3 : (a.kind == 3) = true := by simp [h3]
    clear h3
    go_enter Try.func24, Try.ntmps24
    go_wp2_with (fail)
    obtain ⟨q1, q2, q3⟩ := HW.out _ rfl
    refine (store_any A n c vs xs a ac ver _ q2 (by omega) HT.out.1 q3 HT.out.2).mono ?_
    rintro e w1 hap
    rw [← HS.out] at hap
    have HP : Hid (Applied xs (M.applyS xs ac ver) w e w1) := hap.over q1
    obtain ⟨B, m, d, r, rfl, _, _⟩ := hap
    clear q1 q2 q3
    go_wp2
    go_ret2
    exact HP.out
  have k3 : (a.kind == 3) = false := by simp [h3]
  by_cases h4 : a.kind = 4
  case' pos =>
    have HS : Hid (M.applyS xs ac ver = M.removeS xs ac ver) := by show _ = _; unfold M.applyS; rw [if_neg HN12.out, if_neg (by rw [← HK.out]; exact h3), if_pos (by rw [← HK.out]; exact h4)]
    have k4 : (a.kind == 4) = true := by simp [h4]
    clear h3 h4
    go_enter Try.func24, Try.ntmps24
    go_wp2_with (fail)
    obtain ⟨q1, q2, q3⟩ := HW.out _ rfl
    refine (remove_any A n c vs xs a ac ver _ q2 (by omega) HT.out.1 q3).mono ?_
    rintro e w1 hap
    rw [← HS.out] at hap
    have HP : Hid (Applied xs (M.applyS xs ac ver) w e w1) := hap.over q1
    obtain ⟨B, m, d, r, rfl, _, _⟩ := hap
    clear q1 q2 q3
    go_wp2
    go_ret2
    exact HP.out
  have k4 : (a.kind == 4) = false := by simp [h4]
  by_cases h5 : a.kind = 5
  case' pos =>
    have HS : Hid (M.applyS xs ac ver = M.renameS xs ac ver) := by show _ = _; unfold M.applyS; rw [if_neg HN12.out, if_neg (by rw [← HK.out]; exact h3), if_neg (by rw [← HK.out]; exact h4), if_pos (by rw [← HK.out]; exact h5)]
    have k5 : (a.kind == 5) = true := by simp [h5]
    clear h3 h4 h5
    go_enter Try.func24, Try.ntmps24
    go_wp2_with (fail)
    obtain ⟨q1, q2, q3⟩ := HW.out _ rfl
    refine (rename_any A n c vs xs a ac ver _ q2 hn HT.out.1 q3 HT.out.2).mono ?_
    rintro e w1 hap
    rw [← HS.out] at hap
    have HP : Hid (Applied xs (M.applyS xs ac ver) w e w1) := hap.over q1
    obtain ⟨B, m, d, r, rfl, _, _⟩ := hap
    clear q1 q2 q3
    go_wp2
    go_ret2
    exact HP.out
  have k5 : (a.kind == 5) = false := by simp [h5]
  have HS : Hid (M.applyS xs ac ver = (1, [])) := by show _ = _; unfold M.applyS; rw [if_neg HN12.out, if_neg (by rw [← HK.out]; exact h3), if_neg (by rw [← HK.out]; exact h4), if_neg (by rw [← HK.out]; exact h5)]
  clear h3 h4 h5
  go_enter Try.func24, Try.ntmps24
  go_wp2_with (fail)
  go_ret2
  exact Applied.err (fun _ => HS.out) ((Below.refl _ _).alloc (Nat.le_refl _) _)
end Go.Proofs.Ytcjobmbbikfnaad
/-
  PLAIN MATHEMATICS of chapter 3, further: what acts keep; acts one behind the other.
-/
namespace Go.Proofs.Ytcjobmbbikfnaad
namespace M
section
variable {K X : Type} {lt : K → K → Bool} (f : X → K)
theorem put_len_same (o : Ordr lt) (x : X) : ∀ xs : List X, (∃ y ∈ xs, f y = f x) → (put lt f xs x).length ≤ xs.length := by
  intro xs hy
  unfold put
  rw [List.length_append, List.length_cons]
  have key : ∀ xs : List X, (xs.filter (fun y => lt (f y) (f x))).length + (xs.filter (fun y => lt (f x) (f y))).length ≤ xs.length ∧ ((∃ y ∈ xs, f y = f x) → (xs.filter (fun y => lt (f y) (f x))).length + (xs.filter (fun y => lt (f x) (f y))).length + 1 ≤ xs.length) := by
    intro xs
    induction xs with
    | nil => exact ⟨by simp, by rintro ⟨y, hy, _⟩; cases hy⟩
    | cons y ys ih =>
      rw [List.filter_cons, List.filter_cons]
      have hboth : ¬ (lt (f y) (f x) = true ∧ lt (f x) (f y) = true) := fun h => by have := o.tra _ _ _ h.1 h.2; rw [o.irr] at this; cases this
      have heq : f y = f x → lt (f y) (f x) = false ∧ lt (f x) (f y) = false := fun e => by rw [e]; exact ⟨o.irr _, o.irr _⟩
      constructor
      · cases h1 : lt (f y) (f x) <;> cases h2 : lt (f x) (f y) <;> simp <;> first | omega | exact absurd ⟨h1, h2⟩ hboth
      · rintro ⟨z, hz, e⟩
        rcases List.mem_cons.1 hz with rfl | hz
        · rw [(heq e).1, (heq e).2]; simp; omega
        · have := ih.2 ⟨z, hz, e⟩
          cases h1 : lt (f y) (f x) <;> cases h2 : lt (f x) (f y) <;> simp <;> first | omega | exact absurd ⟨h1, h2⟩ hboth
  have := (key xs).2 hy
  omega
end
theorem put_mem {xs : List Nd} {x y : Nd} (h : y ∈ putN xs x) : y = x ∨ y ∈ xs := by
  unfold putN put at h
  rcases List.mem_append.1 h with h | h
  · exact .inr (List.mem_filter.1 h).1
  · rcases List.mem_cons.1 h with h | h
    · exact .inl h
    · exact .inr (List.mem_filter.1 h).1
theorem putE_rise {es : List (ByteArray × Int)} (e : ByteArray × Int) (h : RsE es) : RsE (putE es e) := put_rs (·.1) es ordB e h
theorem putE_len (es : List (ByteArray × Int)) (e : ByteArray × Int) : (putE es e).length ≤ es.length + 1 := put_len (fun x : ByteArray × Int => x.1) es ordB e
theorem putN_len {xs : List Nd} {x y : Nd} (h : find xs x.fid = some y) : (putN xs x).length ≤ xs.length := put_len_same (fun x : Nd => x.fid) ordI x xs ⟨y, find_mem h⟩
theorem putN_len1 (xs : List Nd) (x : Nd) : (putN xs x).length ≤ xs.length + 1 := put_len (fun x : Nd => x.fid) xs ordI x
theorem free_ok {x : Nd} {s : ByteArray} (h : freeS x s = 0) : look x.ents s = none ∧ nameB s.data.toList = true ∧ x.ents.length < 6 := by
  unfold freeS at h
  split at h
  · simp at h
  · rename_i h1
    split at h
    · simp at h
    · rename_i h2
      simp at h1
      exact ⟨h1.1, h1.2, by omega⟩
end M

/-- a tree as it must be, and not too great -/
def Good (xs : List M.Nd) : Prop := M.Rise xs ∧ (∀ x ∈ xs, Small x) ∧ (xs.length + 2) * 72 ≤ 140737488355328
theorem Good.put {xs : List M.Nd} {x y : M.Nd} (h : Good xs) (hx : M.RsE x.ents) (hs : Small x) (hy : M.find xs x.fid = some y) : Good (M.putN xs x) := by
  refine ⟨put_rise h.1 hx, fun z hz => ?_, ?_⟩
  · rcases M.put_mem hz with rfl | hz
    · exact hs
    · exact h.2.1 z hz
  · have := M.putN_len (x := x) hy
    have := h.2.2
    omega
theorem Good.put1 {xs : List M.Nd} {x : M.Nd} (h : Good xs) (hx : M.RsE x.ents) (hs : Small x) (hl : xs.length < 24) : Good (M.putN xs x) := by
  refine ⟨put_rise h.1 hx, fun z hz => ?_, ?_⟩
  · rcases M.put_mem hz with rfl | hz
    · exact hs
    · exact h.2.1 z hz
  · have := M.putN_len1 xs x
    omega
theorem Good.drop {xs : List M.Nd} (h : Good xs) (f : Int) : Good (M.dropN xs f) := by
  refine ⟨⟨M.rs_sub h.1.1 (List.filter_sublist.map _), fun x hx => h.1.2 x (List.mem_filter.1 hx).1⟩, fun x hx => h.2.1 x (List.mem_filter.1 hx).1, ?_⟩
  have : (M.dropN xs f).length ≤ xs.length := List.length_filter_le _ _
  have := h.2.2
  omega
theorem Good.at {xs : List M.Nd} (h : Good xs) {f : Int} {x : M.Nd} (hx : M.find xs f = some x) : M.RsE x.ents ∧ Small x := ⟨h.1.2 x (M.find_mem hx).1, h.2.1 x (M.find_mem hx).1⟩
theorem small_v {x : M.Nd} (h : Small x) (v : Int) : Small (M.withV x v) := h
theorem good_nil : Good [] := ⟨⟨List.Pairwise.nil, by simp⟩, by simp, by simp⟩

theorem good_bring {xs : List M.Nd} (h : Good xs) (ac : M.Act) (v : Int) : Good (M.bringS xs ac v).2 := by
  by_cases h1 : (M.dirS xs ac.dir).1 = 0
  case' neg => rw [bring_dir h1]; exact good_nil
  by_cases h2 : M.freeS (M.dirS xs ac.dir).2 ac.name = 0
  case' neg => rw [bring_free h1 h2]; exact good_nil
  by_cases h3 : ac.fid = 0 ∨ (M.find xs ac.fid).isSome
  case' pos => rw [bring_stale h1 h2 h3]; exact good_nil
  by_cases h4 : 24 ≤ xs.length
  case' pos => rw [bring_many h1 h2 h3 h4]; exact good_nil
  rw [bring_ok h1 h2 h3 h4]
  have hd := M.dir_ok h1
  have hx := h.at hd.1
  have hf := M.free_ok h2
  have e1 : (M.dirS xs ac.dir).2.fid = ac.dir := (M.find_mem hd.1).2
  have hl := M.putN_len (xs := xs) (x := M.withV (withE (M.dirS xs ac.dir).2 (M.putE (M.dirS xs ac.dir).2.ents (ac.name, ac.fid))) v) (y := (M.dirS xs ac.dir).2) (by show M.find xs (M.dirS xs ac.dir).2.fid = _; rw [e1]; exact hd.1)
  refine Good.put1 (Good.put h (y := (M.dirS xs ac.dir).2) ?_ ?_ ?_) List.Pairwise.nil ⟨by simp, by simp⟩ (by omega)
  · exact M.putE_rise _ hx.1
  · refine ⟨hx.2.1, ?_⟩
    have := M.putE_len (M.dirS xs ac.dir).2.ents (ac.name, ac.fid)
    show (M.putE (M.dirS xs ac.dir).2.ents (ac.name, ac.fid)).length * 24 ≤ _
    omega
  · show M.find xs (M.dirS xs ac.dir).2.fid = _; rw [e1]; exact hd.1
theorem good_store {xs : List M.Nd} (h : Good xs) (ac : M.Act) (v : Int) : Good (M.storeS xs ac v).2 := by
  unfold M.storeS
  cases hx : M.find xs ac.fid with
  | none => exact good_nil
  | some x =>
    simp only
    split
    · exact good_nil
    · split
      · exact good_nil
      · rename_i h20
        refine Good.put h (y := x) (h.at hx).1 ⟨?_, (h.at hx).2.2⟩ ?_
        · show ac.data.length ≤ _; omega
        · show M.find xs x.fid = _; rw [(M.find_mem hx).2]; exact hx
theorem good_remove {xs : List M.Nd} (h : Good xs) (ac : M.Act) (v : Int) : Good (M.removeS xs ac v).2 := by
  by_cases h1 : (M.holdS xs ac.dir ac.name ac.fid).1 = 0
  case' neg => rw [remove_hold h1]; exact good_nil
  cases hx : M.find xs ac.fid with
  | none => rw [remove_away h1 hx]; exact good_nil
  | some x =>
    by_cases he : 0 < x.ents.length
    case' pos => rw [remove_full h1 hx he]; exact good_nil
    rw [remove_ok h1 hx he]
    have ho := hold_ok h1
    have hd := M.dir_ok (xs := xs) (f := ac.dir) (by rw [ho.1])
    rw [ho.1] at hd
    have hg := h.at hd.1
    refine Good.drop (Good.put h (x := M.withV (withE (M.holdS xs ac.dir ac.name ac.fid).2 (M.dropE (M.holdS xs ac.dir ac.name ac.fid).2.ents ac.name)) v) (y := (M.holdS xs ac.dir ac.name ac.fid).2) (drop_rise hg.1) (small_leave hg.2 _) ?_) ac.fid
    show M.find xs (M.holdS xs ac.dir ac.name ac.fid).2.fid = _
    rw [(M.find_mem hd.1).2]; exact hd.1
theorem from_good {xs : List M.Nd} (h : Good xs) {ac : M.Act} (h1 : (M.holdS xs ac.dir ac.name ac.fid).1 = 0) : M.find xs (M.fromS xs ac).fid = some (M.holdS xs ac.dir ac.name ac.fid).2 ∧ (M.fromS xs ac).fid = ac.dir ∧ M.RsE (M.fromS xs ac).ents ∧ Small (M.fromS xs ac) := by
  have ho := hold_ok h1
  have hd := M.dir_ok (xs := xs) (f := ac.dir) (by rw [ho.1])
  rw [ho.1] at hd
  have e : (M.holdS xs ac.dir ac.name ac.fid).2.fid = ac.dir := (M.find_mem hd.1).2
  exact ⟨by show M.find xs (M.holdS xs ac.dir ac.name ac.fid).2.fid = _; rw [e]; exact hd.1, e, drop_rise (h.at hd.1).1, small_leave (h.at hd.1).2 _⟩
theorem to_good {xs : List M.Nd} (h : Good xs) {ac : M.Act} (h1 : (M.holdS xs ac.dir ac.name ac.fid).1 = 0) (h2 : (M.dirS xs ac.to).1 = 0) : (∃ y, M.find xs (M.toS xs ac).fid = some y) ∧ (M.toS xs ac).fid = ac.to ∧ M.RsE (M.toS xs ac).ents ∧ Small (M.toS xs ac) := by
  unfold M.toS
  by_cases e : ac.to = ac.dir
  · rw [if_pos e]
    have := from_good h h1
    exact ⟨⟨_, this.1⟩, this.2.1.trans e.symm, this.2.2⟩
  · rw [if_neg e]
    have hd := M.dir_ok h2
    have ef := (M.find_mem hd.1).2
    exact ⟨⟨_, by rw [ef]; exact hd.1⟩, ef, h.at hd.1⟩
theorem find_put_any {xs : List M.Nd} {x : M.Nd} {f : Int} {y : M.Nd} (h : M.find xs f = some y) : ∃ z, M.find (M.putN xs x) f = some z := by
  by_cases e : f = x.fid
  · subst e; exact ⟨x, M.put_find (fun x : M.Nd => x.fid) xs M.ordI x⟩
  · exact ⟨y, by have := M.put_find_other (fun x : M.Nd => x.fid) xs M.ordI x f e; unfold M.find M.putN at *; rw [this]; exact h⟩
theorem good_rename {xs : List M.Nd} (h : Good xs) (ac : M.Act) (v : Int) : Good (M.renameS xs ac v).2 := by
  by_cases h1 : (M.holdS xs ac.dir ac.name ac.fid).1 = 0
  case' neg => rw [rename_hold h1]; exact good_nil
  by_cases h2 : (M.dirS xs ac.to).1 = 0
  case' neg => rw [rename_dir h1 h2]; exact good_nil
  by_cases h3 : M.freeS (M.toS xs ac) ac.toName = 0
  case' neg => rw [rename_free h1 h2 h3]; exact good_nil
  by_cases h4 : M.find xs ac.fid = none
  case' pos => rw [rename_away h1 h2 h3 h4]; exact good_nil
  by_cases h5 : M.Reach xs ac.fid ac.to
  case' pos => rw [rename_loop h1 h2 h3 h4 h5]; exact good_nil
  rw [rename_ok h1 h2 h3 h4 h5]
  have hf := from_good h h1
  have ht := to_good h h1 h2
  have h6 := (M.free_ok h3).2.2
  obtain ⟨y, hy⟩ := ht.1
  obtain ⟨z, hz⟩ := find_put_any (x := M.withV (M.fromS xs ac) v) hy
  refine Good.put (Good.put h (y := _) hf.2.2.1 hf.2.2.2 hf.1) (y := z) (M.putE_rise _ ht.2.2.1) ⟨ht.2.2.2.1, ?_⟩ hz
  have := M.putE_len (M.toS xs ac).ents (ac.toName, ac.fid)
  show (M.putE (M.toS xs ac).ents (ac.toName, ac.fid)).length * 24 ≤ _
  omega
theorem good_apply {xs : List M.Nd} (h : Good xs) (ac : M.Act) (v : Int) : Good (M.applyS xs ac v).2 := by
  unfold M.applyS
  split
  · exact good_bring h ac v
  · split
    · exact good_store h ac v
    · split
      · exact good_remove h ac v
      · split
        · exact good_rename h ac v
        · exact good_nil

namespace M
/-- acts, one behind the other: how many, the error, the tree -/
noncomputable def allS : List Nd → List Act → Int → Nat × Int × List Nd
  | xs, [], _ => (0, 0, xs)
  | xs, a :: l, v => if (applyS xs a v).1 = 0 then ((allS (applyS xs a v).2 l v).1 + 1, (allS (applyS xs a v).2 l v).2) else (0, (applyS xs a v).1, [])
/-- the fids that an act names -/
def fidsS (a : Act) : List Int := a.fid :: ((if a.kind = 3 then [] else [a.dir]) ++ (if a.kind = 5 then [a.to] else []))
end M
end Go.Proofs.Ytcjobmbbikfnaad
/-
  ACTS in memory: lists of them.
-/
namespace Go.Proofs.Ytcjobmbbikfnaad
open Go.RowKit

theorem act_len (x : AV) : x.cells.length = 7 := rfl
theorem act_one (x : AV) : ∀ u ∈ x.cells, u.oneCell' = true := by intro u hu; simp [AV.cells] at hu; rcases hu with rfl | rfl | rfl | rfl | rfl | rfl | rfl <;> rfl
/-- acts that came in -/
def TreeA (w : World) (A : Option Addr) (n : Nat) (vs : List AV) (xs : List M.Act) : Prop := Row 7 AV.cells w A n vs ∧ All2 (ContA w) vs xs
theorem TreeA.below {B : Nat} {w w' : World} {A : Option Addr} {n : Nat} {vs : List AV} {xs : List M.Act} (h : TreeA w A n vs xs) (hB : w.heap.size ≤ B) (hb : Below B w w') : TreeA w' A n vs xs :=
  ⟨h.1.below hB hb, h.2.imp fun _ _ h => h.below hB hb⟩
theorem Acts.at {w : World} {A : Option Addr} {n : Nat} {vs : List AV} (h : Row 7 AV.cells w A n vs) {j : Nat} (hj : j < n) :
    ∃ b o v, A = some ⟨b, o, none⟩ ∧ b < w.heap.size ∧ vs[j]? = some v ∧ w.cell? ⟨b, o + j * 7, none⟩ = some (.int .i64 v.kind) ∧ w.cell? ⟨b, o + j * 7 + 1, none⟩ = some (.int .i64 v.fid) ∧
      w.cell? ⟨b, o + j * 7 + 2, none⟩ = some (.int .i64 v.dir) ∧ w.cell? ⟨b, o + j * 7 + 3, none⟩ = some (.string v.name) ∧ w.cell? ⟨b, o + j * 7 + 4, none⟩ = some (.int .i64 v.to) ∧ w.cell? ⟨b, o + j * 7 + 5, none⟩ = some (.string v.toName) ∧ w.cell? ⟨b, o + j * 7 + 6, none⟩ = some (.slice v.dA v.dn v.dc) := by
  obtain ⟨b, o, v, e, hlt, hv, hc⟩ := Row.at h hj
  exact ⟨b, o, v, e, hlt, hv, hc 0 _ rfl, hc 1 _ rfl, hc 2 _ rfl, hc 3 _ rfl, hc 4 _ rfl, hc 5 _ rfl, hc 6 _ rfl⟩
end Go.Proofs.Ytcjobmbbikfnaad
