/-
  PACKAGE acts: bring, store.
-/
import Derived.Test.YtlegjdlmcphhlabActb
namespace Go.Proofs.Ytlegjdlmcphhlab
open Go.RowKit

/-- what an act comes to: of a tree that rises, the document's answer -/
def Applied (xs : List M.Nd) (spec : Int × List M.Nd) (w : World) (e : Ending) (w' : World) : Prop :=
  ∃ (B : Option Addr) (m d : Nat) (r : Int), e = .returned (.tuple #[.slice B m d, .int .i64 r]) ∧ (M.Rise xs → r = spec.1 ∧ ∃ us, OwnT w' w.heap.size B m d us spec.2) ∧ Below w.heap.size w w'
theorem ownT_nil (w : World) (B : Nat) : OwnT w B none 0 0 [] [] := ⟨World.ownsRow_nil _ _ _ _, All2.nil⟩
theorem Applied.err {xs : List M.Nd} {spec : Int × List M.Nd} {w w' : World} {r : Int} (h : M.Rise xs → spec = (r, [])) (hb : Below w.heap.size w w') : Applied xs spec w (.returned (.tuple #[.slice none 0 0, .int .i64 r])) w' :=
  ⟨none, 0, 0, r, rfl, fun hr => by rw [h hr]; exact ⟨rfl, [], ownT_nil _ _⟩, hb⟩
theorem Applied.ok {xs ys : List M.Nd} {spec : Int × List M.Nd} {w w' : World} {B : Option Addr} {m d : Nat} {us : List NV} (h : M.Rise xs → spec = (0, ys)) (ho : OwnT w' w.heap.size B m d us ys) (hb : Below w.heap.size w w') : Applied xs spec w (.returned (.tuple #[.slice B m d, .int .i64 0])) w' :=
  ⟨B, m, d, 0, rfl, fun hr => by rw [h hr]; exact ⟨rfl, us, ho⟩, hb⟩
theorem putted_small {xs ys : List M.Nd} {x : M.Nd} (h : Putted xs x ys) (hs : ∀ x ∈ xs, Small x) (hx : Small x) : ∀ y ∈ ys, Small y := by
  intro y hy
  rcases h.1 y hy with h1 | h1
  · rw [h1]; exact hx
  · exact hs y h1
theorem boxA_start (w : World) (a : AV) : ∀ W, W = w.alloc (.cells #[.int .i64 a.kind, .int .i64 a.fid, .int .i64 a.dir, .string a.name, .int .i64 a.to, .string a.toName, .slice a.dA a.dn a.dc] 26) → Below w.heap.size w W ∧ BoxA W w.heap.size a ∧ W.heap.size = w.heap.size + 1 := by
  rintro W rfl
  exact ⟨(Below.refl _ _).alloc (Nat.le_refl _) _, BoxA.new w a, by simp⟩
theorem box_start (w : World) (v : NV) : ∀ W, W = w.alloc (.cells #[.int .i64 v.fid, .bool v.dir, .slice v.dA v.dn v.dc, .slice v.eA v.en v.ec, .int .i64 v.ver] 40) → Below w.heap.size w W ∧ Box W w.heap.size v ∧ W.heap.size = w.heap.size + 1 := by
  rintro W rfl
  exact ⟨(Below.refl _ _).alloc (Nat.le_refl _) _, Box.new w v, by simp⟩

set_option maxHeartbeats 1000000 in
theorem store_any (A : Option Addr) (n c : Nat) (vs : List NV) (xs : List M.Nd) (a : AV) (ac : M.Act) (ver : Int) (w : World) (ht : Tree w A n vs xs) (hn : (n + 1) * 72 ≤ 140737488355328) (hs : ∀ x ∈ xs, Small x) (ha : ContA w a ac) (hsa : SmallA ac) :
    Calls Try.prog 34 #[.slice A n c, a.val, .int .i64 ver] w (Applied xs (M.storeS xs ac ver) w) := by
  have HW : Hid _ := boxA_start w a
  have HT : Hid (Tree w A n vs xs ∧ (∀ x ∈ xs, Small x) ∧ ContA w a ac ∧ SmallA ac) := ⟨ht, hs, ha, hsa⟩
  clear ht hs ha hsa
  go_enter Try.func34, Try.ntmps34
  go_wp2_with (fail)
  obtain ⟨q1, q2, q3⟩ := HW.out _ rfl
  refine (find_gen A n c vs xs a.fid _ (HT.out.1.below (Nat.le_refl _) q1) (by omega) HT.out.2.1).mono ?_
  rintro e w1 ⟨v, x, b, rfl, ho, hf, hb1⟩
  have hz1 := hb1.size
  rw [q3] at hz1
  have HB1 : Hid (Below w.heap.size w w1 ∧ BoxA w1 w.heap.size a) := ⟨q1.trans (hb1.mono (by omega)), q2.below hb1 (by omega)⟩
  have HO : Hid (OwnN w1 (w.heap.size + 1) v x) := by rw [q3] at ho; exact ho
  have HF : Hid (Found xs ac.fid x b) := by rw [HT.out.2.2.1.2.1] at hf; exact hf
  clear q1 q2 q3 hb1 ho hf HW
  obtain ⟨a0, a1, a2, a3, a4, a5, a6, af, az⟩ := HB1.out.2.facts
  cases b
  · have HR : Hid (M.Rise xs → M.storeS xs ac ver = (12, [])) := fun hr => by
      have h := (HF.out.2.2 hr.1).1
      unfold M.storeS
      cases hx : M.find xs ac.fid with
      | none => rfl
      | some y => rw [hx] at h; cases h
    go_wp2
    go_ret2
    exact Applied.err HR.out (HB1.out.1.alloc (by omega) _)
  · have HY : Hid (M.Rise xs → M.find xs ac.fid = some x) := fun hr => by
      have h := HF.out.2.2 hr.1
      cases hx : M.find xs ac.fid with
      | none => rw [hx] at h; cases h.1
      | some y => rw [hx] at h; rw [h.2]; rfl
    obtain ⟨fi, di, dA, dn, dc, eA, en, ec, ve⟩ := v
    cases di
    · by_cases h20 : 20 < a.dn
      · have HR : Hid (M.Rise xs → M.storeS xs ac ver = (4, [])) := fun hr => by
          unfold M.storeS
          rw [HY.out hr]
          simp only
          rw [← HO.out.2.1, if_neg (by simp), if_pos (by rw [← HT.out.2.2.1.2.2.2.2.2.2.1]; exact h20)]
        have h20' : (20 : Int) < (a.dn : Int) := by omega
        go_wp2
        go_ret2
        exact Applied.err HR.out (HB1.out.1.alloc (by omega) _)
      · have HR : Hid (M.Rise xs → M.storeS xs ac ver = (0, M.putN xs (M.withV { x with data := ac.data } ver))) := fun hr => by
          unfold M.storeS
          rw [HY.out hr]
          simp only
          rw [← HO.out.2.1, if_neg (by simp), if_neg (by rw [← HT.out.2.2.1.2.2.2.2.2.2.1]; exact h20)]
        have h20' : ¬ (20 : Int) < (a.dn : Int) := by omega
        go_wp2_with (fail)
        obtain ⟨p1, p2, p3⟩ := box_start w1 ⟨fi, false, a.dA, a.dn, a.dc, eA, en, ec, ve⟩ _ rfl
        refine (vput_any A n c vs xs ⟨fi, false, a.dA, a.dn, a.dc, eA, en, ec, ve⟩ { x with data := ac.data } ver _ (HT.out.1.below (Nat.le_refl _) (HB1.out.1.trans (p1.mono (by omega)))) hn HT.out.2.1 ⟨HO.out.1, HO.out.2.1, HO.out.2.2.1, HT.out.2.2.1.2.2.2.2.2.2.below (Nat.le_refl _) (HB1.out.1.trans (p1.mono (by omega))), HO.out.cont.2.2.2.2.below (Nat.le_refl _) p1⟩ ⟨HT.out.2.2.2.2.2, (HF.out.small HT.out.2.1).2⟩).mono ?_
        rintro e w2 ⟨B, m, d, us, ys, rfl, hm, hot, hp, hb2⟩
        have HP : Hid (Applied xs (M.storeS xs ac ver) w (.returned (.tuple #[.slice B m d, .int .i64 0])) w2) := Applied.ok (us := us) (fun hr => by rw [HR.out hr, hp.2 hr.1]) (hot.mono (by rw [p3]; omega)) (HB1.out.1.trans ((p1.trans (hb2.mono (by rw [p3]; omega))).mono (by omega)))
        clear hm hot hp hb2 p1 p2 p3
        go_wp2
        go_ret2
        exact HP.out
    · have HR : Hid (M.Rise xs → M.storeS xs ac ver = (9, [])) := fun hr => by
        unfold M.storeS
        rw [HY.out hr]
        simp only
        rw [← HO.out.2.1, if_pos rfl]
      go_wp2
      go_ret2
      exact Applied.err HR.out (HB1.out.1.alloc (by omega) _)

/-- what bring needs, step by step -/
theorem bring_dir {xs : List M.Nd} {ac : M.Act} {v : Int} (h : (M.dirS xs ac.dir).1 ≠ 0) : M.bringS xs ac v = ((M.dirS xs ac.dir).1, []) := by unfold M.bringS; rw [if_pos h]
theorem bring_free {xs : List M.Nd} {ac : M.Act} {v : Int} (h : (M.dirS xs ac.dir).1 = 0) (h2 : M.freeS (M.dirS xs ac.dir).2 ac.name ≠ 0) : M.bringS xs ac v = (M.freeS (M.dirS xs ac.dir).2 ac.name, []) := by unfold M.bringS; rw [if_neg (by simp [h]), if_pos h2]
theorem bring_stale {xs : List M.Nd} {ac : M.Act} {v : Int} (h : (M.dirS xs ac.dir).1 = 0) (h2 : M.freeS (M.dirS xs ac.dir).2 ac.name = 0) (h3 : ac.fid = 0 ∨ (M.find xs ac.fid).isSome) : M.bringS xs ac v = (13, []) := by unfold M.bringS; rw [if_neg (by simp [h]), if_neg (by simp [h2]), if_pos h3]
theorem bring_many {xs : List M.Nd} {ac : M.Act} {v : Int} (h : (M.dirS xs ac.dir).1 = 0) (h2 : M.freeS (M.dirS xs ac.dir).2 ac.name = 0) (h3 : ¬ (ac.fid = 0 ∨ (M.find xs ac.fid).isSome)) (h4 : 24 ≤ xs.length) : M.bringS xs ac v = (5, []) := by
  unfold M.bringS; rw [if_neg (by simp [h]), if_neg (by simp [h2]), if_neg h3, if_pos h4]
theorem bring_ok {xs : List M.Nd} {ac : M.Act} {v : Int} (h : (M.dirS xs ac.dir).1 = 0) (h2 : M.freeS (M.dirS xs ac.dir).2 ac.name = 0) (h3 : ¬ (ac.fid = 0 ∨ (M.find xs ac.fid).isSome)) (h4 : ¬ 24 ≤ xs.length) :
    M.bringS xs ac v = (0, M.putN (M.putN xs (M.withV (withE (M.dirS xs ac.dir).2 (M.putE (M.dirS xs ac.dir).2.ents (ac.name, ac.fid))) v)) ⟨ac.fid, decide (ac.kind = 2), [], [], v⟩) := by
  unfold M.bringS; rw [if_neg (by simp [h]), if_neg (by simp [h2]), if_neg h3, if_neg h4]; rfl
theorem put_rise {xs : List M.Nd} {x : M.Nd} (hr : M.Rise xs) (hx : M.RsE x.ents) : M.Rise (M.putN xs x) := by
  refine ⟨M.put_rs (·.fid) xs M.ordI x hr.1, fun y hy => ?_⟩
  unfold M.putN M.put at hy
  rcases List.mem_append.1 hy with h | h
  · exact hr.2 y (List.mem_filter.1 h).1
  · rcases List.mem_cons.1 h with h | h
    · rw [h]; exact hx
    · exact hr.2 y (List.mem_filter.1 h).1

set_option maxHeartbeats 2000000 in
theorem bring_any (A : Option Addr) (n c : Nat) (vs : List NV) (xs : List M.Nd) (a : AV) (ac : M.Act) (ver : Int) (w : World) (ht : Tree w A n vs xs) (hn : (n + 1) * 72 ≤ 140737488355328) (hs : ∀ x ∈ xs, Small x) (ha : ContA w a ac) (hsa : SmallA ac) :
    Calls Try.prog 33 #[.slice A n c, a.val, .int .i64 ver] w (Applied xs (M.bringS xs ac ver) w) := by
  have HW : Hid _ := boxA_start w a
  have HT : Hid (Tree w A n vs xs ∧ (∀ x ∈ xs, Small x) ∧ ContA w a ac ∧ SmallA ac) := ⟨ht, hs, ha, hsa⟩
  have HN : Hid (n = xs.length) := by show n = _; rw [ht.1.1, ht.2.1]
  clear ht hs ha hsa
  go_enter Try.func33, Try.ntmps33
  go_wp2_with (fail)
  obtain ⟨q1, q2, q3⟩ := HW.out _ rfl
  refine (dir_any A n c vs xs a.dir _ (HT.out.1.below (Nat.le_refl _) q1) (by omega) HT.out.2.1).mono ?_
  rintro e w1 ⟨v, x, r, rfl, ho, hsx, hf, hb1⟩
  have hz1 := hb1.size
  rw [q3] at hz1
  have HB1 : Hid (Below w.heap.size w w1 ∧ BoxA w1 w.heap.size a) := ⟨q1.trans (hb1.mono (by omega)), q2.below hb1 (by omega)⟩
  have HO : Hid (OwnN w1 (w.heap.size + 1) v x ∧ Small x) := by rw [q3] at ho; exact ⟨ho, hsx⟩
  have HF : Hid (M.Rise xs → r = (M.dirS xs ac.dir).1 ∧ x = (M.dirS xs ac.dir).2) := by rw [HT.out.2.2.1.2.2.1] at hf; exact fun hr => hf hr.1
  clear q1 q2 q3 hb1 ho hf HW hsx
  by_cases hr0 : r = 0
  case' neg =>
    have r0 : (r == 0) = false := by simp [hr0]
    have r1 : (r != 0) = true := by simp [hr0]
    have HR : Hid (M.Rise xs → M.bringS xs ac ver = (r, [])) := fun hr => by have h := HF.out hr; rw [bring_dir (by rw [← h.1]; exact hr0), ← h.1]
    clear hr0
    go_wp2
    go_ret2
    exact Applied.err HR.out (HB1.out.1.alloc (by omega) _)
  subst hr0
  obtain ⟨a0, a1, a2, a3, a4, a5, a6, af, az⟩ := HB1.out.2.facts
  have HV : Hid _ := box_start w1 v
  go_wp2_with (fail)
  obtain ⟨p1, p2, p3⟩ := HV.out _ rfl
  refine (free_any v x a.name _ (HO.out.1.cont.below (Nat.le_refl _) p1) HO.out.2 (by rw [HT.out.2.2.1.2.2.2.1]; exact HT.out.2.2.2.1)).mono ?_
  rintro e w2 ⟨r, rfl, hfr, hb2⟩
  have hz2 := hb2.size
  rw [p3] at hz2
  have hb12 := p1.trans (hb2.mono (by omega))
  have HB2 : Hid (Below w.heap.size w w2 ∧ BoxA w2 w.heap.size a ∧ Box w2 w1.heap.size v ∧ OwnN w2 (w.heap.size + 1) v x) := ⟨HB1.out.1.trans (hb12.mono (by omega)), HB1.out.2.below hb12 (by omega), p2.below hb2 (by omega), HO.out.1.below (Nat.le_refl _) hb12⟩
  have HFR : Hid (Freed x ac.name r) := by rw [HT.out.2.2.1.2.2.2.1] at hfr; exact hfr
  have HXE : Hid (M.Rise xs → M.RsE x.ents) := fun hr => dir_rise hr (show M.dirS xs ac.dir = (0, x) by have h := HF.out hr; rw [h.1, h.2])
  clear p1 p2 p3 hb2 hb12 hfr a0 a1 a2 a3 a4 a5 a6 af HV
  by_cases hr0 : r = 0
  case' neg =>
    have r0 : (r == 0) = false := by simp [hr0]
    have r1 : (r != 0) = true := by simp [hr0]
    have HR : Hid (M.Rise xs → M.bringS xs ac ver = (r, [])) := fun hr => by
      have h := HF.out hr
      have h2 := HFR.out.2 (HXE.out hr)
      rw [h.2] at h2
      rw [bring_free h.1.symm (by rw [← h2]; exact hr0), ← h2]
    clear hr0
    go_wp2
    go_ret2
    exact Applied.err HR.out HB2.out.1
  subst hr0
  have HR2 : Hid (M.Rise xs → (M.dirS xs ac.dir).1 = 0 ∧ M.freeS (M.dirS xs ac.dir).2 ac.name = 0) := fun hr => by
    have h := HF.out hr
    have h2 := HFR.out.2 (HXE.out hr)
    rw [h.2] at h2
    exact ⟨h.1.symm, h2.symm⟩
  obtain ⟨a0, a1, a2, a3, a4, a5, a6, af, az2⟩ := HB2.out.2.1.facts
  obtain ⟨y0, y1, y2, y3, y4, yf, yz⟩ := HB2.out.2.2.1.facts
  by_cases hf0 : a.fid = 0
  case' pos =>
    have r0 : (a.fid == 0) = true := by simp [hf0]
    have HR : Hid (M.Rise xs → M.bringS xs ac ver = (13, [])) := fun hr => bring_stale (HR2.out hr).1 (HR2.out hr).2 (.inl (by rw [← HT.out.2.2.1.2.1]; exact hf0))
    clear hf0
    go_wp2
    go_ret2
    exact Applied.err HR.out HB2.out.1
  have r0 : (a.fid == 0) = false := by simp [hf0]
  go_wp2_with (fail)
  refine (has_any A n c vs xs a.fid _ (HT.out.1.below (Nat.le_refl _) HB2.out.1) (by omega) HT.out.2.1).mono ?_
  rintro e w3 ⟨b, rfl, hfb, hb3⟩
  have hz3 := hb3.size
  have HB3 : Hid (Below w.heap.size w w3 ∧ BoxA w3 w.heap.size a ∧ Box w3 w1.heap.size v ∧ OwnN w3 (w.heap.size + 1) v x) := ⟨HB2.out.1.trans (hb3.mono (by omega)), HB2.out.2.1.below hb3 (by omega), HB2.out.2.2.1.below hb3 (by omega), HB2.out.2.2.2.below (Nat.le_refl _) hb3⟩
  have HFB : Hid (M.Rise xs → b = (M.find xs ac.fid).isSome) := by rw [HT.out.2.2.1.2.1] at hfb; exact fun hr => hfb hr.1
  clear hb3 hfb a0 a1 a2 a3 a4 a5 a6 af y0 y1 y2 y3 y4 yf
  cases b
  case' true =>
    have HR : Hid (M.Rise xs → M.bringS xs ac ver = (13, [])) := fun hr => bring_stale (HR2.out hr).1 (HR2.out hr).2 (.inr (HFB.out hr).symm)
    go_wp2
    go_ret2
    exact Applied.err HR.out HB3.out.1
  have HST : Hid (M.Rise xs → ¬ (ac.fid = 0 ∨ (M.find xs ac.fid).isSome)) := fun hr => by
    rintro (h | h)
    · rw [← HT.out.2.2.1.2.1] at h; exact hf0 h
    · rw [← HFB.out hr] at h; cases h
  by_cases h24 : 24 ≤ n
  case' pos =>
    have HR : Hid (M.Rise xs → M.bringS xs ac ver = (5, [])) := fun hr => bring_many (HR2.out hr).1 (HR2.out hr).2 (HST.out hr) (by rw [← HN.out]; exact h24)
    have h24' : (24 : Int) ≤ (n : Int) := by omega
    go_wp2
    go_ret2
    exact Applied.err HR.out HB3.out.1
  have HOK : Hid (M.Rise xs → M.bringS xs ac ver = _) := fun hr => bring_ok (HR2.out hr).1 (HR2.out hr).2 (HST.out hr) (by rw [← HN.out]; exact h24)
  have h24' : ¬ (24 : Int) ≤ (n : Int) := by omega
  obtain ⟨a0, a1, a2, a3, a4, a5, a6, af, az3⟩ := HB3.out.2.1.facts
  obtain ⟨y0, y1, y2, y3, y4, yf, yz3⟩ := HB3.out.2.2.1.facts
  have h6 := HFR.out.1 rfl
  go_wp2_with (fail)
  refine (enter_gen v x a.name a.fid _ HB3.out.2.2.2.cont HO.out.2 (by omega)).mono ?_
  rintro e w4 ⟨v4, es, rfl, ho4, hen, hb4⟩
  have hz4 := hb4.size
  have HB4 : Hid (Below w.heap.size w w4 ∧ BoxA w4 w.heap.size a) := ⟨HB3.out.1.trans (hb4.mono (by omega)), HB3.out.2.1.below hb4 (by omega)⟩
  have HE : Hid (OwnN w4 w3.heap.size v4 (withE x es) ∧ Small (withE x es) ∧ Entered x.ents ac.name ac.fid es) := by
    refine ⟨ho4, ⟨HO.out.2.1, ?_⟩, ?_⟩
    · show es.length * 24 ≤ _
      have := hen.1
      omega
    · rw [HT.out.2.2.1.2.1, HT.out.2.2.1.2.2.2.1] at hen; exact hen
  clear ho4 hen hb4 a0 a1 a2 a3 a4 a5 a6 af y0 y1 y2 y3 y4 yf
  obtain ⟨a0, a1, a2, a3, a4, a5, a6, af, az4⟩ := HB4.out.2.facts
  go_wp2_with (fail)
  refine (vput_any A n c vs xs v4 (withE x es) ver _ (HT.out.1.below (Nat.le_refl _) HB4.out.1) hn HT.out.2.1 HE.out.1.cont HE.out.2.1).mono ?_
  rintro e w5 ⟨B5, m5, d5, us5, ys5, rfl, hm5, ho5, hp5, hb5⟩
  have hz5 := hb5.size
  have HB5 : Hid (Below w.heap.size w w5 ∧ BoxA w5 w.heap.size a) := ⟨HB4.out.1.trans (hb5.mono (by omega)), HB4.out.2.below hb5 (by omega)⟩
  have HP5 : Hid (OwnT w5 w4.heap.size B5 m5 d5 us5 ys5 ∧ Putted xs (M.withV (withE x es) ver) ys5 ∧ m5 ≤ n + 1) := ⟨ho5, hp5, hm5⟩
  clear ho5 hp5 hm5 hb5 a0 a1 a2 a3 a4 a5 a6 af
  obtain ⟨a0, a1, a2, a3, a4, a5, a6, af, az5⟩ := HB5.out.2.facts
  go_wp2_with (fail)
  refine (vput_any B5 m5 d5 us5 ys5 ⟨a.fid, a.kind == 2, none, 0, 0, none, 0, 0, 0⟩ ⟨ac.fid, decide (ac.kind = 2), [], [], 0⟩ ver _ HP5.out.1.tree (by have := HP5.out.2.2; omega) (putted_small HP5.out.2.1 HT.out.2.1 HE.out.2.1) ⟨HT.out.2.2.1.2.1, by rw [HT.out.2.2.1.1]; by_cases h : ac.kind = 2 <;> simp [h], rfl, ⟨rfl, .inl rfl⟩, ⟨rfl, .inl rfl⟩⟩ ⟨by simp, by simp⟩).mono ?_
  rintro e w6 ⟨B, m, d, us, ys, rfl, hm, hot, hp, hb6⟩
  have HP : Hid (Applied xs (M.bringS xs ac ver) w (.returned (.tuple #[.slice B m d, .int .i64 0])) w6) := Applied.ok (us := us) (fun hr => by
    rw [HOK.out hr]
    have h5 := HP5.out.2.1.2 hr.1
    have h6 := hp.2 (by rw [h5]; exact M.put_rs (·.fid) xs M.ordI _ hr.1)
    rw [h6, h5, HE.out.2.2.2 (HXE.out hr), ← (HF.out hr).2]
    rfl) (hot.mono (by omega)) (HB5.out.1.trans (hb6.mono (by omega)))
  clear hm hot hp hb6
  go_wp2
  go_ret2
  exact HP.out
end Go.Proofs.Ytlegjdlmcphhlab
