/-
  THE LAW ActsVersion, walked: of any tree and act it answers true, and all that was there stays.
-/
import Derived.Test.YtkdpdgbacladhabAlive3
import Derived.Test.YtkdpdgbacladhabMathg
import Derived.Test.YtkdpdgbacladhabAsk
namespace Go.Proofs.Ytkdpdgbacladhab
open Go.RowKit

theorem fids_pos (ac : M.Act) : 0 < (M.fidsS ac).length := by unfold M.fidsS; simp
theorem fids_len (ac : M.Act) : (M.fidsS ac).length ≤ 3 := by unfold M.fidsS; split <;> split <;> simp

set_option maxRecDepth 4000 in
set_option maxHeartbeats 8000000 in
theorem vers_any (A : Option Addr) (n c : Nat) (vs : List NV) (xs : List M.Nd) (a : AV) (ac : M.Act) (w : World) (ht : Tree w A n vs xs) (hn : (n + 4) * 72 ≤ 140737488355328) (hs : ∀ x ∈ xs, Small x) (ha : ContA w a ac) (hsa : SmallA ac) :
    Calls Try.prog 5 #[.slice A n c, a.val] w fun e w' => e = .returned (.bool true) ∧ Below w.heap.size w w' := by
  have HW : Hid _ := boxA_start w a
  have HT : Hid (Tree w A n vs xs ∧ (∀ x ∈ xs, Small x) ∧ ContA w a ac ∧ SmallA ac) := ⟨ht, hs, ha, hsa⟩
  clear ht hs ha hsa
  go_enter Try.func5, Try.ntmps5
  go_wp2_with (fail)
  obtain ⟨q1, q2, q3⟩ := HW.out _ rfl
  refine (alive3_any _).mono ?_
  rintro e w1 ⟨rfl, hb1⟩
  have hz1 := hb1.size
  rw [q3] at hz1
  have HB1 : Hid (Below w.heap.size w w1 ∧ BoxA w1 w.heap.size a) := ⟨q1.trans (hb1.mono (by rw [q3]; omega)), q2.below hb1 (by rw [q3]; omega)⟩
  clear hb1 q1 q2 q3 HW
  obtain ⟨a0, a1, a2, a3, a4, a5, a6, af, az⟩ := HB1.out.2.facts
  go_wp2_with (fail)
  refine (apply_any A n c vs xs a ac 1000 _ (HT.out.1.below (Nat.le_refl _) HB1.out.1) (by omega) HT.out.2.1 (HT.out.2.2.1.below (Nat.le_refl _) HB1.out.1) HT.out.2.2.2).mono ?_
  rintro e w2 ⟨B2, m2, d2, r, rfl, hap, hb2⟩
  have hz2 := hb2.size
  have HB2 : Hid (Below w.heap.size w w2 ∧ BoxA w2 w.heap.size a) := ⟨HB1.out.1.trans (hb2.mono (by omega)), HB1.out.2.below hb2 (by omega)⟩
  have HAP : Hid (M.Rise xs → r = (M.applyS xs ac 1000).1 ∧ ∃ us, OwnT w2 w1.heap.size B2 m2 d2 us (M.applyS xs ac 1000).2) := hap
  clear hap hb2 a0 a1 a2 a3 a4 a5 a6 af
  by_cases hr0 : r = 0
  case' neg =>
    have r0 : (r == 0) = false := by simp [hr0]
    have r1 : (r != 0) = true := by simp [hr0]
    clear hr0
    go_wp2
    go_ret
    exact ⟨rfl, HB2.out.1⟩
  subst hr0
  go_wp2_with (fail)
  refine (rises_any A n c vs xs _ (HT.out.1.below (Nat.le_refl _) HB2.out.1) (by omega) HT.out.2.1).mono ?_
  rintro e w3 ⟨rfl, hb3⟩
  have hz3 := hb3.size
  have HB3 : Hid (Below w.heap.size w w3 ∧ BoxA w3 w.heap.size a) := ⟨HB2.out.1.trans (hb3.mono HB2.out.1.size), HB2.out.2.below hb3 (lt_of_block HB2.out.2)⟩
  cases hrb : riseB xs
  case' false =>
    clear hb3
    go_wp2
    go_ret
    exact ⟨rfl, HB3.out.1⟩
  have HR : Hid (M.Rise xs) := riseB_iff.1 hrb
  have HG : Hid (Good xs) := ⟨HR.out, HT.out.2.1, by have h1 := HT.out.1.1.1; have h2 := HT.out.1.2.1; omega⟩
  have HTO : Hid (∀ y ∈ (M.applyS xs ac 1000).2, Told xs ac 1000 y) := told HG.out ac 1000
  have HG2 : Hid (Good (M.applyS xs ac 1000).2) := good_apply HG.out ac 1000
  obtain ⟨hx0, us2, ho2⟩ := HAP.out HR.out
  clear hx0
  have HY3 : Hid (Tree w3 B2 m2 us2 (M.applyS xs ac 1000).2) := ho2.tree.below (Nat.le_refl _) hb3
  clear hrb hb3 ho2 HAP HB2
  generalize (M.applyS xs ac 1000).2 = ys at HTO HG2 HY3
  go_wp2_with (fail)
  refine (of_any A n c vs xs _ (HT.out.1.below (Nat.le_refl _) HB3.out.1) HR.out.1 (by omega)).mono ?_
  rintro e w4 ⟨bm, rfl, htm, hb4⟩
  have hz4 := hb4.size
  have HB4 : Hid (Below w.heap.size w w4 ∧ BoxA w4 w.heap.size a ∧ TMap w4 bm xs ∧ Tree w4 B2 m2 us2 ys) := ⟨HB3.out.1.trans (hb4.mono HB3.out.1.size), HB3.out.2.below hb4 (lt_of_block HB3.out.2), htm, HY3.out.below (Nat.le_refl _) hb4⟩
  have hwz4 : w.heap.size < w4.heap.size := lt_of_block HB4.out.2.1
  have hm63 : m2 ≤ 140737488355328 := by have h1 := HB4.out.2.2.2.1.1; have h2 := HB4.out.2.2.2.2.1; have h3 := HG2.out.2.2; omega
  clear htm hb4 HB3 HY3
  go_wp2_with (fail)
  go_loopw [35] (fun i wr => ∃ k : Nat, k ≤ m2 ∧ i = .int .i64 k ∧ Below w4.heap.size w4 wr) (fun i _ => m2 - (intOf i).toNat)
  case atStart => exact ⟨0, Nat.zero_le _, rfl, Below.refl _ _⟩
  case round =>
    obtain ⟨k, hk, rfl, hbr⟩ := hrel
    rename World => wo
    have hzr := hbr.size
    by_cases hlt : k < m2
    · have htr := HB4.out.2.2.2.below (Nat.le_refl _) hbr
      obtain ⟨gb, o, v, rfl, hgb, hvk, c0, c1, c2, c3, c4⟩ := htr.1.at hlt
      obtain ⟨y, hy, hcy⟩ := htr.2.at hvk
      have HY : Hid (Cont wo v y ∧ Told xs ac 1000 y ∧ Small y) := ⟨hcy, HTO.out y (List.mem_of_getElem? hy), HG2.out.2.1 y (List.mem_of_getElem? hy)⟩
      have HBR : Hid (Below w4.heap.size w4 wo) := hbr
      have hwo : Below w.heap.size w wo := HB4.out.1.trans (hbr.mono HB4.out.1.size)
      have HWO : Hid (Below w.heap.size w wo) := hwo
      obtain ⟨a0, a1, a2, a3, a4, a5, a6, af, az⟩ := (HB4.out.2.1.below hbr hwz4).facts
      have hask := IMap.ask (HB4.out.2.2.1.below (Nat.le_refl _) (hbr.trans ((box_start wo v _ rfl).1.mono hzr))) v.fid
      have hwz := hwo.size
      clear hbr htr hvk hy hcy hwo
      obtain ⟨fi, di, dA, dn, dc, eA, en, ec, ve⟩ := v
      have hks : (k : Int) < (m2 : Int) := by omega
      have hk0 : (0 : Int) ≤ (k : Int) := by omega
      rcases hask with ⟨hf, hlk⟩ | ⟨v0, x, hf, hcx, hlk⟩
      · have hlk := hlk true
        simp only [if_true] at hlk
        have HF : y.ver = 1000 ∧ y.fid ∈ M.fidsS ac := by
          rcases HY.out.2.1 with h | h
          · rw [← HY.out.1.1, hf] at h; cases h
          · exact h
        have HIN : Hid (fi ∈ M.fidsS ac) := by show fi ∈ _; have h := HF.2; rw [← HY.out.1.1] at h; exact h
        have hv : ve = 1000 := HY.out.1.2.2.1.trans HF.1
        subst hv
        have HW6 : Hid (Below w.heap.size w ((wo.alloc (.cells #[.int .i64 fi, .bool di, .slice dA dn dc, .slice eA en ec, .int .i64 1000] 40)).alloc (.cells #[Value.int .i64 NV.zero.fid, .bool NV.zero.dir, .slice NV.zero.dA NV.zero.dn NV.zero.dc, .slice NV.zero.eA NV.zero.en NV.zero.ec, .int .i64 NV.zero.ver] 40)) ∧ (Box ((wo.alloc (.cells #[.int .i64 fi, .bool di, .slice dA dn dc, .slice eA en ec, .int .i64 1000] 40)).alloc (.cells #[Value.int .i64 NV.zero.fid, .bool NV.zero.dir, .slice NV.zero.dA NV.zero.dn NV.zero.dc, .slice NV.zero.eA NV.zero.en NV.zero.ec, .int .i64 NV.zero.ver] 40)) wo.heap.size ⟨fi, di, dA, dn, dc, eA, en, ec, 1000⟩ ∧ Box ((wo.alloc (.cells #[.int .i64 fi, .bool di, .slice dA dn dc, .slice eA en ec, .int .i64 1000] 40)).alloc (.cells #[Value.int .i64 NV.zero.fid, .bool NV.zero.dir, .slice NV.zero.dA NV.zero.dn NV.zero.dc, .slice NV.zero.eA NV.zero.en NV.zero.ec, .int .i64 NV.zero.ver] 40)) (wo.heap.size + 1) NV.zero ∧ Below wo.heap.size wo ((wo.alloc (.cells #[.int .i64 fi, .bool di, .slice dA dn dc, .slice eA en ec, .int .i64 1000] 40)).alloc (.cells #[Value.int .i64 NV.zero.fid, .bool NV.zero.dir, .slice NV.zero.dA NV.zero.dn NV.zero.dc, .slice NV.zero.eA NV.zero.en NV.zero.ec, .int .i64 NV.zero.ver] 40))) ∧ True ∧ wo.heap.size + 2 ≤ ((wo.alloc (.cells #[.int .i64 fi, .bool di, .slice dA dn dc, .slice eA en ec, .int .i64 1000] 40)).alloc (.cells #[Value.int .i64 NV.zero.fid, .bool NV.zero.dir, .slice NV.zero.dA NV.zero.dn NV.zero.dc, .slice NV.zero.eA NV.zero.en NV.zero.ec, .int .i64 NV.zero.ver] 40)).heap.size) := by
          refine ⟨(HWO.out.alloc hwz _).alloc (by simp; omega) _, ⟨(Box.new wo ⟨fi, di, dA, dn, dc, eA, en, ec, 1000⟩).alloc _, ?_, ((Below.refl _ _).alloc (Nat.le_refl _) _).alloc (by simp) _⟩, trivial, by simp⟩
          have h := Box.new (wo.alloc (.cells #[.int .i64 fi, .bool di, .slice dA dn dc, .slice eA en ec, .int .i64 1000] 40)) NV.zero
          rw [World.size_alloc] at h
          exact h
        clear hf HF
        go_wp2_with (fail)
        refine (refFids_any a ac _ (HT.out.2.2.1.below (Nat.le_refl _) HW6.out.1)).mono ?_
        rintro e w7 ⟨Fa, fc, rfl, hfo, hb7⟩
        have hz7 := hb7.size
        have hz6 := HW6.out.2.2.2
        obtain ⟨gf, rfl, hgf, hgl⟩ := own_some hfo (fids_pos ac)
        have HB7 : Hid (Below w.heap.size w w7 ∧ Below w4.heap.size w4 w7 ∧ Box w7 wo.heap.size ⟨fi, di, dA, dn, dc, eA, en, ec, 1000⟩ ∧ Box w7 (wo.heap.size + 1) NV.zero ∧ ∀ (j : Nat) f, (M.fidsS ac)[j]? = some f → w7.cell? ⟨gf, j, none⟩ = some (.int .i64 f)) := by
          refine ⟨HW6.out.1.trans (hb7.mono (by have h := HW6.out.1.size; exact h)), (HBR.out.trans (HW6.out.2.1.2.2.mono hzr)).trans (hb7.mono (by omega)), HW6.out.2.1.1.below hb7 (by omega), HW6.out.2.1.2.1.below hb7 (by omega), fun j f hj => ?_⟩
          have hjl : j < (M.fidsS ac).length := (List.getElem?_eq_some_iff.1 hj).1
          rw [hfo.cellAt j (by omega), List.getElem?_map, hj]; rfl
        clear hfo hb7 HW6
        have HLN : Hid ((M.fidsS ac).length ≤ 3) := fids_len ac
        go_wp2_with (fail)
        go_loopw [13, 77] (fun t i wq => ∃ j : Nat, j ≤ (M.fidsS ac).length ∧ i = .int .i64 j ∧ t = .bool (decide (fi ∈ (M.fidsS ac).take j)) ∧ Below w7.heap.size w7 wq) (fun _ i _ => (M.fidsS ac).length - (intOf i).toNat)
        case atStart => exact ⟨0, Nat.zero_le _, rfl, by simp, Below.refl _ _⟩
        case round =>
          obtain ⟨j, hj, rfl, rfl, hbq⟩ := hrel
          have h3 := HLN.out
          have hzq := hbq.size
          obtain ⟨n0, n1, n2, n3, n4, nf, nz⟩ := (HB7.out.2.2.1.below hbq (by omega)).facts
          obtain ⟨o0, o1, o2, o3, o4, of, oz⟩ := (HB7.out.2.2.2.1.below hbq (by omega)).facts
          by_cases hjl : j < (M.fidsS ac).length
          · have hfj : (M.fidsS ac)[j]? = some (M.fidsS ac)[j] := List.getElem?_eq_getElem hjl
            have hcj := HB7.out.2.2.2.2 j _ hfj
            rw [← (bcell hbq).1 gf j hgl] at hcj
            have HTK : Hid ((M.fidsS ac).take (j + 1) = (M.fidsS ac).take j ++ [(M.fidsS ac)[j]]) := take_step hfj
            generalize (M.fidsS ac)[j] = fj at hcj HTK
            clear hfj
            have b1 : (j : Int) < ((M.fidsS ac).length : Int) := by omega
            have b2 : (0 : Int) ≤ (j : Int) := by omega
            by_cases htb : fi ∈ (M.fidsS ac).take j
            · have e1 : decide (fi ∈ (M.fidsS ac).take j) = true := decide_eq_true htb
              have HE : Hid (decide (fi ∈ (M.fidsS ac).take (j + 1)) = true) := by show _ = _; rw [HTK.out]; simp [htb]
              rw [e1]
              clear htb
              go_wp2
              go_roundw
              case rel => exact ⟨j + 1, by omega, by go_num, by rw [HE.out], hbq⟩
              case measure => simp [intOf]; omega
            · have e1 : decide (fi ∈ (M.fidsS ac).take j) = false := decide_eq_false htb
              by_cases hfe : fj = fi
              · have e2 : (fj == fi) = true := by simp [hfe]
                have HE : Hid (decide (fi ∈ (M.fidsS ac).take (j + 1)) = true) := by show _ = _; rw [HTK.out]; simp [hfe]
                rw [e1]
                clear htb hfe
                go_wp2
                go_roundw
                case rel => exact ⟨j + 1, by omega, by go_num, by rw [HE.out], hbq⟩
                case measure => simp [intOf]; omega
              · have e2 : (fj == fi) = false := by simp [hfe]
                have HE : Hid (decide (fi ∈ (M.fidsS ac).take (j + 1)) = false) := by show _ = _; rw [HTK.out]; simp [htb]; exact fun h => hfe h.symm
                rw [e1]
                clear htb hfe
                go_wp2
                go_roundw
                case rel => exact ⟨j + 1, by omega, by go_num, by rw [HE.out], hbq⟩
                case measure => simp [intOf]; omega
          · have HQ : Hid (Below w4.heap.size w4 wr) := HB7.out.2.1.trans (hbq.mono HB7.out.2.1.size)
            have ejl : (M.fidsS ac).take j = M.fidsS ac := List.take_of_length_le (by omega)
            rw [ejl]
            have b1 : ¬ (j : Int) < ((M.fidsS ac).length : Int) := by omega
            clear ejl hbq
            have e1 : decide (fi ∈ M.fidsS ac) = true := decide_eq_true HIN.out
            rw [e1]
            go_wp2
            go_roundw
            case rel => exact ⟨k + 1, by omega, by go_num, HQ.out⟩
            case measure => simp [intOf]; omega
      · have hlk := hlk true
        simp only [if_true] at hlk
        have HFX : Hid (M.find xs fi = some x) := hf
        obtain ⟨f0, d0, A0, n0, k0, E0, m0, l0, u0⟩ := v0
        have HSX : Hid (Small x) := HT.out.2.1 x (M.find_mem hf).1
        rcases HY.out.2.1 with htl | htl
        · have hxy : x = y := by rw [← HY.out.1.1, HFX.out] at htl; exact Option.some.inj htl
          subst hxy
          have hv : u0 = ve := hcx.2.2.1.trans HY.out.1.2.2.1.symm
          subst hv
          have HX : Hid (Cont (wo.alloc (.cells #[.int .i64 fi, .bool di, .slice dA dn dc, .slice eA en ec, .int .i64 u0] 40)) ⟨f0, d0, A0, n0, k0, E0, m0, l0, u0⟩ x ∧ True) := ⟨hcx, trivial⟩
          clear hf hcx htl
          have H6 : Hid (Below w.heap.size w ((wo.alloc (.cells #[.int .i64 fi, .bool di, .slice dA dn dc, .slice eA en ec, .int .i64 u0] 40)).alloc (.cells #[.int .i64 f0, .bool d0, .slice A0 n0 k0, .slice E0 m0 l0, .int .i64 u0] 40)) ∧ Box ((wo.alloc (.cells #[.int .i64 fi, .bool di, .slice dA dn dc, .slice eA en ec, .int .i64 u0] 40)).alloc (.cells #[.int .i64 f0, .bool d0, .slice A0 n0 k0, .slice E0 m0 l0, .int .i64 u0] 40)) wo.heap.size ⟨fi, di, dA, dn, dc, eA, en, ec, u0⟩ ∧ Box ((wo.alloc (.cells #[.int .i64 fi, .bool di, .slice dA dn dc, .slice eA en ec, .int .i64 u0] 40)).alloc (.cells #[.int .i64 f0, .bool d0, .slice A0 n0 k0, .slice E0 m0 l0, .int .i64 u0] 40)) (wo.heap.size + 1) ⟨f0, d0, A0, n0, k0, E0, m0, l0, u0⟩ ∧ Below wo.heap.size wo ((wo.alloc (.cells #[.int .i64 fi, .bool di, .slice dA dn dc, .slice eA en ec, .int .i64 u0] 40)).alloc (.cells #[.int .i64 f0, .bool d0, .slice A0 n0 k0, .slice E0 m0 l0, .int .i64 u0] 40)) ∧ Cont ((wo.alloc (.cells #[.int .i64 fi, .bool di, .slice dA dn dc, .slice eA en ec, .int .i64 u0] 40)).alloc (.cells #[.int .i64 f0, .bool d0, .slice A0 n0 k0, .slice E0 m0 l0, .int .i64 u0] 40)) ⟨f0, d0, A0, n0, k0, E0, m0, l0, u0⟩ x) := by
            refine ⟨(HWO.out.alloc hwz _).alloc (by simp; omega) _, (Box.new wo ⟨fi, di, dA, dn, dc, eA, en, ec, u0⟩).alloc _, ?_, ((Below.refl _ _).alloc (Nat.le_refl _) _).alloc (by simp) _, HX.out.1.below (Nat.le_refl _) ((Below.refl _ _).alloc (Nat.le_refl _) _)⟩
            have h := Box.new (wo.alloc (.cells #[.int .i64 fi, .bool di, .slice dA dn dc, .slice eA en ec, .int .i64 u0] 40)) ⟨f0, d0, A0, n0, k0, E0, m0, l0, u0⟩
            rw [World.size_alloc] at h
            exact h
          clear HX
          go_wp2_with (fail)
          refine (sameNode_any ⟨f0, d0, A0, n0, k0, E0, m0, l0, u0⟩ ⟨fi, di, dA, dn, dc, eA, en, ec, u0⟩ x x false _ H6.out.2.2.2.2 (HY.out.1.below (Nat.le_refl _) H6.out.2.2.2.1) HSX.out HY.out.2.2).mono ?_
          rintro e w6 ⟨rfl, hb6⟩
          have hzz6 := hb6.size
          simp only [World.size_alloc] at hzz6
          have HW6 : Hid (Below w.heap.size w w6 ∧ (Box w6 wo.heap.size ⟨fi, di, dA, dn, dc, eA, en, ec, u0⟩ ∧ Box w6 (wo.heap.size + 1) ⟨f0, d0, A0, n0, k0, E0, m0, l0, u0⟩ ∧ Below wo.heap.size wo w6) ∧ True ∧ wo.heap.size + 2 ≤ w6.heap.size) :=
            ⟨H6.out.1.trans (hb6.mono H6.out.1.size), ⟨H6.out.2.1.below hb6 (by simp; omega), H6.out.2.2.1.below hb6 (by simp), H6.out.2.2.2.1.trans (hb6.mono (by simp; omega))⟩, trivial, by omega⟩
          clear hb6 H6 a0 a1 a2 a3 a4 a5 a6 af
          obtain ⟨a0, a1, a2, a3, a4, a5, a6, af, az6⟩ := (HB4.out.2.1.below (HBR.out.trans (HW6.out.2.1.2.2.mono hzr)) hwz4).facts
          obtain ⟨n0', n1', n2', n3', n4', nf', nz'⟩ := HW6.out.2.1.1.facts
          obtain ⟨o0', o1', o2', o3', o4', of', oz'⟩ := HW6.out.2.1.2.1.facts
          rw [same_self]
          go_wp2_with (fail)
          refine (refFids_any a ac _ (HT.out.2.2.1.below (Nat.le_refl _) HW6.out.1)).mono ?_
          rintro e w7 ⟨Fa, fc, rfl, hfo, hb7⟩
          have hz7 := hb7.size
          have hz6 := HW6.out.2.2.2
          obtain ⟨gf, rfl, hgf, hgl⟩ := own_some hfo (fids_pos ac)
          have HB7 : Hid (Below w.heap.size w w7 ∧ Below w4.heap.size w4 w7 ∧ Box w7 wo.heap.size ⟨fi, di, dA, dn, dc, eA, en, ec, u0⟩ ∧ Box w7 (wo.heap.size + 1) ⟨f0, d0, A0, n0, k0, E0, m0, l0, u0⟩ ∧ ∀ (j : Nat) f, (M.fidsS ac)[j]? = some f → w7.cell? ⟨gf, j, none⟩ = some (.int .i64 f)) := by
            refine ⟨HW6.out.1.trans (hb7.mono (by have h := HW6.out.1.size; exact h)), (HBR.out.trans (HW6.out.2.1.2.2.mono hzr)).trans (hb7.mono (by omega)), HW6.out.2.1.1.below hb7 (by omega), HW6.out.2.1.2.1.below hb7 (by omega), fun j f hj => ?_⟩
            have hjl : j < (M.fidsS ac).length := (List.getElem?_eq_some_iff.1 hj).1
            rw [hfo.cellAt j (by omega), List.getElem?_map, hj]; rfl
          clear hfo hb7 HW6
          have HLN : Hid ((M.fidsS ac).length ≤ 3) := fids_len ac
          go_wp2_with (fail)
          go_loopw [13, 77] (fun t i wq => ∃ j : Nat, j ≤ (M.fidsS ac).length ∧ i = .int .i64 j ∧ t = .bool (decide (fi ∈ (M.fidsS ac).take j)) ∧ Below w7.heap.size w7 wq) (fun _ i _ => (M.fidsS ac).length - (intOf i).toNat)
          case atStart => exact ⟨0, Nat.zero_le _, rfl, by simp, Below.refl _ _⟩
          case round =>
            obtain ⟨j, hj, rfl, rfl, hbq⟩ := hrel
            have h3 := HLN.out
            have hzq := hbq.size
            obtain ⟨n0, n1, n2, n3, n4, nf, nz⟩ := (HB7.out.2.2.1.below hbq (by omega)).facts
            obtain ⟨o0, o1, o2, o3, o4, of, oz⟩ := (HB7.out.2.2.2.1.below hbq (by omega)).facts
            by_cases hjl : j < (M.fidsS ac).length
            · have hfj : (M.fidsS ac)[j]? = some (M.fidsS ac)[j] := List.getElem?_eq_getElem hjl
              have hcj := HB7.out.2.2.2.2 j _ hfj
              rw [← (bcell hbq).1 gf j hgl] at hcj
              have HTK : Hid ((M.fidsS ac).take (j + 1) = (M.fidsS ac).take j ++ [(M.fidsS ac)[j]]) := take_step hfj
              generalize (M.fidsS ac)[j] = fj at hcj HTK
              clear hfj
              have b1 : (j : Int) < ((M.fidsS ac).length : Int) := by omega
              have b2 : (0 : Int) ≤ (j : Int) := by omega
              by_cases htb : fi ∈ (M.fidsS ac).take j
              · have e1 : decide (fi ∈ (M.fidsS ac).take j) = true := decide_eq_true htb
                have HE : Hid (decide (fi ∈ (M.fidsS ac).take (j + 1)) = true) := by show _ = _; rw [HTK.out]; simp [htb]
                rw [e1]
                clear htb
                go_wp2
                go_roundw
                case rel => exact ⟨j + 1, by omega, by go_num, by rw [HE.out], hbq⟩
                case measure => simp [intOf]; omega
              · have e1 : decide (fi ∈ (M.fidsS ac).take j) = false := decide_eq_false htb
                by_cases hfe : fj = fi
                · have e2 : (fj == fi) = true := by simp [hfe]
                  have HE : Hid (decide (fi ∈ (M.fidsS ac).take (j + 1)) = true) := by show _ = _; rw [HTK.out]; simp [hfe]
                  rw [e1]
                  clear htb hfe
                  go_wp2
                  go_roundw
                  case rel => exact ⟨j + 1, by omega, by go_num, by rw [HE.out], hbq⟩
                  case measure => simp [intOf]; omega
                · have e2 : (fj == fi) = false := by simp [hfe]
                  have HE : Hid (decide (fi ∈ (M.fidsS ac).take (j + 1)) = false) := by show _ = _; rw [HTK.out]; simp [htb]; exact fun h => hfe h.symm
                  rw [e1]
                  clear htb hfe
                  go_wp2
                  go_roundw
                  case rel => exact ⟨j + 1, by omega, by go_num, by rw [HE.out], hbq⟩
                  case measure => simp [intOf]; omega
            · have HQ : Hid (Below w4.heap.size w4 wr) := HB7.out.2.1.trans (hbq.mono HB7.out.2.1.size)
              have ejl : (M.fidsS ac).take j = M.fidsS ac := List.take_of_length_le (by omega)
              rw [ejl]
              have b1 : ¬ (j : Int) < ((M.fidsS ac).length : Int) := by omega
              clear ejl hbq
              cases hdc : decide (fi ∈ M.fidsS ac)
              · go_wp2
                go_roundw
                case rel => exact ⟨k + 1, by omega, by go_num, HQ.out⟩
                case measure => simp [intOf]; omega
              · go_wp2
                go_roundw
                case rel => exact ⟨k + 1, by omega, by go_num, HQ.out⟩
                case measure => simp [intOf]; omega
        · have hv : ve = 1000 := HY.out.1.2.2.1.trans htl.1
          subst hv
          have HIN : Hid (fi ∈ M.fidsS ac) := by show fi ∈ _; have h := htl.2; rw [← HY.out.1.1] at h; exact h
          have HX : Hid (Cont (wo.alloc (.cells #[.int .i64 fi, .bool di, .slice dA dn dc, .slice eA en ec, .int .i64 1000] 40)) ⟨f0, d0, A0, n0, k0, E0, m0, l0, u0⟩ x ∧ True) := ⟨hcx, trivial⟩
          clear hf hcx htl
          have H6 : Hid (Below w.heap.size w ((wo.alloc (.cells #[.int .i64 fi, .bool di, .slice dA dn dc, .slice eA en ec, .int .i64 1000] 40)).alloc (.cells #[.int .i64 f0, .bool d0, .slice A0 n0 k0, .slice E0 m0 l0, .int .i64 u0] 40)) ∧ Box ((wo.alloc (.cells #[.int .i64 fi, .bool di, .slice dA dn dc, .slice eA en ec, .int .i64 1000] 40)).alloc (.cells #[.int .i64 f0, .bool d0, .slice A0 n0 k0, .slice E0 m0 l0, .int .i64 u0] 40)) wo.heap.size ⟨fi, di, dA, dn, dc, eA, en, ec, 1000⟩ ∧ Box ((wo.alloc (.cells #[.int .i64 fi, .bool di, .slice dA dn dc, .slice eA en ec, .int .i64 1000] 40)).alloc (.cells #[.int .i64 f0, .bool d0, .slice A0 n0 k0, .slice E0 m0 l0, .int .i64 u0] 40)) (wo.heap.size + 1) ⟨f0, d0, A0, n0, k0, E0, m0, l0, u0⟩ ∧ Below wo.heap.size wo ((wo.alloc (.cells #[.int .i64 fi, .bool di, .slice dA dn dc, .slice eA en ec, .int .i64 1000] 40)).alloc (.cells #[.int .i64 f0, .bool d0, .slice A0 n0 k0, .slice E0 m0 l0, .int .i64 u0] 40)) ∧ Cont ((wo.alloc (.cells #[.int .i64 fi, .bool di, .slice dA dn dc, .slice eA en ec, .int .i64 1000] 40)).alloc (.cells #[.int .i64 f0, .bool d0, .slice A0 n0 k0, .slice E0 m0 l0, .int .i64 u0] 40)) ⟨f0, d0, A0, n0, k0, E0, m0, l0, u0⟩ x) := by
            refine ⟨(HWO.out.alloc hwz _).alloc (by simp; omega) _, (Box.new wo ⟨fi, di, dA, dn, dc, eA, en, ec, 1000⟩).alloc _, ?_, ((Below.refl _ _).alloc (Nat.le_refl _) _).alloc (by simp) _, HX.out.1.below (Nat.le_refl _) ((Below.refl _ _).alloc (Nat.le_refl _) _)⟩
            have h := Box.new (wo.alloc (.cells #[.int .i64 fi, .bool di, .slice dA dn dc, .slice eA en ec, .int .i64 1000] 40)) ⟨f0, d0, A0, n0, k0, E0, m0, l0, u0⟩
            rw [World.size_alloc] at h
            exact h
          clear HX
          go_wp2_with (fail)
          refine (sameNode_any ⟨f0, d0, A0, n0, k0, E0, m0, l0, u0⟩ ⟨fi, di, dA, dn, dc, eA, en, ec, 1000⟩ x y false _ H6.out.2.2.2.2 (HY.out.1.below (Nat.le_refl _) H6.out.2.2.2.1) HSX.out HY.out.2.2).mono ?_
          rintro e w6 ⟨rfl, hb6⟩
          have hzz6 := hb6.size
          simp only [World.size_alloc] at hzz6
          have HW6 : Hid (Below w.heap.size w w6 ∧ (Box w6 wo.heap.size ⟨fi, di, dA, dn, dc, eA, en, ec, 1000⟩ ∧ Box w6 (wo.heap.size + 1) ⟨f0, d0, A0, n0, k0, E0, m0, l0, u0⟩ ∧ Below wo.heap.size wo w6) ∧ True ∧ wo.heap.size + 2 ≤ w6.heap.size) :=
            ⟨H6.out.1.trans (hb6.mono H6.out.1.size), ⟨H6.out.2.1.below hb6 (by simp; omega), H6.out.2.2.1.below hb6 (by simp), H6.out.2.2.2.1.trans (hb6.mono (by simp; omega))⟩, trivial, by omega⟩
          clear hb6 H6 a0 a1 a2 a3 a4 a5 a6 af
          obtain ⟨a0, a1, a2, a3, a4, a5, a6, af, az6⟩ := (HB4.out.2.1.below (HBR.out.trans (HW6.out.2.1.2.2.mono hzr)) hwz4).facts
          obtain ⟨n0', n1', n2', n3', n4', nf', nz'⟩ := HW6.out.2.1.1.facts
          obtain ⟨o0', o1', o2', o3', o4', of', oz'⟩ := HW6.out.2.1.2.1.facts
          cases hsm : sameNd false x y
          · clear hsm
            go_wp2_with (fail)
            refine (refFids_any a ac _ (HT.out.2.2.1.below (Nat.le_refl _) HW6.out.1)).mono ?_
            rintro e w7 ⟨Fa, fc, rfl, hfo, hb7⟩
            have hz7 := hb7.size
            have hz6 := HW6.out.2.2.2
            obtain ⟨gf, rfl, hgf, hgl⟩ := own_some hfo (fids_pos ac)
            have HB7 : Hid (Below w.heap.size w w7 ∧ Below w4.heap.size w4 w7 ∧ Box w7 wo.heap.size ⟨fi, di, dA, dn, dc, eA, en, ec, 1000⟩ ∧ Box w7 (wo.heap.size + 1) ⟨f0, d0, A0, n0, k0, E0, m0, l0, u0⟩ ∧ ∀ (j : Nat) f, (M.fidsS ac)[j]? = some f → w7.cell? ⟨gf, j, none⟩ = some (.int .i64 f)) := by
              refine ⟨HW6.out.1.trans (hb7.mono (by have h := HW6.out.1.size; exact h)), (HBR.out.trans (HW6.out.2.1.2.2.mono hzr)).trans (hb7.mono (by omega)), HW6.out.2.1.1.below hb7 (by omega), HW6.out.2.1.2.1.below hb7 (by omega), fun j f hj => ?_⟩
              have hjl : j < (M.fidsS ac).length := (List.getElem?_eq_some_iff.1 hj).1
              rw [hfo.cellAt j (by omega), List.getElem?_map, hj]; rfl
            clear hfo hb7 HW6
            have HLN : Hid ((M.fidsS ac).length ≤ 3) := fids_len ac
            go_wp2_with (fail)
            go_loopw [13, 77] (fun t i wq => ∃ j : Nat, j ≤ (M.fidsS ac).length ∧ i = .int .i64 j ∧ t = .bool (decide (fi ∈ (M.fidsS ac).take j)) ∧ Below w7.heap.size w7 wq) (fun _ i _ => (M.fidsS ac).length - (intOf i).toNat)
            case atStart => exact ⟨0, Nat.zero_le _, rfl, by simp, Below.refl _ _⟩
            case round =>
              obtain ⟨j, hj, rfl, rfl, hbq⟩ := hrel
              have h3 := HLN.out
              have hzq := hbq.size
              obtain ⟨n0, n1, n2, n3, n4, nf, nz⟩ := (HB7.out.2.2.1.below hbq (by omega)).facts
              obtain ⟨o0, o1, o2, o3, o4, of, oz⟩ := (HB7.out.2.2.2.1.below hbq (by omega)).facts
              by_cases hjl : j < (M.fidsS ac).length
              · have hfj : (M.fidsS ac)[j]? = some (M.fidsS ac)[j] := List.getElem?_eq_getElem hjl
                have hcj := HB7.out.2.2.2.2 j _ hfj
                rw [← (bcell hbq).1 gf j hgl] at hcj
                have HTK : Hid ((M.fidsS ac).take (j + 1) = (M.fidsS ac).take j ++ [(M.fidsS ac)[j]]) := take_step hfj
                generalize (M.fidsS ac)[j] = fj at hcj HTK
                clear hfj
                have b1 : (j : Int) < ((M.fidsS ac).length : Int) := by omega
                have b2 : (0 : Int) ≤ (j : Int) := by omega
                by_cases htb : fi ∈ (M.fidsS ac).take j
                · have e1 : decide (fi ∈ (M.fidsS ac).take j) = true := decide_eq_true htb
                  have HE : Hid (decide (fi ∈ (M.fidsS ac).take (j + 1)) = true) := by show _ = _; rw [HTK.out]; simp [htb]
                  rw [e1]
                  clear htb
                  go_wp2
                  go_roundw
                  case rel => exact ⟨j + 1, by omega, by go_num, by rw [HE.out], hbq⟩
                  case measure => simp [intOf]; omega
                · have e1 : decide (fi ∈ (M.fidsS ac).take j) = false := decide_eq_false htb
                  by_cases hfe : fj = fi
                  · have e2 : (fj == fi) = true := by simp [hfe]
                    have HE : Hid (decide (fi ∈ (M.fidsS ac).take (j + 1)) = true) := by show _ = _; rw [HTK.out]; simp [hfe]
                    rw [e1]
                    clear htb hfe
                    go_wp2
                    go_roundw
                    case rel => exact ⟨j + 1, by omega, by go_num, by rw [HE.out], hbq⟩
                    case measure => simp [intOf]; omega
                  · have e2 : (fj == fi) = false := by simp [hfe]
                    have HE : Hid (decide (fi ∈ (M.fidsS ac).take (j + 1)) = false) := by show _ = _; rw [HTK.out]; simp [htb]; exact fun h => hfe h.symm
                    rw [e1]
                    clear htb hfe
                    go_wp2
                    go_roundw
                    case rel => exact ⟨j + 1, by omega, by go_num, by rw [HE.out], hbq⟩
                    case measure => simp [intOf]; omega
              · have HQ : Hid (Below w4.heap.size w4 wr) := HB7.out.2.1.trans (hbq.mono HB7.out.2.1.size)
                have ejl : (M.fidsS ac).take j = M.fidsS ac := List.take_of_length_le (by omega)
                rw [ejl]
                have b1 : ¬ (j : Int) < ((M.fidsS ac).length : Int) := by omega
                clear ejl hbq
                have e1 : decide (fi ∈ M.fidsS ac) = true := decide_eq_true HIN.out
                rw [e1]
                go_wp2
                go_roundw
                case rel => exact ⟨k + 1, by omega, by go_num, HQ.out⟩
                case measure => simp [intOf]; omega
          · clear hsm
            by_cases hvu : u0 = 1000
            · subst hvu
              go_wp2_with (fail)
              refine (refFids_any a ac _ (HT.out.2.2.1.below (Nat.le_refl _) HW6.out.1)).mono ?_
              rintro e w7 ⟨Fa, fc, rfl, hfo, hb7⟩
              have hz7 := hb7.size
              have hz6 := HW6.out.2.2.2
              obtain ⟨gf, rfl, hgf, hgl⟩ := own_some hfo (fids_pos ac)
              have HB7 : Hid (Below w.heap.size w w7 ∧ Below w4.heap.size w4 w7 ∧ Box w7 wo.heap.size ⟨fi, di, dA, dn, dc, eA, en, ec, 1000⟩ ∧ Box w7 (wo.heap.size + 1) ⟨f0, d0, A0, n0, k0, E0, m0, l0, 1000⟩ ∧ ∀ (j : Nat) f, (M.fidsS ac)[j]? = some f → w7.cell? ⟨gf, j, none⟩ = some (.int .i64 f)) := by
                refine ⟨HW6.out.1.trans (hb7.mono (by have h := HW6.out.1.size; exact h)), (HBR.out.trans (HW6.out.2.1.2.2.mono hzr)).trans (hb7.mono (by omega)), HW6.out.2.1.1.below hb7 (by omega), HW6.out.2.1.2.1.below hb7 (by omega), fun j f hj => ?_⟩
                have hjl : j < (M.fidsS ac).length := (List.getElem?_eq_some_iff.1 hj).1
                rw [hfo.cellAt j (by omega), List.getElem?_map, hj]; rfl
              clear hfo hb7 HW6
              have HLN : Hid ((M.fidsS ac).length ≤ 3) := fids_len ac
              go_wp2_with (fail)
              go_loopw [13, 77] (fun t i wq => ∃ j : Nat, j ≤ (M.fidsS ac).length ∧ i = .int .i64 j ∧ t = .bool (decide (fi ∈ (M.fidsS ac).take j)) ∧ Below w7.heap.size w7 wq) (fun _ i _ => (M.fidsS ac).length - (intOf i).toNat)
              case atStart => exact ⟨0, Nat.zero_le _, rfl, by simp, Below.refl _ _⟩
              case round =>
                obtain ⟨j, hj, rfl, rfl, hbq⟩ := hrel
                have h3 := HLN.out
                have hzq := hbq.size
                obtain ⟨n0, n1, n2, n3, n4, nf, nz⟩ := (HB7.out.2.2.1.below hbq (by omega)).facts
                obtain ⟨o0, o1, o2, o3, o4, of, oz⟩ := (HB7.out.2.2.2.1.below hbq (by omega)).facts
                by_cases hjl : j < (M.fidsS ac).length
                · have hfj : (M.fidsS ac)[j]? = some (M.fidsS ac)[j] := List.getElem?_eq_getElem hjl
                  have hcj := HB7.out.2.2.2.2 j _ hfj
                  rw [← (bcell hbq).1 gf j hgl] at hcj
                  have HTK : Hid ((M.fidsS ac).take (j + 1) = (M.fidsS ac).take j ++ [(M.fidsS ac)[j]]) := take_step hfj
                  generalize (M.fidsS ac)[j] = fj at hcj HTK
                  clear hfj
                  have b1 : (j : Int) < ((M.fidsS ac).length : Int) := by omega
                  have b2 : (0 : Int) ≤ (j : Int) := by omega
                  by_cases htb : fi ∈ (M.fidsS ac).take j
                  · have e1 : decide (fi ∈ (M.fidsS ac).take j) = true := decide_eq_true htb
                    have HE : Hid (decide (fi ∈ (M.fidsS ac).take (j + 1)) = true) := by show _ = _; rw [HTK.out]; simp [htb]
                    rw [e1]
                    clear htb
                    go_wp2
                    go_roundw
                    case rel => exact ⟨j + 1, by omega, by go_num, by rw [HE.out], hbq⟩
                    case measure => simp [intOf]; omega
                  · have e1 : decide (fi ∈ (M.fidsS ac).take j) = false := decide_eq_false htb
                    by_cases hfe : fj = fi
                    · have e2 : (fj == fi) = true := by simp [hfe]
                      have HE : Hid (decide (fi ∈ (M.fidsS ac).take (j + 1)) = true) := by show _ = _; rw [HTK.out]; simp [hfe]
                      rw [e1]
                      clear htb hfe
                      go_wp2
                      go_roundw
                      case rel => exact ⟨j + 1, by omega, by go_num, by rw [HE.out], hbq⟩
                      case measure => simp [intOf]; omega
                    · have e2 : (fj == fi) = false := by simp [hfe]
                      have HE : Hid (decide (fi ∈ (M.fidsS ac).take (j + 1)) = false) := by show _ = _; rw [HTK.out]; simp [htb]; exact fun h => hfe h.symm
                      rw [e1]
                      clear htb hfe
                      go_wp2
                      go_roundw
                      case rel => exact ⟨j + 1, by omega, by go_num, by rw [HE.out], hbq⟩
                      case measure => simp [intOf]; omega
                · have HQ : Hid (Below w4.heap.size w4 wr) := HB7.out.2.1.trans (hbq.mono HB7.out.2.1.size)
                  have ejl : (M.fidsS ac).take j = M.fidsS ac := List.take_of_length_le (by omega)
                  rw [ejl]
                  have b1 : ¬ (j : Int) < ((M.fidsS ac).length : Int) := by omega
                  clear ejl hbq
                  have e1 : decide (fi ∈ M.fidsS ac) = true := decide_eq_true HIN.out
                  rw [e1]
                  go_wp2
                  go_roundw
                  case rel => exact ⟨k + 1, by omega, by go_num, HQ.out⟩
                  case measure => simp [intOf]; omega
            · have v1 : ((1000 : Int) == u0) = false := by rw [beq_eq_false_iff_ne]; exact fun h => hvu h.symm
              have v2 : ((1000 : Int) != u0) = true := by rw [bne, v1]; rfl
              go_wp2_with (fail)
              refine (refFids_any a ac _ (HT.out.2.2.1.below (Nat.le_refl _) HW6.out.1)).mono ?_
              rintro e w7 ⟨Fa, fc, rfl, hfo, hb7⟩
              have hz7 := hb7.size
              have hz6 := HW6.out.2.2.2
              obtain ⟨gf, rfl, hgf, hgl⟩ := own_some hfo (fids_pos ac)
              have HB7 : Hid (Below w.heap.size w w7 ∧ Below w4.heap.size w4 w7 ∧ Box w7 wo.heap.size ⟨fi, di, dA, dn, dc, eA, en, ec, 1000⟩ ∧ Box w7 (wo.heap.size + 1) ⟨f0, d0, A0, n0, k0, E0, m0, l0, u0⟩ ∧ ∀ (j : Nat) f, (M.fidsS ac)[j]? = some f → w7.cell? ⟨gf, j, none⟩ = some (.int .i64 f)) := by
                refine ⟨HW6.out.1.trans (hb7.mono (by have h := HW6.out.1.size; exact h)), (HBR.out.trans (HW6.out.2.1.2.2.mono hzr)).trans (hb7.mono (by omega)), HW6.out.2.1.1.below hb7 (by omega), HW6.out.2.1.2.1.below hb7 (by omega), fun j f hj => ?_⟩
                have hjl : j < (M.fidsS ac).length := (List.getElem?_eq_some_iff.1 hj).1
                rw [hfo.cellAt j (by omega), List.getElem?_map, hj]; rfl
              clear hfo hb7 HW6
              have HLN : Hid ((M.fidsS ac).length ≤ 3) := fids_len ac
              go_wp2_with (fail)
              go_loopw [13, 77] (fun t i wq => ∃ j : Nat, j ≤ (M.fidsS ac).length ∧ i = .int .i64 j ∧ t = .bool (decide (fi ∈ (M.fidsS ac).take j)) ∧ Below w7.heap.size w7 wq) (fun _ i _ => (M.fidsS ac).length - (intOf i).toNat)
              case atStart => exact ⟨0, Nat.zero_le _, rfl, by simp, Below.refl _ _⟩
              case round =>
                obtain ⟨j, hj, rfl, rfl, hbq⟩ := hrel
                have h3 := HLN.out
                have hzq := hbq.size
                obtain ⟨n0, n1, n2, n3, n4, nf, nz⟩ := (HB7.out.2.2.1.below hbq (by omega)).facts
                obtain ⟨o0, o1, o2, o3, o4, of, oz⟩ := (HB7.out.2.2.2.1.below hbq (by omega)).facts
                by_cases hjl : j < (M.fidsS ac).length
                · have hfj : (M.fidsS ac)[j]? = some (M.fidsS ac)[j] := List.getElem?_eq_getElem hjl
                  have hcj := HB7.out.2.2.2.2 j _ hfj
                  rw [← (bcell hbq).1 gf j hgl] at hcj
                  have HTK : Hid ((M.fidsS ac).take (j + 1) = (M.fidsS ac).take j ++ [(M.fidsS ac)[j]]) := take_step hfj
                  generalize (M.fidsS ac)[j] = fj at hcj HTK
                  clear hfj
                  have b1 : (j : Int) < ((M.fidsS ac).length : Int) := by omega
                  have b2 : (0 : Int) ≤ (j : Int) := by omega
                  by_cases htb : fi ∈ (M.fidsS ac).take j
                  · have e1 : decide (fi ∈ (M.fidsS ac).take j) = true := decide_eq_true htb
                    have HE : Hid (decide (fi ∈ (M.fidsS ac).take (j + 1)) = true) := by show _ = _; rw [HTK.out]; simp [htb]
                    rw [e1]
                    clear htb
                    go_wp2
                    go_roundw
                    case rel => exact ⟨j + 1, by omega, by go_num, by rw [HE.out], hbq⟩
                    case measure => simp [intOf]; omega
                  · have e1 : decide (fi ∈ (M.fidsS ac).take j) = false := decide_eq_false htb
                    by_cases hfe : fj = fi
                    · have e2 : (fj == fi) = true := by simp [hfe]
                      have HE : Hid (decide (fi ∈ (M.fidsS ac).take (j + 1)) = true) := by show _ = _; rw [HTK.out]; simp [hfe]
                      rw [e1]
                      clear htb hfe
                      go_wp2
                      go_roundw
                      case rel => exact ⟨j + 1, by omega, by go_num, by rw [HE.out], hbq⟩
                      case measure => simp [intOf]; omega
                    · have e2 : (fj == fi) = false := by simp [hfe]
                      have HE : Hid (decide (fi ∈ (M.fidsS ac).take (j + 1)) = false) := by show _ = _; rw [HTK.out]; simp [htb]; exact fun h => hfe h.symm
                      rw [e1]
                      clear htb hfe
                      go_wp2
                      go_roundw
                      case rel => exact ⟨j + 1, by omega, by go_num, by rw [HE.out], hbq⟩
                      case measure => simp [intOf]; omega
                · have HQ : Hid (Below w4.heap.size w4 wr) := HB7.out.2.1.trans (hbq.mono HB7.out.2.1.size)
                  have ejl : (M.fidsS ac).take j = M.fidsS ac := List.take_of_length_le (by omega)
                  rw [ejl]
                  have b1 : ¬ (j : Int) < ((M.fidsS ac).length : Int) := by omega
                  clear ejl hbq
                  have e1 : decide (fi ∈ M.fidsS ac) = true := decide_eq_true HIN.out
                  rw [e1]
                  go_wp2
                  go_roundw
                  case rel => exact ⟨k + 1, by omega, by go_num, HQ.out⟩
                  case measure => simp [intOf]; omega
    · go_wp2
      go_ret
      exact ⟨rfl, HB4.out.1.trans (hbr.mono HB4.out.1.size)⟩
end Go.Proofs.Ytkdpdgbacladhab
