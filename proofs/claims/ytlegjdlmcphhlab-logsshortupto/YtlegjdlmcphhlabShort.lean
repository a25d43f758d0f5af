/-
  THE LAW LogsShort, walked: of any tree and acts that are few enough it answers true, and all that was there stays.
-/
import Derived.Test.YtlegjdlmcphhlabPart10
import Derived.Test.YtlegjdlmcphhlabPart13
import Derived.Test.YtlegjdlmcphhlabPart15
import Derived.Test.YtlegjdlmcphhlabPart7
import Derived.Test.YtlegjdlmcphhlabPart4
namespace Go.Proofs.Ytlegjdlmcphhlab
open Go.RowKit
open Go.ChangeMaps (setBlock)

set_option maxHeartbeats 2000000 in
theorem of_gen (A : Option Addr) (n c : Nat) (vs : List NV) (xs : List M.Nd) (w : World) (ht : Tree w A n vs xs) (hn : n * 72 ≤ 140737488355328) :
    Calls Try.prog 14 #[.slice A n c] w fun e w' => ∃ b, e = .returned (.map (some b)) ∧ TMap w' b (ofS xs) ∧ Below w.heap.size w w' := by
  have HT : Hid (Tree w A n vs xs ∧ True) := ⟨ht, trivial⟩
  have HL : Hid (n = xs.length) := by show n = _; rw [ht.1.1, ht.2.1]
  have hmm := @run_makeMap Try.prog
  have H0 : Hid (OfInv w w.heap.size [] (w.alloc (.map #[] 0))) := ⟨⟨_, IMap.new w, agree_nil w⟩, (Below.refl _ _).alloc (Nat.le_refl _) _⟩
  clear ht
  go_enter Try.func14, Try.ntmps14
  go_wp2
  go_loopw [9] (fun i wr => ∃ k : Nat, k ≤ n ∧ i = .int .i64 k ∧ OfInv w w.heap.size (ofS (xs.take k)) wr) (fun i _ => n - (intOf i).toNat)
  case atStart => exact ⟨0, Nat.zero_le _, rfl, H0.out⟩
  case round =>
    obtain ⟨k, hk, rfl, hinv⟩ := hrel
    have HI : Hid (OfInv w w.heap.size (ofS (xs.take k)) wr) := hinv
    have hb := hinv.2
    clear hinv
    by_cases hlt : k < n
    · have hxr := HT.out.1.below (Nat.le_refl _) hb
      obtain ⟨b, o, v, hA, _, hvk, a0, a1, a2, a3, a4⟩ := hxr.1.at hlt
      obtain ⟨x, hxk, hcx⟩ := HT.out.1.2.at hvk
      have HX : Hid (Cont w v x ∧ xs[k]? = some x) := ⟨hcx, hxk⟩
      have HF : Hid (∀ q, M.find (ofS (xs.take (k + 1))) q = if q = x.fid then some x else M.find (ofS (xs.take k)) q) := by
        intro q
        rw [take_step hxk, ofS_snoc, M.findN_if]
      obtain ⟨ob, hrun, hinv2⟩ := of_step (HI.out.alloc (.cells #[.int .i64 v.fid, .bool v.dir, .slice v.dA v.dn v.dc, .slice v.eA v.en v.ec, .int .i64 v.ver] 40)) (Nat.le_refl _) hcx HF.out
      have HI2 : Hid (OfInv w w.heap.size (ofS (xs.take (k + 1))) (setBlock (wr.alloc (.cells #[.int .i64 v.fid, .bool v.dir, .slice v.dA v.dn v.dc, .slice v.eA v.en v.ec, .int .i64 v.ver] 40)) w.heap.size ob)) := hinv2
      have hkn : (k : Int) < (n : Int) := by omega
      have hk0 : (0 : Int) ≤ (k : Int) := by omega
      subst hA
      clear hxr hvk hxk hcx hinv2
      go_wp2
      go_roundw
      case rel => exact ⟨k + 1, by omega, by go_num, HI2.out⟩
      case measure => simp [intOf]; omega
    · have HN : Hid (xs.take k = xs) := by have := HL.out; show _ = _; exact List.take_of_length_le (by omega)
      go_wp2
      go_ret
      have h1 := HI.out
      rw [HN.out] at h1
      exact ⟨_, rfl, h1.tmap, hb⟩

theorem TMap.congr {w : World} {b : Nat} {xs ys : List M.Nd} (h : TMap w b xs) (e : ∀ t, M.find xs t = M.find ys t) : TMap w b ys := by
  obtain ⟨f, hi, ha⟩ := h
  refine ⟨f, hi, fun k => ?_⟩
  have := ha k
  rw [e] at this
  exact this
theorem boxN_start (w : World) (v : NV) : ∀ W, W = w.alloc (.cells #[.int .i64 v.fid, .bool v.dir, .slice v.dA v.dn v.dc, .slice v.eA v.en v.ec, .int .i64 v.ver] 40) → Below w.heap.size w W ∧ Box W w.heap.size v ∧ W.heap.size = w.heap.size + 1 := by
  rintro W rfl
  exact ⟨(Below.refl _ _).alloc (Nat.le_refl _) _, Box.new w v, by simp⟩
theorem add_err4 {l : List M.Rec} {r : M.Rec} (h : (M.addS l r).1 ≠ 0) : M.addS l r = (5, []) ∧ 20 ≤ l.length := by
  unfold M.addS at *
  split
  · rename_i hu; rw [if_pos hu] at h; simp at h
  · rename_i hu
    rw [if_neg hu] at h
    split
    · rename_i h20; exact ⟨rfl, Nat.le_trans h20 (List.length_filter_le _ _)⟩
    · rename_i h20; rw [if_neg h20] at h; simp at h
theorem rise_nil : M.Rise [] := ⟨List.Pairwise.nil, by simp⟩
/-- a log in memory -/
def LogIn (w : World) (B : Option Addr) (m d : Nat) (log : List M.Rec) : Prop := ∃ us, TreeR w B m us log ∧ m ≤ d ∧ d ≤ maxLen
theorem LogIn.below {w w' : World} {B : Option Addr} {m d : Nat} {log : List M.Rec} (h : LogIn w B m d log) (hb : Below w.heap.size w w') : LogIn w' B m d log := by
  obtain ⟨us, ht, h1, h2⟩ := h
  exact ⟨us, ht.below (Nat.le_refl _) hb, h1, h2⟩

set_option maxRecDepth 8000 in
set_option maxHeartbeats 8000000 in
theorem short_any (A C : Option Addr) (n c p cq : Nat) (vs : List NV) (xs : List M.Nd) (avs : List AV) (acs : List M.Act) (w : World) (ht : Tree w A n vs xs) (hsm : ∀ x ∈ xs, Small x) (hnb : n ≤ 1048576) (hcb : (allF xs).length ≤ 1048576) (ha : TreeA w C p avs acs) (hsa : ∀ a ∈ acs, SmallA a) (hp : p ≤ 1048576) :
    Calls Try.prog 7 #[.slice A n c, .slice C p cq] w fun e w' => e = .returned (.bool true) ∧ Below w.heap.size w w' := by
  have HT : Hid (Tree w A n vs xs ∧ (∀ x ∈ xs, Small x) ∧ TreeA w C p avs acs ∧ (∀ a ∈ acs, SmallA a)) := ⟨ht, hsm, ha, hsa⟩
  have HNX : Hid (n = xs.length ∧ p = acs.length) := ⟨by rw [ht.1.1, ht.2.1], by rw [ha.1.1, ha.2.1]⟩
  have HCB : Hid ((allF xs).length ≤ 1048576) := hcb
  clear ht hsm ha hsa hcb
  go_enter Try.func7, Try.ntmps7
  go_wp2_with (fail)
  refine (alive4_any _).mono ?_
  rintro e w1 ⟨rfl, hb1⟩
  have H1 : Hid (Below w.heap.size w w1) := hb1
  clear hb1
  go_wp2_with (fail)
  refine (of_gen A n c vs xs w1 (HT.out.1.below (Nat.le_refl _) H1.out) (by omega)).mono ?_
  rintro e w2 ⟨b0, rfl, ht2, hb2⟩
  have H2 : Hid (Below w.heap.size w w2 ∧ TMap w2 b0 (ofS xs)) := ⟨H1.out.trans (hb2.mono H1.out.size), ht2⟩
  clear hb2 ht2 H1
  go_wp2_with (fail)
  go_loopw [26] (fun i wr => ∃ k : Nat, k ≤ n ∧ i = .int .i64 k ∧ Hid ((∀ x ∈ xs.take k, 0 ≤ x.fid) ∧ (0 < k → M.Rise xs)) ∧ Below w2.heap.size w2 wr) (fun i _ => n - (intOf i).toNat)
  case atStart => exact ⟨0, Nat.zero_le _, rfl, ⟨by simp, fun h => absurd h (Nat.lt_irrefl _)⟩, Below.refl _ _⟩
  case round =>
    obtain ⟨k, hk, rfl, HI, hb⟩ := hrel
    have hsz := hb.size
    have hbw : Below w.heap.size w wr := H2.out.1.trans (hb.mono H2.out.1.size)
    by_cases hlt : k < n
    · have htr := HT.out.1.below (Nat.le_refl _) hbw
      obtain ⟨g, o, v, rfl, hgb, hvk, c0, c1, c2, c3, c4⟩ := htr.1.at hlt
      obtain ⟨x, hx, hcx⟩ := htr.2.at hvk
      have HX : Hid (xs[k]? = some x ∧ v.fid = x.fid) := ⟨hx, hcx.1⟩
      have HWA : Hid _ := boxN_start wr v
      clear hvk htr hx hcx
      by_cases hneg : v.fid < 0
      · have d1 : decide (v.fid < 0) = true := decide_eq_true hneg
        go_wp2_with (fail)
        go_ret
        exact ⟨rfl, hbw.trans ((HWA.out _ rfl).1.mono hbw.size)⟩
      · have d1 : decide (v.fid < 0) = false := decide_eq_false hneg
        have HNEG : Hid (¬ v.fid < 0) := hneg
        go_wp2_with (fail)
        obtain ⟨p1, p2, p3⟩ := HWA.out _ rfl
        refine (rises_any (some ⟨g, o, none⟩) n c vs xs _ (HT.out.1.below (Nat.le_refl _) (hbw.trans (p1.mono hbw.size))) (by omega) HT.out.2.1).mono ?_
        rintro e w3 ⟨rfl, hb3⟩
        have h3 : Below wr.heap.size wr w3 := p1.trans (hb3.mono p1.size)
        have H3 : Hid (Below w.heap.size w w3 ∧ Below w2.heap.size w2 w3) := ⟨hbw.trans (h3.mono hbw.size), hb.trans (h3.mono hsz)⟩
        clear p1 p2 p3 hb3 h3 HWA c0 c1 c2 c3 c4 hneg d1
        cases hrb : riseB xs
        · go_wp2_with (fail)
          go_ret
          exact ⟨rfl, H3.out.1⟩
        · have HI2 : Hid ((∀ x ∈ xs.take (k + 1), 0 ≤ x.fid) ∧ (0 < k + 1 → M.Rise xs)) := by
            refine ⟨fun y hy => ?_, fun _ => riseB_iff.1 hrb⟩
            rw [take_step HX.out.1] at hy
            rcases List.mem_append.1 hy with h | h
            · exact HI.out.1 y h
            · rw [List.mem_singleton.1 h, ← HX.out.2]; have h9 := HNEG.out; omega
          clear hrb
          go_wp2_with (fail)
          go_roundw
          case rel => exact ⟨k + 1, by omega, by go_num, HI2, H3.out.2⟩
          case measure => simp [intOf]; omega
    · have HR : Hid (M.Rise xs ∧ ∀ x ∈ xs, 0 ≤ x.fid) := by
        have hkn : k = n := by omega
        have hl : xs.take k = xs := List.take_of_length_le (by rw [← HNX.out.1]; omega)
        refine ⟨?_, by have h := HI.out.1; rw [hl] at h; exact h⟩
        by_cases h0 : 0 < k
        · exact HI.out.2 h0
        · have : xs = [] := List.eq_nil_of_length_eq_zero (by rw [← HNX.out.1]; omega)
          rw [this]; exact rise_nil
      have HG : Hid (Good xs) := ⟨HR.out.1, HT.out.2.1, by rw [← HNX.out.1]; omega⟩
      have HT0 : Hid (TMap wr b0 xs) := (H2.out.2.congr (ofS_all HR.out.1.1)).below (Nat.le_refl _) hb
      clear HI
      rename World => wa
      go_wp2_with (fail)
      go_loopw [5, 8, 41] (fun t l i wr => ∃ (k : Nat) (bt : Nat) (T : List M.Nd) (B : Option Addr) (m d : Nat) (log : List M.Rec), k ≤ p ∧ i = .int .i64 k ∧ t = .map (some bt) ∧ l = .slice B m d ∧ Hid (TMap wr bt T ∧ LogIn wr B m d log ∧ LogOf xs T log ∧ Fit T (1048576 + k) ∧ log.length ≤ k) ∧ Below wa.heap.size wa wr) (fun _ _ i _ => p - (intOf i).toNat)
      case atStart => exact ⟨0, b0, xs, none, 0, 0, [], Nat.zero_le _, rfl, rfl, rfl, ⟨HT0.out, ⟨[], ⟨⟨rfl, .inl rfl⟩, All2.nil⟩, Nat.le_refl _, Nat.zero_le _⟩, LogOf.nil xs, ⟨HG.out, HCB.out⟩, Nat.zero_le _⟩, Below.refl _ _⟩
      case round =>
        obtain ⟨k2, bt, T, B, m, d, log, hk2, rfl, rfl, rfl, HL, hb2⟩ := hrel
        have hsz2 := hb2.size
        have hbw2 : Below w.heap.size w wr := hbw.trans (hb2.mono hbw.size)
        have hml : m = log.length := by obtain ⟨us, ht, _⟩ := HL.out.2.1; exact ht.len
        have HML : Hid (m = log.length) := hml
        have hmk : m ≤ k2 := by rw [hml]; exact HL.out.2.2.2.2
        clear hml
        by_cases hlt2 : k2 < p
        · have htr := HT.out.2.2.1.1.below (Nat.le_refl _) hbw2
          obtain ⟨g, o, av, rfl, hgb, hvk, hcl⟩ := Row.at htr hlt2
          have c0 := hcl 0 _ rfl
          have c1 := hcl 1 _ rfl
          have c2 := hcl 2 _ rfl
          have c3 := hcl 3 _ rfl
          have c4 := hcl 4 _ rfl
          have c5 := hcl 5 _ rfl
          have c6 := hcl 6 _ rfl
          simp only [Nat.add_zero] at c0
          obtain ⟨ac, hx, hcx0⟩ := HT.out.2.2.1.2.at hvk
          have HX : Hid (ContA wr av ac ∧ SmallA ac) := ⟨hcx0.below (Nat.le_refl _) hbw2, HT.out.2.2.2 ac (List.mem_of_getElem? hx)⟩
          have HWA : Hid _ := boxA_start wr av
          clear hvk htr hx hcx0 hcl
          go_upto_region 14 with (fail)
          go_cut [11] from 46 to 53 (fun t W => t = .bool (decide (av.kind = 1) || decide (av.kind = 2)) ∧ Below wr.heap.size wr W ∧ BoxA W wr.heap.size av ∧ W.heap.size = wr.heap.size + 1)
          case first =>
            by_cases h1 : av.kind = 1
            · have q1 : (av.kind == 1) = true := by simp [h1]
              have E1 : Hid ((decide (av.kind = 1) || decide (av.kind = 2)) = true) := by show _ = _; simp [h1]
              clear h1
              go_wp2_with (fail)
              go_meet
              case rel => exact ⟨congrArg Value.bool E1.out.symm, HWA.out _ rfl⟩
            · by_cases h2 : av.kind = 2
              · have q1 : (av.kind == 1) = false := by simp [h1]
                have q2 : (av.kind == 2) = true := by simp [h2]
                have E1 : Hid ((decide (av.kind = 1) || decide (av.kind = 2)) = true) := by show _ = _; simp [h2]
                clear h1 h2
                go_wp2_with (fail)
                go_meet
                case rel => exact ⟨congrArg Value.bool E1.out.symm, HWA.out _ rfl⟩
              · have q1 : (av.kind == 1) = false := by simp [h1]
                have q2 : (av.kind == 2) = false := by simp [h2]
                have E1 : Hid ((decide (av.kind = 1) || decide (av.kind = 2)) = false) := by show _ = _; simp [h1, h2]
                clear h1 h2
                go_wp2_with (fail)
                go_meet
                case rel => exact ⟨congrArg Value.bool E1.out.symm, HWA.out _ rfl⟩
          obtain ⟨rfl, p1, p2, p3⟩ := hcut
          rename World => w5
          have H5 : Hid (Below wr.heap.size wr w5 ∧ BoxA w5 wr.heap.size av) := ⟨p1, p2⟩
          clear p1 p2 p3 HWA c0 c1 c2 c3 c4 c5 c6
          obtain ⟨mk, hmk2⟩ : ∃ mk : Bool, (decide (av.kind = 1) || decide (av.kind = 2)) = mk := ⟨_, rfl⟩
          rw [hmk2]
          have HMK : Hid (M.makeB ac = mk) := by show _ = _; unfold M.makeB; rw [← HX.out.1.1]; exact hmk2
          clear hmk2
          go_upto_if 54 with (fail)
          go_cut [57] from 54 to 57 (fun _ W => ∃ (av2 : AV) (ac2 : M.Act), Hid (Below wr.heap.size wr W ∧ BoxA W wr.heap.size av2 ∧ ContA W av2 ac2 ∧ SmallA ac2 ∧ (M.makeB ac2 = true → ac2.fid < 0)))
          case first =>
            obtain ⟨a0, a1, a2, a3, a4, a5, a6, af, az⟩ := H5.out.2.facts
            cases mk
            · go_wp2_with (fail)
              go_meet
              case rel => exact ⟨av, ac, H5.out.1, H5.out.2, HX.out.1.below (Nat.le_refl _) H5.out.1, HX.out.2, fun h => by rw [HMK.out] at h; cases h⟩
            · have hki : ((-1 : Int) - (k2 : Int)) ≤ 9223372036854775807 ∧ (-9223372036854775808 : Int) ≤ (-1 : Int) - (k2 : Int) := by omega
              have HS5 : Hid (∀ W, W = w5.setCell ⟨wr.heap.size, 1, none⟩ (.int .i64 (-1 - (k2 : Int))) → Below wr.heap.size wr W ∧ BoxA W wr.heap.size ⟨av.kind, -1 - (k2 : Int), av.dir, av.name, av.to, av.toName, av.dA, av.dn, av.dc⟩) := by
                rintro W rfl
                exact ⟨H5.out.1.setCell (p := ⟨wr.heap.size, 1, none⟩) (Nat.le_refl _) _, boxA_set1 H5.out.2 _⟩
              go_wp2_with (fail)
              go_meet
              case rel =>
                obtain ⟨q1, q2⟩ := HS5.out _ rfl
                refine ⟨_, ⟨ac.kind, -1 - (k2 : Int), ac.dir, ac.name, ac.to, ac.toName, ac.data⟩, q1, q2, ?_, HX.out.2, fun _ => by show (-1 : Int) - (k2 : Int) < 0; omega⟩
                have h := HX.out.1.below (Nat.le_refl _) q1
                exact ⟨h.1, rfl, h.2.2.1, h.2.2.2.1, h.2.2.2.2.1, h.2.2.2.2.2.1, h.2.2.2.2.2.2⟩
          obtain ⟨av2, ac2, H6⟩ := hcut
          rename World => w6
          clear H5 HMK HX
          obtain ⟨a0, a1, a2, a3, a4, a5, a6, af, az⟩ := H6.out.2.1.facts
          have hF := HL.out.2.2.2.1.wide (by omega)
          have HF : Hid ((∀ x ∈ T, (x.ents.length + 1) * 24 ≤ 140737488355328) ∧ ((allF T).length + 2) * 8 ≤ 140737488355328) := hF
          clear hF
          go_wp2_with (fail)
          refine (refApply_any bt T av2 ac2 0 w6 (HL.out.1.below (Nat.le_refl _) H6.out.1) H6.out.2.2.1 HL.out.2.2.2.1.1.1 HL.out.2.2.2.1.1.2.1 HF.out.1 HF.out.2 (by rw [H6.out.2.2.1.2.2.2.1]; exact H6.out.2.2.2.1.1) (by rw [H6.out.2.2.1.2.2.2.2.2.1]; exact H6.out.2.2.2.1.2.1)).mono ?_
          rintro e w7 ⟨hb7, mm, rfl, hsp⟩
          have h17 : Below wr.heap.size wr w7 := H6.out.1.trans (hb7.mono H6.out.1.size)
          have H7 : Hid (Below wa.heap.size wa w7 ∧ BoxA w7 wr.heap.size av2 ∧ ContA w7 av2 ac2 ∧ LogIn w7 B m d log ∧ TMap w7 bt T) := ⟨hb2.trans (h17.mono hsz2), H6.out.2.1.below hb7 az, H6.out.2.2.1.below (Nat.le_refl _) hb7, HL.out.2.1.below h17, HL.out.1.below (Nat.le_refl _) h17⟩
          have HSA : Hid (SmallA ac2 ∧ (M.makeB ac2 = true → ac2.fid < 0)) := H6.out.2.2.2
          clear hb7 h17 H6 HF a0 a1 a2 a3 a4 a5 a6 af az
          obtain ⟨a0, a1, a2, a3, a4, a5, a6, af, az⟩ := H7.out.2.1.facts
          rcases hsp with ⟨h0, bm2, rfl, ht7⟩ | ⟨h0, rfl⟩
          case' inr =>
            have e1 : ((M.applyS T ac2 0).1 != 0) = true := by simp [h0]
            clear h0
            go_wp2_with (fail)
            go_roundw
            case rel => exact ⟨k2 + 1, bt, T, B, m, d, log, by omega, by go_num, rfl, rfl, ⟨H7.out.2.2.2.2, H7.out.2.2.2.1, HL.out.2.2.1, HL.out.2.2.2.1.mono (by omega), Nat.le_succ_of_le HL.out.2.2.2.2⟩, H7.out.1⟩
            case measure => simp [intOf]; omega
          have HAP : Hid ((M.applyS T ac2 0).1 = 0 ∧ TMap w7 bm2 (M.applyS T ac2 0).2) := ⟨h0, ht7⟩
          rw [h0]
          clear h0 ht7
          obtain ⟨us, htl, hmd, hdm⟩ := H7.out.2.2.2.1
          have HTL : Hid (TreeR w7 B m us log) := htl
          clear htl
          go_wp2_with (fail)
          refine (add_any B m d us log ⟨av2, 0, (k2 : Int)⟩ ⟨ac2, 0, (k2 : Int)⟩ w7 HTL.out (fun y hy => (HL.out.2.2.1.small y hy).2.2) (by omega) hmd hdm ⟨H7.out.2.2.1, rfl, rfl⟩ HSA.out.1.2.2).mono ?_
          rintro e w8 ⟨B8, m8, d8, us8, rfl, ho8, hb8⟩
          obtain ⟨_, _, hff, hmd8, hdm8⟩ := own_form ho8.1
          cases hff
          have H8 : Hid (Below wa.heap.size wa w8 ∧ TMap w8 bm2 (M.applyS T ac2 0).2 ∧ LogIn w8 B8 m8 d8 (M.addS log ⟨ac2, 0, (k2 : Int)⟩).2) := ⟨H7.out.1.trans (hb8.mono H7.out.1.size), HAP.out.2.below (Nat.le_refl _) hb8, us8, ho8.tree, hmd8, hdm8⟩
          clear ho8 hb8 a0 a1 a2 a3 a4 a5 a6 af az hmd8 hdm8
          by_cases h0 : (M.addS log ⟨ac2, 0, (k2 : Int)⟩).1 = 0
          · have HN : Hid (LogOf xs (M.applyS T ac2 0).2 (M.addS log ⟨ac2, 0, (k2 : Int)⟩).2) := HL.out.2.2.1.next HG.out HR.out.2 HSA.out.2 HSA.out.1 HAP.out.1 h0
            have HLL : Hid ((M.addS log ⟨ac2, 0, (k2 : Int)⟩).2.length ≤ k2 + 1) := Nat.le_trans (add_len _ _) (Nat.succ_le_succ HL.out.2.2.2.2)
            rw [h0]
            clear h0
            go_wp2_with (fail)
            go_roundw
            case rel => exact ⟨k2 + 1, bm2, (M.applyS T ac2 0).2, B8, m8, d8, _, by omega, by go_num, rfl, rfl, ⟨H8.out.2.1, H8.out.2.2, HN.out, HL.out.2.2.2.1.next ac2 0, HLL.out⟩, H8.out.1⟩
            case measure => simp [intOf]; omega
          · obtain ⟨he, h20⟩ := add_err4 h0
            have h20' : (20 : Int) ≤ (m : Int) := by rw [HML.out]; omega
            rw [he]
            clear he h20 h0
            have HB8 : Hid (Below w.heap.size w w8) := hbw.trans (H8.out.1.mono hbw.size)
            go_wp2_with (fail)
            go_ret
            exact ⟨rfl, HB8.out⟩
        · obtain ⟨Y, hY1, hY2⟩ := runS_back HL.out.2.2.1.run
          have HY : Hid (M.runS xs (log.map (·.act)) = some Y ∧ Y.map bare = T.map bare) := ⟨hY1, hY2⟩
          clear hY1 hY2
          obtain ⟨us, htl, hmd, hdm⟩ := HL.out.2.1
          have HTL : Hid (TreeR wr B m us log) := htl
          clear htl
          rename World => wb
          go_wp2_with (fail)
          refine (of_any A n c vs xs wb (HT.out.1.below (Nat.le_refl _) hbw2) HR.out.1.1 (by omega)).mono ?_
          rintro e w9 ⟨b9, rfl, ht9, hb9⟩
          have H9 : Hid (Below wb.heap.size wb w9 ∧ TMap w9 b9 xs) := ⟨hb9, ht9⟩
          clear hb9 ht9
          go_wp2_with (fail)
          go_loopw [15, 90] (fun t i wr => ∃ (k3 : Nat) (bn : Nat) (N : List M.Nd), k3 ≤ m ∧ i = .int .i64 k3 ∧ t = .map (some bn) ∧ Hid (TMap wr bn N ∧ M.runS N ((log.drop k3).map (·.act)) = some Y ∧ Fit N (1048576 + k3)) ∧ Below wb.heap.size wb wr) (fun _ i _ => m - (intOf i).toNat)
          case atStart => exact ⟨0, b9, xs, Nat.zero_le _, rfl, rfl, ⟨H9.out.2, HY.out.1, HG.out, HCB.out⟩, H9.out.1⟩
          case round =>
            obtain ⟨k3, bn, N, hk3, rfl, rfl, HN, hb3⟩ := hrel
            have hsz3 := hb3.size
            by_cases hlt3 : k3 < m
            · have htr := HTL.out.below (Nat.le_refl _) hb3
              obtain ⟨g, o, v, rfl, hgb, hvk, c0, c1, c2, c3, c4, c5, c6, c7, c8⟩ := htr.1.at hlt3
              obtain ⟨x, hx, hcx⟩ := htr.2.at hvk
              have hdr : log.drop k3 = x :: log.drop (k3 + 1) := by
                have hkl := (List.getElem?_eq_some_iff.1 hx).1
                have e : log[k3] = x := by rw [List.getElem?_eq_getElem hkl] at hx; exact Option.some.inj hx
                rw [← e]; exact List.drop_eq_getElem_cons hkl
              have hru := HN.out.2.1
              rw [hdr, List.map_cons] at hru
              have HC : Hid _ := M.run_cons hru
              have HX : Hid (ContR wr v x ∧ SmallA x.act) := ⟨hcx, HL.out.2.2.1.small x (List.mem_of_getElem? hx)⟩
              have HWA : Hid _ := boxR_start wr v
              have hF := HN.out.2.2.wide (by omega)
              have HF : Hid ((∀ x ∈ N, (x.ents.length + 1) * 24 ≤ 140737488355328) ∧ ((allF N).length + 2) * 8 ≤ 140737488355328) := hF
              clear hvk htr hx hcx hdr hru hF
              go_wp2_with (fail)
              obtain ⟨p1, p2, p3⟩ := HWA.out _ rfl
              refine (refApply_any bn N v.a x.act 0 _ (HN.out.1.below (Nat.le_refl _) p1) (HX.out.1.1.below (Nat.le_refl _) p1) HN.out.2.2.1.1 HN.out.2.2.1.2.1 HF.out.1 HF.out.2 (by rw [HX.out.1.1.2.2.2.1]; exact HX.out.2.1) (by rw [HX.out.1.1.2.2.2.2.2.1]; exact HX.out.2.2.1)).mono ?_
              rintro e w10 ⟨hb10, mm, rfl, hsp⟩
              have h310 : Below wr.heap.size wr w10 := p1.trans (hb10.mono p1.size)
              rcases hsp with ⟨h0, bm2, rfl, ht10⟩ | ⟨h0, rfl⟩
              case' inr => exact absurd HC.out.1 h0
              have H10 : Hid (Below wb.heap.size wb w10 ∧ TMap w10 bm2 (M.applyS N x.act 0).2) := ⟨hb3.trans (h310.mono hsz3), ht10⟩
              rw [h0]
              clear p1 p2 p3 hb10 h310 h0 ht10 HWA c0 c1 c2 c3 c4 c5 c6 c7 c8
              go_wp2_with (fail)
              go_roundw
              case rel => exact ⟨k3 + 1, bm2, _, by omega, by go_num, rfl, ⟨H10.out.2, HC.out.2, HN.out.2.2.next x.act 0⟩, H10.out.1⟩
              case measure => simp [intOf]; omega
            · have HNY : Hid (N = Y) := by
                have h := HN.out.2.1
                rw [List.drop_eq_nil_iff.2 (by rw [← HML.out]; omega)] at h
                exact Option.some.inj h
              have HGN : Hid (Good N ∧ Good T) := ⟨HN.out.2.2.1, HL.out.2.2.2.1.1⟩
              go_wp2_with (fail)
              refine (list_any bn N wr HN.out.1 HGN.out.1.1.1 (by have := HGN.out.1.2.2; omega)).mono ?_
              rintro e w11 ⟨A1, m1, c1, us1, rfl, ht1, hb11⟩
              have H11 : Hid (Below wb.heap.size wb w11 ∧ Tree w11 A1 m1 us1 N) := ⟨hb3.trans (hb11.mono hsz3), ht1⟩
              clear ht1 hb11
              go_wp2_with (fail)
              refine (list_any bt T w11 (HL.out.1.below (Nat.le_refl _) H11.out.1) HGN.out.2.1.1 (by have := HGN.out.2.2.2; omega)).mono ?_
              rintro e w12 ⟨A2, m2, c2, us2, rfl, ht2, hb12⟩
              have H12 : Hid (Below wb.heap.size wb w12 ∧ Tree w12 A1 m1 us1 N ∧ Tree w12 A2 m2 us2 T) := ⟨H11.out.1.trans (hb12.mono H11.out.1.size), H11.out.2.below (Nat.le_refl _) hb12, ht2⟩
              have hm1 : m1 * 72 ≤ 140737488355328 := by have h1 := H12.out.2.1.1.1; have h2 := H12.out.2.1.2.1; have h3 := HGN.out.1.2.2; omega
              have hm2 : m2 * 72 ≤ 140737488355328 := by have h1 := H12.out.2.2.1.1; have h2 := H12.out.2.2.2.1; have h3 := HGN.out.2.2.2; omega
              clear ht2 hb12 H11
              go_wp2_with (fail)
              refine (refSame_any A1 A2 m1 m2 c1 c2 us1 us2 N T false w12 H12.out.2.1 H12.out.2.2 hm1 hm2 HGN.out.1.2.1 HGN.out.2.2.1).mono ?_
              rintro e w13 ⟨rfl, hb13⟩
              have hal : allB (sameNd false) N T = true := allB_bare (by rw [HNY.out]; exact HY.out.2)
              rw [hal]
              have H13 : Hid (Below w.heap.size w w13) := hbw2.trans ((H12.out.1.trans (hb13.mono H12.out.1.size)).mono hbw2.size)
              clear hb13 hal
              go_wp2_with (fail)
              go_ret
              exact ⟨rfl, H13.out⟩
end Go.Proofs.Ytlegjdlmcphhlab
