/-
  THE LAW ActsTells, walked: of any tree and acts that are few enough it answers true, and all that was there stays.
-/
import Derived.Test.YtlegjdlmcphhlaaPart10
import Derived.Test.YtlegjdlmcphhlaaPart11
import Derived.Test.YtlegjdlmcphhlaaPart12
import Derived.Test.YtlegjdlmcphhlaaPart7
import Derived.Test.YtlegjdlmcphhlaaPart4
import Derived.Test.YtlegjdlmcphhlaaPart6
import Derived.Deep.CutRange
namespace Go.Proofs.Ytlegjdlmcphhlaa
open Go.RowKit

theorem allB_same3 (vb : Bool) : ∀ xs : List M.Nd, allB (sameNd vb) xs xs = true
  | [] => rfl
  | x :: xs => by rw [allB, same_self, allB_same3 vb xs]; rfl
def VT8 (av : AV) (ac : M.Act) : Nat → Value → World → Prop
  | 0 => IsU (AV.val av)
  | 1 => IsAc ac
  | 2 => IsU (AV.val av)
  | 3 => IsU (.bool true)
  | 4 => IsU (.bool false)
  | 5 => IsU (.bool false)
  | 6 => IsU (AV.val av)
  | 7 => IsFn (M.fidsS ac).length
  | 8 => IsU (.int .i64 (((M.fidsS ac).length : Nat) : Int))
  | 9 => IsU (AV.val av)
  | 10 => IsFn (M.fidsS ac).length
  | 11 => IsU (.int .i64 (((M.fidsS ac).length : Nat) : Int))
  | 12 => IsU (.bool false)
  | 13 => IsU (.bool false)
  | _ => fun _ _ => True
theorem VT8_stays (av : AV) (ac : M.Act) : ∀ i, Stays (VT8 av ac i) := by
  intro i v W W' hb h
  match i, h with
  | 0, h => exact h
  | 1, h => exact isAc_below hb h
  | 2, h => exact h
  | 3, h => exact h
  | 4, h => exact h
  | 5, h => exact h
  | 6, h => exact h
  | 7, h => exact h
  | 8, h => exact h
  | 9, h => exact h
  | 10, h => exact h
  | 11, h => exact h
  | 12, h => exact h
  | 13, h => exact h
  | k + 14, h => trivial
def VT17 (A : Option Addr) (n c : Nat) (xs : List M.Nd) (av : AV) (ac : M.Act) (ver : Int) : Nat → Value → World → Prop
  | 0 => IsU (.slice A n c)
  | 1 => IsMp xs
  | 2 => IsU (AV.val av)
  | 3 => IsU (.int .i64 (ver))
  | 4 => IsAm (M.applyS xs ac ver)
  | 5 => IsAm (M.applyS xs ac ver)
  | 6 => IsAm0 (M.applyS xs ac ver)
  | 7 => IsU (.int .i64 ((M.applyS xs ac ver).1))
  | 8 => IsAm0 (M.applyS xs ac ver)
  | 9 => IsU (.int .i64 ((M.applyS xs ac ver).1))
  | _ => fun _ _ => True
theorem VT17_stays (A : Option Addr) (n c : Nat) (xs : List M.Nd) (av : AV) (ac : M.Act) (ver : Int) : ∀ i, Stays (VT17 A n c xs av ac ver i) := by
  intro i v W W' hb h
  match i, h with
  | 0, h => exact h
  | 1, h => exact isMp_below hb h
  | 2, h => exact h
  | 3, h => exact h
  | 4, h => exact isAm_below hb h
  | 5, h => exact isAm_below hb h
  | 6, h => exact isAm0_below hb h
  | 7, h => exact h
  | 8, h => exact isAm0_below hb h
  | 9, h => exact h
  | k + 10, h => trivial
/-- how far the acts came -/
def Far (w : World) (xs : List M.Nd) (acs : List M.Act) (ver : Int) (k bt : Nat) (bad : Nat) (why : Int) : Prop :=
  (why = 0 ∧ bad = acs.length ∧ ∃ T, TMap w bt T ∧ Fit T (1048576 + k) ∧ M.allS xs acs ver = ((M.allS T (acs.drop k) ver).1 + k, (M.allS T (acs.drop k) ver).2)) ∨ (why ≠ 0 ∧ M.allS xs acs ver = (bad, why, []))
theorem Far.below {w w' : World} {xs : List M.Nd} {acs : List M.Act} {ver : Int} {k bt bad : Nat} {why : Int} (h : Far w xs acs ver k bt bad why) (hb : Below w.heap.size w w') : Far w' xs acs ver k bt bad why :=
  h.imp (fun ⟨h1, h2, T, h3, h4, h5⟩ => ⟨h1, h2, T, h3.below (Nat.le_refl _) hb, h4, h5⟩) id
theorem fm_ints3 : ∀ fs : List Int, (fs.flatMap fun f : Int => [Value.int .i64 f]) = fs.map fun f => Value.int .i64 f
  | [] => rfl
  | f :: fs => by rw [List.flatMap_cons, fm_ints3 fs]; rfl
theorem fids_row {w : World} {B : Nat} {A : Option Addr} {c : Nat} {ac : M.Act} (h : w.ownsRow B 3 1 (.slice A (M.fidsS ac).length c) (M.fidsS ac).length ((M.fidsS ac).map fun f => Value.int .i64 f)) {j : Nat} (hj : j < (M.fidsS ac).length) {f : Int} (hf : (M.fidsS ac)[j]? = some f) :
    ∃ b o, A = some ⟨b, o, none⟩ ∧ b < w.heap.size ∧ w.cell? ⟨b, o + j, none⟩ = some (.int .i64 f) := by
  have hrow : Row 1 (fun f : Int => [Value.int .i64 f]) w A (M.fidsS ac).length (M.fidsS ac) := Row.ofOwn (fun _ => rfl) (by decide) (by rw [fm_ints3]; exact h)
  obtain ⟨b, o, x, e, hlt, hx, hc⟩ := Row.at hrow hj
  rw [hf] at hx
  cases hx
  have := hc 0 _ rfl
  rw [Nat.mul_one, Nat.add_zero] at this
  exact ⟨b, o, e, hlt, this⟩
theorem fids_len (ac : M.Act) : (M.fidsS ac).length ≤ 3 := by unfold M.fidsS; split <;> (try split) <;> simp
theorem drop_at {acs : List M.Act} {k : Nat} {a : M.Act} (h : acs[k]? = some a) : acs.drop k = a :: acs.drop (k + 1) := by
  have hkl := (List.getElem?_eq_some_iff.1 h).1
  have e : acs[k] = a := by rw [List.getElem?_eq_getElem hkl] at h; exact Option.some.inj h
  rw [← e]; exact List.drop_eq_getElem_cons hkl

set_option maxRecDepth 8000 in
set_option maxHeartbeats 8000000 in
theorem tells3_any (A C : Option Addr) (n c p cq : Nat) (vs : List NV) (xs : List M.Nd) (avs : List AV) (acs : List M.Act) (ver : Int) (w : World) (ht : Tree w A n vs xs) (hsm : ∀ x ∈ xs, Small x) (hnb : n ≤ 1048576) (hcb : (allF xs).length ≤ 1048576) (ha : TreeA w C p avs acs) (hsa : ∀ a ∈ acs, SmallA a) (hp : p ≤ 1048576) :
    Calls Try.prog 6 #[.slice A n c, .slice C p cq, .int .i64 ver] w fun e w' => e = .returned (.bool true) ∧ Below w.heap.size w w' := by
  have HT : Hid (Tree w A n vs xs ∧ (∀ x ∈ xs, Small x) ∧ TreeA w C p avs acs ∧ (∀ a ∈ acs, SmallA a)) := ⟨ht, hsm, ha, hsa⟩
  have HNX : Hid (n = xs.length ∧ p = acs.length) := ⟨by rw [ht.1.1, ht.2.1], by rw [ha.1.1, ha.2.1]⟩
  have HCB : Hid ((allF xs).length ≤ 1048576) := hcb
  clear ht hsm ha hsa hcb
  go_enter Try.func6, Try.ntmps6
  go_wp2_with (fail)
  refine (rises_any A n c vs xs w HT.out.1 (by omega) HT.out.2.1).mono ?_
  rintro e w1 ⟨rfl, hb1⟩
  have H1 : Hid (Below w.heap.size w w1) := hb1
  clear hb1
  cases hrb : riseB xs
  case' false =>
    go_wp2_with (fail)
    go_ret
    exact ⟨rfl, H1.out⟩
  have HRI : Hid (M.Rise xs ∧ (∀ x ∈ xs, Small x)) := ⟨riseB_iff.1 hrb, HT.out.2.1⟩
  have HG : Hid (Good xs) := ⟨HRI.out.1, HRI.out.2, by rw [← HNX.out.1]; omega⟩
  have HFX : Hid ((∀ x ∈ xs, (x.ents.length + 1) * 24 ≤ 140737488355328) ∧ ((allF xs).length + 2) * 8 ≤ 140737488355328) := Fit.wide (N := 1048576) ⟨HG.out, HCB.out⟩ (by omega)
  clear hrb
  go_wp2_with (fail)
  refine (of_any A n c vs xs w1 (HT.out.1.below (Nat.le_refl _) H1.out) HRI.out.1.1 (by omega)).mono ?_
  rintro e w2 ⟨b0, rfl, ht2, hb2⟩
  have H2 : Hid (Below w.heap.size w w2 ∧ TMap w2 b0 xs) := ⟨H1.out.trans (hb2.mono H1.out.size), ht2⟩
  clear hb2 ht2 H1
  go_wp2_with (fail)
  go_loopw [7, 8, 9, 32] (fun t b y i wr => ∃ (k bt bad : Nat) (why : Int), k ≤ p ∧ i = .int .i64 k ∧ t = .map (some bt) ∧ b = .int .i64 bad ∧ y = .int .i64 why ∧ Hid (Far wr xs acs ver k bt bad why) ∧ Below w2.heap.size w2 wr) (fun _ _ _ i _ => p - (intOf i).toNat)
  case atStart => exact ⟨0, b0, p, 0, Nat.zero_le _, rfl, rfl, rfl, rfl, .inl ⟨rfl, HNX.out.2, xs, H2.out.2, ⟨HG.out, HCB.out⟩, rfl⟩, Below.refl _ _⟩
  case round =>
    obtain ⟨k, bt, bad, why, hk, rfl, rfl, rfl, rfl, HF, hb⟩ := hrel
    rename World => wo
    have hsz := hb.size
    have hbw : Below w.heap.size w wo := H2.out.1.trans (hb.mono H2.out.1.size)
    by_cases hlt : k < p
    · have htr := HT.out.2.2.1.1.below (Nat.le_refl _) hbw
      obtain ⟨g, o, av, rfl, hgb, hvk, hcl⟩ := Row.at htr hlt
      have c0 := hcl 0 _ rfl
      have c1 := hcl 1 _ rfl
      have c2 := hcl 2 _ rfl
      have c3 := hcl 3 _ rfl
      have c4 := hcl 4 _ rfl
      have c5 := hcl 5 _ rfl
      have c6 := hcl 6 _ rfl
      simp only [Nat.add_zero] at c0
      obtain ⟨ac, hx, hcx0⟩ := HT.out.2.2.1.2.at hvk
      have HX : Hid (acs[k]? = some ac ∧ ContA wo av ac) := ⟨hx, hcx0.below (Nat.le_refl _) hbw⟩
      have HSM : Hid (SmallA ac) := HT.out.2.2.2 ac (List.mem_of_getElem? hx)
      have HNM : Hid (av.name.size ≤ maxLen ∧ av.toName.size ≤ maxLen) := ⟨by rw [HX.out.2.2.2.2.1]; exact HSM.out.1, by rw [HX.out.2.2.2.2.2.2.1]; exact HSM.out.2.1⟩
      have HWA : Hid _ := boxA_start wo av
      clear hvk htr hx hcx0 hcl
      go_upto_region 8 with (fail)
      go_cut [50] from 37 to 50 (fun s W => s = .bool false ∧ Below wo.heap.size wo W ∧ BoxA W wo.heap.size av)
      case first =>
        have rl : ((((M.fidsS ac).length : Nat) : Int) != (((M.fidsS ac).length : Nat) : Int)) = false := by simp
        have hbd : ∀ W, Below (wo.alloc (.cells #[.int .i64 av.kind, .int .i64 av.fid, .int .i64 av.dir, .string av.name, .int .i64 av.to, .string av.toName, .slice av.dA av.dn av.dc] 59)).drew.heap.size (wo.alloc (.cells #[.int .i64 av.kind, .int .i64 av.fid, .int .i64 av.dir, .string av.name, .int .i64 av.to, .string av.toName, .slice av.dA av.dn av.dc] 59)).drew W → Below wo.heap.size wo W ∧ BoxA W wo.heap.size av := fun W hb0 => by
          obtain ⟨p1, p2, p3⟩ := HWA.out _ rfl
          have h1 := (Below.refl _ _).drew.trans hb0
          exact ⟨p1.trans (Below.mono h1 p1.size), p2.below h1 (lt_of_block p2)⟩
        have HBX := fun W hb0 => (hbd W hb0).2
        have HCA := fun W hb0 => HX.out.2.below (Nat.le_refl _) (hbd W hb0).1
        have HEN : Hid (∀ W, Below (wo.alloc (.cells #[.int .i64 av.kind, .int .i64 av.fid, .int .i64 av.dir, .string av.name, .int .i64 av.to, .string av.toName, .slice av.dA av.dn av.dc] 59)).heap.size (wo.alloc (.cells #[.int .i64 av.kind, .int .i64 av.fid, .int .i64 av.dir, .string av.name, .int .i64 av.to, .string av.toName, .slice av.dA av.dn av.dc] 59)) W → Below wo.heap.size wo W ∧ BoxA W wo.heap.size av) := fun W hb0 => by
          obtain ⟨p1, p2, p3⟩ := HWA.out _ rfl
          exact ⟨p1.trans (Below.mono hb0 p1.size), p2.below hb0 (lt_of_block p2)⟩
        refine wp_region_vals (VT8 av ac) (by kernel_rfl) (by kernel_rfl) (VT8_stays av ac) ?_ ?_
        · intro i hi
          match i, hi with
          | 0, _ =>
            refine StepAt.by rfl fun a' W hf hb hd => ?_
            refine .inl ⟨want_none, ?_⟩
            exact does_rn (run_loadAb ((hf.keeps 11 (by kernel_rfl)).trans rfl) (HBX W hb)) ⟨Below.refl _ _, rfl⟩
          | 1, _ =>
            refine StepAt.by rfl fun a' W hf hb hd => ?_
            refine .inl ⟨want_none, ?_⟩
            exact does_call1 (enters_of Try.func32 (by kernel_rfl) (by kernel_rfl)) (hd 0 (by kernel_rfl)) ((ownAct_any av ac W (HCA W hb) HSM.out.2.2).mono fun e W' ⟨a', he, ho, hb'⟩ => ⟨_, he, hb', a', rfl, ho.cont⟩)
          | 2, _ =>
            refine StepAt.by rfl fun a' W hf hb hd => ?_
            refine .inl ⟨want_none, ?_⟩
            exact does_rn (run_loadAb ((hf.keeps 11 (by kernel_rfl)).trans rfl) (HBX W hb)) ⟨Below.refl _ _, rfl⟩
          | 3, _ =>
            refine StepAt.by rfl fun a' W hf hb hd => ?_
            refine .inl ⟨want_none, ?_⟩
            obtain ⟨a1, e1, hc1⟩ := hd 1 (by kernel_rfl)
            exact does_call2 (enters_of Try.func31 (by kernel_rfl) (by kernel_rfl)) e1 (hd 2 (by kernel_rfl)) ((sameAct_any a1 av ac W hc1 (HCA W hb)).mono fun e W' ⟨he, hb'⟩ => ⟨_, he, hb', rfl⟩)
          | 4, _ =>
            refine StepAt.by rfl fun a' W hf hb hd => ?_
            exact .inl ⟨want_none, does_not (hd 3 (by kernel_rfl)) ⟨Below.refl _ _, rfl⟩⟩
          | 5, _ =>
            refine StepAt.by rfl fun a' W hf hb hd => ?_
            exact .inl ⟨want_none, does_move (hd 4 (by kernel_rfl)) ⟨Below.refl _ _, rfl⟩⟩
          | 6, _ =>
            refine StepAt.by rfl fun a' W hf hb hd => ?_
            refine .inl ⟨want_some (k := 5) (t := 42) rfl (hd 5 (by kernel_rfl)), ?_⟩
            exact does_rn (run_loadAb ((hf.keeps 11 (by kernel_rfl)).trans rfl) (HBX W hb)) ⟨Below.refl _ _, rfl⟩
          | 7, _ =>
            refine StepAt.by rfl fun a' W hf hb hd => ?_
            refine .inl ⟨want_some (k := 5) (t := 42) rfl (hd 5 (by kernel_rfl)), ?_⟩
            exact does_call1 (enters_of Try.func33 (by kernel_rfl) (by kernel_rfl)) (hd 6 (by kernel_rfl)) ((fids_any av ac W (HCA W hb)).mono fun e W' ⟨A1, c1, he, _, hb'⟩ => ⟨_, he, hb', A1, c1, rfl⟩)
          | 8, _ =>
            refine StepAt.by rfl fun a' W hf hb hd => ?_
            refine .inl ⟨want_some (k := 5) (t := 42) rfl (hd 5 (by kernel_rfl)), ?_⟩
            obtain ⟨A1, c1, e1⟩ := hd 7 (by kernel_rfl)
            exact does_rn (run_lenF (by kernel_rfl) e1) ⟨Below.refl _ _, rfl⟩
          | 9, _ =>
            refine StepAt.by rfl fun a' W hf hb hd => ?_
            refine .inl ⟨want_some (k := 5) (t := 42) rfl (hd 5 (by kernel_rfl)), ?_⟩
            exact does_rn (run_loadAb ((hf.keeps 11 (by kernel_rfl)).trans rfl) (HBX W hb)) ⟨Below.refl _ _, rfl⟩
          | 10, _ =>
            refine StepAt.by rfl fun a' W hf hb hd => ?_
            refine .inl ⟨want_some (k := 5) (t := 42) rfl (hd 5 (by kernel_rfl)), ?_⟩
            exact does_call1 (enters_of Try.func34 (by kernel_rfl) (by kernel_rfl)) (hd 9 (by kernel_rfl)) ((refFids_any av ac W (HCA W hb)).mono fun e W' ⟨A1, c1, he, _, hb'⟩ => ⟨_, he, hb', A1, c1, rfl⟩)
          | 11, _ =>
            refine StepAt.by rfl fun a' W hf hb hd => ?_
            refine .inl ⟨want_some (k := 5) (t := 42) rfl (hd 5 (by kernel_rfl)), ?_⟩
            obtain ⟨A1, c1, e1⟩ := hd 10 (by kernel_rfl)
            exact does_rn (run_lenF (by kernel_rfl) e1) ⟨Below.refl _ _, rfl⟩
          | 12, _ =>
            refine StepAt.by rfl fun a' W hf hb hd => ?_
            exact .inl ⟨want_some (k := 5) (t := 42) rfl (hd 5 (by kernel_rfl)), does_rn (run_neqI (hd 8 (by kernel_rfl)) (hd 11 (by kernel_rfl))) ⟨Below.refl _ _, by show Value.bool _ = _; rw [rl]⟩⟩
          | 13, _ =>
            refine StepAt.by rfl fun a' W hf hb hd => ?_
            exact .inl ⟨want_none, does_pick (b := false) (hd 5 (by kernel_rfl)) (hd 12 (by kernel_rfl)) ⟨Below.refl _ _, rfl⟩⟩
          | k + 14, hi => exact absurd hi (Nat.not_lt.2 (Nat.le_add_left _ _))
        · intro a' W hf hb0 hv
          have hlast : a'.eval (.tmp 50) = .bool false := hv 13 (by decide)
          have hl := hf.lit (fun t => decide (37 ≤ t) && decide (t ≤ 50)) (by kernel_rfl)
          simp only [overL, Nat.reduceAdd, Nat.reduceLeDiff, decide_true, decide_false, Bool.and_true, Bool.and_false] at hl
          rw [hl]
          clear hl
          have HBW : Hid _ := HEN.out W hb0
          clear hf hb0 hv
          go_wp2_with (fail)
          go_meet
          case rel => exact ⟨hlast, HBW.out⟩
      obtain ⟨rfl, p1, p2⟩ := hcut
      rename World => w5
      have H5 : Hid (Below wo.heap.size wo w5 ∧ BoxA w5 wo.heap.size av) := ⟨p1, p2⟩
      clear p1 p2 HWA c0 c1 c2 c3 c4 c5 c6
      obtain ⟨a0, a1, a2, a3, a4, a5, a6, af, az⟩ := H5.out.2.facts
      have hfl := fids_len ac
      go_wp2_with (fail)
      refine (refFids_any av ac w5 (HX.out.2.below (Nat.le_refl _) H5.out.1)).mono ?_
      rintro e w6 ⟨A6, c6, rfl, ho6, hb6⟩
      have H6 : Hid (Below wo.heap.size wo w6 ∧ BoxA w6 wo.heap.size av ∧ w6.ownsRow w5.heap.size 3 1 (.slice A6 (M.fidsS ac).length c6) (M.fidsS ac).length ((M.fidsS ac).map fun f => Value.int .i64 f)) := ⟨H5.out.1.trans (hb6.mono H5.out.1.size), H5.out.2.below hb6 az, ho6⟩
      clear ho6 hb6 H5 a0 a1 a2 a3 a4 a5 a6 af az
      obtain ⟨L, hL⟩ : ∃ L, (M.fidsS ac).length = L := ⟨_, rfl⟩
      have HLL : Hid ((M.fidsS ac).length = L) := hL
      rw [hL] at hfl ⊢
      clear hL
      go_wp2_with (fail)
      go_loopw [54] (fun i wi => ∃ j : Nat, j ≤ L ∧ i = .int .i64 j ∧ Below w6.heap.size w6 wi) (fun i _ => L - (intOf i).toNat)
      case atStart => exact ⟨0, Nat.zero_le _, rfl, Below.refl _ _⟩
      case round =>
        obtain ⟨j, hj, rfl, hbi⟩ := hrel
        rename World => wi
        have hszi := hbi.size
        have H7 : Hid (Below wo.heap.size wo wi ∧ BoxA wi wo.heap.size av) := ⟨H6.out.1.trans (hbi.mono H6.out.1.size), H6.out.2.1.below hbi (lt_of_block H6.out.2.1)⟩
        obtain ⟨a0, a1, a2, a3, a4, a5, a6, af, az⟩ := H7.out.2.facts
        by_cases hltj : j < L
        · obtain ⟨f, hf⟩ : ∃ f, (M.fidsS ac)[j]? = some f := ⟨_, List.getElem?_eq_getElem (by rw [HLL.out]; exact hltj)⟩
          obtain ⟨b1, o1, rfl, hb1l, hc1⟩ := fids_row H6.out.2.2 (by rw [HLL.out]; exact hltj) hf
          have hc1' : wi.cell? ⟨b1, o1 + j, none⟩ = some (.int .i64 f) := by rw [hbi.cell (p := ⟨b1, o1 + j, none⟩) hb1l]; exact hc1
          have HFJ : Hid ((M.fidsS ac)[j]? = some f) := hf
          clear hf hc1
          go_wp2_with (fail)
          refine (fids_any av ac wi (HX.out.2.below (Nat.le_refl _) H7.out.1)).mono ?_
          rintro e w8 ⟨A8, c8, rfl, ho8, hb8⟩
          obtain ⟨b2, o2, rfl, hb2l, hc2⟩ := fids_row ho8 (by rw [HLL.out]; exact hltj) HFJ.out
          rw [HLL.out]
          have e3 : (f != f) = false := by simp
          have H8 : Hid (Below w6.heap.size w6 w8) := hbi.trans (hb8.mono hszi)
          clear ho8 hb8 hc1' a0 a1 a2 a3 a4 a5 a6 af az
          go_wp2_with (fail)
          go_roundw
          case rel => exact ⟨j + 1, by omega, by go_num, H8.out⟩
          case measure => simp [intOf]; omega
        · go_wp2_with (fail)
          clear hltj hj
          refine (apply_any A n c vs xs av ac ver wi (HT.out.1.below (Nat.le_refl _) (hbw.trans (H7.out.1.mono hbw.size))) (by omega) HT.out.2.1 (HX.out.2.below (Nat.le_refl _) H7.out.1) HSM.out).mono ?_
          rintro e w9 ⟨B9, m9, d9, r9, rfl, hap, hb9⟩
          obtain ⟨hr9, us9, ho9⟩ := hap HRI.out.1
          have h9 : Below wo.heap.size wo w9 := H7.out.1.trans (hb9.mono H7.out.1.size)
          have H9 : Hid (Below wo.heap.size wo w9 ∧ BoxA w9 wo.heap.size av ∧ Tree w9 B9 m9 us9 (M.applyS xs ac ver).2) := ⟨h9, H7.out.2.below hb9 az, ho9.tree⟩
          rw [hr9]
          clear hap ho9 hb9 h9 H7 hr9 a0 a1 a2 a3 a4 a5 a6 af az hbi hszi
          go_upto_region 17 with (fail)
          go_cut [16, 17] from 74 to 81 (fun y e W => ∃ m', y = .map m' ∧ e = .int .i64 (M.applyS xs ac ver).1 ∧ Hid ((((M.applyS xs ac ver).1 = 0 ∧ ∃ bm, m' = some bm ∧ TMap W bm (M.applyS xs ac ver).2) ∨ ((M.applyS xs ac ver).1 ≠ 0 ∧ m' = none)) ∧ Below w9.heap.size w9 W))
          case first =>
            have hbd : ∀ W, Below w9.drew.heap.size w9.drew W → Below w9.heap.size w9 W := fun W hb0 => (Below.refl _ _).drew.trans hb0
            have hbo : ∀ W, Below w9.drew.heap.size w9.drew W → Below wo.heap.size wo W := fun W hb0 => H9.out.1.trans ((hbd W hb0).mono H9.out.1.size)
            have HBX : ∀ W, Below w9.drew.heap.size w9.drew W → BoxA W wo.heap.size av := fun W hb0 => H9.out.2.1.below (hbd W hb0) (lt_of_block H9.out.2.1)
            have HCA : ∀ W, Below w9.drew.heap.size w9.drew W → ContA W av ac := fun W hb0 => HX.out.2.below (Nat.le_refl _) (hbo W hb0)
            have HTW : ∀ W, Below w9.drew.heap.size w9.drew W → Tree W A n vs xs := fun W hb0 => HT.out.1.below (Nat.le_refl _) (hbw.trans ((hbo W hb0).mono hbw.size))
            refine wp_region_valsB (VT17 A n c xs av ac ver) (by kernel_rfl) (by kernel_rfl) (VT17_stays A n c xs av ac ver) ?_ ?_
            · intro i hi
              match i, hi with
              | 0, _ =>
                refine StepAt.by rfl fun a' W hf hb hd => ?_
                exact .inl ⟨want_none, does_move ((hf.keeps 0 (by kernel_rfl)).trans rfl) ⟨Below.refl _ _, rfl⟩⟩
              | 1, _ =>
                refine StepAt.by rfl fun a' W hf hb hd => ?_
                refine .inl ⟨want_none, ?_⟩
                exact does_call1 (enters_of Try.func8 (by kernel_rfl) (by kernel_rfl)) (hd 0 (by kernel_rfl)) ((of_any A n c vs xs W (HTW W hb) HRI.out.1.1 (by omega)).mono fun e W' ⟨b, he, ht, hb'⟩ => ⟨_, he, hb', b, rfl, ht⟩)
              | 2, _ =>
                refine StepAt.by rfl fun a' W hf hb hd => ?_
                refine .inl ⟨want_none, ?_⟩
                exact does_rn (run_loadAb ((hf.keeps 11 (by kernel_rfl)).trans rfl) (HBX W hb)) ⟨Below.refl _ _, rfl⟩
              | 3, _ =>
                refine StepAt.by rfl fun a' W hf hb hd => ?_
                exact .inl ⟨want_none, does_move ((hf.keeps 2 (by kernel_rfl)).trans rfl) ⟨Below.refl _ _, rfl⟩⟩
              | 4, _ =>
                refine StepAt.by rfl fun a' W hf hb hd => ?_
                refine .inl ⟨want_none, ?_⟩
                obtain ⟨b1, e1, ht1⟩ := hd 1 (by kernel_rfl)
                exact does_call3 (enters_of Try.func36 (by kernel_rfl) (by kernel_rfl)) e1 (hd 2 (by kernel_rfl)) (hd 3 (by kernel_rfl)) ((refApply_any b1 xs av ac ver W ht1 (HCA W hb) HRI.out.1 HRI.out.2 HFX.out.1 HFX.out.2 HNM.out.1 HNM.out.2).mono fun e W' ⟨hb', m, he, h⟩ => ⟨_, he, hb', m, rfl, h⟩)
              | 5, _ =>
                refine StepAt.by rfl fun a' W hf hb hd => ?_
                exact .inl ⟨want_none, does_move rfl ⟨Below.refl _ _, (hd 4 (by kernel_rfl))⟩⟩
              | 6, _ =>
                refine StepAt.by rfl fun a' W hf hb hd => ?_
                refine .inl ⟨want_none, ?_⟩
                obtain ⟨m1, e1, h1⟩ := hd 5 (by kernel_rfl)
                exact does_rn (run_ext0 e1) ⟨Below.refl _ _, m1, rfl, h1⟩
              | 7, _ =>
                refine StepAt.by rfl fun a' W hf hb hd => ?_
                refine .inl ⟨want_none, ?_⟩
                obtain ⟨m1, e1, h1⟩ := hd 5 (by kernel_rfl)
                exact does_rn (run_ext1 e1) ⟨Below.refl _ _, rfl⟩
              | 8, _ =>
                refine StepAt.by rfl fun a' W hf hb hd => ?_
                exact .inl ⟨want_none, does_assign rfl ⟨Below.refl _ _, (hd 6 (by kernel_rfl))⟩⟩
              | 9, _ =>
                refine StepAt.by rfl fun a' W hf hb hd => ?_
                exact .inl ⟨want_none, does_assign (hd 7 (by kernel_rfl)) ⟨Below.refl _ _, rfl⟩⟩
              | k + 10, hi => exact absurd hi (Nat.not_lt.2 (Nat.le_add_left _ _))
            · intro a' W hf hb0 hv
              obtain ⟨m', e16, h16⟩ := hv 8 (by decide)
              have e16' : a'.eval (.tmp 16) = .map m' := e16
              have e17 : a'.eval (.tmp 17) = .int .i64 ((M.applyS xs ac ver).1) := hv 9 (by decide)
              have hl := hf.lit (fun t => decide (74 ≤ t) && decide (t ≤ 81) || decide (t = 16) || decide (t = 17)) (by kernel_rfl)
              simp only [overL, Nat.reduceAdd, Nat.reduceLeDiff, Nat.reduceEqDiff, decide_true, decide_false, Bool.and_true, Bool.and_false, Bool.or_true, Bool.or_false] at hl
              rw [hl, e16', e17]
              have HE : Hid _ := And.intro h16 hb0
              clear hl hf hb0 hv e16 e16' e17 h16
              go_wp2_with (fail)
              go_meet
              case rel => exact ⟨m', rfl, rfl, HE.out⟩
          obtain ⟨m', rfl, rfl, HM⟩ := hcut
          rename World => w10
          have H10 : Hid (Below wo.heap.size wo w10 ∧ BoxA w10 wo.heap.size av ∧ Tree w10 B9 m9 us9 (M.applyS xs ac ver).2) := ⟨H9.out.1.trans (HM.out.2.mono H9.out.1.size), H9.out.2.1.below HM.out.2 (lt_of_block H9.out.2.1), H9.out.2.2.below (Nat.le_refl _) HM.out.2⟩
          clear H9
          go_upto_region 18 with (fail)
          go_cut [104] from 82 to 104 (fun s W => s = .bool false ∧ Below w10.heap.size w10 W)
          case first =>
            have HGA : Hid (Good (M.applyS xs ac ver).2) := good_apply HG.out ac ver
            by_cases h0 : (M.applyS xs ac ver).1 = 0
            · obtain ⟨bm, hm', htm⟩ : ∃ bm, m' = some bm ∧ TMap w10 bm (M.applyS xs ac ver).2 := by
                rcases HM.out.1 with ⟨_, h⟩ | ⟨h, _⟩
                · exact h
                · exact absurd h0 h
              subst hm'
              have HTM : Hid (TMap w10 bm (M.applyS xs ac ver).2) := htm
              have q1 : ((M.applyS xs ac ver).1 != (M.applyS xs ac ver).1) = false := by simp
              have q2 : ((M.applyS xs ac ver).1 == 0) = true := by simp [h0]
              have q3 : ((M.applyS xs ac ver).1 != 0) = false := by simp [h0]
              clear h0 htm
              go_wp2_with (fail)
              refine (list_any bm _ w10 HTM.out HGA.out.1.1 (by have := HGA.out.2.2; omega)).mono ?_
              rintro e w11 ⟨A1, m1, c1, us1, rfl, ht1, hb11⟩
              have H11 : Hid (Below w10.heap.size w10 w11 ∧ Tree w11 A1 m1 us1 (M.applyS xs ac ver).2 ∧ Tree w11 B9 m9 us9 (M.applyS xs ac ver).2) := ⟨hb11, ht1, H10.out.2.2.below (Nat.le_refl _) hb11⟩
              have hm1 : m1 * 72 ≤ 140737488355328 := by have h1 := H11.out.2.1.1.1; have h2 := H11.out.2.1.2.1; have h3 := HGA.out.2.2; omega
              have hm9 : m9 * 72 ≤ 140737488355328 := by have h1 := H11.out.2.2.1.1; have h2 := H11.out.2.2.2.1; have h3 := HGA.out.2.2; omega
              clear ht1 hb11
              go_wp2_with (fail)
              refine (refSame_any B9 A1 m9 m1 d9 c1 us9 us1 _ _ true w11 H11.out.2.2 H11.out.2.1 hm9 hm1 HGA.out.2.1 HGA.out.2.1).mono ?_
              rintro e w12 ⟨rfl, hb12⟩
              rw [allB_same3]
              have H12 : Hid (Below w10.heap.size w10 w12) := H11.out.1.trans (hb12.mono H11.out.1.size)
              clear hb12
              go_wp2_with (fail)
              go_meet
              case rel => exact ⟨rfl, H12.out⟩
            · have hm9 : m9 = 0 := by
                have h1 := H10.out.2.2
                rw [apply_nil h0] at h1
                rw [h1.1.1, h1.2.1]; rfl
              subst hm9
              have q1 : ((M.applyS xs ac ver).1 != (M.applyS xs ac ver).1) = false := by simp
              have q2 : ((M.applyS xs ac ver).1 == 0) = false := by simp [h0]
              have q3 : ((M.applyS xs ac ver).1 != 0) = true := by simp [h0]
              clear h0
              go_wp2_with (fail)
              go_meet
              case rel => exact ⟨rfl, Below.refl _ _⟩
          obtain ⟨rfl, hb13⟩ := hcut
          rename World => w13
          have H13 : Hid (Below wo.heap.size wo w13 ∧ BoxA w13 wo.heap.size av) := ⟨H10.out.1.trans (hb13.mono H10.out.1.size), H10.out.2.1.below hb13 (lt_of_block H10.out.2.1)⟩
          have HB13 : Hid (Below w2.heap.size w2 w13) := hb.trans (H13.out.1.mono hsz)
          have hF13 := HF.out.below H13.out.1
          clear hb13 H10 HM
          obtain ⟨a0, a1, a2, a3, a4, a5, a6, af, az⟩ := H13.out.2.facts
          rcases hF13 with ⟨hwy, hbad, T, hT1, hT2, hT3⟩ | ⟨hwy, hT3⟩
          case' inr =>
            have q1 : (why == 0) = false := by simp [hwy]
            have HFN : Hid (Far w13 xs acs ver (k + 1) bt bad why) := .inr ⟨hwy, hT3⟩
            clear hwy hT3
            go_wp2_with (fail)
            go_roundw
            case rel => exact ⟨k + 1, bt, bad, why, by omega, by go_num, rfl, rfl, rfl, HFN, HB13.out⟩
            case measure => simp [intOf]; omega
          subst hwy
          have HTT : Hid (bad = acs.length ∧ TMap w13 bt T ∧ Fit T (1048576 + k) ∧ M.allS xs acs ver = ((M.allS T (acs.drop k) ver).1 + k, (M.allS T (acs.drop k) ver).2)) := ⟨hbad, hT1, hT2, hT3⟩
          have HFT : Hid ((∀ x ∈ T, (x.ents.length + 1) * 24 ≤ 140737488355328) ∧ ((allF T).length + 2) * 8 ≤ 140737488355328) := hT2.wide (by omega)
          clear hbad hT1 hT2 hT3
          go_wp2_with (fail)
          refine (refApply_any bt T av ac ver w13 HTT.out.2.1 (HX.out.2.below (Nat.le_refl _) H13.out.1) HTT.out.2.2.1.1.1 HTT.out.2.2.1.1.2.1 HFT.out.1 HFT.out.2 HNM.out.1 HNM.out.2).mono ?_
          rintro e w14 ⟨hb14, mm, rfl, hsp⟩
          have HB14 : Hid (Below w2.heap.size w2 w14) := HB13.out.trans (hb14.mono HB13.out.size)
          clear a0 a1 a2 a3 a4 a5 a6 af az hb14
          rcases hsp with ⟨h0, bm2, rfl, ht14⟩ | ⟨h0, rfl⟩
          · have HFN : Hid (Far w14 xs acs ver (k + 1) bm2 bad 0) := by
              refine .inl ⟨rfl, HTT.out.1, _, ht14, HTT.out.2.2.1.next ac ver, ?_⟩
              rw [HTT.out.2.2.2, drop_at HX.out.1, all_step h0]
              simp only [Prod.mk.injEq, and_true]
              omega
            rw [h0]
            clear h0 ht14
            go_wp2_with (fail)
            go_roundw
            case rel => exact ⟨k + 1, bm2, bad, 0, by omega, by go_num, rfl, rfl, rfl, HFN, HB14.out⟩
            case measure => simp [intOf]; omega
          · have q1 : ((M.applyS T ac ver).1 != 0) = true := by simp [h0]
            have HFN : Hid (Far w14 xs acs ver (k + 1) bt k (M.applyS T ac ver).1) := by
              refine .inr ⟨h0, ?_⟩
              rw [HTT.out.2.2.2, drop_at HX.out.1, all_stop h0, Nat.zero_add]
            clear h0
            go_wp2_with (fail)
            go_roundw
            case rel => exact ⟨k + 1, bt, k, (M.applyS T ac ver).1, by omega, by go_num, rfl, rfl, rfl, HFN, HB14.out⟩
            case measure => simp [intOf]; omega
    · have hkp : k = p := by omega
      have HF2 := HF.out
      rw [hkp] at HF2
      have HFP : Hid (Far wo xs acs ver p bt bad why) := HF2
      clear HF2 hkp
      go_wp2_with (fail)
      refine (all_any A C n c p cq vs xs avs acs ver wo (HT.out.1.below (Nat.le_refl _) hbw) HG.out ⟨HT.out.2.2.1.1.below (Nat.le_refl _) hbw, HT.out.2.2.1.2.imp fun _ _ h => h.below (Nat.le_refl _) hbw⟩ HT.out.2.2.2 (by omega)).mono ?_
      rintro e w20 ⟨B20, m20, d20, us20, rfl, ho20, hb20⟩
      have H20 : Hid (Below wo.heap.size wo w20 ∧ Tree w20 B20 m20 us20 (M.allS xs acs ver).2.2) := ⟨hb20, ho20.tree⟩
      clear ho20 hb20
      have q0 : ((bad : Int) == (bad : Int)) = true := by simp
      rcases HFP.out with ⟨hwy, hbad, T, hT1, hT2, hT3⟩ | ⟨hwy, hT3⟩
      · have hall : M.allS xs acs ver = (bad, 0, T) := by
          rw [hT3, List.drop_eq_nil_iff.2 (by rw [← HNX.out.2]; exact Nat.le_refl _), hbad, ← HNX.out.2]
          unfold M.allS
          simp
        have ht20 := H20.out.2
        rw [hall] at ht20 ⊢
        have HTT : Hid (TMap w20 bt T ∧ Good T ∧ Tree w20 B20 m20 us20 T) := ⟨hT1.below (Nat.le_refl _) H20.out.1, hT2.1, ht20⟩
        subst hwy
        clear hbad hT1 hT2 hT3 hall ht20
        go_wp2_with (fail)
        refine (list_any bt T w20 HTT.out.1 HTT.out.2.1.1.1 (by have := HTT.out.2.1.2.2; omega)).mono ?_
        rintro e w21 ⟨A1, m1, c1, us1, rfl, ht1, hb21⟩
        have H21 : Hid (Below wo.heap.size wo w21 ∧ Tree w21 A1 m1 us1 T ∧ Tree w21 B20 m20 us20 T) := ⟨H20.out.1.trans (hb21.mono H20.out.1.size), ht1, HTT.out.2.2.below (Nat.le_refl _) hb21⟩
        have hm1 : m1 * 72 ≤ 140737488355328 := by have h1 := H21.out.2.1.1.1; have h2 := H21.out.2.1.2.1; have h3 := HTT.out.2.1.2.2; omega
        have hm9 : m20 * 72 ≤ 140737488355328 := by have h1 := H21.out.2.2.1.1; have h2 := H21.out.2.2.2.1; have h3 := HTT.out.2.1.2.2; omega
        clear ht1 hb21
        go_wp2_with (fail)
        refine (refSame_any B20 A1 m20 m1 d20 c1 us20 us1 _ _ true w21 H21.out.2.2 H21.out.2.1 hm9 hm1 HTT.out.2.1.2.1 HTT.out.2.1.2.1).mono ?_
        rintro e w22 ⟨rfl, hb22⟩
        rw [allB_same3]
        have H22 : Hid (Below w.heap.size w w22) := hbw.trans ((H21.out.1.trans (hb22.mono H21.out.1.size)).mono hbw.size)
        clear hb22
        go_wp2_with (fail)
        go_ret
        exact ⟨rfl, H22.out⟩
      · have ht20 := H20.out.2
        rw [hT3] at ht20 ⊢
        have hm20 : m20 = 0 := by rw [ht20.1.1, ht20.2.1]; rfl
        subst hm20
        have q1 : (why == why) = true := by simp
        have q2 : (why != 0) = true := by simp [hwy]
        have H22 : Hid (Below w.heap.size w w20) := hbw.trans (H20.out.1.mono hbw.size)
        clear hwy hT3 ht20
        go_wp2_with (fail)
        go_ret
        exact ⟨rfl, H22.out⟩
end Go.Proofs.Ytlegjdlmcphhlaa
