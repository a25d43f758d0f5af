/- TEXTS LAID TOGETHER: Kle, Klm, Stepb, Stepa -/
import Derived.Test.YtjpdoblmdchmkadPart5
import Derived.Test.YtjpdoblmdchmkadPart8
import Derived.Test.YtjpdoblmdchmkadPart7
import Derived.Test.YtjpdoblmdchmkadPart3
import Derived.Deep.CutRange
import Derived.Test.YtjpdoblmdchmkadPart10
import Derived.Test.YtjpdoblmdchmkadPart4
import Derived.Test.YtjpdoblmdchmkadPart1
import Derived.Deep.DeepAppendRoom
import Derived.Deep.RegionLaw
/-
  THE REFERENCE's SameKept, of two that are the same.
-/
namespace Go.Proofs.Ytjpdoblmdchmkad
open Go.RowKit

theorem KeptAt.node {w : World} {b o : Nat} {v : KV} (h : KeptAt w b o v) : NodeAt w b o v.n := by
  intro i c hc
  refine h i c ?_
  match i, hc with
  | 0, hc => cases hc; rfl
  | 1, hc => cases hc; rfl
  | 2, hc => cases hc; rfl
  | 3, hc => cases hc; rfl
  | 4, hc => cases hc; rfl
  | i + 5, hc => cases hc
def VSK (b : Nat) (o : Nat) (n : Nat) (ca : Nat) (b2 : Nat) (o2 : Nat) (cb : Nat) (kq : Nat) (v : KV) (u : KV) : Nat → Value → World → Prop
  | 0 => IsW (.slice (some ⟨b, o, none⟩) n ca)
  | 1 => IsW (.int .i64 ((kq : Nat) : Int))
  | 2 => IsW (.pointer (some ⟨b, o + kq * 8, none⟩))
  | 3 => IsW (.pointer (some ⟨b, o + kq * 8, none⟩))
  | 4 => IsW (NV.val v.n)
  | 5 => IsW (.slice (some ⟨b2, o2, none⟩) n cb)
  | 6 => IsW (.int .i64 ((kq : Nat) : Int))
  | 7 => IsW (.pointer (some ⟨b2, o2 + kq * 8, none⟩))
  | 8 => IsW (.pointer (some ⟨b2, o2 + kq * 8, none⟩))
  | 9 => IsW (NV.val u.n)
  | 10 => IsW (.bool true)
  | 11 => IsW (.bool false)
  | 12 => IsW (.bool false)
  | 13 => IsW (.slice (some ⟨b, o, none⟩) n ca)
  | 14 => IsW (.int .i64 ((kq : Nat) : Int))
  | 15 => IsW (.pointer (some ⟨b, o + kq * 8, none⟩))
  | 16 => IsW (.pointer (some ⟨b, o + kq * 8 + 5, none⟩))
  | 17 => IsW (.bool (v.dirty))
  | 18 => IsW (.slice (some ⟨b2, o2, none⟩) n cb)
  | 19 => IsW (.int .i64 ((kq : Nat) : Int))
  | 20 => IsW (.pointer (some ⟨b2, o2 + kq * 8, none⟩))
  | 21 => IsW (.pointer (some ⟨b2, o2 + kq * 8 + 5, none⟩))
  | 22 => IsW (.bool (u.dirty))
  | 23 => IsW (.bool false)
  | 24 => IsW (.bool false)
  | 25 => IsW (.bool false)
  | 26 => IsW (.slice (some ⟨b, o, none⟩) n ca)
  | 27 => IsW (.int .i64 ((kq : Nat) : Int))
  | 28 => IsW (.pointer (some ⟨b, o + kq * 8, none⟩))
  | 29 => IsW (.pointer (some ⟨b, o + kq * 8 + 6, none⟩))
  | 30 => IsW (.int .i64 (v.worth))
  | 31 => IsW (.slice (some ⟨b2, o2, none⟩) n cb)
  | 32 => IsW (.int .i64 ((kq : Nat) : Int))
  | 33 => IsW (.pointer (some ⟨b2, o2 + kq * 8, none⟩))
  | 34 => IsW (.pointer (some ⟨b2, o2 + kq * 8 + 6, none⟩))
  | 35 => IsW (.int .i64 (u.worth))
  | 36 => IsW (.bool false)
  | 37 => IsW (.bool false)
  | 38 => IsW (.bool false)
  | 39 => IsW (.slice (some ⟨b, o, none⟩) n ca)
  | 40 => IsW (.int .i64 ((kq : Nat) : Int))
  | 41 => IsW (.pointer (some ⟨b, o + kq * 8, none⟩))
  | 42 => IsW (.pointer (some ⟨b, o + kq * 8 + 7, none⟩))
  | 43 => IsW (.int .i64 (v.last))
  | 44 => IsW (.slice (some ⟨b2, o2, none⟩) n cb)
  | 45 => IsW (.int .i64 ((kq : Nat) : Int))
  | 46 => IsW (.pointer (some ⟨b2, o2 + kq * 8, none⟩))
  | 47 => IsW (.pointer (some ⟨b2, o2 + kq * 8 + 7, none⟩))
  | 48 => IsW (.int .i64 (u.last))
  | 49 => IsW (.bool false)
  | 50 => IsW (.bool false)
  | _ => fun _ _ => True
theorem VSK_stays (b : Nat) (o : Nat) (n : Nat) (ca : Nat) (b2 : Nat) (o2 : Nat) (cb : Nat) (kq : Nat) (v : KV) (u : KV) : ∀ i, Stays (VSK b o n ca b2 o2 cb kq v u i) := by
  intro i v W W' hb h
  match i, h with
  | 0, h => exact h
  | 1, h => exact h
  | 2, h => exact h
  | 3, h => exact h
  | 4, h => exact h
  | 5, h => exact h
  | 6, h => exact h
  | 7, h => exact h
  | 8, h => exact h
  | 9, h => exact h
  | 10, h => exact h
  | 11, h => exact h
  | 12, h => exact h
  | 13, h => exact h
  | 14, h => exact h
  | 15, h => exact h
  | 16, h => exact h
  | 17, h => exact h
  | 18, h => exact h
  | 19, h => exact h
  | 20, h => exact h
  | 21, h => exact h
  | 22, h => exact h
  | 23, h => exact h
  | 24, h => exact h
  | 25, h => exact h
  | 26, h => exact h
  | 27, h => exact h
  | 28, h => exact h
  | 29, h => exact h
  | 30, h => exact h
  | 31, h => exact h
  | 32, h => exact h
  | 33, h => exact h
  | 34, h => exact h
  | 35, h => exact h
  | 36, h => exact h
  | 37, h => exact h
  | 38, h => exact h
  | 39, h => exact h
  | 40, h => exact h
  | 41, h => exact h
  | 42, h => exact h
  | 43, h => exact h
  | 44, h => exact h
  | 45, h => exact h
  | 46, h => exact h
  | 47, h => exact h
  | 48, h => exact h
  | 49, h => exact h
  | 50, h => exact h
  | k + 51, h => trivial

set_option maxRecDepth 8000 in
set_option maxHeartbeats 8000000 in
theorem sameKept_any (A B : Option Addr) (n ca cb : Nat) (vs us : List KV) (xs : List M.Kp) (w : World) (hx : TreeC w A n vs xs) (hy : TreeC w B n us xs) (hs : ∀ x ∈ xs, Small x.node) (hn : n ≤ 140737488355328) :
    Calls Try.prog 23 #[.slice A n ca, .slice B n cb] w fun e w' => e = .returned (.bool true) ∧ Below w.heap.size w w' := by
  have HT : Hid (TreeC w A n vs xs ∧ TreeC w B n us xs ∧ ∀ x ∈ xs, Small x.node) := ⟨hx, hy, hs⟩
  clear hx hy hs
  go_enter Try.func23, Try.ntmps23
  go_wp2_with (fail)
  go_loopw [13] (fun i wr => ∃ k : Nat, k ≤ n ∧ i = .int .i64 k ∧ Below w.heap.size w wr) (fun i _ => n - (intOf i).toNat)
  case atStart => exact ⟨0, Nat.zero_le _, rfl, Below.refl _ _⟩
  case round =>
    obtain ⟨k, hk, rfl, hb⟩ := hrel
    rename World => wr
    have HB : Hid (Below w.heap.size w wr) := hb
    by_cases hlt : k < n
    · have hxr := HT.out.1.below (Nat.le_refl _) hb
      have hyr := HT.out.2.1.below (Nat.le_refl _) hb
      obtain ⟨b, o, v, rfl, hgb, hvk, _⟩ := Row.at hxr.1 hlt
      obtain ⟨b2, o2, u, rfl, hgb2, huk, _⟩ := Row.at hyr.1 hlt
      obtain ⟨x, hxk, hcx⟩ := hxr.2.at hvk
      obtain ⟨y, hyk, hcy⟩ := hyr.2.at huk
      obtain rfl : x = y := by rw [hxk] at hyk; exact Option.some.inj hyk
      have HX : Hid (KeptAt wr b (o + k * 8) v ∧ KeptAt wr b2 (o2 + k * 8) u ∧ ContC wr v x ∧ ContC wr u x ∧ b < wr.heap.size ∧ b2 < wr.heap.size) := ⟨keptAt_of hxr.1 hvk, keptAt_of hyr.1 huk, hcx, hcy, hgb, hgb2⟩
      have HSM : Hid (Small x.node) := HT.out.2.2 x (List.mem_of_getElem? hxk)
      have rb1 : (v.dirty != u.dirty) = false := by rw [hcx.2.1, hcy.2.1]; simp
      have rb2 : ((v.worth : Int) != (u.worth : Int)) = false := by rw [hcx.2.2.1, hcy.2.2.1]; simp
      have rb3 : ((v.last : Int) != (u.last : Int)) = false := by rw [hcx.2.2.2, hcy.2.2.2]; simp
      clear hxr hyr hvk huk hxk hyk hcx hcy hgb hgb2 hb
      go_upto_region 6 with (fail)
      go_cut [66] from 16 to 66 (fun t W => t = .bool false ∧ Hid (Below w.heap.size w W))
      case first =>
        have hbd : ∀ W, Below wr.drew.heap.size wr.drew W → Below wr.heap.size wr W := fun W hb => (Below.refl _ _).drew.trans hb
        have HVV : ∀ W, Below wr.drew.heap.size wr.drew W → KeptAt W b (o + k * 8) v := fun W hb => HX.out.1.below (hbd W hb) HX.out.2.2.2.2.1
        have HUU : ∀ W, Below wr.drew.heap.size wr.drew W → KeptAt W b2 (o2 + k * 8) u := fun W hb => HX.out.2.1.below (hbd W hb) HX.out.2.2.2.2.2
        have HCV : ∀ W, Below wr.drew.heap.size wr.drew W → Cont W v.n x.node := fun W hb => (HX.out.2.2.1.below (Nat.le_refl _) (hbd W hb)).1
        have HCU : ∀ W, Below wr.drew.heap.size wr.drew W → Cont W u.n x.node := fun W hb => (HX.out.2.2.2.1.below (Nat.le_refl _) (hbd W hb)).1
        refine wp_region_vals (VSK b o n ca b2 o2 cb k v u) (by kernel_rfl) (by kernel_rfl) (VSK_stays b o n ca b2 o2 cb k v u) ?_ ?_
        · intro j hj
          match j, hj with
            | 0, _ =>
              refine StepAt.by rfl fun a' W hf hb hd => ?_
              exact .inl ⟨want_none, does_move ((hf.keeps 0 (by kernel_rfl)).trans rfl) ⟨Below.refl _ _, rfl⟩⟩
            | 1, _ =>
              refine StepAt.by rfl fun a' W hf hb hd => ?_
              exact .inl ⟨want_none, does_move ((hf.keeps 5 (by kernel_rfl)).trans rfl) ⟨Below.refl _ _, rfl⟩⟩
            | 2, _ =>
              refine StepAt.by rfl fun a' W hf hb hd => ?_
              exact .inl ⟨want_none, does_run (run_indexK (hd 0 (by kernel_rfl)) (hd 1 (by kernel_rfl)) (by omega)) ⟨Below.refl _ _, rfl⟩⟩
            | 3, _ =>
              refine StepAt.by rfl fun a' W hf hb hd => ?_
              exact .inl ⟨want_none, does_run (run_fieldK0 (hd 2 (by kernel_rfl))) ⟨Below.refl _ _, rfl⟩⟩
            | 4, _ =>
              refine StepAt.by rfl fun a' W hf hb hd => ?_
              exact .inl ⟨want_none, does_run (run_loadNd (hd 3 (by kernel_rfl)) (KeptAt.node (HVV W hb))) ⟨Below.refl _ _, rfl⟩⟩
            | 5, _ =>
              refine StepAt.by rfl fun a' W hf hb hd => ?_
              exact .inl ⟨want_none, does_move ((hf.keeps 1 (by kernel_rfl)).trans rfl) ⟨Below.refl _ _, rfl⟩⟩
            | 6, _ =>
              refine StepAt.by rfl fun a' W hf hb hd => ?_
              exact .inl ⟨want_none, does_move ((hf.keeps 5 (by kernel_rfl)).trans rfl) ⟨Below.refl _ _, rfl⟩⟩
            | 7, _ =>
              refine StepAt.by rfl fun a' W hf hb hd => ?_
              exact .inl ⟨want_none, does_run (run_indexK (hd 5 (by kernel_rfl)) (hd 6 (by kernel_rfl)) (by omega)) ⟨Below.refl _ _, rfl⟩⟩
            | 8, _ =>
              refine StepAt.by rfl fun a' W hf hb hd => ?_
              exact .inl ⟨want_none, does_run (run_fieldK0 (hd 7 (by kernel_rfl))) ⟨Below.refl _ _, rfl⟩⟩
            | 9, _ =>
              refine StepAt.by rfl fun a' W hf hb hd => ?_
              exact .inl ⟨want_none, does_run (run_loadNd (hd 8 (by kernel_rfl)) (KeptAt.node (HUU W hb))) ⟨Below.refl _ _, rfl⟩⟩
            | 10, _ =>
              refine StepAt.by rfl fun a' W hf hb hd => ?_
              refine .inl ⟨want_none, ?_⟩
              exact does_call3 (enters_of Try.func44 (by kernel_rfl) (by kernel_rfl)) (hd 4 (by kernel_rfl)) (hd 9 (by kernel_rfl)) rfl ((sameNode_any v.n u.n x.node x.node true W (HCV W hb) (HCU W hb) HSM.out HSM.out).mono fun e W2 ⟨he, hb2⟩ => ⟨_, he, hb2, by show Value.bool _ = _; rw [same_self]⟩)
            | 11, _ =>
              refine StepAt.by rfl fun a' W hf hb hd => ?_
              exact .inl ⟨want_none, does_not (hd 10 (by kernel_rfl)) ⟨Below.refl _ _, rfl⟩⟩
            | 12, _ =>
              refine StepAt.by rfl fun a' W hf hb hd => ?_
              exact .inl ⟨want_none, does_move (hd 11 (by kernel_rfl)) ⟨Below.refl _ _, rfl⟩⟩
            | 13, _ =>
              refine StepAt.by rfl fun a' W hf hb hd => ?_
              exact .inl ⟨want_some (k := 12) (t := 28) rfl (hd 12 (by kernel_rfl)), does_move ((hf.keeps 0 (by kernel_rfl)).trans rfl) ⟨Below.refl _ _, rfl⟩⟩
            | 14, _ =>
              refine StepAt.by rfl fun a' W hf hb hd => ?_
              exact .inl ⟨want_some (k := 12) (t := 28) rfl (hd 12 (by kernel_rfl)), does_move ((hf.keeps 5 (by kernel_rfl)).trans rfl) ⟨Below.refl _ _, rfl⟩⟩
            | 15, _ =>
              refine StepAt.by rfl fun a' W hf hb hd => ?_
              exact .inl ⟨want_some (k := 12) (t := 28) rfl (hd 12 (by kernel_rfl)), does_run (run_indexK (hd 13 (by kernel_rfl)) (hd 14 (by kernel_rfl)) (by omega)) ⟨Below.refl _ _, rfl⟩⟩
            | 16, _ =>
              refine StepAt.by rfl fun a' W hf hb hd => ?_
              exact .inl ⟨want_some (k := 12) (t := 28) rfl (hd 12 (by kernel_rfl)), does_run (run_fieldK1 (hd 15 (by kernel_rfl))) ⟨Below.refl _ _, rfl⟩⟩
            | 17, _ =>
              refine StepAt.by rfl fun a' W hf hb hd => ?_
              exact .inl ⟨want_some (k := 12) (t := 28) rfl (hd 12 (by kernel_rfl)), does_run (run_load4 (hd 16 (by kernel_rfl)) ((HVV W hb) 5 _ rfl)) ⟨Below.refl _ _, rfl⟩⟩
            | 18, _ =>
              refine StepAt.by rfl fun a' W hf hb hd => ?_
              exact .inl ⟨want_some (k := 12) (t := 28) rfl (hd 12 (by kernel_rfl)), does_move ((hf.keeps 1 (by kernel_rfl)).trans rfl) ⟨Below.refl _ _, rfl⟩⟩
            | 19, _ =>
              refine StepAt.by rfl fun a' W hf hb hd => ?_
              exact .inl ⟨want_some (k := 12) (t := 28) rfl (hd 12 (by kernel_rfl)), does_move ((hf.keeps 5 (by kernel_rfl)).trans rfl) ⟨Below.refl _ _, rfl⟩⟩
            | 20, _ =>
              refine StepAt.by rfl fun a' W hf hb hd => ?_
              exact .inl ⟨want_some (k := 12) (t := 28) rfl (hd 12 (by kernel_rfl)), does_run (run_indexK (hd 18 (by kernel_rfl)) (hd 19 (by kernel_rfl)) (by omega)) ⟨Below.refl _ _, rfl⟩⟩
            | 21, _ =>
              refine StepAt.by rfl fun a' W hf hb hd => ?_
              exact .inl ⟨want_some (k := 12) (t := 28) rfl (hd 12 (by kernel_rfl)), does_run (run_fieldK1 (hd 20 (by kernel_rfl))) ⟨Below.refl _ _, rfl⟩⟩
            | 22, _ =>
              refine StepAt.by rfl fun a' W hf hb hd => ?_
              exact .inl ⟨want_some (k := 12) (t := 28) rfl (hd 12 (by kernel_rfl)), does_run (run_load4 (hd 21 (by kernel_rfl)) ((HUU W hb) 5 _ rfl)) ⟨Below.refl _ _, rfl⟩⟩
            | 23, _ =>
              refine StepAt.by rfl fun a' W hf hb hd => ?_
              refine .inl ⟨want_some (k := 12) (t := 28) rfl (hd 12 (by kernel_rfl)), ?_⟩
              exact does_run (run_neqB (hd 17 (by kernel_rfl)) (hd 22 (by kernel_rfl))) ⟨Below.refl _ _, by show Value.bool _ = _; rw [rb1]⟩
            | 24, _ =>
              refine StepAt.by rfl fun a' W hf hb hd => ?_
              exact .inl ⟨want_none, does_pick (b := false) (hd 12 (by kernel_rfl)) (hd 23 (by kernel_rfl)) ⟨Below.refl _ _, rfl⟩⟩
            | 25, _ =>
              refine StepAt.by rfl fun a' W hf hb hd => ?_
              exact .inl ⟨want_none, does_move (hd 24 (by kernel_rfl)) ⟨Below.refl _ _, rfl⟩⟩
            | 26, _ =>
              refine StepAt.by rfl fun a' W hf hb hd => ?_
              exact .inl ⟨want_some (k := 25) (t := 41) rfl (hd 25 (by kernel_rfl)), does_move ((hf.keeps 0 (by kernel_rfl)).trans rfl) ⟨Below.refl _ _, rfl⟩⟩
            | 27, _ =>
              refine StepAt.by rfl fun a' W hf hb hd => ?_
              exact .inl ⟨want_some (k := 25) (t := 41) rfl (hd 25 (by kernel_rfl)), does_move ((hf.keeps 5 (by kernel_rfl)).trans rfl) ⟨Below.refl _ _, rfl⟩⟩
            | 28, _ =>
              refine StepAt.by rfl fun a' W hf hb hd => ?_
              exact .inl ⟨want_some (k := 25) (t := 41) rfl (hd 25 (by kernel_rfl)), does_run (run_indexK (hd 26 (by kernel_rfl)) (hd 27 (by kernel_rfl)) (by omega)) ⟨Below.refl _ _, rfl⟩⟩
            | 29, _ =>
              refine StepAt.by rfl fun a' W hf hb hd => ?_
              exact .inl ⟨want_some (k := 25) (t := 41) rfl (hd 25 (by kernel_rfl)), does_run (run_fieldK2 (hd 28 (by kernel_rfl))) ⟨Below.refl _ _, rfl⟩⟩
            | 30, _ =>
              refine StepAt.by rfl fun a' W hf hb hd => ?_
              exact .inl ⟨want_some (k := 25) (t := 41) rfl (hd 25 (by kernel_rfl)), does_run (run_load3 (hd 29 (by kernel_rfl)) ((HVV W hb) 6 _ rfl)) ⟨Below.refl _ _, rfl⟩⟩
            | 31, _ =>
              refine StepAt.by rfl fun a' W hf hb hd => ?_
              exact .inl ⟨want_some (k := 25) (t := 41) rfl (hd 25 (by kernel_rfl)), does_move ((hf.keeps 1 (by kernel_rfl)).trans rfl) ⟨Below.refl _ _, rfl⟩⟩
            | 32, _ =>
              refine StepAt.by rfl fun a' W hf hb hd => ?_
              exact .inl ⟨want_some (k := 25) (t := 41) rfl (hd 25 (by kernel_rfl)), does_move ((hf.keeps 5 (by kernel_rfl)).trans rfl) ⟨Below.refl _ _, rfl⟩⟩
            | 33, _ =>
              refine StepAt.by rfl fun a' W hf hb hd => ?_
              exact .inl ⟨want_some (k := 25) (t := 41) rfl (hd 25 (by kernel_rfl)), does_run (run_indexK (hd 31 (by kernel_rfl)) (hd 32 (by kernel_rfl)) (by omega)) ⟨Below.refl _ _, rfl⟩⟩
            | 34, _ =>
              refine StepAt.by rfl fun a' W hf hb hd => ?_
              exact .inl ⟨want_some (k := 25) (t := 41) rfl (hd 25 (by kernel_rfl)), does_run (run_fieldK2 (hd 33 (by kernel_rfl))) ⟨Below.refl _ _, rfl⟩⟩
            | 35, _ =>
              refine StepAt.by rfl fun a' W hf hb hd => ?_
              exact .inl ⟨want_some (k := 25) (t := 41) rfl (hd 25 (by kernel_rfl)), does_run (run_load3 (hd 34 (by kernel_rfl)) ((HUU W hb) 6 _ rfl)) ⟨Below.refl _ _, rfl⟩⟩
            | 36, _ =>
              refine StepAt.by rfl fun a' W hf hb hd => ?_
              exact .inl ⟨want_some (k := 25) (t := 41) rfl (hd 25 (by kernel_rfl)), does_run (run_neqI (hd 30 (by kernel_rfl)) (hd 35 (by kernel_rfl))) ⟨Below.refl _ _, by show Value.bool _ = _; rw [rb2]⟩⟩
            | 37, _ =>
              refine StepAt.by rfl fun a' W hf hb hd => ?_
              exact .inl ⟨want_none, does_pick (b := false) (hd 25 (by kernel_rfl)) (hd 36 (by kernel_rfl)) ⟨Below.refl _ _, rfl⟩⟩
            | 38, _ =>
              refine StepAt.by rfl fun a' W hf hb hd => ?_
              exact .inl ⟨want_none, does_move (hd 37 (by kernel_rfl)) ⟨Below.refl _ _, rfl⟩⟩
            | 39, _ =>
              refine StepAt.by rfl fun a' W hf hb hd => ?_
              exact .inl ⟨want_some (k := 38) (t := 54) rfl (hd 38 (by kernel_rfl)), does_move ((hf.keeps 0 (by kernel_rfl)).trans rfl) ⟨Below.refl _ _, rfl⟩⟩
            | 40, _ =>
              refine StepAt.by rfl fun a' W hf hb hd => ?_
              exact .inl ⟨want_some (k := 38) (t := 54) rfl (hd 38 (by kernel_rfl)), does_move ((hf.keeps 5 (by kernel_rfl)).trans rfl) ⟨Below.refl _ _, rfl⟩⟩
            | 41, _ =>
              refine StepAt.by rfl fun a' W hf hb hd => ?_
              exact .inl ⟨want_some (k := 38) (t := 54) rfl (hd 38 (by kernel_rfl)), does_run (run_indexK (hd 39 (by kernel_rfl)) (hd 40 (by kernel_rfl)) (by omega)) ⟨Below.refl _ _, rfl⟩⟩
            | 42, _ =>
              refine StepAt.by rfl fun a' W hf hb hd => ?_
              exact .inl ⟨want_some (k := 38) (t := 54) rfl (hd 38 (by kernel_rfl)), does_run (run_fieldK3 (hd 41 (by kernel_rfl))) ⟨Below.refl _ _, rfl⟩⟩
            | 43, _ =>
              refine StepAt.by rfl fun a' W hf hb hd => ?_
              exact .inl ⟨want_some (k := 38) (t := 54) rfl (hd 38 (by kernel_rfl)), does_run (run_load3 (hd 42 (by kernel_rfl)) ((HVV W hb) 7 _ rfl)) ⟨Below.refl _ _, rfl⟩⟩
            | 44, _ =>
              refine StepAt.by rfl fun a' W hf hb hd => ?_
              exact .inl ⟨want_some (k := 38) (t := 54) rfl (hd 38 (by kernel_rfl)), does_move ((hf.keeps 1 (by kernel_rfl)).trans rfl) ⟨Below.refl _ _, rfl⟩⟩
            | 45, _ =>
              refine StepAt.by rfl fun a' W hf hb hd => ?_
              exact .inl ⟨want_some (k := 38) (t := 54) rfl (hd 38 (by kernel_rfl)), does_move ((hf.keeps 5 (by kernel_rfl)).trans rfl) ⟨Below.refl _ _, rfl⟩⟩
            | 46, _ =>
              refine StepAt.by rfl fun a' W hf hb hd => ?_
              exact .inl ⟨want_some (k := 38) (t := 54) rfl (hd 38 (by kernel_rfl)), does_run (run_indexK (hd 44 (by kernel_rfl)) (hd 45 (by kernel_rfl)) (by omega)) ⟨Below.refl _ _, rfl⟩⟩
            | 47, _ =>
              refine StepAt.by rfl fun a' W hf hb hd => ?_
              exact .inl ⟨want_some (k := 38) (t := 54) rfl (hd 38 (by kernel_rfl)), does_run (run_fieldK3 (hd 46 (by kernel_rfl))) ⟨Below.refl _ _, rfl⟩⟩
            | 48, _ =>
              refine StepAt.by rfl fun a' W hf hb hd => ?_
              exact .inl ⟨want_some (k := 38) (t := 54) rfl (hd 38 (by kernel_rfl)), does_run (run_load3 (hd 47 (by kernel_rfl)) ((HUU W hb) 7 _ rfl)) ⟨Below.refl _ _, rfl⟩⟩
            | 49, _ =>
              refine StepAt.by rfl fun a' W hf hb hd => ?_
              exact .inl ⟨want_some (k := 38) (t := 54) rfl (hd 38 (by kernel_rfl)), does_run (run_neqI (hd 43 (by kernel_rfl)) (hd 48 (by kernel_rfl))) ⟨Below.refl _ _, by show Value.bool _ = _; rw [rb3]⟩⟩
            | 50, _ =>
              refine StepAt.by rfl fun a' W hf hb hd => ?_
              exact .inl ⟨want_none, does_pick (b := false) (hd 38 (by kernel_rfl)) (hd 49 (by kernel_rfl)) ⟨Below.refl _ _, rfl⟩⟩
            | k + 51, hi => exact absurd hi (Nat.not_lt.2 (Nat.le_add_left _ _))
        · intro a' W hf hb hv
          have hlast : a'.eval (.tmp 66) = .bool false := hv 50 (by decide)
          have hl := hf.lit (fun t => decide (16 ≤ t) && decide (t ≤ 66)) (by kernel_rfl)
          simp only [overL, Nat.reduceAdd, Nat.reduceLeDiff, decide_true, decide_false, Bool.and_true, Bool.and_false] at hl
          rw [hl]
          clear hl
          go_wp2_with (fail)
          go_meet
          case rel => exact ⟨hlast, HB.out.trans (hb.mono HB.out.size)⟩
      obtain ⟨rfl, H4⟩ := hcut
      rename World => w4
      go_wp2_with (fail)
      go_roundw
      case rel => exact ⟨k + 1, by omega, by go_num, H4.out⟩
      case measure => simp [intOf]; omega
    · go_wp2_with (fail)
      go_ret
      exact ⟨rfl, HB.out⟩
end Go.Proofs.Ytjpdoblmdchmkad
/-
  CHAPTER 8's LAWS, plain mathematics: the tree of a cache; what is used; what is fresh.
-/
namespace Go.Proofs.Ytjpdoblmdchmkad
open Go.RowKit

namespace M
theorem keptT_rs (xs : List Kp) : ∀ acc : List Nd, RsN acc → RsN (xs.foldl (fun t k => putN t k.node) acc) := by
  induction xs with
  | nil => exact fun acc h => h
  | cons x xs ih => exact fun acc h => ih _ (rs_put x.node h)
theorem keptT_find (xs : List Kp) (t : Int) : ∀ acc : List Nd, (fidsK xs).Nodup → find (xs.foldl (fun t k => putN t k.node) acc) t = match xs.find? (fun x => decide (x.node.fid = t)) with
    | some k => some k.node
    | none => find acc t := by
  induction xs with
  | nil => exact fun acc _ => rfl
  | cons x xs ih =>
    intro acc hn
    unfold fidsK at hn
    rw [List.map_cons, List.nodup_cons] at hn
    rw [List.foldl_cons, ih _ hn.2, List.find?_cons]
    by_cases h : x.node.fid = t
    · have hno : xs.find? (fun x => decide (x.node.fid = t)) = none := by
        rw [List.find?_eq_none]
        intro y hy hd
        exact hn.1 (List.mem_map.2 ⟨y, hy, by rw [h]; simpa using hd⟩)
      rw [hno]
      simp only [h, decide_true]
      rw [findN_if, if_pos h.symm]
    · simp only [h, decide_false]
      cases hf : xs.find? (fun x => decide (x.node.fid = t)) with
      | some k => rfl
      | none => exact (findN_if _ _ _).trans (if_neg (fun e => h e.symm))
theorem mem_find {l : List Nd} (h : RsN l) (x : Nd) : x ∈ l ↔ find l x.fid = some x := by
  constructor
  · intro hx
    obtain ⟨i, hi⟩ := List.getElem?_of_mem hx
    exact find_self h hi
  · exact fun hx => List.mem_of_find?_eq_some hx
theorem nodup_of {xs : List Kp} (h : unlikeS xs = true) : (fidsK xs).Nodup := of_decide_eq_true h
theorem keptT_mem {xs : List Kp} (h : unlikeS xs = true) (z : Nd) : z ∈ keptT xs ↔ z ∈ xs.map (·.node) := by
  have hr : RsN (keptT xs) := keptT_rs xs [] List.Pairwise.nil
  rw [mem_find hr]
  unfold keptT
  rw [keptT_find xs z.fid [] (nodup_of h)]
  constructor
  · intro he
    cases hf : xs.find? (fun x => decide (x.node.fid = z.fid)) with
    | none => rw [hf] at he; cases he
    | some k =>
      rw [hf] at he
      exact List.mem_map.2 ⟨k, List.mem_of_find?_eq_some hf, Option.some.inj he⟩
  · intro hm
    obtain ⟨k, hk, rfl⟩ := List.mem_map.1 hm
    cases hf : xs.find? (fun x => decide (x.node.fid = k.node.fid)) with
    | none =>
      have := List.find?_eq_none.1 hf k hk
      simp at this
    | some q =>
      have h1 := List.mem_of_find?_eq_some hf
      have h2 := List.find?_some hf
      have := unlike_inj h h1 hk (by simpa using h2)
      rw [this]
/-- the nodes by their fids: there is but one such list -/
theorem tree_is {xs : List Kp} (h : unlikeS xs = true) {ys : List Nd} (hp : ys.Perm (xs.map (·.node))) (hu : ys.Pairwise fun x y => x.fid ≤ y.fid) : ys = keptT xs := by
  have hnd : (ys.map (·.fid)).Nodup := by
    have h1 := (hp.map (·.fid)).nodup_iff
    refine h1.2 ?_
    have := nodup_of h
    unfold fidsK at this
    rw [List.map_map]
    exact this
  refine rs_ext ?_ (keptT_rs xs [] List.Pairwise.nil) (fun x => ?_)
  · unfold RsN Rs
    rw [List.pairwise_map]
    rw [List.Nodup, List.pairwise_map] at hnd
    refine (hu.and hnd).imp fun {a b} hab => ?_
    unfold ltI
    exact decide_eq_true (by have h1 := hab.1; have h2 := hab.2; omega)
  · rw [keptT_mem h]
    exact hp.mem_iff
theorem keptT_len (xs : List Kp) : ∀ acc : List Nd, (xs.foldl (fun t k => putN t k.node) acc).length ≤ acc.length + xs.length := by
  induction xs with
  | nil => exact fun acc => Nat.le_refl _
  | cons x xs ih =>
    intro acc
    have h1 := ih (putN acc x.node)
    have h2 : (putN acc x.node).length ≤ acc.length + 1 := put_len (fun y : Nd => y.fid) acc ordI x.node
    rw [List.foldl_cons, List.length_cons]
    omega
/-- used now, one by one -/
def useK (f now : Int) (x : Kp) : Kp := if x.node.fid = f then ⟨x.node, x.dirty, x.worth, now⟩ else x
theorem use_is {xs : List Kp} (h : unlikeS xs = true) (f now : Int) : useS xs f now = xs.map (useK f now) := by
  cases hp : placeK xs f with
  | none =>
    rw [useS_none hp]
    have hno : ∀ x ∈ xs, ¬ x.node.fid = f := by
      intro x hx
      unfold placeK at hp
      rw [List.findIdx?_eq_none_iff] at hp
      simpa using hp x hx
    conv => lhs; rw [← List.map_id xs]
    refine List.map_congr_left fun x hx => ?_
    unfold useK
    rw [if_neg (hno x hx)]; rfl
  | some i =>
    obtain ⟨x, hx, hf, hi, _⟩ := placeK_at hp
    rw [useS_some hp hx]
    apply List.ext_getElem?
    intro j
    rw [List.getElem?_map]
    by_cases hj : i = j
    · subst hj
      rw [List.getElem?_set_self hi, hx]
      simp only [Option.map_some]
      unfold useK
      rw [if_pos hf]
    · rw [List.getElem?_set_ne hj]
      cases hq : xs[j]? with
      | none => rfl
      | some y =>
        simp only [Option.map_some]
        unfold useK
        rw [if_neg (fun e => ?_)]
        have hy := unlike_inj h (List.mem_of_getElem? hx) (List.mem_of_getElem? hq) (hf.trans e.symm)
        subst hy
        have hn := nodup_of h
        unfold fidsK at hn
        have h1 : (xs.map fun x => x.node.fid)[i]? = some x.node.fid := by rw [List.getElem?_map, hx]; rfl
        have h2 : (xs.map fun x => x.node.fid)[j]? = some x.node.fid := by rw [List.getElem?_map, hq]; rfl
        obtain ⟨a1, a2⟩ := List.getElem?_eq_some_iff.1 h1
        obtain ⟨b1, b2⟩ := List.getElem?_eq_some_iff.1 h2
        exact hj ((List.getElem_inj (h₀ := a1) (h₁ := b1) hn).1 (a2.trans b2.symm))
theorem use_step {xs : List Kp} {k : Nat} {x : Kp} (h : xs[k]? = some x) (f now : Int) : (xs.take (k + 1)).map (useK f now) = (xs.take k).map (useK f now) ++ [useK f now x] := by
  rw [take_step h, List.map_append]; rfl
theorem has_step {xs : List Kp} {k : Nat} {x : Kp} (h : xs[k]? = some x) (f : Int) : hasK (xs.take (k + 1)) f = (hasK (xs.take k) f || decide (x.node.fid = f)) := by
  unfold hasK
  rw [take_step h, List.any_append]
  simp
theorem stay_fresh {ts : List Nd} (h : RsN ts) (xs : List Kp) : xs.filter (stayB ts) = xs.filter (freshB ts) := by
  refine List.filter_congr fun x _ => ?_
  unfold stayB freshB
  rw [find_any ts h]
  cases find ts x.node.fid <;> rfl
theorem keep_small {xs : List Kp} {room : Int} {k : Kp} (hs : ∀ x ∈ xs, Small x.node) (hk : Small k.node) : ∀ z ∈ (keepS xs room k).2, Small z.node := by
  intro z hz
  cases hh : hasK xs k.node.fid with
  | true =>
    rw [keepC_there hh] at hz
    have key : ∀ l : List Kp, (∀ x ∈ l, Small x.node) → ∀ z ∈ repK l k, Small z.node := by
      intro l
      induction l with
      | nil => intro _ z hz; cases hz
      | cons x l ih =>
        intro hl z hz
        rw [repK] at hz
        split at hz
        · rcases List.mem_cons.1 hz with rfl | hz
          · exact hk
          · exact hl z (List.mem_cons_of_mem _ hz)
        · rcases List.mem_cons.1 hz with rfl | hz
          · exact hl z (List.mem_cons_self ..)
          · exact ih (fun x hx => hl x (List.mem_cons_of_mem _ hx)) z hz
    exact key xs hs z hz
  | false =>
    cases hsh : shrinkS xs room with
    | none => rw [keepC_none hh hsh] at hz; cases hz
    | some ys =>
      rw [keepC_some hh hsh] at hz
      rcases List.mem_append.1 hz with hz | hz
      · exact hs z (shrink_sub xs.length xs (Nat.le_refl _) room ys hsh z hz)
      · rw [List.mem_singleton.1 hz]; exact hk
end M
end Go.Proofs.Ytjpdoblmdchmkad
/-
  APPEND onto a row of one's own: its block stays, or is new.
-/
namespace Go.Proofs.Ytjpdoblmdchmkad
open Go.RowKit

theorem append_where {P : Program} (w : World) (B : Nat) (t ty e : TypeId) (i : TypeInfo) (z : Value) (k bytes : Nat) (ht : P.underlying t = some (.slice e)) (hi : P.info? e = some i) (hz : i.zero = some z)
    (hsize : i.size = k) (hby : i.bytes = bytes) (hzs : z.cells.size = k) (hsz : 0 < k) (v : Value) (n : Nat) (xs : List Value) (hown : w.ownsRow B e k v n xs)
    (a : Addr) (m c : Nat) (news : List Value) (hl : news.length = m * k) (hnews : ∀ j u, news[j]? = some u → w.cell? (a.add j) = some u) (h1 : ∀ u ∈ news, u.oneCell' = true)
    (h63 : n + m ≤ maxLen) (hbytes : (n + m) * bytes ≤ 140737488355328) {v' : Value} {w' : World} (hr : (Builtin.append_ #[t, t] ty #[v, .slice (some a) m c]).run P w = .ok v' w') :
    v'.ownBlock = v.ownBlock ∨ ∀ g, v'.ownBlock = some g → w.heap.size ≤ g := by
  rcases hown.2 with ⟨hv, hn0⟩ | ⟨g, cap, cur, hv, hb, hg, hnc, hcm, hcs, htake⟩
  · subst hv
    have hx : xs = [] := List.eq_nil_of_length_eq_zero (by rw [hown.1, hn0]; omega)
    subst hx
    subst hn0
    obtain ⟨v2, w2, hr2, ho2, _, _⟩ := run_append_own (P := P) w w.heap.size t ty e i z k bytes ht hi hz hsize hby hzs hsz (.slice none 0 0) 0 [] (World.ownsRow_nil _ _ _ _) a m c news hl hnews h1 h63 hbytes (Nat.le_refl _)
    rw [hr] at hr2
    injection hr2 with e1 e2
    subst e1
    right
    intro g hg
    rcases ho2.2 with ⟨h0, _⟩ | ⟨g2, _, _, h0, hb2, _⟩
    · rw [h0] at hg; cases hg
    · rw [h0] at hg; cases hg; exact hb2
  · subst hv
    by_cases hroom : n + m ≤ cap
    · obtain ⟨w2, hr2, _, _⟩ := run_append_own_spare (P := P) w B t ty e i k ht hi hsize g n cap xs hown a m c news hl hnews h1 hroom
      rw [hr] at hr2
      injection hr2 with e1 e2
      subst e1
      exact .inl rfl
    · right
      have hlo : xs.length = n * i.size := by rw [hsize]; exact hown.1
      have hold : ∀ j u, xs[j]? = some u → w.cell? (Addr.add ⟨g, 0, none⟩ j) = some u := by
        intro j u hu
        have hj : j < n * k := by
          have := (List.getElem?_eq_some_iff.1 hu).1
          rw [hown.1] at this
          exact this
        have := hown.cellAt j hj
        rw [hu] at this
        by_cases hj0 : j = 0
        · subst hj0
          simpa [Addr.add] using this
        · simpa [Addr.add, hj0] using this
      have hr2 := run_append_grow (P := P) w t ty e i z ht hi hz ⟨g, 0, none⟩ n cap xs hlo hold a m c news (by rw [hsize]; exact hl) hnews (by omega) (by unfold maxLen at h63; omega) (by rw [hby]; exact growslice_fits (by omega) hbytes)
      rw [hr] at hr2
      injection hr2 with e1 e2
      subst e1
      intro q hq
      cases hq
      exact Nat.le_refl _
theorem wpList_append_row2 {α : Type} {cs : α → List Value} {k : Nat} {P : Program} (w : World) {ops : Array Oper} {rest : List Oper} {o : Oper} {a : Act} {Q : Exit → Act → World → Prop} (hgd : o.guard = none) (s x : Operand) (t : TypeId)
    (ho : o.op = .call { callee := .builtin .append, args := #[s, x], argTypes := #[t, t] })
    (B : Nat) (e : TypeId) (i : TypeInfo) (z : Value) (bytes : Nat) (ht : P.underlying t = some (.slice e)) (hi : P.info? e = some i) (hz : i.zero = some z)
    (hsize : i.size = k) (hby : i.bytes = bytes) (hzs : z.cells.size = k) (hsz : 0 < k) (v : Value) (n : Nat) (xs : List Value) (hs : a.eval s = v) (hown : w.ownsRow B e k v n xs)
    (ad : Addr) (m c : Nat) (vs : List α) (hx : a.eval x = .slice (some ad) m c) (hrow : Row k cs w (some ad) m vs) (hk : ∀ v, (cs v).length = k) (h1 : ∀ v, ∀ u ∈ cs v, u.oneCell' = true)
    (h63 : n + m ≤ maxLen) (hbytes : (n + m) * bytes ≤ 140737488355328) (hbase : B ≤ w.heap.size)
    (h : ∀ v' w', w'.ownsRow B e k v' (n + m) (xs ++ vs.flatMap cs) → w.grownBy w' v.ownBlock → (v'.ownBlock = v.ownBlock ∨ ∀ g, v'.ownBlock = some g → w.heap.size ≤ g) → wpList P ops Q rest (a.put o.dst v') w') : wpList P ops Q (o :: rest) a w := by
  have hl : (vs.flatMap cs).length = m * k := by rw [fm_len hk, hrow.1]
  have hone : ∀ u ∈ vs.flatMap cs, u.oneCell' = true := by
    intro u hu
    obtain ⟨v, _, hv⟩ := List.mem_flatMap.1 hu
    exact h1 v u hv
  have hcell : ∀ j u, (vs.flatMap cs)[j]? = some u → w.cell? (ad.add j) = some u := by
    intro j u hu
    rcases hrow.2 with h | ⟨b, o, h, hb, hc⟩
    · subst h; cases hu
    · cases h
      obtain ⟨v, hv, hv2⟩ := fm_inv hk vs j u hu
      have := hc _ v hv _ u hv2
      rw [Nat.add_assoc, Nat.div_add_mod'] at this
      rw [show (⟨b, o, none⟩ : Addr).add j = ⟨b, o + j, none⟩ from by simp [Addr.add]]; exact this
  obtain ⟨v', w', hr, h2, h3⟩ := run_append_row (P := P) w B t o.type e i z bytes ht hi hz hsize hby hzs hsz v n xs hown (some ad) m c vs hrow hk h1 h63 hbytes hbase
  have h4 := append_where (P := P) w B t o.type e i z k bytes ht hi hz hsize hby hzs hsz v n xs hown ad m c _ hl hcell hone h63 hbytes hr
  refine wpList_plain hgd fun K hK => ?_
  unfold Oper.wp execOp
  simp only [ho, resolve, invoke, builtin, Sem.run_bind, Sem.run_pure, Result.andThen_ok, List.map_toArray, List.map_cons, List.map_nil, hs, hx, hr]
  exact hK _ _ (h v' w' h2 h3 h4)
end Go.Proofs.Ytjpdoblmdchmkad
/-
  A REGION THAT DRAWS: append of any row, as one step.
-/
namespace Go.Proofs.Ytjpdoblmdchmkad
open Go.RowKit

theorem step_append_row {α : Type} {cs : α → List Value} {k : Nat} {P : Program} {w : World} {ops : Array Oper} {o : Oper} {a : Act} {K : Act → World → Prop} {Q : Exit → Act → World → Prop} {E : Prop} (hgd : o.guard = none) (s x : Operand) (t : TypeId)
    (ho : o.op = .call { callee := .builtin .append, args := #[s, x], argTypes := #[t, t] })
    (B : Nat) (e : TypeId) (i : TypeInfo) (z : Value) (bytes : Nat) (ht : P.underlying t = some (.slice e)) (hi : P.info? e = some i) (hz : i.zero = some z)
    (hsize : i.size = k) (hby : i.bytes = bytes) (hzs : z.cells.size = k) (hsz : 0 < k) (v : Value) (n : Nat) (xs : List Value) (hs : a.eval s = v) (hown : w.ownsRow B e k v n xs)
    (A : Option Addr) (m c : Nat) (vs : List α) (hx : a.eval x = .slice A m c) (hrow : Row k cs w A m vs) (hk : ∀ v, (cs v).length = k) (h1 : ∀ v, ∀ u ∈ cs v, u.oneCell' = true)
    (h63 : n + m ≤ maxLen) (hbytes : (n + m) * bytes ≤ 140737488355328) (hbase : B ≤ w.heap.size)
    (h : ∀ v' w', w'.ownsRow B e k v' (n + m) (xs ++ vs.flatMap cs) → w.grownBy w' v.ownBlock → K (a.put o.dst v') w') :
    if Region.wanted o (yielded ops a.tmps) = true then Oper.wp P o a w K Q else E := by
  have hw : Region.wanted o (yielded ops a.tmps) = true := by simp [Region.wanted, hgd]
  rw [if_pos hw]
  obtain ⟨v', w', hr, h2, h3⟩ := run_append_row (P := P) w B t o.type e i z bytes ht hi hz hsize hby hzs hsz v n xs hown A m c vs hrow hk h1 h63 hbytes hbase
  unfold Oper.wp execOp
  simp only [ho, resolve, invoke, builtin, Sem.run_bind, Sem.run_pure, Result.andThen_ok, List.map_toArray, List.map_cons, List.map_nil, hs, hx, hr]
  exact h v' w' h2 h3
end Go.Proofs.Ytjpdoblmdchmkad
