/-
  THE REFERENCE's SameLog, of any two logs.
-/
import Derived.Test.YtlegjdlmcphhlabPart12
import Derived.Test.YtlegjdlmcphhlabPart10
import Derived.Deep.CutRange
namespace Go.Proofs.Ytlegjdlmcphhlab
open Go.RowKit

theorem allR_iff : ∀ {xs ys : List M.Rec}, allB sameR xs ys = true ↔ xs = ys
  | [], [] => by simp [allB]
  | [], y :: ys => by simp [allB]
  | x :: xs, [] => by simp [allB]
  | x :: xs, y :: ys => by
    rw [List.cons.injEq, ← sameR_iff, ← allR_iff (xs := xs) (ys := ys)]
    simp [allB]
def VS1 (b o b2 o2 n ca cb k : Nat) (v u : RV) : Nat → Value → World → Prop
  | 0 => IsW (.slice (some ⟨b, o, none⟩) n ca)
  | 1 => IsW (.int .i64 ((k : Nat) : Int))
  | 2 => IsW (.pointer (some ⟨b, o + k * 9, none⟩))
  | 3 => IsW (.pointer (some ⟨b, o + k * 9 + 7, none⟩))
  | 4 => IsW (.int .i64 (v.ver))
  | 5 => IsW (.slice (some ⟨b2, o2, none⟩) n cb)
  | 6 => IsW (.int .i64 ((k : Nat) : Int))
  | 7 => IsW (.pointer (some ⟨b2, o2 + k * 9, none⟩))
  | 8 => IsW (.pointer (some ⟨b2, o2 + k * 9 + 7, none⟩))
  | 9 => IsW (.int .i64 (u.ver))
  | 10 => IsW (.bool true)
  | 11 => IsW (.bool true)
  | 12 => IsW (undef)
  | 13 => IsW (undef)
  | 14 => IsW (undef)
  | 15 => IsW (undef)
  | 16 => IsW (undef)
  | 17 => IsW (undef)
  | 18 => IsW (undef)
  | 19 => IsW (undef)
  | 20 => IsW (undef)
  | 21 => IsW (undef)
  | 22 => IsW (undef)
  | 23 => IsW (.bool true)
  | 24 => IsW (.bool true)
  | 25 => IsW (undef)
  | 26 => IsW (undef)
  | 27 => IsW (undef)
  | 28 => IsW (undef)
  | 29 => IsW (undef)
  | 30 => IsW (undef)
  | 31 => IsW (undef)
  | 32 => IsW (undef)
  | 33 => IsW (undef)
  | 34 => IsW (undef)
  | 35 => IsW (undef)
  | 36 => IsW (undef)
  | 37 => IsW (.bool true)
  | _ => fun _ _ => True
theorem VS1_stays (b o b2 o2 n ca cb k : Nat) (v u : RV) : ∀ i, Stays (VS1 b o b2 o2 n ca cb k v u i) := by
  intro i v W W' hb h
  match i, h with
  | 0, h => exact h
  | 1, h => exact h
  | 2, h => exact h
  | 3, h => exact h
  | 4, h => exact h
  | 5, h => exact h
  | 6, h => exact h
  | 7, h => exact h
  | 8, h => exact h
  | 9, h => exact h
  | 10, h => exact h
  | 11, h => exact h
  | 12, h => exact h
  | 13, h => exact h
  | 14, h => exact h
  | 15, h => exact h
  | 16, h => exact h
  | 17, h => exact h
  | 18, h => exact h
  | 19, h => exact h
  | 20, h => exact h
  | 21, h => exact h
  | 22, h => exact h
  | 23, h => exact h
  | 24, h => exact h
  | 25, h => exact h
  | 26, h => exact h
  | 27, h => exact h
  | 28, h => exact h
  | 29, h => exact h
  | 30, h => exact h
  | 31, h => exact h
  | 32, h => exact h
  | 33, h => exact h
  | 34, h => exact h
  | 35, h => exact h
  | 36, h => exact h
  | 37, h => exact h
  | k + 38, h => trivial
def VS2 (b o b2 o2 n ca cb k : Nat) (v u : RV) : Nat → Value → World → Prop
  | 0 => IsW (.slice (some ⟨b, o, none⟩) n ca)
  | 1 => IsW (.int .i64 ((k : Nat) : Int))
  | 2 => IsW (.pointer (some ⟨b, o + k * 9, none⟩))
  | 3 => IsW (.pointer (some ⟨b, o + k * 9 + 7, none⟩))
  | 4 => IsW (.int .i64 (v.ver))
  | 5 => IsW (.slice (some ⟨b2, o2, none⟩) n cb)
  | 6 => IsW (.int .i64 ((k : Nat) : Int))
  | 7 => IsW (.pointer (some ⟨b2, o2 + k * 9, none⟩))
  | 8 => IsW (.pointer (some ⟨b2, o2 + k * 9 + 7, none⟩))
  | 9 => IsW (.int .i64 (u.ver))
  | 10 => IsW (.bool false)
  | 11 => IsW (.bool false)
  | 12 => IsW (.slice (some ⟨b, o, none⟩) n ca)
  | 13 => IsW (.int .i64 ((k : Nat) : Int))
  | 14 => IsW (.pointer (some ⟨b, o + k * 9, none⟩))
  | 15 => IsW (.pointer (some ⟨b, o + k * 9 + 8, none⟩))
  | 16 => IsW (.int .i64 (v.id))
  | 17 => IsW (.slice (some ⟨b2, o2, none⟩) n cb)
  | 18 => IsW (.int .i64 ((k : Nat) : Int))
  | 19 => IsW (.pointer (some ⟨b2, o2 + k * 9, none⟩))
  | 20 => IsW (.pointer (some ⟨b2, o2 + k * 9 + 8, none⟩))
  | 21 => IsW (.int .i64 (u.id))
  | 22 => IsW (.bool true)
  | 23 => IsW (.bool true)
  | 24 => IsW (.bool true)
  | 25 => IsW (undef)
  | 26 => IsW (undef)
  | 27 => IsW (undef)
  | 28 => IsW (undef)
  | 29 => IsW (undef)
  | 30 => IsW (undef)
  | 31 => IsW (undef)
  | 32 => IsW (undef)
  | 33 => IsW (undef)
  | 34 => IsW (undef)
  | 35 => IsW (undef)
  | 36 => IsW (undef)
  | 37 => IsW (.bool true)
  | _ => fun _ _ => True
theorem VS2_stays (b o b2 o2 n ca cb k : Nat) (v u : RV) : ∀ i, Stays (VS2 b o b2 o2 n ca cb k v u i) := by
  intro i v W W' hb h
  match i, h with
  | 0, h => exact h
  | 1, h => exact h
  | 2, h => exact h
  | 3, h => exact h
  | 4, h => exact h
  | 5, h => exact h
  | 6, h => exact h
  | 7, h => exact h
  | 8, h => exact h
  | 9, h => exact h
  | 10, h => exact h
  | 11, h => exact h
  | 12, h => exact h
  | 13, h => exact h
  | 14, h => exact h
  | 15, h => exact h
  | 16, h => exact h
  | 17, h => exact h
  | 18, h => exact h
  | 19, h => exact h
  | 20, h => exact h
  | 21, h => exact h
  | 22, h => exact h
  | 23, h => exact h
  | 24, h => exact h
  | 25, h => exact h
  | 26, h => exact h
  | 27, h => exact h
  | 28, h => exact h
  | 29, h => exact h
  | 30, h => exact h
  | 31, h => exact h
  | 32, h => exact h
  | 33, h => exact h
  | 34, h => exact h
  | 35, h => exact h
  | 36, h => exact h
  | 37, h => exact h
  | k + 38, h => trivial
def VS3 (b o b2 o2 n ca cb k : Nat) (v u : RV) (x y : M.Rec) : Nat → Value → World → Prop
  | 0 => IsW (.slice (some ⟨b, o, none⟩) n ca)
  | 1 => IsW (.int .i64 ((k : Nat) : Int))
  | 2 => IsW (.pointer (some ⟨b, o + k * 9, none⟩))
  | 3 => IsW (.pointer (some ⟨b, o + k * 9 + 7, none⟩))
  | 4 => IsW (.int .i64 (v.ver))
  | 5 => IsW (.slice (some ⟨b2, o2, none⟩) n cb)
  | 6 => IsW (.int .i64 ((k : Nat) : Int))
  | 7 => IsW (.pointer (some ⟨b2, o2 + k * 9, none⟩))
  | 8 => IsW (.pointer (some ⟨b2, o2 + k * 9 + 7, none⟩))
  | 9 => IsW (.int .i64 (u.ver))
  | 10 => IsW (.bool false)
  | 11 => IsW (.bool false)
  | 12 => IsW (.slice (some ⟨b, o, none⟩) n ca)
  | 13 => IsW (.int .i64 ((k : Nat) : Int))
  | 14 => IsW (.pointer (some ⟨b, o + k * 9, none⟩))
  | 15 => IsW (.pointer (some ⟨b, o + k * 9 + 8, none⟩))
  | 16 => IsW (.int .i64 (v.id))
  | 17 => IsW (.slice (some ⟨b2, o2, none⟩) n cb)
  | 18 => IsW (.int .i64 ((k : Nat) : Int))
  | 19 => IsW (.pointer (some ⟨b2, o2 + k * 9, none⟩))
  | 20 => IsW (.pointer (some ⟨b2, o2 + k * 9 + 8, none⟩))
  | 21 => IsW (.int .i64 (u.id))
  | 22 => IsW (.bool false)
  | 23 => IsW (.bool false)
  | 24 => IsW (.bool false)
  | 25 => IsW (.slice (some ⟨b, o, none⟩) n ca)
  | 26 => IsW (.int .i64 ((k : Nat) : Int))
  | 27 => IsW (.pointer (some ⟨b, o + k * 9, none⟩))
  | 28 => IsW (.pointer (some ⟨b, o + k * 9, none⟩))
  | 29 => IsW (AV.val v.a)
  | 30 => IsW (.slice (some ⟨b2, o2, none⟩) n cb)
  | 31 => IsW (.int .i64 ((k : Nat) : Int))
  | 32 => IsW (.pointer (some ⟨b2, o2 + k * 9, none⟩))
  | 33 => IsW (.pointer (some ⟨b2, o2 + k * 9, none⟩))
  | 34 => IsW (AV.val u.a)
  | 35 => IsW (.bool (sameA x.act y.act))
  | 36 => IsW (.bool (!(sameA x.act y.act)))
  | 37 => IsW (.bool (!(sameA x.act y.act)))
  | _ => fun _ _ => True
theorem VS3_stays (b o b2 o2 n ca cb k : Nat) (v u : RV) (x y : M.Rec) : ∀ i, Stays (VS3 b o b2 o2 n ca cb k v u x y i) := by
  intro i v W W' hb h
  match i, h with
  | 0, h => exact h
  | 1, h => exact h
  | 2, h => exact h
  | 3, h => exact h
  | 4, h => exact h
  | 5, h => exact h
  | 6, h => exact h
  | 7, h => exact h
  | 8, h => exact h
  | 9, h => exact h
  | 10, h => exact h
  | 11, h => exact h
  | 12, h => exact h
  | 13, h => exact h
  | 14, h => exact h
  | 15, h => exact h
  | 16, h => exact h
  | 17, h => exact h
  | 18, h => exact h
  | 19, h => exact h
  | 20, h => exact h
  | 21, h => exact h
  | 22, h => exact h
  | 23, h => exact h
  | 24, h => exact h
  | 25, h => exact h
  | 26, h => exact h
  | 27, h => exact h
  | 28, h => exact h
  | 29, h => exact h
  | 30, h => exact h
  | 31, h => exact h
  | 32, h => exact h
  | 33, h => exact h
  | 34, h => exact h
  | 35, h => exact h
  | 36, h => exact h
  | 37, h => exact h
  | k + 38, h => trivial

set_option maxRecDepth 8000 in
set_option maxHeartbeats 4000000 in
theorem sameLog_any (A B : Option Addr) (n m ca cb : Nat) (vs us : List RV) (xs ys : List M.Rec) (w : World) (hx : TreeR w A n vs xs) (hy : TreeR w B m us ys) (hn : n * 104 ≤ 140737488355328) (hm : m * 104 ≤ 140737488355328) :
    Calls Try.prog 20 #[.slice A n ca, .slice B m cb] w fun e w' => e = .returned (.bool (allB sameR xs ys)) ∧ Below w.heap.size w w' := by
  have HT : Hid (TreeR w A n vs xs ∧ TreeR w B m us ys) := ⟨hx, hy⟩
  by_cases hnm : n = m
  · subst hnm
    have q0 : ((n : Int) == (n : Int)) = true := by simp
    have q1 : ((n : Int) != (n : Int)) = false := by simp
    clear hx hy
    go_enter Try.func20, Try.ntmps20
    go_wp2
    go_loopw [13] (fun i wr => ∃ k : Nat, k ≤ n ∧ i = .int .i64 k ∧ Hid (allB sameR (xs.take k) (ys.take k) = true) ∧ Below w.heap.size w wr) (fun i _ => n - (intOf i).toNat)
    case atStart => exact ⟨0, Nat.zero_le _, rfl, rfl, Below.refl _ _⟩
    case round =>
      obtain ⟨k, hk, rfl, HE, hb⟩ := hrel
      have hsz := hb.size
      by_cases hlt : k < n
      · have hxr := HT.out.1.below (Nat.le_refl _) hb
        have hyr := HT.out.2.below (Nat.le_refl _) hb
        obtain ⟨b, o, v, rfl, hbl, hvk, _⟩ := hxr.1.at hlt
        obtain ⟨b2, o2, u, rfl, hbl2, huk, _⟩ := hyr.1.at hlt
        obtain ⟨x, hxk, hcx⟩ := hxr.2.at hvk
        obtain ⟨y, hyk, hcy⟩ := hyr.2.at huk
        have HR : Hid (RecAt wr b (o + k * 9) v ∧ RecAt wr b2 (o2 + k * 9) u ∧ b < wr.heap.size ∧ b2 < wr.heap.size) := ⟨Recs.recAt hxr.1 hvk, Recs.recAt hyr.1 huk, hbl, hbl2⟩
        have HX : Hid (ContR wr v x ∧ xs[k]? = some x) := ⟨hcx, hxk⟩
        have HY : Hid (ContR wr u y ∧ ys[k]? = some y) := ⟨hcy, hyk⟩
        have HL : Hid ((xs.take k).length = (ys.take k).length) := by
          show _ = _
          rw [List.length_take, List.length_take, ← HT.out.1.len, ← HT.out.2.len]
        clear hxk hyk hvk huk hcx hcy hxr hyr hbl hbl2
        by_cases h1 : v.ver = u.ver
        case' neg =>
          have r1 : (v.ver != u.ver) = true := by simp [h1]
          have HV1 : Hid (¬ v.ver = u.ver) := h1
          clear h1
          go_wp2_with (fail)
          go_cut [53] from 16 to 53 (fun t W => t = .bool true ∧ Below wr.heap.size wr W)
          case first =>
            have hbd : ∀ W, Below wr.drew.heap.size wr.drew W → Below wr.heap.size wr W := fun W hb => (Below.refl _ _).drew.trans hb
            have HRV : ∀ W, Below wr.drew.heap.size wr.drew W → RecAt W b (o + k * 9) v := fun W hb => HR.out.1.below (hbd W hb) HR.out.2.2.1
            have HRU : ∀ W, Below wr.drew.heap.size wr.drew W → RecAt W b2 (o2 + k * 9) u := fun W hb => HR.out.2.1.below (hbd W hb) HR.out.2.2.2
            have HCA : ∀ W, Below wr.drew.heap.size wr.drew W → ContA W v.a x.act ∧ ContA W u.a y.act := fun W hb => ⟨HX.out.1.1.below (Nat.le_refl _) (hbd W hb), HY.out.1.1.below (Nat.le_refl _) (hbd W hb)⟩
            refine wp_region_vals (VS1 b o b2 o2 n ca cb k v u) (by kernel_rfl) (by kernel_rfl) (VS1_stays b o b2 o2 n ca cb k v u) ?_ ?_
            · intro i hi
              match i, hi with
              | 0, _ =>
                refine StepAt.by rfl fun a' W hf hb hd => ?_
                exact .inl ⟨want_none, does_move ((hf.keeps 0 (by kernel_rfl)).trans rfl) ⟨Below.refl _ _, rfl⟩⟩
              | 1, _ =>
                refine StepAt.by rfl fun a' W hf hb hd => ?_
                exact .inl ⟨want_none, does_move ((hf.keeps 5 (by kernel_rfl)).trans rfl) ⟨Below.refl _ _, rfl⟩⟩
              | 2, _ =>
                refine StepAt.by rfl fun a' W hf hb hd => ?_
                exact .inl ⟨want_none, does_run (run_indexR (hd 0 (by kernel_rfl)) (hd 1 (by kernel_rfl)) (by omega)) ⟨Below.refl _ _, rfl⟩⟩
              | 3, _ =>
                refine StepAt.by rfl fun a' W hf hb hd => ?_
                exact .inl ⟨want_none, does_run (run_fieldR1 (hd 2 (by kernel_rfl))) ⟨Below.refl _ _, rfl⟩⟩
              | 4, _ =>
                refine StepAt.by rfl fun a' W hf hb hd => ?_
                exact .inl ⟨want_none, does_run (run_load3 (hd 3 (by kernel_rfl)) ((HRV W hb) 7 _ rfl)) ⟨Below.refl _ _, rfl⟩⟩
              | 5, _ =>
                refine StepAt.by rfl fun a' W hf hb hd => ?_
                exact .inl ⟨want_none, does_move ((hf.keeps 1 (by kernel_rfl)).trans rfl) ⟨Below.refl _ _, rfl⟩⟩
              | 6, _ =>
                refine StepAt.by rfl fun a' W hf hb hd => ?_
                exact .inl ⟨want_none, does_move ((hf.keeps 5 (by kernel_rfl)).trans rfl) ⟨Below.refl _ _, rfl⟩⟩
              | 7, _ =>
                refine StepAt.by rfl fun a' W hf hb hd => ?_
                exact .inl ⟨want_none, does_run (run_indexR (hd 5 (by kernel_rfl)) (hd 6 (by kernel_rfl)) (by omega)) ⟨Below.refl _ _, rfl⟩⟩
              | 8, _ =>
                refine StepAt.by rfl fun a' W hf hb hd => ?_
                exact .inl ⟨want_none, does_run (run_fieldR1 (hd 7 (by kernel_rfl))) ⟨Below.refl _ _, rfl⟩⟩
              | 9, _ =>
                refine StepAt.by rfl fun a' W hf hb hd => ?_
                exact .inl ⟨want_none, does_run (run_load3 (hd 8 (by kernel_rfl)) ((HRU W hb) 7 _ rfl)) ⟨Below.refl _ _, rfl⟩⟩
              | 10, _ =>
                refine StepAt.by rfl fun a' W hf hb hd => ?_
                exact .inl ⟨want_none, does_run (run_neqI (hd 4 (by kernel_rfl)) (hd 9 (by kernel_rfl))) ⟨Below.refl _ _, by show Value.bool _ = _; rw [r1]⟩⟩
              | 11, _ =>
                refine StepAt.by rfl fun a' W hf hb hd => ?_
                exact .inl ⟨want_none, does_move (hd 10 (by kernel_rfl)) ⟨Below.refl _ _, rfl⟩⟩
              | 12, _ =>
                refine StepAt.by rfl fun a' W hf hb hd => ?_
                exact .inr ⟨want_some (k := 11) (t := 27) rfl (hd 11 (by kernel_rfl)), rfl⟩
              | 13, _ =>
                refine StepAt.by rfl fun a' W hf hb hd => ?_
                exact .inr ⟨want_some (k := 11) (t := 27) rfl (hd 11 (by kernel_rfl)), rfl⟩
              | 14, _ =>
                refine StepAt.by rfl fun a' W hf hb hd => ?_
                exact .inr ⟨want_some (k := 11) (t := 27) rfl (hd 11 (by kernel_rfl)), rfl⟩
              | 15, _ =>
                refine StepAt.by rfl fun a' W hf hb hd => ?_
                exact .inr ⟨want_some (k := 11) (t := 27) rfl (hd 11 (by kernel_rfl)), rfl⟩
              | 16, _ =>
                refine StepAt.by rfl fun a' W hf hb hd => ?_
                exact .inr ⟨want_some (k := 11) (t := 27) rfl (hd 11 (by kernel_rfl)), rfl⟩
              | 17, _ =>
                refine StepAt.by rfl fun a' W hf hb hd => ?_
                exact .inr ⟨want_some (k := 11) (t := 27) rfl (hd 11 (by kernel_rfl)), rfl⟩
              | 18, _ =>
                refine StepAt.by rfl fun a' W hf hb hd => ?_
                exact .inr ⟨want_some (k := 11) (t := 27) rfl (hd 11 (by kernel_rfl)), rfl⟩
              | 19, _ =>
                refine StepAt.by rfl fun a' W hf hb hd => ?_
                exact .inr ⟨want_some (k := 11) (t := 27) rfl (hd 11 (by kernel_rfl)), rfl⟩
              | 20, _ =>
                refine StepAt.by rfl fun a' W hf hb hd => ?_
                exact .inr ⟨want_some (k := 11) (t := 27) rfl (hd 11 (by kernel_rfl)), rfl⟩
              | 21, _ =>
                refine StepAt.by rfl fun a' W hf hb hd => ?_
                exact .inr ⟨want_some (k := 11) (t := 27) rfl (hd 11 (by kernel_rfl)), rfl⟩
              | 22, _ =>
                refine StepAt.by rfl fun a' W hf hb hd => ?_
                exact .inr ⟨want_some (k := 11) (t := 27) rfl (hd 11 (by kernel_rfl)), rfl⟩
              | 23, _ =>
                refine StepAt.by rfl fun a' W hf hb hd => ?_
                exact .inl ⟨want_none, does_pick (b := true) (hd 11 (by kernel_rfl)) rfl ⟨Below.refl _ _, rfl⟩⟩
              | 24, _ =>
                refine StepAt.by rfl fun a' W hf hb hd => ?_
                exact .inl ⟨want_none, does_move (hd 23 (by kernel_rfl)) ⟨Below.refl _ _, rfl⟩⟩
              | 25, _ =>
                refine StepAt.by rfl fun a' W hf hb hd => ?_
                exact .inr ⟨want_some (k := 24) (t := 40) rfl (hd 24 (by kernel_rfl)), rfl⟩
              | 26, _ =>
                refine StepAt.by rfl fun a' W hf hb hd => ?_
                exact .inr ⟨want_some (k := 24) (t := 40) rfl (hd 24 (by kernel_rfl)), rfl⟩
              | 27, _ =>
                refine StepAt.by rfl fun a' W hf hb hd => ?_
                exact .inr ⟨want_some (k := 24) (t := 40) rfl (hd 24 (by kernel_rfl)), rfl⟩
              | 28, _ =>
                refine StepAt.by rfl fun a' W hf hb hd => ?_
                exact .inr ⟨want_some (k := 24) (t := 40) rfl (hd 24 (by kernel_rfl)), rfl⟩
              | 29, _ =>
                refine StepAt.by rfl fun a' W hf hb hd => ?_
                exact .inr ⟨want_some (k := 24) (t := 40) rfl (hd 24 (by kernel_rfl)), rfl⟩
              | 30, _ =>
                refine StepAt.by rfl fun a' W hf hb hd => ?_
                exact .inr ⟨want_some (k := 24) (t := 40) rfl (hd 24 (by kernel_rfl)), rfl⟩
              | 31, _ =>
                refine StepAt.by rfl fun a' W hf hb hd => ?_
                exact .inr ⟨want_some (k := 24) (t := 40) rfl (hd 24 (by kernel_rfl)), rfl⟩
              | 32, _ =>
                refine StepAt.by rfl fun a' W hf hb hd => ?_
                exact .inr ⟨want_some (k := 24) (t := 40) rfl (hd 24 (by kernel_rfl)), rfl⟩
              | 33, _ =>
                refine StepAt.by rfl fun a' W hf hb hd => ?_
                exact .inr ⟨want_some (k := 24) (t := 40) rfl (hd 24 (by kernel_rfl)), rfl⟩
              | 34, _ =>
                refine StepAt.by rfl fun a' W hf hb hd => ?_
                exact .inr ⟨want_some (k := 24) (t := 40) rfl (hd 24 (by kernel_rfl)), rfl⟩
              | 35, _ =>
                refine StepAt.by rfl fun a' W hf hb hd => ?_
                exact .inr ⟨want_some (k := 24) (t := 40) rfl (hd 24 (by kernel_rfl)), rfl⟩
              | 36, _ =>
                refine StepAt.by rfl fun a' W hf hb hd => ?_
                exact .inr ⟨want_some (k := 24) (t := 40) rfl (hd 24 (by kernel_rfl)), rfl⟩
              | 37, _ =>
                refine StepAt.by rfl fun a' W hf hb hd => ?_
                exact .inl ⟨want_none, does_pick (b := true) (hd 24 (by kernel_rfl)) rfl ⟨Below.refl _ _, rfl⟩⟩
              | k + 38, hi => exact absurd hi (Nat.not_lt.2 (Nat.le_add_left _ _))
            · intro a' W hf hb hv
              have h53 : a'.eval (.tmp 53) = .bool true := hv 37 (by decide)
              have hl := hf.lit (fun t => decide (16 ≤ t) && decide (t ≤ 53)) (by kernel_rfl)
              simp only [overL, Nat.reduceAdd, Nat.reduceLeDiff, decide_true, decide_false, Bool.and_true, Bool.and_false] at hl
              rw [hl]
              clear hl
              go_wp2_with (fail)
              go_meet
              case rel => exact ⟨h53, hb⟩
          case rest =>
            obtain ⟨rfl, hbc⟩ := hcut
            have H1 : Hid (Below w.heap.size w wc) := hb.trans (hbc.mono hsz)
            clear hbc
            have HAL : Hid (sameR x y = false) := sameR_no fun e => by rw [e] at HX; exact HV1.out (HX.out.1.2.1.trans HY.out.1.2.1.symm)
            go_wp2
            go_ret
            exact ⟨ret_bool (allB_no HX.out.2 HY.out.2 HAL.out).symm, H1.out⟩
        have r1 : (v.ver != u.ver) = false := by simp [h1]
        have HV1 : Hid (v.ver = u.ver) := h1
        clear h1
        by_cases h2 : v.id = u.id
        case' neg =>
          have r2 : (v.id != u.id) = true := by simp [h2]
          have HV2 : Hid (¬ v.id = u.id) := h2
          clear h2
          go_wp2_with (fail)
          go_cut [53] from 16 to 53 (fun t W => t = .bool true ∧ Below wr.heap.size wr W)
          case first =>
            have hbd : ∀ W, Below wr.drew.heap.size wr.drew W → Below wr.heap.size wr W := fun W hb => (Below.refl _ _).drew.trans hb
            have HRV : ∀ W, Below wr.drew.heap.size wr.drew W → RecAt W b (o + k * 9) v := fun W hb => HR.out.1.below (hbd W hb) HR.out.2.2.1
            have HRU : ∀ W, Below wr.drew.heap.size wr.drew W → RecAt W b2 (o2 + k * 9) u := fun W hb => HR.out.2.1.below (hbd W hb) HR.out.2.2.2
            have HCA : ∀ W, Below wr.drew.heap.size wr.drew W → ContA W v.a x.act ∧ ContA W u.a y.act := fun W hb => ⟨HX.out.1.1.below (Nat.le_refl _) (hbd W hb), HY.out.1.1.below (Nat.le_refl _) (hbd W hb)⟩
            refine wp_region_vals (VS2 b o b2 o2 n ca cb k v u) (by kernel_rfl) (by kernel_rfl) (VS2_stays b o b2 o2 n ca cb k v u) ?_ ?_
            · intro i hi
              match i, hi with
              | 0, _ =>
                refine StepAt.by rfl fun a' W hf hb hd => ?_
                exact .inl ⟨want_none, does_move ((hf.keeps 0 (by kernel_rfl)).trans rfl) ⟨Below.refl _ _, rfl⟩⟩
              | 1, _ =>
                refine StepAt.by rfl fun a' W hf hb hd => ?_
                exact .inl ⟨want_none, does_move ((hf.keeps 5 (by kernel_rfl)).trans rfl) ⟨Below.refl _ _, rfl⟩⟩
              | 2, _ =>
                refine StepAt.by rfl fun a' W hf hb hd => ?_
                exact .inl ⟨want_none, does_run (run_indexR (hd 0 (by kernel_rfl)) (hd 1 (by kernel_rfl)) (by omega)) ⟨Below.refl _ _, rfl⟩⟩
              | 3, _ =>
                refine StepAt.by rfl fun a' W hf hb hd => ?_
                exact .inl ⟨want_none, does_run (run_fieldR1 (hd 2 (by kernel_rfl))) ⟨Below.refl _ _, rfl⟩⟩
              | 4, _ =>
                refine StepAt.by rfl fun a' W hf hb hd => ?_
                exact .inl ⟨want_none, does_run (run_load3 (hd 3 (by kernel_rfl)) ((HRV W hb) 7 _ rfl)) ⟨Below.refl _ _, rfl⟩⟩
              | 5, _ =>
                refine StepAt.by rfl fun a' W hf hb hd => ?_
                exact .inl ⟨want_none, does_move ((hf.keeps 1 (by kernel_rfl)).trans rfl) ⟨Below.refl _ _, rfl⟩⟩
              | 6, _ =>
                refine StepAt.by rfl fun a' W hf hb hd => ?_
                exact .inl ⟨want_none, does_move ((hf.keeps 5 (by kernel_rfl)).trans rfl) ⟨Below.refl _ _, rfl⟩⟩
              | 7, _ =>
                refine StepAt.by rfl fun a' W hf hb hd => ?_
                exact .inl ⟨want_none, does_run (run_indexR (hd 5 (by kernel_rfl)) (hd 6 (by kernel_rfl)) (by omega)) ⟨Below.refl _ _, rfl⟩⟩
              | 8, _ =>
                refine StepAt.by rfl fun a' W hf hb hd => ?_
                exact .inl ⟨want_none, does_run (run_fieldR1 (hd 7 (by kernel_rfl))) ⟨Below.refl _ _, rfl⟩⟩
              | 9, _ =>
                refine StepAt.by rfl fun a' W hf hb hd => ?_
                exact .inl ⟨want_none, does_run (run_load3 (hd 8 (by kernel_rfl)) ((HRU W hb) 7 _ rfl)) ⟨Below.refl _ _, rfl⟩⟩
              | 10, _ =>
                refine StepAt.by rfl fun a' W hf hb hd => ?_
                exact .inl ⟨want_none, does_run (run_neqI (hd 4 (by kernel_rfl)) (hd 9 (by kernel_rfl))) ⟨Below.refl _ _, by show Value.bool _ = _; rw [r1]⟩⟩
              | 11, _ =>
                refine StepAt.by rfl fun a' W hf hb hd => ?_
                exact .inl ⟨want_none, does_move (hd 10 (by kernel_rfl)) ⟨Below.refl _ _, rfl⟩⟩
              | 12, _ =>
                refine StepAt.by rfl fun a' W hf hb hd => ?_
                exact .inl ⟨want_some (k := 11) (t := 27) rfl (hd 11 (by kernel_rfl)), does_move ((hf.keeps 0 (by kernel_rfl)).trans rfl) ⟨Below.refl _ _, rfl⟩⟩
              | 13, _ =>
                refine StepAt.by rfl fun a' W hf hb hd => ?_
                exact .inl ⟨want_some (k := 11) (t := 27) rfl (hd 11 (by kernel_rfl)), does_move ((hf.keeps 5 (by kernel_rfl)).trans rfl) ⟨Below.refl _ _, rfl⟩⟩
              | 14, _ =>
                refine StepAt.by rfl fun a' W hf hb hd => ?_
                exact .inl ⟨want_some (k := 11) (t := 27) rfl (hd 11 (by kernel_rfl)), does_run (run_indexR (hd 12 (by kernel_rfl)) (hd 13 (by kernel_rfl)) (by omega)) ⟨Below.refl _ _, rfl⟩⟩
              | 15, _ =>
                refine StepAt.by rfl fun a' W hf hb hd => ?_
                exact .inl ⟨want_some (k := 11) (t := 27) rfl (hd 11 (by kernel_rfl)), does_run (run_fieldR2 (hd 14 (by kernel_rfl))) ⟨Below.refl _ _, rfl⟩⟩
              | 16, _ =>
                refine StepAt.by rfl fun a' W hf hb hd => ?_
                exact .inl ⟨want_some (k := 11) (t := 27) rfl (hd 11 (by kernel_rfl)), does_run (run_load3 (hd 15 (by kernel_rfl)) ((HRV W hb) 8 _ rfl)) ⟨Below.refl _ _, rfl⟩⟩
              | 17, _ =>
                refine StepAt.by rfl fun a' W hf hb hd => ?_
                exact .inl ⟨want_some (k := 11) (t := 27) rfl (hd 11 (by kernel_rfl)), does_move ((hf.keeps 1 (by kernel_rfl)).trans rfl) ⟨Below.refl _ _, rfl⟩⟩
              | 18, _ =>
                refine StepAt.by rfl fun a' W hf hb hd => ?_
                exact .inl ⟨want_some (k := 11) (t := 27) rfl (hd 11 (by kernel_rfl)), does_move ((hf.keeps 5 (by kernel_rfl)).trans rfl) ⟨Below.refl _ _, rfl⟩⟩
              | 19, _ =>
                refine StepAt.by rfl fun a' W hf hb hd => ?_
                exact .inl ⟨want_some (k := 11) (t := 27) rfl (hd 11 (by kernel_rfl)), does_run (run_indexR (hd 17 (by kernel_rfl)) (hd 18 (by kernel_rfl)) (by omega)) ⟨Below.refl _ _, rfl⟩⟩
              | 20, _ =>
                refine StepAt.by rfl fun a' W hf hb hd => ?_
                exact .inl ⟨want_some (k := 11) (t := 27) rfl (hd 11 (by kernel_rfl)), does_run (run_fieldR2 (hd 19 (by kernel_rfl))) ⟨Below.refl _ _, rfl⟩⟩
              | 21, _ =>
                refine StepAt.by rfl fun a' W hf hb hd => ?_
                exact .inl ⟨want_some (k := 11) (t := 27) rfl (hd 11 (by kernel_rfl)), does_run (run_load3 (hd 20 (by kernel_rfl)) ((HRU W hb) 8 _ rfl)) ⟨Below.refl _ _, rfl⟩⟩
              | 22, _ =>
                refine StepAt.by rfl fun a' W hf hb hd => ?_
                exact .inl ⟨want_some (k := 11) (t := 27) rfl (hd 11 (by kernel_rfl)), does_run (run_neqI (hd 16 (by kernel_rfl)) (hd 21 (by kernel_rfl))) ⟨Below.refl _ _, by show Value.bool _ = _; rw [r2]⟩⟩
              | 23, _ =>
                refine StepAt.by rfl fun a' W hf hb hd => ?_
                exact .inl ⟨want_none, does_pick (b := false) (hd 11 (by kernel_rfl)) (hd 22 (by kernel_rfl)) ⟨Below.refl _ _, rfl⟩⟩
              | 24, _ =>
                refine StepAt.by rfl fun a' W hf hb hd => ?_
                exact .inl ⟨want_none, does_move (hd 23 (by kernel_rfl)) ⟨Below.refl _ _, rfl⟩⟩
              | 25, _ =>
                refine StepAt.by rfl fun a' W hf hb hd => ?_
                exact .inr ⟨want_some (k := 24) (t := 40) rfl (hd 24 (by kernel_rfl)), rfl⟩
              | 26, _ =>
                refine StepAt.by rfl fun a' W hf hb hd => ?_
                exact .inr ⟨want_some (k := 24) (t := 40) rfl (hd 24 (by kernel_rfl)), rfl⟩
              | 27, _ =>
                refine StepAt.by rfl fun a' W hf hb hd => ?_
                exact .inr ⟨want_some (k := 24) (t := 40) rfl (hd 24 (by kernel_rfl)), rfl⟩
              | 28, _ =>
                refine StepAt.by rfl fun a' W hf hb hd => ?_
                exact .inr ⟨want_some (k := 24) (t := 40) rfl (hd 24 (by kernel_rfl)), rfl⟩
              | 29, _ =>
                refine StepAt.by rfl fun a' W hf hb hd => ?_
                exact .inr ⟨want_some (k := 24) (t := 40) rfl (hd 24 (by kernel_rfl)), rfl⟩
              | 30, _ =>
                refine StepAt.by rfl fun a' W hf hb hd => ?_
                exact .inr ⟨want_some (k := 24) (t := 40) rfl (hd 24 (by kernel_rfl)), rfl⟩
              | 31, _ =>
                refine StepAt.by rfl fun a' W hf hb hd => ?_
                exact .inr ⟨want_some (k := 24) (t := 40) rfl (hd 24 (by kernel_rfl)), rfl⟩
              | 32, _ =>
                refine StepAt.by rfl fun a' W hf hb hd => ?_
                exact .inr ⟨want_some (k := 24) (t := 40) rfl (hd 24 (by kernel_rfl)), rfl⟩
              | 33, _ =>
                refine StepAt.by rfl fun a' W hf hb hd => ?_
                exact .inr ⟨want_some (k := 24) (t := 40) rfl (hd 24 (by kernel_rfl)), rfl⟩
              | 34, _ =>
                refine StepAt.by rfl fun a' W hf hb hd => ?_
                exact .inr ⟨want_some (k := 24) (t := 40) rfl (hd 24 (by kernel_rfl)), rfl⟩
              | 35, _ =>
                refine StepAt.by rfl fun a' W hf hb hd => ?_
                exact .inr ⟨want_some (k := 24) (t := 40) rfl (hd 24 (by kernel_rfl)), rfl⟩
              | 36, _ =>
                refine StepAt.by rfl fun a' W hf hb hd => ?_
                exact .inr ⟨want_some (k := 24) (t := 40) rfl (hd 24 (by kernel_rfl)), rfl⟩
              | 37, _ =>
                refine StepAt.by rfl fun a' W hf hb hd => ?_
                exact .inl ⟨want_none, does_pick (b := true) (hd 24 (by kernel_rfl)) rfl ⟨Below.refl _ _, rfl⟩⟩
              | k + 38, hi => exact absurd hi (Nat.not_lt.2 (Nat.le_add_left _ _))
            · intro a' W hf hb hv
              have h53 : a'.eval (.tmp 53) = .bool true := hv 37 (by decide)
              have hl := hf.lit (fun t => decide (16 ≤ t) && decide (t ≤ 53)) (by kernel_rfl)
              simp only [overL, Nat.reduceAdd, Nat.reduceLeDiff, decide_true, decide_false, Bool.and_true, Bool.and_false] at hl
              rw [hl]
              clear hl
              go_wp2_with (fail)
              go_meet
              case rel => exact ⟨h53, hb⟩
          case rest =>
            obtain ⟨rfl, hbc⟩ := hcut
            have H1 : Hid (Below w.heap.size w wc) := hb.trans (hbc.mono hsz)
            clear hbc
            have HAL : Hid (sameR x y = false) := sameR_no fun e => by rw [e] at HX; exact HV2.out (HX.out.1.2.2.trans HY.out.1.2.2.symm)
            go_wp2
            go_ret
            exact ⟨ret_bool (allB_no HX.out.2 HY.out.2 HAL.out).symm, H1.out⟩
        have r2 : (v.id != u.id) = false := by simp [h2]
        have HV2 : Hid (v.id = u.id) := h2
        clear h2
        go_wp2_with (fail)
        go_cut [53] from 16 to 53 (fun t W => t = .bool (!(sameA x.act y.act)) ∧ Below wr.heap.size wr W)
        case first =>
          have hbd : ∀ W, Below wr.drew.heap.size wr.drew W → Below wr.heap.size wr W := fun W hb => (Below.refl _ _).drew.trans hb
          have HRV : ∀ W, Below wr.drew.heap.size wr.drew W → RecAt W b (o + k * 9) v := fun W hb => HR.out.1.below (hbd W hb) HR.out.2.2.1
          have HRU : ∀ W, Below wr.drew.heap.size wr.drew W → RecAt W b2 (o2 + k * 9) u := fun W hb => HR.out.2.1.below (hbd W hb) HR.out.2.2.2
          have HCA : ∀ W, Below wr.drew.heap.size wr.drew W → ContA W v.a x.act ∧ ContA W u.a y.act := fun W hb => ⟨HX.out.1.1.below (Nat.le_refl _) (hbd W hb), HY.out.1.1.below (Nat.le_refl _) (hbd W hb)⟩
          refine wp_region_vals (VS3 b o b2 o2 n ca cb k v u x y) (by kernel_rfl) (by kernel_rfl) (VS3_stays b o b2 o2 n ca cb k v u x y) ?_ ?_
          · intro i hi
            match i, hi with
            | 0, _ =>
              refine StepAt.by rfl fun a' W hf hb hd => ?_
              exact .inl ⟨want_none, does_move ((hf.keeps 0 (by kernel_rfl)).trans rfl) ⟨Below.refl _ _, rfl⟩⟩
            | 1, _ =>
              refine StepAt.by rfl fun a' W hf hb hd => ?_
              exact .inl ⟨want_none, does_move ((hf.keeps 5 (by kernel_rfl)).trans rfl) ⟨Below.refl _ _, rfl⟩⟩
            | 2, _ =>
              refine StepAt.by rfl fun a' W hf hb hd => ?_
              exact .inl ⟨want_none, does_run (run_indexR (hd 0 (by kernel_rfl)) (hd 1 (by kernel_rfl)) (by omega)) ⟨Below.refl _ _, rfl⟩⟩
            | 3, _ =>
              refine StepAt.by rfl fun a' W hf hb hd => ?_
              exact .inl ⟨want_none, does_run (run_fieldR1 (hd 2 (by kernel_rfl))) ⟨Below.refl _ _, rfl⟩⟩
            | 4, _ =>
              refine StepAt.by rfl fun a' W hf hb hd => ?_
              exact .inl ⟨want_none, does_run (run_load3 (hd 3 (by kernel_rfl)) ((HRV W hb) 7 _ rfl)) ⟨Below.refl _ _, rfl⟩⟩
            | 5, _ =>
              refine StepAt.by rfl fun a' W hf hb hd => ?_
              exact .inl ⟨want_none, does_move ((hf.keeps 1 (by kernel_rfl)).trans rfl) ⟨Below.refl _ _, rfl⟩⟩
            | 6, _ =>
              refine StepAt.by rfl fun a' W hf hb hd => ?_
              exact .inl ⟨want_none, does_move ((hf.keeps 5 (by kernel_rfl)).trans rfl) ⟨Below.refl _ _, rfl⟩⟩
            | 7, _ =>
              refine StepAt.by rfl fun a' W hf hb hd => ?_
              exact .inl ⟨want_none, does_run (run_indexR (hd 5 (by kernel_rfl)) (hd 6 (by kernel_rfl)) (by omega)) ⟨Below.refl _ _, rfl⟩⟩
            | 8, _ =>
              refine StepAt.by rfl fun a' W hf hb hd => ?_
              exact .inl ⟨want_none, does_run (run_fieldR1 (hd 7 (by kernel_rfl))) ⟨Below.refl _ _, rfl⟩⟩
            | 9, _ =>
              refine StepAt.by rfl fun a' W hf hb hd => ?_
              exact .inl ⟨want_none, does_run (run_load3 (hd 8 (by kernel_rfl)) ((HRU W hb) 7 _ rfl)) ⟨Below.refl _ _, rfl⟩⟩
            | 10, _ =>
              refine StepAt.by rfl fun a' W hf hb hd => ?_
              exact .inl ⟨want_none, does_run (run_neqI (hd 4 (by kernel_rfl)) (hd 9 (by kernel_rfl))) ⟨Below.refl _ _, by show Value.bool _ = _; rw [r1]⟩⟩
            | 11, _ =>
              refine StepAt.by rfl fun a' W hf hb hd => ?_
              exact .inl ⟨want_none, does_move (hd 10 (by kernel_rfl)) ⟨Below.refl _ _, rfl⟩⟩
            | 12, _ =>
              refine StepAt.by rfl fun a' W hf hb hd => ?_
              exact .inl ⟨want_some (k := 11) (t := 27) rfl (hd 11 (by kernel_rfl)), does_move ((hf.keeps 0 (by kernel_rfl)).trans rfl) ⟨Below.refl _ _, rfl⟩⟩
            | 13, _ =>
              refine StepAt.by rfl fun a' W hf hb hd => ?_
              exact .inl ⟨want_some (k := 11) (t := 27) rfl (hd 11 (by kernel_rfl)), does_move ((hf.keeps 5 (by kernel_rfl)).trans rfl) ⟨Below.refl _ _, rfl⟩⟩
            | 14, _ =>
              refine StepAt.by rfl fun a' W hf hb hd => ?_
              exact .inl ⟨want_some (k := 11) (t := 27) rfl (hd 11 (by kernel_rfl)), does_run (run_indexR (hd 12 (by kernel_rfl)) (hd 13 (by kernel_rfl)) (by omega)) ⟨Below.refl _ _, rfl⟩⟩
            | 15, _ =>
              refine StepAt.by rfl fun a' W hf hb hd => ?_
              exact .inl ⟨want_some (k := 11) (t := 27) rfl (hd 11 (by kernel_rfl)), does_run (run_fieldR2 (hd 14 (by kernel_rfl))) ⟨Below.refl _ _, rfl⟩⟩
            | 16, _ =>
              refine StepAt.by rfl fun a' W hf hb hd => ?_
              exact .inl ⟨want_some (k := 11) (t := 27) rfl (hd 11 (by kernel_rfl)), does_run (run_load3 (hd 15 (by kernel_rfl)) ((HRV W hb) 8 _ rfl)) ⟨Below.refl _ _, rfl⟩⟩
            | 17, _ =>
              refine StepAt.by rfl fun a' W hf hb hd => ?_
              exact .inl ⟨want_some (k := 11) (t := 27) rfl (hd 11 (by kernel_rfl)), does_move ((hf.keeps 1 (by kernel_rfl)).trans rfl) ⟨Below.refl _ _, rfl⟩⟩
            | 18, _ =>
              refine StepAt.by rfl fun a' W hf hb hd => ?_
              exact .inl ⟨want_some (k := 11) (t := 27) rfl (hd 11 (by kernel_rfl)), does_move ((hf.keeps 5 (by kernel_rfl)).trans rfl) ⟨Below.refl _ _, rfl⟩⟩
            | 19, _ =>
              refine StepAt.by rfl fun a' W hf hb hd => ?_
              exact .inl ⟨want_some (k := 11) (t := 27) rfl (hd 11 (by kernel_rfl)), does_run (run_indexR (hd 17 (by kernel_rfl)) (hd 18 (by kernel_rfl)) (by omega)) ⟨Below.refl _ _, rfl⟩⟩
            | 20, _ =>
              refine StepAt.by rfl fun a' W hf hb hd => ?_
              exact .inl ⟨want_some (k := 11) (t := 27) rfl (hd 11 (by kernel_rfl)), does_run (run_fieldR2 (hd 19 (by kernel_rfl))) ⟨Below.refl _ _, rfl⟩⟩
            | 21, _ =>
              refine StepAt.by rfl fun a' W hf hb hd => ?_
              exact .inl ⟨want_some (k := 11) (t := 27) rfl (hd 11 (by kernel_rfl)), does_run (run_load3 (hd 20 (by kernel_rfl)) ((HRU W hb) 8 _ rfl)) ⟨Below.refl _ _, rfl⟩⟩
            | 22, _ =>
              refine StepAt.by rfl fun a' W hf hb hd => ?_
              exact .inl ⟨want_some (k := 11) (t := 27) rfl (hd 11 (by kernel_rfl)), does_run (run_neqI (hd 16 (by kernel_rfl)) (hd 21 (by kernel_rfl))) ⟨Below.refl _ _, by show Value.bool _ = _; rw [r2]⟩⟩
            | 23, _ =>
              refine StepAt.by rfl fun a' W hf hb hd => ?_
              exact .inl ⟨want_none, does_pick (b := false) (hd 11 (by kernel_rfl)) (hd 22 (by kernel_rfl)) ⟨Below.refl _ _, rfl⟩⟩
            | 24, _ =>
              refine StepAt.by rfl fun a' W hf hb hd => ?_
              exact .inl ⟨want_none, does_move (hd 23 (by kernel_rfl)) ⟨Below.refl _ _, rfl⟩⟩
            | 25, _ =>
              refine StepAt.by rfl fun a' W hf hb hd => ?_
              exact .inl ⟨want_some (k := 24) (t := 40) rfl (hd 24 (by kernel_rfl)), does_move ((hf.keeps 0 (by kernel_rfl)).trans rfl) ⟨Below.refl _ _, rfl⟩⟩
            | 26, _ =>
              refine StepAt.by rfl fun a' W hf hb hd => ?_
              exact .inl ⟨want_some (k := 24) (t := 40) rfl (hd 24 (by kernel_rfl)), does_move ((hf.keeps 5 (by kernel_rfl)).trans rfl) ⟨Below.refl _ _, rfl⟩⟩
            | 27, _ =>
              refine StepAt.by rfl fun a' W hf hb hd => ?_
              exact .inl ⟨want_some (k := 24) (t := 40) rfl (hd 24 (by kernel_rfl)), does_run (run_indexR (hd 25 (by kernel_rfl)) (hd 26 (by kernel_rfl)) (by omega)) ⟨Below.refl _ _, rfl⟩⟩
            | 28, _ =>
              refine StepAt.by rfl fun a' W hf hb hd => ?_
              exact .inl ⟨want_some (k := 24) (t := 40) rfl (hd 24 (by kernel_rfl)), does_run (run_fieldR0 (hd 27 (by kernel_rfl))) ⟨Below.refl _ _, rfl⟩⟩
            | 29, _ =>
              refine StepAt.by rfl fun a' W hf hb hd => ?_
              exact .inl ⟨want_some (k := 24) (t := 40) rfl (hd 24 (by kernel_rfl)), does_run (run_loadA (hd 28 (by kernel_rfl)) (RecAt.act (HRV W hb))) ⟨Below.refl _ _, rfl⟩⟩
            | 30, _ =>
              refine StepAt.by rfl fun a' W hf hb hd => ?_
              exact .inl ⟨want_some (k := 24) (t := 40) rfl (hd 24 (by kernel_rfl)), does_move ((hf.keeps 1 (by kernel_rfl)).trans rfl) ⟨Below.refl _ _, rfl⟩⟩
            | 31, _ =>
              refine StepAt.by rfl fun a' W hf hb hd => ?_
              exact .inl ⟨want_some (k := 24) (t := 40) rfl (hd 24 (by kernel_rfl)), does_move ((hf.keeps 5 (by kernel_rfl)).trans rfl) ⟨Below.refl _ _, rfl⟩⟩
            | 32, _ =>
              refine StepAt.by rfl fun a' W hf hb hd => ?_
              exact .inl ⟨want_some (k := 24) (t := 40) rfl (hd 24 (by kernel_rfl)), does_run (run_indexR (hd 30 (by kernel_rfl)) (hd 31 (by kernel_rfl)) (by omega)) ⟨Below.refl _ _, rfl⟩⟩
            | 33, _ =>
              refine StepAt.by rfl fun a' W hf hb hd => ?_
              exact .inl ⟨want_some (k := 24) (t := 40) rfl (hd 24 (by kernel_rfl)), does_run (run_fieldR0 (hd 32 (by kernel_rfl))) ⟨Below.refl _ _, rfl⟩⟩
            | 34, _ =>
              refine StepAt.by rfl fun a' W hf hb hd => ?_
              exact .inl ⟨want_some (k := 24) (t := 40) rfl (hd 24 (by kernel_rfl)), does_run (run_loadA (hd 33 (by kernel_rfl)) (RecAt.act (HRU W hb))) ⟨Below.refl _ _, rfl⟩⟩
            | 35, _ =>
              refine StepAt.by rfl fun a' W hf hb hd => ?_
              refine .inl ⟨want_some (k := 24) (t := 40) rfl (hd 24 (by kernel_rfl)), ?_⟩
              exact does_call2 (enters_of Try.func25 (by kernel_rfl) (by kernel_rfl)) (hd 29 (by kernel_rfl)) (hd 34 (by kernel_rfl)) ((sameActs_any v.a u.a x.act y.act W (HCA W hb).1 (HCA W hb).2).mono fun e W' ⟨he, hb'⟩ => ⟨_, he, hb', rfl⟩)
            | 36, _ =>
              refine StepAt.by rfl fun a' W hf hb hd => ?_
              exact .inl ⟨want_some (k := 24) (t := 40) rfl (hd 24 (by kernel_rfl)), does_not (hd 35 (by kernel_rfl)) ⟨Below.refl _ _, rfl⟩⟩
            | 37, _ =>
              refine StepAt.by rfl fun a' W hf hb hd => ?_
              exact .inl ⟨want_none, does_pick (b := false) (hd 24 (by kernel_rfl)) (hd 36 (by kernel_rfl)) ⟨Below.refl _ _, rfl⟩⟩
            | k + 38, hi => exact absurd hi (Nat.not_lt.2 (Nat.le_add_left _ _))
          · intro a' W hf hb hv
            have h53 : a'.eval (.tmp 53) = .bool (!(sameA x.act y.act)) := hv 37 (by decide)
            have hl := hf.lit (fun t => decide (16 ≤ t) && decide (t ≤ 53)) (by kernel_rfl)
            simp only [overL, Nat.reduceAdd, Nat.reduceLeDiff, decide_true, decide_false, Bool.and_true, Bool.and_false] at hl
            rw [hl]
            clear hl
            go_wp2_with (fail)
            go_meet
            case rel => exact ⟨h53, hb⟩
        case rest =>
          obtain ⟨rfl, hbc⟩ := hcut
          have H1 : Hid (Below w.heap.size w wc) := hb.trans (hbc.mono hsz)
          clear hbc
          cases hsa : sameA x.act y.act
          · have HAL : Hid (sameR x y = false) := by show _ = _; unfold sameR; rw [hsa]; simp
            clear hsa
            go_wp2
            go_ret
            exact ⟨ret_bool (allB_no HX.out.2 HY.out.2 HAL.out).symm, H1.out⟩
          · have HAL : Hid (sameR x y = true) := by
              have e1 := HV1.out
              have e2 := HV2.out
              rw [HX.out.1.2.1, HY.out.1.2.1] at e1
              rw [HX.out.1.2.2, HY.out.1.2.2] at e2
              show _ = _
              unfold sameR
              rw [hsa, e1, e2]
              simp
            clear hsa
            go_wp2
            go_roundw
            case rel => exact ⟨k + 1, by omega, by go_num, by show _ = true; rw [take_step HX.out.2, take_step HY.out.2, allB_snoc HL.out, HE.out, HAL.out]; rfl, H1.out⟩
            case measure => simp [intOf]; omega
      · have HN : Hid (xs.length ≤ k ∧ ys.length ≤ k) := by show _ ∧ _; rw [← HT.out.1.len, ← HT.out.2.len]; omega
        go_wp2
        go_ret
        exact ⟨ret_bool (by
          have e := HE.out
          rw [List.take_of_length_le HN.out.1, List.take_of_length_le HN.out.2] at e
          exact e.symm), hb⟩
  · have HN : Hid (xs.length ≠ ys.length) := by show _ ≠ _; rw [← hx.len, ← hy.len]; exact hnm
    have q0 : ((n : Int) == (m : Int)) = false := by rw [beq_eq_false_iff_ne]; omega
    have q1 : ((n : Int) != (m : Int)) = true := by rw [bne, q0]; rfl
    clear hx hy
    go_enter Try.func20, Try.ntmps20
    go_wp2
    go_ret
    exact ⟨ret_bool (allB_len HN.out).symm, Below.refl _ _⟩
end Go.Proofs.Ytlegjdlmcphhlab
