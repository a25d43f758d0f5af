/-
  PACKAGE acts: Fids, Own, All.
-/
import Derived.Test.YtlegjdlmcphhlabActe
import Derived.Test.YtlegjdlmcphhlabMathe
namespace Go.Proofs.Ytlegjdlmcphhlab
open Go.RowKit

theorem act_len (x : AV) : x.cells.length = 7 := rfl
theorem act_one (x : AV) : ∀ u ∈ x.cells, u.oneCell' = true := by intro u hu; simp [AV.cells] at hu; rcases hu with rfl | rfl | rfl | rfl | rfl | rfl | rfl <;> rfl
/-- acts that came in -/
def TreeA (w : World) (A : Option Addr) (n : Nat) (vs : List AV) (xs : List M.Act) : Prop := Row 7 AV.cells w A n vs ∧ All2 (ContA w) vs xs
theorem TreeA.below {B : Nat} {w w' : World} {A : Option Addr} {n : Nat} {vs : List AV} {xs : List M.Act} (h : TreeA w A n vs xs) (hB : w.heap.size ≤ B) (hb : Below B w w') : TreeA w' A n vs xs :=
  ⟨h.1.below hB hb, h.2.imp fun _ _ h => h.below hB hb⟩
theorem Acts.at {w : World} {A : Option Addr} {n : Nat} {vs : List AV} (h : Row 7 AV.cells w A n vs) {j : Nat} (hj : j < n) :
    ∃ b o v, A = some ⟨b, o, none⟩ ∧ b < w.heap.size ∧ vs[j]? = some v ∧ w.cell? ⟨b, o + j * 7, none⟩ = some (.int .i64 v.kind) ∧ w.cell? ⟨b, o + j * 7 + 1, none⟩ = some (.int .i64 v.fid) ∧
      w.cell? ⟨b, o + j * 7 + 2, none⟩ = some (.int .i64 v.dir) ∧ w.cell? ⟨b, o + j * 7 + 3, none⟩ = some (.string v.name) ∧ w.cell? ⟨b, o + j * 7 + 4, none⟩ = some (.int .i64 v.to) ∧ w.cell? ⟨b, o + j * 7 + 5, none⟩ = some (.string v.toName) ∧ w.cell? ⟨b, o + j * 7 + 6, none⟩ = some (.slice v.dA v.dn v.dc) := by
  obtain ⟨b, o, v, e, hlt, hv, hc⟩ := Row.at h hj
  exact ⟨b, o, v, e, hlt, hv, hc 0 _ rfl, hc 1 _ rfl, hc 2 _ rfl, hc 3 _ rfl, hc 4 _ rfl, hc 5 _ rfl, hc 6 _ rfl⟩

theorem all_step {xs : List M.Nd} {a : M.Act} {l : List M.Act} {v : Int} (h : (M.applyS xs a v).1 = 0) : M.allS xs (a :: l) v = ((M.allS (M.applyS xs a v).2 l v).1 + 1, (M.allS (M.applyS xs a v).2 l v).2) := by rw [M.allS, if_pos h]
theorem all_stop {xs : List M.Nd} {a : M.Act} {l : List M.Act} {v : Int} (h : (M.applyS xs a v).1 ≠ 0) : M.allS xs (a :: l) v = (0, (M.applyS xs a v).1, []) := by rw [M.allS, if_neg h]

/-- where All is, behind k acts -/
def AllI (w : World) (xs : List M.Nd) (acs : List M.Act) (ver : Int) (k : Nat) (B : Option Addr) (m d : Nat) (ys : List M.Nd) (wr : World) : Prop :=
  (∃ us, OwnT wr w.heap.size B m d us ys) ∧ Good ys ∧ M.allS xs acs ver = (k + (M.allS ys (acs.drop k) ver).1, (M.allS ys (acs.drop k) ver).2) ∧ Below w.heap.size w wr
/-- what All answers -/
def AllPost (w : World) (spec : Nat × Int × List M.Nd) (e : Ending) (w' : World) : Prop :=
  ∃ (B : Option Addr) (m d : Nat) (us : List NV), e = .returned (.tuple #[.slice B m d, .int .i64 (spec.1 : Int), .int .i64 spec.2.1]) ∧ OwnT w' w.heap.size B m d us spec.2.2 ∧ Below w.heap.size w w'

set_option maxHeartbeats 1000000 in
theorem all_any (A C : Option Addr) (n c p q : Nat) (vs : List NV) (xs : List M.Nd) (avs : List AV) (acs : List M.Act) (ver : Int) (w : World) (ht : Tree w A n vs xs) (hg : Good xs) (ha : TreeA w C p avs acs) (hsa : ∀ a ∈ acs, SmallA a) (hp : p ≤ 140737488355328) :
    Calls Try.prog 30 #[.slice A n c, .slice C p q, .int .i64 ver] w (AllPost w (M.allS xs acs ver)) := by
  have hnx : n = xs.length := by rw [ht.1.1, ht.2.1]
  have hn72 : n * 72 ≤ 140737488355328 := by have := hg.2.2; omega
  have HT : Hid (Tree w A n vs xs ∧ Good xs ∧ TreeA w C p avs acs ∧ (∀ a ∈ acs, SmallA a)) := ⟨ht, hg, ha, hsa⟩
  clear ht hg ha hsa hnx
  go_enter Try.func30, Try.ntmps30
  go_wp2_with (fail)
  refine (own_any A n c vs xs w HT.out.1 hn72 HT.out.2.1.2.1).mono ?_
  rintro e w1 ⟨g, us, rfl, hot, hb1⟩
  have HI : Hid (AllI w xs acs ver 0 (some ⟨g, 0, none⟩) n n xs w1) := ⟨⟨us, hot⟩, HT.out.2.1, by simp, hb1⟩
  clear hot hb1
  go_wp2_with (fail)
  go_loopw [0, 17] (fun l i wr => ∃ (k : Nat) (B : Option Addr) (m d : Nat) (ys : List M.Nd), l = .slice B m d ∧ i = .int .i64 k ∧ k ≤ p ∧ AllI w xs acs ver k B m d ys wr) (fun _ i _ => p - (intOf i).toNat)
  case atStart => exact ⟨0, _, _, _, _, rfl, rfl, Nat.zero_le _, HI.out⟩
  case round =>
    obtain ⟨k, B, m, d, ys, rfl, rfl, hk, hi⟩ := hrel
    have HJ : Hid (AllI w xs acs ver k B m d ys wr) := hi
    clear hi
    by_cases hlt : k < p
    · obtain ⟨b, o, v, rfl, hbl, hv, c0, c1, c2, c3, c4, c5, c6⟩ := Acts.at (HT.out.2.2.1.below (Nat.le_refl _) HJ.out.2.2.2).1 hlt
      obtain ⟨ac, hac, hca⟩ := HT.out.2.2.1.2.at hv
      have HA : Hid (ContA w v ac ∧ acs[k]? = some ac ∧ SmallA ac) := ⟨hca, hac, HT.out.2.2.2 ac (List.mem_of_getElem? hac)⟩
      have HW : Hid _ := boxA_start wr v
      clear hv hac hca
      go_wp2_with (fail)
      obtain ⟨q1, q2, q3⟩ := HW.out _ rfl
      obtain ⟨us, hus⟩ := HJ.out.1
      have hmy : m = ys.length := by rw [hus.tree.1.1, hus.tree.2.1]
      refine (apply_any B m d us ys v ac ver _ (hus.tree.below (Nat.le_refl _) q1) (by rw [hmy]; exact HJ.out.2.1.2.2) HJ.out.2.1.2.1 (HA.out.1.below (Nat.le_refl _) (HJ.out.2.2.2.trans (q1.mono HJ.out.2.2.2.size))) HA.out.2.2).mono ?_
      rintro e w2 ⟨B2, m2, d2, r, rfl, hap, hb2⟩
      obtain ⟨hr, us2, ho2⟩ := hap HJ.out.2.1.1
      have hbw : Below w.heap.size w w2 := HJ.out.2.2.2.trans ((q1.trans (hb2.mono (by rw [q3]; omega))).mono HJ.out.2.2.2.size)
      have hdk : acs.drop k = ac :: acs.drop (k + 1) := by
        obtain ⟨h1, h2⟩ := List.getElem?_eq_some_iff.1 HA.out.2.1
        rw [List.drop_eq_getElem_cons h1, h2]
      by_cases hr0 : r = 0
      · have HK : Hid (AllI w xs acs ver (k + 1) B2 m2 d2 (M.applyS ys ac ver).2 w2) := by
          refine ⟨⟨us2, ho2.mono (by rw [q3]; have := HJ.out.2.2.2.size; omega)⟩, good_apply HJ.out.2.1 ac ver, ?_, hbw⟩
          rw [HJ.out.2.2.1, hdk, all_step (by rw [← hr]; exact hr0)]
          show (_, _) = (_, _)
          congr 1
          omega
        subst hr0
        clear q1 q2 q3 hus hmy hr ho2 hbw hdk hb2 hap
        go_wp2
        go_roundw
        case rel => exact ⟨k + 1, _, _, _, _, rfl, by go_num, by omega, HK.out⟩
        case measure => simp [intOf]; omega
      · have HK : Hid (AllPost w (M.allS xs acs ver) (.returned (.tuple #[.slice none 0 0, .int .i64 (k : Int), .int .i64 r])) w2) := by
          have e : M.allS xs acs ver = (k, r, []) := by
            rw [HJ.out.2.2.1, hdk, all_stop (by rw [← hr]; exact hr0), ← hr]
            rfl
          rw [e]
          exact ⟨none, 0, 0, [], rfl, ownT_nil _ _, hbw⟩
        have r0 : (r == 0) = false := by simp [hr0]
        have r1 : (r != 0) = true := by simp [hr0]
        clear q1 q2 q3 hus hmy hr ho2 hbw hdk hb2 hap hr0
        go_wp2
        exact bodyPost_ret (v := .tuple #[.slice none 0 0, .int .i64 (k : Int), .int .i64 r]) (by simp [results, Try.results30, go_sem]) rfl HK.out
    · have HK : Hid (AllPost w (M.allS xs acs ver) (.returned (.tuple #[.slice B m d, .int .i64 (p : Int), .int .i64 0])) wr) := by
        have e : acs.drop k = [] := List.drop_of_length_le (by rw [← HT.out.2.2.1.2.1, ← HT.out.2.2.1.1.1]; omega)
        have e2 : M.allS xs acs ver = (p, 0, ys) := by
          rw [HJ.out.2.2.1, e]
          show (k + 0, _) = _
          rw [show k + 0 = p by omega]
          rfl
        rw [e2]
        obtain ⟨us, hus⟩ := HJ.out.1
        exact ⟨B, m, d, us, rfl, hus, HJ.out.2.2.2⟩
      go_wp2
      exact bodyPost_ret (v := .tuple #[.slice B m d, .int .i64 (p : Int), .int .i64 0]) (by simp [results, Try.results30, go_sem]) rfl HK.out
end Go.Proofs.Ytlegjdlmcphhlab
