/-
  PACKAGE logs: Rename.
-/
import Derived.Test.YtlegjdlmcphhlabLogi
namespace Go.Proofs.Ytlegjdlmcphhlab
open Go.RowKit

theorem map_step {α : Type} {φ : α → α} {xs : List α} {k : Nat} {x : α} (h : xs[k]? = some x) : ((xs.take k).map φ ++ xs.drop k)[k]? = some x ∧ ((xs.take k).map φ ++ xs.drop k).set k (φ x) = (xs.take (k + 1)).map φ ++ xs.drop (k + 1) := by
  have hk : k < xs.length := (List.getElem?_eq_some_iff.1 h).1
  have e : xs[k] = x := by rw [List.getElem?_eq_getElem hk] at h; exact Option.some.inj h
  have hl : ((xs.take k).map φ).length = k := by rw [List.length_map, List.length_take]; omega
  have hd : xs.drop k = x :: xs.drop (k + 1) := by rw [← e]; exact List.drop_eq_getElem_cons hk
  constructor
  · rw [List.getElem?_append_right (by omega), hl, Nat.sub_self, hd]; rfl
  · rw [List.set_append_right (h := by omega), hl, Nat.sub_self, hd, List.take_succ_eq_append_getElem hk, e, List.map_append, List.append_assoc]
    rfl

set_option maxRecDepth 8000 in
set_option maxHeartbeats 2000000 in
theorem renameLog_any (A : Option Addr) (n c : Nat) (vs : List RV) (xs : List M.Rec) (f t : Int) (w : World) (ht : TreeR w A n vs xs) (hs : ∀ x ∈ xs, x.act.data.length ≤ 140737488355328) (hn : (n + 1) * 104 ≤ 140737488355328) :
    Calls Try.prog 23 #[.slice A n c, .int .i64 f, .int .i64 t] w fun e w' => ∃ (B : Option Addr) (d : Nat) (us : List RV), e = .returned (.slice B n d) ∧ OwnL w' w.heap.size B n d us (xs.map (turnR f t)) ∧ Below w.heap.size w w' := by
  have HT : Hid (TreeR w A n vs xs ∧ (∀ x ∈ xs, x.act.data.length ≤ 140737488355328)) := ⟨ht, hs⟩
  clear ht hs
  go_enter Try.func23, Try.ntmps23
  go_wp2_with (fail)
  refine (ownLog_any A n c vs xs w HT.out.1 HT.out.2 hn).mono ?_
  rintro e w1 ⟨B, m, d, us, rfl, ho, hb⟩
  have hmn : m = n := by rw [ho.tree.len, HT.out.1.len]
  subst hmn
  have H0 : Hid (OwnL w1 w.heap.size B m d us xs ∧ Below w.heap.size w w1) := ⟨ho, hb⟩
  clear ho hb
  go_wp2_with (fail)
  go_loopw [12] (fun i wr => ∃ (k : Nat) (us : List RV), k ≤ m ∧ i = .int .i64 k ∧ OwnL wr w.heap.size B m d us ((xs.take k).map (turnR f t) ++ xs.drop k) ∧ Below w.heap.size w wr) (fun i _ => m - (intOf i).toNat)
  case atStart => exact ⟨0, us, Nat.zero_le _, rfl, by simpa using H0.out.1, H0.out.2⟩
  case round =>
    obtain ⟨k, us2, hk, rfl, hol, hb⟩ := hrel
    have HO : Hid (OwnL wr w.heap.size B m d us2 ((xs.take k).map (turnR f t) ++ xs.drop k) ∧ Below w.heap.size w wr) := ⟨hol, hb⟩
    have hsz := hb.size
    clear hol
    by_cases hlt : k < m
    · obtain ⟨x, hx⟩ : ∃ x, xs[k]? = some x := ⟨_, List.getElem?_eq_getElem (by rw [← HT.out.1.len]; exact hlt)⟩
      obtain ⟨hx2, hset⟩ := map_step (φ := turnR f t) hx
      have hgf : ∃ g, B = some ⟨g, 0, none⟩ ∧ w.heap.size ≤ g := by
        rcases HO.out.1.1.2 with ⟨_, h0⟩ | ⟨g, cap, cur, hv, hg, _⟩
        · omega
        · cases hv; exact ⟨g, rfl, hg⟩
      obtain ⟨g, rfl, hwg⟩ := hgf
      obtain ⟨g', o', v, hA, hgb, hvk, c0, c1, c2, c3, c4, c5, c6, c7, c8⟩ := HO.out.1.tree.1.at hlt
      cases hA
      simp only [Nat.zero_add] at c0 c1 c2 c3 c4 c5 c6 c7 c8
      have hcx := HO.out.1.2.2 k v x hvk hx2
      have HX : Hid (us2[k]? = some v ∧ ((xs.take k).map (turnR f t) ++ xs.drop k)[k]? = some x ∧ OwnR wr w.heap.size v x ∧ x.act.data.length ≤ 140737488355328 ∧ ((xs.take k).map (turnR f t) ++ xs.drop k).set k (turnR f t x) = (xs.take (k + 1)).map (turnR f t) ++ xs.drop (k + 1)) := ⟨hvk, hx2, hcx, HT.out.2 x (List.mem_of_getElem? hx), hset⟩
      clear hvk hx hx2 hcx hset hb
      go_wp2_with (fail)
      refine (turn_any v.a x.act f t _ HX.out.2.2.1.1.cont HX.out.2.2.2.1).mono ?_
      rintro e w2 ⟨a', rfl, hoa, hb2⟩
      have hz2 := hb2.size
      have hbw2 := HO.out.2.trans (hb2.mono hsz)
      have hol2 := HO.out.1.below (Nat.le_refl _) hb2
      obtain ⟨cur, hcur⟩ := own_block hol2.1
      have hfz : ∀ o, w2.frozen? ⟨g, o, none⟩ = false := fun o => by simp [World.frozen?, hcur]
      have d0 : w2.cell? ⟨g, k * 9, none⟩ = some (.int .i64 v.a.kind) := by rw [hb2.cell (p := ⟨g, k * 9, none⟩) hgb]; exact c0
      have d1 : w2.cell? ⟨g, k * 9 + 1, none⟩ = some (.int .i64 v.a.fid) := by rw [hb2.cell (p := ⟨g, k * 9 + 1, none⟩) hgb]; exact c1
      have d2 : w2.cell? ⟨g, k * 9 + 2, none⟩ = some (.int .i64 v.a.dir) := by rw [hb2.cell (p := ⟨g, k * 9 + 2, none⟩) hgb]; exact c2
      have d3 : w2.cell? ⟨g, k * 9 + 3, none⟩ = some (.string v.a.name) := by rw [hb2.cell (p := ⟨g, k * 9 + 3, none⟩) hgb]; exact c3
      have d4 : w2.cell? ⟨g, k * 9 + 4, none⟩ = some (.int .i64 v.a.to) := by rw [hb2.cell (p := ⟨g, k * 9 + 4, none⟩) hgb]; exact c4
      have d5 : w2.cell? ⟨g, k * 9 + 5, none⟩ = some (.string v.a.toName) := by rw [hb2.cell (p := ⟨g, k * 9 + 5, none⟩) hgb]; exact c5
      have d6 : w2.cell? ⟨g, k * 9 + 6, none⟩ = some (.slice v.a.dA v.a.dn v.a.dc) := by rw [hb2.cell (p := ⟨g, k * 9 + 6, none⟩) hgb]; exact c6
      have HR : Hid (OwnL (put7 w2 g (k * 9) a') w.heap.size (some ⟨g, 0, none⟩) m d (us2.set k ⟨a', v.ver, v.id⟩) ((xs.take (k + 1)).map (turnR f t) ++ xs.drop (k + 1)) ∧ Below w.heap.size w (put7 w2 g (k * 9) a')) := by
        refine ⟨?_, put7_below hbw2 hwg _ _⟩
        rw [← HX.out.2.2.2.2]
        exact ownL_put7 hol2 HX.out.1 HX.out.2.1 (hoa.mono hsz)
      clear hoa hb2 hbw2 hol2 hcur c0 c1 c2 c3 c4 c5 c6 c7 c8
      go_wp2_with (fail)
      go_roundw
      case rel => exact ⟨k + 1, _, by omega, by go_num, HR.out.1, HR.out.2⟩
      case measure => simp [intOf]; omega
    · have HL : Hid ((xs.take k).map (turnR f t) ++ xs.drop k = xs.map (turnR f t)) := by
        show _ = _
        have hlen := HT.out.1.len
        rw [List.take_of_length_le (by omega), List.drop_eq_nil_iff.2 (by omega), List.append_nil]
      go_wp2
      go_ret
      have h1 := HO.out.1
      rw [HL.out] at h1
      exact ⟨B, d, us2, rfl, h1, hb⟩
end Go.Proofs.Ytlegjdlmcphhlab
