/-
  THE REFERENCE's Cut: of a text of at most 40 bytes it tells what lies between the bytes c, in memory of its own.
-/
import Derived.Test.YtgeolmiinbcnfaaDoorPath
import Derived.Deep.AppendLies
import Derived.BigRegion
namespace Go.Proofs.YtgeolmiinbcnfaaDoor
open Go.RowKit

theorem info9 : (Tryd.prog.info? 9).map (fun i => (i.zero, i.size, i.bytes)) = some (some (.string ByteArray.empty), 1, 16) := by kernel_rfl

/-- the pieces so far: those that are done, and the one that grows -/
def Cuts (c : UInt8) (s : ByteArray) (w : World) (v : Value) (k : Nat) (qs : List ByteArray) (y : ByteArray) (wr : World) : Prop :=
  wr.ownsRow w.heap.size 9 1 v (qs.length + 1) ((qs ++ [y]).map Value.string) ∧ (qs ++ [y]).map (·.data.toList) = M.cutL c (s.data.toList.take k) ∧ Below w.heap.size w wr ∧ qs.length ≤ k ∧ y.size ≤ k

theorem extract_one (s : ByteArray) (k : Nat) (h : k < s.size) : (s.extract k (k + 1)).data.toList = [s[k]] := by
  rw [ByteArray.data_extract]
  have : k < s.data.size := h
  simp [Array.toList_extract, List.extract_eq_take_drop]
  rw [List.drop_eq_getElem_cons (by simpa using this)]
  rfl

theorem cuts_hit {c : UInt8} {s : ByteArray} {w : World} {v : Value} {k : Nat} {qs : List ByteArray} {y : ByteArray} {wr : World} (h : Cuts c s w v k qs y wr) (hk : k < s.size) (hc : s[k] = c)
    {v' : Value} {w' : World} (hown : w'.ownsRow w.heap.size 9 1 v' (qs.length + 1 + 1) ((qs ++ [y]).map Value.string ++ [.string ByteArray.empty])) (hg : (wr.alloc (.cells #[.string ByteArray.empty] 9)).grownBy w' v.ownBlock) :
    Cuts c s w v' (k + 1) (qs ++ [y]) ByteArray.empty w' := by
  obtain ⟨h1, h2, h3, h4, h5⟩ := h
  refine ⟨by simpa using hown, ?_, ?_, by simp; omega, by simp⟩
  · rw [take_snoc s k hk, hc, M.cutL_snoc_hit, ← h2]; simp
  · exact Below.grown (h3.alloc (by have := h3.size; omega) _) hg (by have := h3.size; simp; omega) (fun j hj => by have := (h1.lt _ hj).1; omega)
theorem cuts_miss {c : UInt8} {s : ByteArray} {w : World} {g n cap : Nat} {k : Nat} {qs : List ByteArray} {y : ByteArray} {wr : World} (h : Cuts c s w (.slice (some ⟨g, 0, none⟩) n cap) k qs y wr) (hn : n = qs.length + 1) (hk : k < s.size) (hc : s[k] ≠ c) :
    Cuts c s w (.slice (some ⟨g, 0, none⟩) n cap) (k + 1) qs (y ++ s.extract k (k + 1)) (wr.setCell ⟨g, qs.length, none⟩ (.string (y ++ s.extract k (k + 1)))) := by
  obtain ⟨h1, h2, h3, h4, h5⟩ := h
  subst hn
  have hb : w.heap.size ≤ g := by
    have := (h1.lt g rfl).1; exact this
  have st := (h1.stored qs.length (.string (y ++ s.extract k (k + 1)))).1
  refine ⟨?_, ?_, h3.setCell (by exact hb) _, by omega, ?_⟩
  · have e : ((qs ++ [y]).map Value.string).set qs.length (.string (y ++ s.extract k (k + 1))) = (qs ++ [y ++ s.extract k (k + 1)]).map Value.string := by
      simp
    rw [e] at st
    exact st
  · rw [take_snoc s k hk, M.cutL_snoc_miss c s[k] hc _ (qs.map (·.data.toList)) y.data.toList (by rw [← h2]; simp)]
    have e := extract_one s k hk
    simp only [List.map_append, List.map_cons, List.map_nil, ByteArray.data_append, Array.toList_append, e]
  · have e := extract_one s k hk
    have e2 : (s.extract k (k + 1)).size = 1 := by have := congrArg List.length e; rwa [len_data] at this
    rw [ByteArray.size_append]; omega

theorem cuts_drew {c : UInt8} {s : ByteArray} {w : World} {v : Value} {k : Nat} {qs : List ByteArray} {y : ByteArray} {wr : World} (h : Cuts c s w v k qs y wr) : Cuts c s w v k qs y wr.drew :=
  ⟨h.1.drew, h.2.1, h.2.2.1.drew, h.2.2.2⟩
theorem cuts_done {c : UInt8} {s : ByteArray} {w : World} {g cap k : Nat} {qs : List ByteArray} {y : ByteArray} {wr : World} (h : Cuts c s w (.slice (some ⟨g, 0, none⟩) (qs.length + 1) cap) k qs y wr) (hk : s.size ≤ k) (hk2 : k ≤ s.size) (hs : s.size ≤ 40) :
    ∃ (g' cap' : Nat) (xs : List ByteArray), Ending.returned (.slice (some ⟨g, 0, none⟩) (qs.length + 1) cap) = .returned (.slice (some ⟨g', 0, none⟩) xs.length cap') ∧ xs.length ≤ cap' ∧ xs.length ≤ 41 ∧ cap' ≤ maxLen ∧
      Strs wr (some ⟨g', 0, none⟩) xs.length xs ∧ xs.map (·.data.toList) = M.cutL c s.data.toList ∧ Below w.heap.size w wr := by
  obtain ⟨u1, u2, u3, u4, u5⟩ := h
  rcases u1.2 with ⟨h', _⟩ | ⟨g', cap', cur, h', hb, hg, hnc, hcm, hcs, htake⟩
  · simp at h'
  · have hgl := (u1.lt g rfl).2
    simp only [Value.slice.injEq, Option.some.injEq, Addr.mk.injEq, and_true, true_and] at h'
    obtain ⟨rfl, rfl⟩ := h'
    refine ⟨g, cap, qs ++ [y], by simp, by simpa using hnc, by simp; omega, hcm, ⟨rfl, .inr ⟨g, 0, rfl, hgl, fun j x hx => ?_⟩⟩, by rw [u2, take_all s k hk], u3⟩
    have hj : j < qs.length + 1 := by
      rcases Nat.lt_or_ge j (qs ++ [y]).length with h1 | h1
      · simpa using h1
      · rw [List.getElem?_eq_none h1] at hx; cases hx
    rw [Nat.zero_add, u1.cellAt j (by omega), List.getElem?_map, hx]; rfl

set_option maxHeartbeats 400000 in
theorem cut_any (s : ByteArray) (c : UInt8) (w : World) (hs : s.size ≤ 40) :
    Calls Tryd.prog 14 #[.string s, .int .u8 (c.toNat : Int)] w fun e w' => ∃ (g cap : Nat) (xs : List ByteArray), e = .returned (.slice (some ⟨g, 0, none⟩) xs.length cap) ∧ xs.length ≤ cap ∧ xs.length ≤ 41 ∧ cap ≤ maxLen ∧
      Strs w' (some ⟨g, 0, none⟩) xs.length xs ∧ xs.map (·.data.toList) = M.cutL c s.data.toList ∧ Below w.heap.size w w' := by
  obtain ⟨i0, hi, hz0, hz1, hz2⟩ := info_parts info9
  go_enter Tryd.func14, Tryd.ntmps14
  go_wp2
  go_loopw [5, 10] (fun v i wr => ∃ (k : Nat) (qs : List ByteArray) (y : ByteArray), k ≤ s.size ∧ i = .int .i64 k ∧ Cuts c s w v k qs y wr) (fun _ i _ => s.size - (intOf i).toNat)
  case atStart => exact ⟨0, [], ByteArray.empty, Nat.zero_le _, rfl, World.ownsRow_lit w #[.string ByteArray.empty] 1 (Nat.le_refl _) (by decide) rfl, rfl, (Below.refl _ _).alloc (Nat.le_refl _) _, Nat.le_refl _, Nat.le_refl _⟩
  case round =>
    obtain ⟨k, qs, y, hk, rfl, hcut⟩ := hrel
    obtain ⟨g, cap, rfl, hbg, hgl⟩ := hcut.1.form (by omega)
    by_cases hlt : k < s.size
    · by_cases hc : s[k] = c
      · have HC : Hid (s[k] = c) := hc
        clear hc
        have hci : ((s[k].toNat : Int) == (c.toNat : Int)) = true := by
          rw [beq_iff_eq, HC.out]
        have hq := hcut.2.2.2.1
        have hbz := hcut.2.2.1.size
        have HU : Hid (Cuts c s w (.slice (some ⟨g, 0, none⟩) (qs.length + 1) cap) k qs y wr) := hcut
        clear hcut
        go_wp2_with (first
          | (at_builtin; refine wpList_append_own _ rfl (.tmp 18) (.tmp 19) 22 rfl w.heap.size 9 i0 (.string ByteArray.empty) 1 16 Tryd.underlying22 hi hz0 hz1 hz2 rfl (by decide) _ _ _ rfl (HU.out.1.alloc _) ⟨wr.heap.size, 0, none⟩ 1 1 [.string ByteArray.empty] rfl rfl (cell_one_new _ _ _) (fun u hu => by simp at hu; subst hu; rfl) (by unfold maxLen; omega) (by omega) (by simp; omega) ?_; intro v' w3 hown' hgrow3 hnil3; have R : Hid (Cuts c s w v' (k + 1) (qs ++ [y]) ByteArray.empty w3) := cuts_hit HU.out hlt HC.out hown' hgrow3; clear hown' hgrow3 hnil3))
        go_roundw
        case rel => exact ⟨k + 1, qs ++ [y], ByteArray.empty, by omega, by go_num, R.out⟩
        case measure => simp [intOf]; omega
      · have HC : Hid (s[k] ≠ c) := hc
        clear hc
        have hci : ((s[k].toNat : Int) == (c.toNat : Int)) = false := by
          rw [beq_eq_false_iff_ne]
          intro e
          exact HC.out (UInt8.toNat_inj.1 (by omega))
        have hcell : wr.cell? ⟨g, qs.length, none⟩ = some (.string y) := by
          have := hcut.1.cellAt qs.length (by omega)
          rw [this]; simp
        have hfz : wr.frozen? ⟨g, qs.length, none⟩ = false := hcut.1.frozenAt qs.length
        have hq := hcut.2.2.2.1
        have hyk := hcut.2.2.2.2
        have hex : (s.extract k (k + 1)).size = 1 := by have := congrArg List.length (extract_one s k hlt); rwa [len_data] at this
        have hadd : ∀ W : World, (Op.stringOp .add y (s.extract k (k + 1))).run Tryd.prog W = .ok (.string (y ++ s.extract k (k + 1))) W := fun W => run_string_add_sum W _ _ (by omega)
        have HU : Hid (Cuts c s w (.slice (some ⟨g, 0, none⟩) (qs.length + 1) cap) k qs y wr) := hcut
        clear hcut hex
        go_wp2
        go_region
        have R : Hid (Cuts c s w (.slice (some ⟨g, 0, none⟩) (qs.length + 1) cap) (k + 1) qs (y ++ s.extract k (k + 1)) (wr.setCell ⟨g, qs.length, none⟩ (.string (y ++ s.extract k (k + 1)))).drew) := cuts_drew (cuts_miss HU.out rfl hlt HC.out)
        go_wp2
        go_roundw
        case rel => exact ⟨k + 1, qs, _, by omega, by go_num, R.out⟩
        case measure => simp [intOf]; omega
    · have HU : Hid (Cuts c s w (.slice (some ⟨g, 0, none⟩) (qs.length + 1) cap) k qs y wr) := hcut
      clear hcut
      go_wp2
      go_ret
      exact cuts_done HU.out (by omega) hk hs
end Go.Proofs.YtgeolmiinbcnfaaDoor
