/-
  Within, whole.
-/
import Derived.Test.YtlegjdlmcphhlabWithin
import Derived.Deep.LoopGhost
import Derived.BigRegion
namespace Go.Proofs.Ytlegjdlmcphhlab
open Go.RowKit

theorem info4 : (Try.prog.info? 4).map (fun i => (i.zero, i.size, i.bytes)) = some (some (.bool false), 1, 1) := by kernel_rfl
theorem make4 (n : Nat) (hn : n ≤ 140737488355328) (w : World) : (Instr.makeSlice 106 (.int .i64 (n : Int)) (.int .i64 (n : Int))).run Try.prog w = .ok (.slice (some ⟨w.heap.size, 0, none⟩) n n) (w.alloc (.cells (Array.replicate n (Value.bool false)) 4)) := by
  obtain ⟨i0, hi, hz, hsz, hbz⟩ := info_parts info4
  have hr := run_make (P := Try.prog) w 106 4 i0 (.bool false) Try.underlying106 hi hz .i64 .i64 n n (by omega) (Int.le_refl _) (by rw [hbz]; omega) (by omega)
  simp only [Int.toNat_natCast] at hr
  rw [hr]
  have e : madeCells (Value.cells (.bool false)) (n * i0.size) = (Array.replicate n (Value.bool false)) := by
    apply Array.ext'
    rw [hsz, Nat.mul_one]
    have := toList_madeCells_one (.bool false) n
    simp only [Value.cells]
    rw [this]
    simp
  rw [e]

theorem store_func (W : World) (k : Nat) (u : Value) (t : TypeId) (F : Fn) (x y : Array Value) (hk : k = W.heap.size) : (store ⟨k, 0, none⟩ (.func F x y)).run Try.prog (W.alloc (.cells #[u] t)) = .ok () (W.alloc (.cells #[.func F x y] t)) := by
  subst hk
  have h := heap_alloc_new W (.cells #[u] t)
  rw [run_store _ _ _ _ _ rfl, cell_of_one h]
  simp only [free_of_one h, Bool.false_eq_true, if_false]
  rw [World.setCell_alloc_at _ _ _ _ _ rfl]
  rfl

theorem St.start (w : World) (A : Option Addr) (n c : Nat) (t : Int) (W : World) (hW : W = (((((w.alloc (.cells #[.slice A n c] 22)).alloc (.cells #[.int .i64 t] 3)).alloc (.cells (Array.replicate n (Value.bool false)) 4)).alloc (.cells #[.slice (some ⟨w.heap.size + 2, 0, none⟩) n n] 106)).alloc (.cells #[.slice none 0 0] 44)).alloc
      (.cells #[.func (.func 84) #[] #[.pointer (some ⟨w.heap.size, 0, none⟩), .pointer (some ⟨w.heap.size + 3, 0, none⟩), .pointer (some ⟨w.heap.size + 4, 0, none⟩), .pointer (some ⟨w.heap.size + 1, 0, none⟩)]] 107)) :
    St w A n c t (List.replicate n false) [] W := by
  have hb : ∀ k (o : Obj) (V : World), k < V.heap.size → (V.alloc o).heap[k]? = V.heap[k]? := fun k o V h => Below.heap_alloc V o k h
  subst hW
  refine ⟨?_, ?_, ?_, ?_, ?_, ⟨none, 0, ?_, World.ownsRow_nil _ _ _ _⟩, ?_⟩
  · exact ((((((Below.refl _ _).alloc (Nat.le_refl _) _).alloc (by simp) _).alloc (by simp <;> omega) _).alloc (by simp <;> omega) _).alloc (by simp <;> omega) _).alloc (by simp <;> omega) _
  · rw [hb _ _ _ (by simp <;> omega), hb _ _ _ (by simp <;> omega), hb _ _ _ (by simp <;> omega), hb _ _ _ (by simp <;> omega), hb _ _ _ (by simp)]; exact heap_alloc_new _ _
  · rw [hb _ _ _ (by simp <;> omega), hb _ _ _ (by simp <;> omega), hb _ _ _ (by simp <;> omega), hb _ _ _ (by simp)]
    have := heap_alloc_new (w.alloc (.cells #[.slice A n c] 22)) (.cells #[.int .i64 t] 3)
    simpa using this
  · rw [hb _ _ _ (by simp <;> omega), hb _ _ _ (by simp <;> omega), hb _ _ _ (by simp)]
    have := heap_alloc_new ((w.alloc (.cells #[.slice A n c] 22)).alloc (.cells #[.int .i64 t] 3)) (.cells (Array.replicate n (Value.bool false)) 4)
    have e : ((List.replicate n false).map Value.bool).toArray = Array.replicate n (Value.bool false) := by simp
    rw [e]
    simpa using this
  · rw [hb _ _ _ (by simp <;> omega), hb _ _ _ (by simp)]
    have := heap_alloc_new (((w.alloc (.cells #[.slice A n c] 22)).alloc (.cells #[.int .i64 t] 3)).alloc (.cells (Array.replicate n (Value.bool false)) 4)) (.cells #[.slice (some ⟨w.heap.size + 2, 0, none⟩) n n] 106)
    simpa using this
  · rw [hb _ _ _ (by simp)]
    have := heap_alloc_new ((((w.alloc (.cells #[.slice A n c] 22)).alloc (.cells #[.int .i64 t] 3)).alloc (.cells (Array.replicate n (Value.bool false)) 4)).alloc (.cells #[.slice (some ⟨w.heap.size + 2, 0, none⟩) n n] 106)) (.cells #[.slice none 0 0] 44)
    simpa using this
  · have := heap_alloc_new (((((w.alloc (.cells #[.slice A n c] 22)).alloc (.cells #[.int .i64 t] 3)).alloc (.cells (Array.replicate n (Value.bool false)) 4)).alloc (.cells #[.slice (some ⟨w.heap.size + 2, 0, none⟩) n n] 106)).alloc (.cells #[.slice none 0 0] 44)) (.cells #[.func (.func 84) #[] #[.pointer (some ⟨w.heap.size, 0, none⟩), .pointer (some ⟨w.heap.size + 3, 0, none⟩), .pointer (some ⟨w.heap.size + 4, 0, none⟩), .pointer (some ⟨w.heap.size + 1, 0, none⟩)]] 107)
    simpa using this

theorem St.pop {w : World} {A : Option Addr} {n c : Nat} {t : Int} {met : List Bool} {ah : List Nat} {i g m : Nat} {wr : World} (h : St w A n c t met (ah ++ [i]) wr)
    (h4 : wr.heap[w.heap.size + 4]? = some (.cells #[.slice (some ⟨g, 0, none⟩) (ah.length + 1) m] 44 (0, 0))) (hown : wr.ownsRow (w.heap.size + 6) 3 1 (.slice (some ⟨g, 0, none⟩) (ah.length + 1) m) (ah.length + 1) ((ah ++ [i]).map fun i : Nat => .int .i64 (i : Int))) :
    St w A n c t met ah (wr.setCell ⟨w.heap.size + 4, 0, none⟩ (.slice (some ⟨g, 0, none⟩) ah.length m)) := by
  have hset : ∀ k, k ≠ w.heap.size + 4 → (wr.setCell ⟨w.heap.size + 4, 0, none⟩ (.slice (some ⟨g, 0, none⟩) ah.length m)).heap[k]? = wr.heap[k]? := fun k hk => Below.heap_setCell _ _ _ _ (by exact hk)
  refine ⟨h.bel.setCell (by show w.heap.size ≤ w.heap.size + 4; omega) _, by rw [hset _ (by omega)]; exact h.bl, by rw [hset _ (by omega)]; exact h.bf, by rw [hset _ (by omega)]; exact h.bm, by rw [hset _ (by omega)]; exact h.bv, ⟨some ⟨g, 0, none⟩, m, ?_, ?_⟩, by rw [hset _ (by omega)]; exact h.bc⟩
  · rw [heap_setCell_same _ _ _ _ _ _ h4]; rfl
  · refine ownsRow_setCell_below ?_ (by show w.heap.size + 4 < _; omega) _
    rcases hown.2 with ⟨h', _⟩ | ⟨g', cap, cur, h', hb, hg, hnc, hcm, hcs, htake⟩
    · simp at h'
    · simp only [Value.slice.injEq, Option.some.injEq, Addr.mk.injEq, and_true, true_and] at h'
      obtain ⟨rfl, rfl⟩ := h'
      refine ⟨by simp, .inr ⟨g, m, cur, rfl, hb, hg, by omega, hcm, hcs, ?_⟩⟩
      have := congrArg (List.take ah.length) htake
      rw [List.take_take, List.map_append] at this
      have e2 : ((ah.map fun i : Nat => Value.int .i64 (i : Int)) ++ ([i].map fun i : Nat => Value.int .i64 (i : Int))).take ah.length = ah.map fun i : Nat => Value.int .i64 (i : Int) := by
        rw [List.take_append_of_le_length (by simp)]
        exact List.take_of_length_le (by simp)
      rw [e2] at this
      rw [← this]
      congr 1
      omega

/-- where the search is -/
def WSt (xs : List M.Nd) (n : Nat) (a t : Int) (k : Nat) (b : Bool) (mt : List Bool) (aa : List Nat) : Prop :=
  (b = true ∧ (M.RsN xs → M.Reach xs a t)) ∨ (b = false ∧ aa.length + 2 * mt.count false ≤ k ∧ OkS n (mt, aa) ∧ (∀ i ∈ aa, i < n) ∧ (M.RsN xs → M.WInv xs a t (mt, aa)))

set_option maxHeartbeats 2000000 in
theorem within_gen (A : Option Addr) (n c : Nat) (vs : List NV) (xs : List M.Nd) (t a : Int) (w : World) (ht : Tree w A n vs xs) (hn : n * 72 ≤ 140737488355328) (hs : ∀ x ∈ xs, Small x) :
    Calls Try.prog 65 #[.slice A n c, .int .i64 t, .int .i64 a] w fun e w' => ∃ b : Bool, e = .returned (.bool b) ∧ (M.RsN xs → (b = true ↔ M.Reach xs a t)) ∧ Below w.heap.size w w' := by
  have HT : Hid (Tree w A n vs xs ∧ ∀ x ∈ xs, Small x) := ⟨ht, hs⟩
  clear ht hs
  have hmk := make4 n (by omega)
  have hsf := store_func
  have HNL : Hid (n = xs.length) := by show n = _; rw [HT.out.1.1.1, HT.out.1.2.1]
  go_enter Try.func65, Try.ntmps65
  go_wp2_with (fail)
  have H0 := St.start w A n c t _ rfl
  have hok0 : OkS n (List.replicate n false, ([] : List Nat)) := ⟨by simp, by simp⟩
  refine (meet_any A n c vs xs t a (List.replicate n false) [] w _ HT.out.1 hn hok0.1 (by simp) H0).mono ?_
  rintro e w1 ⟨s1, rfl, hs1, hm1⟩
  have HREL : Hid (∃ (b : Bool) (mt : List Bool) (aa : List Nat), decide (a = t) = b ∧ St w A n c t mt aa w1 ∧ WSt xs n a t (2 * n + 2) b mt aa) := by
    refine ⟨_, s1.1, s1.2, rfl, hs1, ?_⟩
    by_cases h : a = t
    · exact .inl ⟨decide_eq_true h, fun _ => by rw [h]; exact .refl⟩
    · refine .inr ⟨decide_eq_false h, ?_, hok0.met hm1, hm1.ahl (by simp), fun hr => ?_⟩
      · have := hm1.meas
        simp at this
        omega
      · have h1 := M.winv_start xs a t h
        rw [← HNL.out] at h1
        rw [show (s1.1, s1.2) = s1 from rfl, hm1.exa hr]
        exact h1
  clear H0 hok0 hs1 hm1 hmk hsf
  go_wp2_with (fail)
  go_loopg [10] (2 * n + 2) (fun k f wr => ∃ (b : Bool) (mt : List Bool) (aa : List Nat), f = .bool b ∧ St w A n c t mt aa wr ∧ WSt xs n a t k b mt aa)
  case atStart =>
    obtain ⟨b, mt, aa, hb, h1, h2⟩ := HREL.out
    exact ⟨b, mt, aa, by rw [hb], h1, h2⟩
  case round =>
    obtain ⟨b, mt, aa, rfl, hs, hcase⟩ := hrel
    have HS : Hid (St w A n c t mt aa wr) := hs
    clear hs
    rcases hcase with ⟨rfl, hreach⟩ | ⟨rfl, hk, hoks, hahl, hinv⟩
    · have HRE : Hid (M.RsN xs → M.Reach xs a t) := hreach
      clear hreach
      go_wp2
      go_ret
      exact ⟨true, rfl, fun hr => ⟨fun _ => HRE.out hr, fun _ => rfl⟩, HS.out.bel⟩
    · have HI : Hid (M.RsN xs → M.WInv xs a t (mt, aa)) := hinv
      have HAL : Hid ((∀ i ∈ aa, i < n) ∧ OkS n (mt, aa)) := ⟨hahl, hoks⟩
      clear hinv hahl hoks
      rcases List.eq_nil_or_concat aa with rfl | ⟨ah, i, rfl⟩
      · obtain ⟨B, m, h4, ho⟩ := HS.out.ba
        have q4 := cell_of_one h4
        simp only [List.length_nil] at q4
        clear h4 ho
        go_wp2
        go_ret
        exact ⟨false, rfl, fun hr => ⟨fun h => (by cases h), fun h => absurd h (M.winv_end (HI.out hr))⟩, HS.out.bel⟩
      · rw [List.concat_eq_append] at HS HI HAL hk
        obtain ⟨B, m, h4, ho⟩ := HS.out.ba
        rw [List.length_append, List.length_singleton] at h4 ho
        obtain ⟨g, rfl, hBg, hgl⟩ := own_some ho (by omega)
        have H4 : Hid (wr.heap[w.heap.size + 4]? = some (.cells #[.slice (some ⟨g, 0, none⟩) (ah.length + 1) m] 44 (0, 0)) ∧ wr.ownsRow (w.heap.size + 6) 3 1 (.slice (some ⟨g, 0, none⟩) (ah.length + 1) m) (ah.length + 1) ((ah ++ [i]).map fun i : Nat => .int .i64 (i : Int))) := ⟨h4, ho⟩
        have q4 := cell_of_one h4
        have f4 := free_of_one h4
        have q0 := cell_of_one HS.out.bl
        have qg : wr.cell? ⟨g, ah.length, none⟩ = some (.int .i64 (i : Int)) := by
          rw [ho.cellAt ah.length (by omega)]; simp
        have hil : i < n := HAL.out.1 i (List.mem_append.2 (.inr (List.mem_singleton.2 rfl)))
        have hmc : ah.length + 1 ≤ m ∧ m ≤ 9223372036854775807 := by
          obtain ⟨A1, c1, e1, e2, e3⟩ := own_form ho
          cases e1
          unfold maxLen at e3
          exact ⟨e2, by omega⟩
        obtain ⟨hmc1, hmc2⟩ := hmc
        have htr := HT.out.1.below (Nat.le_refl _) HS.out.bel
        obtain ⟨gb, o, v, rfl, hgbl, hvk, c0, c1, c2, c3, c4⟩ := htr.1.at hil
        obtain ⟨x, hx, _⟩ := htr.2.at hvk
        have HX : Hid (xs[i]? = some x ∧ Small x ∧ Cont w v x) := ⟨hx, HT.out.2 x (List.mem_of_getElem? hx), HT.out.1.2.2 i v x hvk hx⟩
        have hsz5 : w.heap.size + 5 < wr.heap.size := lt_of_block HS.out.bc
        clear h4 ho hvk hx htr
        have b1 : (0 : Int) ≤ (ah.length : Int) := by omega
        have b2 : (ah.length : Int) < (ah.length : Int) + 1 := by omega
        have b3 : (0 : Int) ≤ (i : Int) := by omega
        have b4 : (i : Int) < (n : Int) := by omega
        have hz4 : w.heap.size + 1 + 1 + 1 + 1 < wr.heap.size := by omega
        have hz0 : w.heap.size < wr.heap.size := by omega
        go_wp2
        go_region
        have HSP : Hid (St w _ n c t mt ah (((wr.setCell ⟨w.heap.size + 4, 0, none⟩ (.slice (some ⟨g, 0, none⟩) ah.length m)).alloc (.cells #[.int .i64 v.fid, .bool v.dir, .slice v.dA v.dn v.dc, .slice v.eA v.en v.ec, .int .i64 v.ver] 40)).drew)) := (HS.out.pop H4.out.1 H4.out.2).below (((Below.refl _ _).alloc (Nat.le_refl _) _).drew)
        have HOK : Hid (OkS n (mt, ah)) := by
          have h1 := HAL.out.2.2
          simp only [List.length_append, List.length_singleton] at h1
          exact ⟨HAL.out.2.1, by show ah.length ≤ mt.count true; omega⟩
        have hen : v.en ≤ 140737488355328 := by have := HX.out.2.1.2; have := HX.out.2.2.2.2.2.2.1; omega
        go_wp2_with (go_at_call 85; refine (meetAny_any _ v.eA n c v.en v.ec vs xs x.ents t (mt, ah) w _ HT.out.1 hn HOK.out HSP.out HX.out.2.2.2.2.2.2 hen).mono ?_; rintro e w2 ⟨b2, mt2, aa2, rfl, hs2, hc2⟩; have HS2 : Hid (St w _ n c t mt2 aa2 w2) := hs2; have HC2 : Hid _ := hc2; clear hs2 hc2)
        have hkk : ah.length + 1 + 2 * mt.count false ≤ gk := by rw [List.length_append, List.length_singleton] at hk; exact hk
        rcases HC2.out with ⟨rfl, heq, hno⟩ | ⟨rfl, y, hy, hyt⟩
        · have hm := heq.meas
          go_roundg (aa2.length + 2 * mt2.count false)
          case measure => simp only at hm; omega
          case rel => exact ⟨false, mt2, aa2, rfl, HS2.out, .inr ⟨rfl, Nat.le_refl _, HOK.out.met heq, heq.ahl (fun j hj => HAL.out.1 j (List.mem_append.2 (.inl hj))), fun hr => by rw [heq.exa hr]; exact M.winv_step hr (HI.out hr) HX.out.1 hno⟩⟩
        · go_roundg 0
          case measure => omega
          case rel => exact ⟨true, mt2, aa2, rfl, HS2.out, .inl ⟨rfl, fun hr => M.winv_hit hr (HI.out hr) HX.out.1 hy hyt⟩⟩

theorem within_any (A : Option Addr) (n c : Nat) (vs : List NV) (xs : List M.Nd) (t a : Int) (w : World) (ht : Tree w A n vs xs) (hr : M.RsN xs) (hn : n * 72 ≤ 140737488355328) (hs : ∀ x ∈ xs, Small x) :
    Calls Try.prog 65 #[.slice A n c, .int .i64 t, .int .i64 a] w fun e w' => ∃ b : Bool, e = .returned (.bool b) ∧ (b = true ↔ M.Reach xs a t) ∧ Below w.heap.size w w' := by
  refine (within_gen A n c vs xs t a w ht hn hs).mono ?_
  rintro e w1 ⟨b, rfl, h, hb⟩
  exact ⟨b, rfl, h hr, hb⟩
end Go.Proofs.Ytlegjdlmcphhlab
