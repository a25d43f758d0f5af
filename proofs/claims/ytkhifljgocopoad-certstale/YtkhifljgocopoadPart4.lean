/- TEXTS LAID TOGETHER: Within, In, Ref, Rises, Common -/
import Derived.Test.YtkhifljgocopoadPart3
import Derived.Deep.LoopGhost
import Derived.BigRegion
import Derived.ProofKit
import Derived.OpenShut
import Derived.SizedLaws
import Derived.Deep.Strs
import Derived.Deep.Slices
import Derived.Deep.SlicePairs
import Derived.Deep.DeepHandedRow
/-
  Within: what is reached, by entries, from a fid on.
-/
namespace Go.Proofs.Ytkhifljgocopoad
open Go.RowKit


/-- the search's memory: what was handed in, which ones were met, which ones are ahead -/
structure St (w : World) (A : Option Addr) (n c : Nat) (t : Int) (met : List Bool) (ah : List Nat) (wr : World) : Prop where
  bel : Below w.heap.size w wr
  bl : wr.heap[w.heap.size]? = some (.cells #[.slice A n c] 22 (0, 0))
  bf : wr.heap[w.heap.size + 1]? = some (.cells #[.int .i64 t] 3 (0, 0))
  bm : wr.heap[w.heap.size + 2]? = some (.cells (met.map Value.bool).toArray 4 (0, 0))
  bv : wr.heap[w.heap.size + 3]? = some (.cells #[.slice (some ⟨w.heap.size + 2, 0, none⟩) n n] 95 (0, 0))
  ba : ∃ B m, wr.heap[w.heap.size + 4]? = some (.cells #[.slice B ah.length m] 46 (0, 0)) ∧ wr.ownsRow (w.heap.size + 6) 3 1 (.slice B ah.length m) ah.length (ah.map fun i : Nat => .int .i64 (i : Int))
  bc : wr.heap[w.heap.size + 5]? = some (.cells #[.func (.func 50) #[] #[.pointer (some ⟨w.heap.size, 0, none⟩), .pointer (some ⟨w.heap.size + 3, 0, none⟩), .pointer (some ⟨w.heap.size + 4, 0, none⟩), .pointer (some ⟨w.heap.size + 1, 0, none⟩)]] 67 (0, 0))

theorem St.below {w : World} {A : Option Addr} {n c : Nat} {t : Int} {met : List Bool} {ah : List Nat} {wr w' : World} (h : St w A n c t met ah wr) (hb : Below wr.heap.size wr w') : St w A n c t met ah w' := by
  have hs : w.heap.size + 5 < wr.heap.size := lt_of_block h.bc
  obtain ⟨B, m, a1, a2⟩ := h.ba
  exact ⟨h.bel.trans (hb.mono (by omega)), by rw [hb.block _ (by omega)]; exact h.bl, by rw [hb.block _ (by omega)]; exact h.bf, by rw [hb.block _ (by omega)]; exact h.bm, by rw [hb.block _ (by omega)]; exact h.bv,
    ⟨B, m, by rw [hb.block _ (by omega)]; exact a1, own_below a2 hb (Nat.le_refl _)⟩, by rw [hb.block _ (by omega)]; exact h.bc⟩

theorem St.push {w : World} {A : Option Addr} {n c : Nat} {t : Int} {met : List Bool} {ah : List Nat} {w1 w2 : World} {O : Obj} {i m m' : Nat} {B B' : Option Addr} (h : St w A n c t met ah w1)
    (h4 : w1.heap[w.heap.size + 4]? = some (.cells #[.slice B ah.length m] 46 (0, 0))) (hown : w1.ownsRow (w.heap.size + 6) 3 1 (.slice B ah.length m) ah.length (ah.map fun i : Nat => .int .i64 (i : Int)))
    (hg : ((w1.setCell ⟨w.heap.size + 2, i, none⟩ (.bool true)).alloc O).grownBy w2 (Value.slice B ah.length m).ownBlock) (hown2 : w2.ownsRow (w.heap.size + 6) 3 1 (.slice B' (ah.length + 1) m') (ah.length + 1) ((ah.map fun i : Nat => .int .i64 (i : Int)) ++ [.int .i64 (i : Int)])) :
    St w A n c t (met.set i true) (ah ++ [i]) (w2.setCell ⟨w.heap.size + 4, 0, none⟩ (.slice B' (ah.length + 1) m')) := by
  have hs : w.heap.size + 5 < w1.heap.size := lt_of_block h.bc
  have hrow : ∀ k, (Value.slice B ah.length m).ownBlock = some k → w.heap.size + 6 ≤ k := fun k hk => (hown.lt k hk).1
  have hblk : ∀ k, k ≠ w.heap.size + 2 → k < w.heap.size + 6 → w2.heap[k]? = w1.heap[k]? := fun k h2 h6 => by
    rw [hg.block k (by simp; omega) (fun e => by have := hrow k e.symm; omega), Below.heap_alloc _ _ _ (by simp; omega), Below.heap_setCell _ _ _ _ (by exact h2)]
  have hset : ∀ k, k ≠ w.heap.size + 4 → (w2.setCell ⟨w.heap.size + 4, 0, none⟩ (.slice B' (ah.length + 1) m')).heap[k]? = w2.heap[k]? := fun k hk => Below.heap_setCell _ _ _ _ (by exact hk)
  refine ⟨?_, ?_, ?_, ?_, ?_, ⟨B', m', ?_, ?_⟩, ?_⟩
  · refine Below.setCell (Below.grown (Below.alloc (h.bel.setCell (p := ⟨w.heap.size + 2, i, none⟩) (by show w.heap.size ≤ w.heap.size + 2; omega) _) (by simp; omega) O) hg (by simp; omega) (fun k hk => by have := hrow k hk; omega)) (by show w.heap.size ≤ w.heap.size + 4; omega) _
  · rw [hset _ (by omega), hblk _ (by omega) (by omega)]; exact h.bl
  · rw [hset _ (by omega), hblk _ (by omega) (by omega)]; exact h.bf
  · rw [hset _ (by omega), hg.block _ (by simp; omega) (fun e => by have := hrow _ e.symm; omega), Below.heap_alloc _ _ _ (by simp; omega), heap_setCell_same _ _ _ _ _ _ h.bm]
    congr 2
    apply Array.ext'
    simp
  · rw [hset _ (by omega), hblk _ (by omega) (by omega)]; exact h.bv
  · have e4 : w2.heap[w.heap.size + 4]? = some (.cells #[.slice B ah.length m] 46 (0, 0)) := by rw [hblk _ (by omega) (by omega)]; exact h4
    rw [heap_setCell_same _ _ _ _ _ _ e4, List.length_append]
    rfl
  · rw [List.length_append, List.map_append]
    exact ownsRow_setCell_below hown2 (by show w.heap.size + 4 < _; omega) _
  · rw [hset _ (by omega), hblk _ (by omega) (by omega)]; exact h.bc

theorem cell_new2 (w : World) (a : Addr) (u v : Value) (t : TypeId) : ∀ j x, [v][j]? = some x → ((w.setCell a u).alloc (.cells #[v] t)).cell? ((⟨w.heap.size, 0, none⟩ : Addr).add j) = some x := by
  intro j x hj
  cases j with
  | succ j => cases hj
  | zero =>
    cases hj
    have h : ((w.setCell a u).alloc (.cells #[v] t)).heap[w.heap.size]? = some (.cells #[v] t (0, 0)) := by
      have := heap_alloc_new (w.setCell a u) (.cells #[v] t)
      simpa using this
    have := cell_of_one h
    simpa [Addr.add_lit] using this
theorem info3 : (Try.prog.info? 3).map (fun i => (i.zero, i.size, i.bytes)) = some (some (.int .i64 0), 1, 8) := by kernel_rfl

/-- what meetings have done: each one stays as it is, or marks a node that was not yet, and lays it ahead; of a list that rises, what meetS says -/
structure Met (xs : List M.Nd) (n : Nat) (st : List Bool × List Nat) (ts : List Int) (st' : List Bool × List Nat) : Prop where
  len : st'.1.length = st.1.length
  ahl : (∀ i ∈ st.2, i < n) → ∀ i ∈ st'.2, i < n
  cnt : st.2.length ≤ st.1.count true → st'.2.length ≤ st'.1.count true
  meas : st'.2.length + 2 * st'.1.count false ≤ st.2.length + 2 * st.1.count false
  exa : M.RsN xs → st' = ts.foldl (M.meetS xs) st
theorem Met.nil (xs : List M.Nd) (n : Nat) (st : List Bool × List Nat) : Met xs n st [] st := ⟨rfl, fun h => h, fun h => h, Nat.le_refl _, fun _ => rfl⟩
theorem Met.stay {xs : List M.Nd} {n : Nat} {met : List Bool} {ah : List Nat} {a : Int} (h : M.RsN xs → M.meetS xs (met, ah) a = (met, ah)) : Met xs n (met, ah) [a] (met, ah) :=
  ⟨rfl, fun h => h, fun h => h, Nat.le_refl _, fun hr => by simp [h hr]⟩
theorem Met.add {xs : List M.Nd} {n i : Nat} {met : List Bool} {ah : List Nat} {a : Int} (hi : i < n) (hm : met[i]? = some false) (h : M.RsN xs → M.meetS xs (met, ah) a = (met.set i true, ah ++ [i])) : Met xs n (met, ah) [a] (met.set i true, ah ++ [i]) := by
  have hc := M.count_set met i hm
  refine ⟨by simp, fun h j hj => ?_, fun h => ?_, ?_, fun hr => by simp [h hr]⟩
  · rcases List.mem_append.1 hj with hj | hj
    · exact h j hj
    · rw [List.mem_singleton.1 hj]; exact hi
  · show (ah ++ [i]).length ≤ (met.set i true).count true
    have h : ah.length ≤ met.count true := h
    rw [List.length_append, hc.1, List.length_singleton]; omega
  · show (ah ++ [i]).length + 2 * (met.set i true).count false ≤ ah.length + 2 * met.count false
    rw [List.length_append, List.length_singleton]; omega
theorem Met.trans {xs : List M.Nd} {n : Nat} {a b c : List Bool × List Nat} {ts us : List Int} (h : Met xs n a ts b) (k : Met xs n b us c) : Met xs n a (ts ++ us) c :=
  ⟨k.len.trans h.len, fun h0 => k.ahl (h.ahl h0), fun h0 => k.cnt (h.cnt h0), Nat.le_trans k.meas h.meas, fun hr => by rw [List.foldl_append, ← h.exa hr]; exact k.exa hr⟩

set_option maxHeartbeats 1000000 in
theorem meet_any (A : Option Addr) (n c : Nat) (vs : List NV) (xs : List M.Nd) (t a : Int) (met : List Bool) (ah : List Nat) (w wr : World) (ht : Tree w A n vs xs) (hn : n * 72 ≤ 140737488355328) (hml : met.length = n) (hal : ah.length ≤ n) (hst : St w A n c t met ah wr) :
    Calls Try.prog 50 #[.int .i64 a, .pointer (some ⟨w.heap.size, 0, none⟩), .pointer (some ⟨w.heap.size + 3, 0, none⟩), .pointer (some ⟨w.heap.size + 4, 0, none⟩), .pointer (some ⟨w.heap.size + 1, 0, none⟩)] wr fun e w' => ∃ st' : List Bool × List Nat, e = .returned (.bool (decide (a = t))) ∧ St w A n c t st'.1 st'.2 w' ∧ Met xs n (met, ah) [a] st' := by
  obtain ⟨i0, hi, hz, hsz, hbz⟩ := info_parts info3
  have HT : Hid (Tree w A n vs xs) := ht
  have HST : Hid (St w A n c t met ah wr) := hst
  have HML : Hid (met.length = n) := hml
  have q0 := cell_of_one hst.bl
  have HD : Hid ((a == t) = decide (a = t)) := by show _ = _; by_cases h : a = t <;> simp [h]
  clear ht hst hml
  go_enter Try.func50, Try.ntmps50
  go_wp2_with (fail)
  refine (place_any A n c vs a _ (HT.out.1.below (Nat.le_refl _) HST.out.bel) (by omega)).mono ?_
  rintro e w1 ⟨i, b, rfl, hin, hb, hm, hb1⟩
  rw [fids HT.out] at hb hm
  have HS1 : Hid (St w A n c t met ah w1) := HST.out.below hb1
  obtain ⟨B, m, ha1, ha2⟩ := HS1.out.ba
  have HA : Hid (w1.heap[w.heap.size + 4]? = some (.cells #[.slice B ah.length m] 46 (0, 0)) ∧ w1.ownsRow (w.heap.size + 6) 3 1 (.slice B ah.length m) ah.length (ah.map fun i : Nat => .int .i64 (i : Int))) := ⟨ha1, ha2⟩
  have hsz1 : w.heap.size + 5 < w1.heap.size := lt_of_block HS1.out.bc
  have q1 := cell_of_one HS1.out.bf
  have q3 := cell_of_one HS1.out.bv
  have q4 := cell_of_one ha1
  have f4 := free_of_one ha1
  clear hb1 ha1 ha2 q0
  cases b
  · have HI : Hid (Met xs n (met, ah) [a] (met, ah)) := by
      refine Met.stay fun hr => ?_
      unfold M.meetS
      rw [M.idx_miss hr hm (of_decide_eq_false hb.symm)]
    clear hb hm
    go_wp2
    go_ret
    exact ⟨(met, ah), ret_bool HD.out, HS1.out, HI.out⟩
  · have hk := of_decide_eq_true hb.symm
    have hidx : M.RsN xs → M.idxN xs a = some i := fun hr => M.idx_hit hr hm hk
    have hil : i < n := by
      rw [HT.out.1.1, HT.out.2.1]
      rcases Nat.lt_or_ge i (xs.map (·.fid)).length with h1 | h1
      · simpa using h1
      · rw [List.getElem?_eq_none h1] at hk; cases hk
    have hmi : ∃ bb, met[i]? = some bb := ⟨_, List.getElem?_eq_getElem (by rw [HML.out]; exact hil)⟩
    obtain ⟨bb, hbb⟩ := hmi
    have hm2 : w1.cell? ⟨w.heap.size + 2, i, none⟩ = some (.bool bb) := by
      have := HS1.out.bm
      simp [World.cell?, this, hbb]
    have hf2 : w1.frozen? ⟨w.heap.size + 2, i, none⟩ = false := by
      have := HS1.out.bm
      simp [World.frozen?, this]
    cases bb
    · have HI : Hid (Met xs n (met, ah) [a] (met.set i true, ah ++ [i])) := by
        refine Met.add hil hbb fun hr => ?_
        unfold M.meetS
        rw [hidx hr]
        simp only [hbb, if_true]
      clear hb hm hk hidx hbb
      go_wp2_with (at_builtin; refine wpList_append_own _ (by rfl) (.tmp 26) (.tmp 28) 46 (by rfl) (w.heap.size + 6) 3 i0 (.int .i64 0) 1 8 Try.underlying46 hi hz hsz hbz rfl (by decide) _ ah.length _ (by rfl) ((ownsRow_setCell_below HA.out.2 (a := ⟨w.heap.size + 2, i, none⟩) (by show w.heap.size + 2 < _; omega) (.bool true)).alloc _) ⟨w1.heap.size, 0, none⟩ 1 1 [.int .i64 (i : Int)] (by rfl) rfl (cell_new2 _ _ _ _ _) (fun u hu => by simp at hu; subst hu; rfl) (by unfold maxLen; omega) (by omega) (by simp; omega) ?_; intro v2 w2 hown2 hg2 _; obtain ⟨B2, m2, rfl, _, _⟩ := own_form hown2; have HP : Hid (St w A n c t (met.set i true) (ah ++ [i]) (w2.setCell ⟨w.heap.size + 4, 0, none⟩ (.slice B2 (ah.length + 1) m2))) := HS1.out.push HA.out.1 HA.out.2 hg2 hown2; have hx4 : w2.heap[w.heap.size + 4]? = some (.cells #[.slice B ah.length m] 46 (0, 0)) := (by rw [hg2.block _ (by simp; omega) (fun e => by have := (HA.out.2.lt _ e.symm).1; omega), Below.heap_alloc _ _ _ (by simp; omega), Below.heap_setCell _ _ _ _ (by show w.heap.size + 4 ≠ w.heap.size + 2; omega)]; exact HA.out.1); have r4 := cell_of_one hx4; have rf4 := free_of_one hx4; have hx1 : w2.heap[w.heap.size + 1]? = some (.cells #[.int .i64 t] 3 (0, 0)) := (by rw [hg2.block _ (by simp; omega) (fun e => by have := (HA.out.2.lt _ e.symm).1; omega), Below.heap_alloc _ _ _ (by simp; omega), Below.heap_setCell _ _ _ _ (by show w.heap.size + 1 ≠ w.heap.size + 2; omega)]; exact HS1.out.bf); have r1 := cell_of_one hx1; clear hx4 hx1 hg2 hown2)
      go_ret
      exact ⟨(met.set i true, ah ++ [i]), ret_bool HD.out, HP.out, HI.out⟩
    · have HI : Hid (Met xs n (met, ah) [a] (met, ah)) := by
        refine Met.stay fun hr => ?_
        unfold M.meetS
        rw [hidx hr]
        simp [hbb]
      clear hb hm hk hidx hbb
      go_wp2
      go_ret
      exact ⟨(met, ah), ret_bool HD.out, HS1.out, HI.out⟩

theorem meet2_any (A : Option Addr) (n c : Nat) (vs : List NV) (xs : List M.Nd) (t : Int) (x : ByteArray × Int) (met : List Bool) (ah : List Nat) (w wr : World) (ht : Tree w A n vs xs) (hn : n * 72 ≤ 140737488355328) (hml : met.length = n) (hal : ah.length ≤ n) (hst : St w A n c t met ah wr) :
    Calls Try.prog 52 #[.agg #[.string x.1, .int .i64 x.2], .pointer (some ⟨w.heap.size + 5, 0, none⟩)] wr fun e w' => ∃ st' : List Bool × List Nat, e = .returned (.bool (decide (x.2 = t))) ∧ St w A n c t st'.1 st'.2 w' ∧ Met xs n (met, ah) [x.2] st' := by
  have HS : Hid (St w A n c t met ah (wr.alloc (.cells #[.string x.1, .int .i64 x.2] 50))) := hst.below ((Below.refl _ _).alloc (Nat.le_refl _) _)
  have q5 := cell_of_one hst.bc
  have hz := lt_of_block hst.bc
  clear hst
  go_enter Try.func52, Try.ntmps52
  go_wp2_with (go_at_call 50; refine (meet_any A n c vs xs t x.2 met ah w _ ht hn hml hal HS.out).mono ?_; rintro e w1 ⟨st1, rfl, hs1, hm1⟩; have HS1 : Hid (St w A n c t st1.1 st1.2 w1 ∧ Met xs n (met, ah) [x.2] st1) := ⟨hs1, hm1⟩; clear hs1 hm1)
  go_ret
  exact ⟨st1, rfl, HS1.out⟩

/-- as many were met as are ahead, or more -/
def OkS (n : Nat) (st : List Bool × List Nat) : Prop := st.1.length = n ∧ st.2.length ≤ st.1.count true
theorem OkS.le {n : Nat} {st : List Bool × List Nat} (h : OkS n st) : st.2.length ≤ n := by
  have := List.count_le_length (a := true) (l := st.1)
  have := h.1
  have := h.2
  omega
theorem OkS.met {n : Nat} {xs : List M.Nd} {st st' : List Bool × List Nat} {ts : List Int} (h : OkS n st) (hm : Met xs n st ts st') : OkS n st' := ⟨by rw [hm.len]; exact h.1, hm.cnt h.2⟩

/-- what comes of meeting all of es, till one is t -/
def MeetIdx (w : World) (A : Option Addr) (n c : Nat) (t : Int) (xs : List M.Nd) (es : List (ByteArray × Int)) (st : List Bool × List Nat) (e : Ending) (w' : World) : Prop :=
  ∃ (r : Int) (mt : List Bool) (aa : List Nat), e = .returned (.int .i64 r) ∧ St w A n c t mt aa w' ∧ ((r = -1 ∧ Met xs n st (es.map (·.2)) (mt, aa) ∧ ∀ x ∈ es, x.2 ≠ t) ∨ (0 ≤ r ∧ ∃ x ∈ es, x.2 = t))
def MeetAny (w : World) (A : Option Addr) (n c : Nat) (t : Int) (xs : List M.Nd) (es : List (ByteArray × Int)) (st : List Bool × List Nat) (e : Ending) (w' : World) : Prop :=
  ∃ (b : Bool) (mt : List Bool) (aa : List Nat), e = .returned (.bool b) ∧ St w A n c t mt aa w' ∧ ((b = false ∧ Met xs n st (es.map (·.2)) (mt, aa) ∧ ∀ x ∈ es, x.2 ≠ t) ∨ (b = true ∧ ∃ x ∈ es, x.2 = t))

set_option maxHeartbeats 1000000 in
theorem meetIdx_any (A E : Option Addr) (n c k d : Nat) (vs : List NV) (xs : List M.Nd) (es : List (ByteArray × Int)) (t : Int) (st : List Bool × List Nat) (w wi : World) (ht : Tree w A n vs xs) (hn : n * 72 ≤ 140737488355328) (hok : OkS n st) (hst : St w A n c t st.1 st.2 wi) (he : Ents w E k es) (hk : k ≤ 140737488355328) :
    Calls Try.prog 60 #[.slice E k d, .func (.func 52) #[] #[.pointer (some ⟨w.heap.size + 5, 0, none⟩)]] wi (MeetIdx w A n c t xs es st) := by
  have HT : Hid (Tree w A n vs xs ∧ OkS n st) := ⟨ht, hok⟩
  have HST : Hid (St w A n c t st.1 st.2 wi) := hst
  clear ht hok hst
  go_enter Try.func60, Try.ntmps60
  go_wp2
  go_loopw [8] (fun i wr => ∃ (q : Nat) (sq : List Bool × List Nat), q ≤ k ∧ i = .int .i64 q ∧ St w A n c t sq.1 sq.2 wr ∧ Met xs n st ((es.take q).map (·.2)) sq ∧ ∀ x ∈ es.take q, x.2 ≠ t) (fun i _ => k - (intOf i).toNat)
  case atStart => exact ⟨0, st, Nat.zero_le _, rfl, HST.out, Met.nil _ _ _, fun x hx => by simp at hx⟩
  case round =>
    obtain ⟨q, sq, hq, rfl, hs, hmq, hno⟩ := hrel
    have HS : Hid (St w A n c t sq.1 sq.2 wr) := hs
    have HMQ : Hid (Met xs n st ((es.take q).map (·.2)) sq) := hmq
    have HN : Hid (∀ x ∈ es.take q, x.2 ≠ t) := hno
    clear hs hno hmq
    by_cases hlt : q < k
    · obtain ⟨g, o, x, rfl, _, hx, c0, c1⟩ := Ents.at (he.below (Nat.le_refl _) HS.out.bel) hlt
      have HX : Hid (es[q]? = some x) := hx
      have HF : Hid ((es.take (q + 1)).map (·.2) = (es.take q).map (·.2) ++ [x.2]) := by
        show _ = _
        rw [take_step hx, List.map_append]; rfl
      have HOK : Hid (OkS n sq) := HT.out.2.met HMQ.out
      clear hx
      by_cases hxt : x.2 = t
      · have hd : decide (x.2 = t) = true := decide_eq_true hxt
        have HXT : Hid (x.2 = t) := hxt
        clear hxt
        go_wp2_with (go_at_call 52; refine (meet2_any A n c vs xs t x sq.1 sq.2 w _ HT.out.1 hn HOK.out.1 HOK.out.le HS.out).mono ?_; rintro e w1 ⟨s1, rfl, hs1, hm1⟩; rw [hd]; have HS1 : Hid (St w A n c t s1.1 s1.2 w1) := hs1; have HM1 : Hid (Met xs n sq [x.2] s1) := hm1; clear hs1 hm1)
        go_ret
        exact ⟨q, _, _, rfl, HS1.out, .inr ⟨by omega, x, List.mem_of_getElem? HX.out, HXT.out⟩⟩
      · have hd : decide (x.2 = t) = false := decide_eq_false hxt
        have HXT : Hid (x.2 ≠ t) := hxt
        clear hxt
        go_wp2_with (go_at_call 52; refine (meet2_any A n c vs xs t x sq.1 sq.2 w _ HT.out.1 hn HOK.out.1 HOK.out.le HS.out).mono ?_; rintro e w1 ⟨s1, rfl, hs1, hm1⟩; rw [hd]; have HS1 : Hid (St w A n c t s1.1 s1.2 w1) := hs1; have HM1 : Hid (Met xs n sq [x.2] s1) := hm1; clear hs1 hm1)
        go_roundw
        case rel => exact ⟨q + 1, s1, by omega, by go_num, HS1.out, by rw [HF.out]; exact HMQ.out.trans HM1.out, fun y hy => by
          rw [take_step HX.out] at hy
          rcases List.mem_append.1 hy with h1 | h1
          · exact HN.out y h1
          · rw [List.mem_singleton.1 h1]; exact HXT.out⟩
        case measure => simp [intOf]; omega
    · have HL : Hid (es.take q = es) := by show _ = _; rw [List.take_of_length_le (by rw [← he.1]; omega)]
      go_wp2
      go_ret
      refine ⟨-1, _, _, rfl, HS.out, .inl ⟨rfl, by have h := HMQ.out; rw [HL.out] at h; exact h, fun x hx => HN.out x (by rw [HL.out]; exact hx)⟩⟩

theorem meetAny_any (A E : Option Addr) (n c k d : Nat) (vs : List NV) (xs : List M.Nd) (es : List (ByteArray × Int)) (t : Int) (st : List Bool × List Nat) (w wr : World) (ht : Tree w A n vs xs) (hn : n * 72 ≤ 140737488355328) (hok : OkS n st) (hst : St w A n c t st.1 st.2 wr) (he : Ents w E k es) (hk : k ≤ 140737488355328) :
    Calls Try.prog 51 #[.slice E k d, .func (.func 52) #[] #[.pointer (some ⟨w.heap.size + 5, 0, none⟩)]] wr (MeetAny w A n c t xs es st) := by
  go_enter Try.func51, Try.ntmps51
  go_wp2_with (fail)
  refine (meetIdx_any A E n c k d vs xs es t st w _ ht hn hok hst he hk).mono ?_
  rintro e w1 ⟨r, mt, aa, rfl, hs, hcase⟩
  have HS : Hid (St w A n c t mt aa w1) := hs
  clear hs
  rcases hcase with ⟨rfl, h1, h2⟩ | ⟨h0, h1⟩
  · have H1 : Hid (Met xs n st (es.map (·.2)) (mt, aa) ∧ ∀ x ∈ es, x.2 ≠ t) := ⟨h1, h2⟩
    clear h1 h2
    go_wp2
    go_ret
    exact ⟨false, mt, aa, rfl, HS.out, .inl ⟨rfl, H1.out⟩⟩
  · have H1 : Hid (∃ x ∈ es, x.2 = t) := h1
    clear h1
    go_wp2
    go_ret
    exact ⟨true, mt, aa, ret_bool (by simp), HS.out, .inr ⟨rfl, H1.out⟩⟩
end Go.Proofs.Ytkhifljgocopoad
/-
  Within, whole.
-/
namespace Go.Proofs.Ytkhifljgocopoad
open Go.RowKit

theorem info4 : (Try.prog.info? 4).map (fun i => (i.zero, i.size, i.bytes)) = some (some (.bool false), 1, 1) := by kernel_rfl
theorem make4 (n : Nat) (hn : n ≤ 140737488355328) (w : World) : (Instr.makeSlice 95 (.int .i64 (n : Int)) (.int .i64 (n : Int))).run Try.prog w = .ok (.slice (some ⟨w.heap.size, 0, none⟩) n n) (w.alloc (.cells (Array.replicate n (Value.bool false)) 4)) := by
  obtain ⟨i0, hi, hz, hsz, hbz⟩ := info_parts info4
  have hr := run_make (P := Try.prog) w 95 4 i0 (.bool false) Try.underlying95 hi hz .i64 .i64 n n (by omega) (Int.le_refl _) (by rw [hbz]; omega) (by omega)
  simp only [Int.toNat_natCast] at hr
  rw [hr]
  have e : madeCells (Value.cells (.bool false)) (n * i0.size) = (Array.replicate n (Value.bool false)) := by
    apply Array.ext'
    rw [hsz, Nat.mul_one]
    have := toList_madeCells_one (.bool false) n
    simp only [Value.cells]
    rw [this]
    simp
  rw [e]

theorem store_func (W : World) (k : Nat) (u : Value) (t : TypeId) (F : Fn) (x y : Array Value) (hk : k = W.heap.size) : (store ⟨k, 0, none⟩ (.func F x y)).run Try.prog (W.alloc (.cells #[u] t)) = .ok () (W.alloc (.cells #[.func F x y] t)) := by
  subst hk
  have h := heap_alloc_new W (.cells #[u] t)
  rw [run_store _ _ _ _ _ rfl, cell_of_one h]
  simp only [free_of_one h, Bool.false_eq_true, if_false]
  rw [World.setCell_alloc_at _ _ _ _ _ rfl]
  rfl

theorem St.start (w : World) (A : Option Addr) (n c : Nat) (t : Int) (W : World) (hW : W = (((((w.alloc (.cells #[.slice A n c] 22)).alloc (.cells #[.int .i64 t] 3)).alloc (.cells (Array.replicate n (Value.bool false)) 4)).alloc (.cells #[.slice (some ⟨w.heap.size + 2, 0, none⟩) n n] 95)).alloc (.cells #[.slice none 0 0] 46)).alloc
      (.cells #[.func (.func 50) #[] #[.pointer (some ⟨w.heap.size, 0, none⟩), .pointer (some ⟨w.heap.size + 3, 0, none⟩), .pointer (some ⟨w.heap.size + 4, 0, none⟩), .pointer (some ⟨w.heap.size + 1, 0, none⟩)]] 67)) :
    St w A n c t (List.replicate n false) [] W := by
  have hb : ∀ k (o : Obj) (V : World), k < V.heap.size → (V.alloc o).heap[k]? = V.heap[k]? := fun k o V h => Below.heap_alloc V o k h
  subst hW
  refine ⟨?_, ?_, ?_, ?_, ?_, ⟨none, 0, ?_, World.ownsRow_nil _ _ _ _⟩, ?_⟩
  · exact ((((((Below.refl _ _).alloc (Nat.le_refl _) _).alloc (by simp) _).alloc (by simp <;> omega) _).alloc (by simp <;> omega) _).alloc (by simp <;> omega) _).alloc (by simp <;> omega) _
  · rw [hb _ _ _ (by simp <;> omega), hb _ _ _ (by simp <;> omega), hb _ _ _ (by simp <;> omega), hb _ _ _ (by simp <;> omega), hb _ _ _ (by simp)]; exact heap_alloc_new _ _
  · rw [hb _ _ _ (by simp <;> omega), hb _ _ _ (by simp <;> omega), hb _ _ _ (by simp <;> omega), hb _ _ _ (by simp)]
    have := heap_alloc_new (w.alloc (.cells #[.slice A n c] 22)) (.cells #[.int .i64 t] 3)
    simpa using this
  · rw [hb _ _ _ (by simp <;> omega), hb _ _ _ (by simp <;> omega), hb _ _ _ (by simp)]
    have := heap_alloc_new ((w.alloc (.cells #[.slice A n c] 22)).alloc (.cells #[.int .i64 t] 3)) (.cells (Array.replicate n (Value.bool false)) 4)
    have e : ((List.replicate n false).map Value.bool).toArray = Array.replicate n (Value.bool false) := by simp
    rw [e]
    simpa using this
  · rw [hb _ _ _ (by simp <;> omega), hb _ _ _ (by simp)]
    have := heap_alloc_new (((w.alloc (.cells #[.slice A n c] 22)).alloc (.cells #[.int .i64 t] 3)).alloc (.cells (Array.replicate n (Value.bool false)) 4)) (.cells #[.slice (some ⟨w.heap.size + 2, 0, none⟩) n n] 95)
    simpa using this
  · rw [hb _ _ _ (by simp)]
    have := heap_alloc_new ((((w.alloc (.cells #[.slice A n c] 22)).alloc (.cells #[.int .i64 t] 3)).alloc (.cells (Array.replicate n (Value.bool false)) 4)).alloc (.cells #[.slice (some ⟨w.heap.size + 2, 0, none⟩) n n] 95)) (.cells #[.slice none 0 0] 46)
    simpa using this
  · have := heap_alloc_new (((((w.alloc (.cells #[.slice A n c] 22)).alloc (.cells #[.int .i64 t] 3)).alloc (.cells (Array.replicate n (Value.bool false)) 4)).alloc (.cells #[.slice (some ⟨w.heap.size + 2, 0, none⟩) n n] 95)).alloc (.cells #[.slice none 0 0] 46)) (.cells #[.func (.func 50) #[] #[.pointer (some ⟨w.heap.size, 0, none⟩), .pointer (some ⟨w.heap.size + 3, 0, none⟩), .pointer (some ⟨w.heap.size + 4, 0, none⟩), .pointer (some ⟨w.heap.size + 1, 0, none⟩)]] 67)
    simpa using this

theorem St.pop {w : World} {A : Option Addr} {n c : Nat} {t : Int} {met : List Bool} {ah : List Nat} {i g m : Nat} {wr : World} (h : St w A n c t met (ah ++ [i]) wr)
    (h4 : wr.heap[w.heap.size + 4]? = some (.cells #[.slice (some ⟨g, 0, none⟩) (ah.length + 1) m] 46 (0, 0))) (hown : wr.ownsRow (w.heap.size + 6) 3 1 (.slice (some ⟨g, 0, none⟩) (ah.length + 1) m) (ah.length + 1) ((ah ++ [i]).map fun i : Nat => .int .i64 (i : Int))) :
    St w A n c t met ah (wr.setCell ⟨w.heap.size + 4, 0, none⟩ (.slice (some ⟨g, 0, none⟩) ah.length m)) := by
  have hset : ∀ k, k ≠ w.heap.size + 4 → (wr.setCell ⟨w.heap.size + 4, 0, none⟩ (.slice (some ⟨g, 0, none⟩) ah.length m)).heap[k]? = wr.heap[k]? := fun k hk => Below.heap_setCell _ _ _ _ (by exact hk)
  refine ⟨h.bel.setCell (by show w.heap.size ≤ w.heap.size + 4; omega) _, by rw [hset _ (by omega)]; exact h.bl, by rw [hset _ (by omega)]; exact h.bf, by rw [hset _ (by omega)]; exact h.bm, by rw [hset _ (by omega)]; exact h.bv, ⟨some ⟨g, 0, none⟩, m, ?_, ?_⟩, by rw [hset _ (by omega)]; exact h.bc⟩
  · rw [heap_setCell_same _ _ _ _ _ _ h4]; rfl
  · refine ownsRow_setCell_below ?_ (by show w.heap.size + 4 < _; omega) _
    rcases hown.2 with ⟨h', _⟩ | ⟨g', cap, cur, h', hb, hg, hnc, hcm, hcs, htake⟩
    · simp at h'
    · simp only [Value.slice.injEq, Option.some.injEq, Addr.mk.injEq, and_true, true_and] at h'
      obtain ⟨rfl, rfl⟩ := h'
      refine ⟨by simp, .inr ⟨g, m, cur, rfl, hb, hg, by omega, hcm, hcs, ?_⟩⟩
      have := congrArg (List.take ah.length) htake
      rw [List.take_take, List.map_append] at this
      have e2 : ((ah.map fun i : Nat => Value.int .i64 (i : Int)) ++ ([i].map fun i : Nat => Value.int .i64 (i : Int))).take ah.length = ah.map fun i : Nat => Value.int .i64 (i : Int) := by
        rw [List.take_append_of_le_length (by simp)]
        exact List.take_of_length_le (by simp)
      rw [e2] at this
      rw [← this]
      congr 1
      omega

/-- where the search is -/
def WSt (xs : List M.Nd) (n : Nat) (a t : Int) (k : Nat) (b : Bool) (mt : List Bool) (aa : List Nat) : Prop :=
  (b = true ∧ (M.RsN xs → M.Reach xs a t)) ∨ (b = false ∧ aa.length + 2 * mt.count false ≤ k ∧ OkS n (mt, aa) ∧ (∀ i ∈ aa, i < n) ∧ (M.RsN xs → M.WInv xs a t (mt, aa)))

set_option maxHeartbeats 2000000 in
theorem within_gen (A : Option Addr) (n c : Nat) (vs : List NV) (xs : List M.Nd) (t a : Int) (w : World) (ht : Tree w A n vs xs) (hn : n * 72 ≤ 140737488355328) (hs : ∀ x ∈ xs, Small x) :
    Calls Try.prog 37 #[.slice A n c, .int .i64 t, .int .i64 a] w fun e w' => ∃ b : Bool, e = .returned (.bool b) ∧ (M.RsN xs → (b = true ↔ M.Reach xs a t)) ∧ Below w.heap.size w w' := by
  have HT : Hid (Tree w A n vs xs ∧ ∀ x ∈ xs, Small x) := ⟨ht, hs⟩
  clear ht hs
  have hmk := make4 n (by omega)
  have hsf := store_func
  have HNL : Hid (n = xs.length) := by show n = _; rw [HT.out.1.1.1, HT.out.1.2.1]
  go_enter Try.func37, Try.ntmps37
  go_wp2_with (fail)
  have H0 := St.start w A n c t _ rfl
  have hok0 : OkS n (List.replicate n false, ([] : List Nat)) := ⟨by simp, by simp⟩
  refine (meet_any A n c vs xs t a (List.replicate n false) [] w _ HT.out.1 hn hok0.1 (by simp) H0).mono ?_
  rintro e w1 ⟨s1, rfl, hs1, hm1⟩
  have HREL : Hid (∃ (b : Bool) (mt : List Bool) (aa : List Nat), decide (a = t) = b ∧ St w A n c t mt aa w1 ∧ WSt xs n a t (2 * n + 2) b mt aa) := by
    refine ⟨_, s1.1, s1.2, rfl, hs1, ?_⟩
    by_cases h : a = t
    · exact .inl ⟨decide_eq_true h, fun _ => by rw [h]; exact .refl⟩
    · refine .inr ⟨decide_eq_false h, ?_, hok0.met hm1, hm1.ahl (by simp), fun hr => ?_⟩
      · have := hm1.meas
        simp at this
        omega
      · have h1 := M.winv_start xs a t h
        rw [← HNL.out] at h1
        rw [show (s1.1, s1.2) = s1 from rfl, hm1.exa hr]
        exact h1
  clear H0 hok0 hs1 hm1 hmk hsf
  go_wp2_with (fail)
  go_loopg [10] (2 * n + 2) (fun k f wr => ∃ (b : Bool) (mt : List Bool) (aa : List Nat), f = .bool b ∧ St w A n c t mt aa wr ∧ WSt xs n a t k b mt aa)
  case atStart =>
    obtain ⟨b, mt, aa, hb, h1, h2⟩ := HREL.out
    exact ⟨b, mt, aa, by rw [hb], h1, h2⟩
  case round =>
    obtain ⟨b, mt, aa, rfl, hs, hcase⟩ := hrel
    have HS : Hid (St w A n c t mt aa wr) := hs
    clear hs
    rcases hcase with ⟨rfl, hreach⟩ | ⟨rfl, hk, hoks, hahl, hinv⟩
    · have HRE : Hid (M.RsN xs → M.Reach xs a t) := hreach
      clear hreach
      go_wp2
      go_ret
      exact ⟨true, rfl, fun hr => ⟨fun _ => HRE.out hr, fun _ => rfl⟩, HS.out.bel⟩
    · have HI : Hid (M.RsN xs → M.WInv xs a t (mt, aa)) := hinv
      have HAL : Hid ((∀ i ∈ aa, i < n) ∧ OkS n (mt, aa)) := ⟨hahl, hoks⟩
      clear hinv hahl hoks
      rcases List.eq_nil_or_concat aa with rfl | ⟨ah, i, rfl⟩
      · obtain ⟨B, m, h4, ho⟩ := HS.out.ba
        have q4 := cell_of_one h4
        simp only [List.length_nil] at q4
        clear h4 ho
        go_wp2
        go_ret
        exact ⟨false, rfl, fun hr => ⟨fun h => (by cases h), fun h => absurd h (M.winv_end (HI.out hr))⟩, HS.out.bel⟩
      · rw [List.concat_eq_append] at HS HI HAL hk
        obtain ⟨B, m, h4, ho⟩ := HS.out.ba
        rw [List.length_append, List.length_singleton] at h4 ho
        obtain ⟨g, rfl, hBg, hgl⟩ := own_some ho (by omega)
        have H4 : Hid (wr.heap[w.heap.size + 4]? = some (.cells #[.slice (some ⟨g, 0, none⟩) (ah.length + 1) m] 46 (0, 0)) ∧ wr.ownsRow (w.heap.size + 6) 3 1 (.slice (some ⟨g, 0, none⟩) (ah.length + 1) m) (ah.length + 1) ((ah ++ [i]).map fun i : Nat => .int .i64 (i : Int))) := ⟨h4, ho⟩
        have q4 := cell_of_one h4
        have f4 := free_of_one h4
        have q0 := cell_of_one HS.out.bl
        have qg : wr.cell? ⟨g, ah.length, none⟩ = some (.int .i64 (i : Int)) := by
          rw [ho.cellAt ah.length (by omega)]; simp
        have hil : i < n := HAL.out.1 i (List.mem_append.2 (.inr (List.mem_singleton.2 rfl)))
        have hmc : ah.length + 1 ≤ m ∧ m ≤ 9223372036854775807 := by
          obtain ⟨A1, c1, e1, e2, e3⟩ := own_form ho
          cases e1
          unfold maxLen at e3
          exact ⟨e2, by omega⟩
        obtain ⟨hmc1, hmc2⟩ := hmc
        have htr := HT.out.1.below (Nat.le_refl _) HS.out.bel
        obtain ⟨gb, o, v, rfl, hgbl, hvk, c0, c1, c2, c3, c4⟩ := htr.1.at hil
        obtain ⟨x, hx, _⟩ := htr.2.at hvk
        have HX : Hid (xs[i]? = some x ∧ Small x ∧ Cont w v x) := ⟨hx, HT.out.2 x (List.mem_of_getElem? hx), HT.out.1.2.2 i v x hvk hx⟩
        have hsz5 : w.heap.size + 5 < wr.heap.size := lt_of_block HS.out.bc
        clear h4 ho hvk hx htr
        have b1 : (0 : Int) ≤ (ah.length : Int) := by omega
        have b2 : (ah.length : Int) < (ah.length : Int) + 1 := by omega
        have b3 : (0 : Int) ≤ (i : Int) := by omega
        have b4 : (i : Int) < (n : Int) := by omega
        have hz4 : w.heap.size + 1 + 1 + 1 + 1 < wr.heap.size := by omega
        have hz0 : w.heap.size < wr.heap.size := by omega
        go_wp2
        go_region
        have HSP : Hid (St w _ n c t mt ah (((wr.setCell ⟨w.heap.size + 4, 0, none⟩ (.slice (some ⟨g, 0, none⟩) ah.length m)).alloc (.cells #[.int .i64 v.fid, .bool v.dir, .slice v.dA v.dn v.dc, .slice v.eA v.en v.ec, .int .i64 v.ver] 41)).drew)) := (HS.out.pop H4.out.1 H4.out.2).below (((Below.refl _ _).alloc (Nat.le_refl _) _).drew)
        have HOK : Hid (OkS n (mt, ah)) := by
          have h1 := HAL.out.2.2
          simp only [List.length_append, List.length_singleton] at h1
          exact ⟨HAL.out.2.1, by show ah.length ≤ mt.count true; omega⟩
        have hen : v.en ≤ 140737488355328 := by have := HX.out.2.1.2; have := HX.out.2.2.2.2.2.2.1; omega
        go_wp2_with (go_at_call 51; refine (meetAny_any _ v.eA n c v.en v.ec vs xs x.ents t (mt, ah) w _ HT.out.1 hn HOK.out HSP.out HX.out.2.2.2.2.2.2 hen).mono ?_; rintro e w2 ⟨b2, mt2, aa2, rfl, hs2, hc2⟩; have HS2 : Hid (St w _ n c t mt2 aa2 w2) := hs2; have HC2 : Hid _ := hc2; clear hs2 hc2)
        have hkk : ah.length + 1 + 2 * mt.count false ≤ gk := by rw [List.length_append, List.length_singleton] at hk; exact hk
        rcases HC2.out with ⟨rfl, heq, hno⟩ | ⟨rfl, y, hy, hyt⟩
        · have hm := heq.meas
          go_roundg (aa2.length + 2 * mt2.count false)
          case measure => simp only at hm; omega
          case rel => exact ⟨false, mt2, aa2, rfl, HS2.out, .inr ⟨rfl, Nat.le_refl _, HOK.out.met heq, heq.ahl (fun j hj => HAL.out.1 j (List.mem_append.2 (.inl hj))), fun hr => by rw [heq.exa hr]; exact M.winv_step hr (HI.out hr) HX.out.1 hno⟩⟩
        · go_roundg 0
          case measure => omega
          case rel => exact ⟨true, mt2, aa2, rfl, HS2.out, .inl ⟨rfl, fun hr => M.winv_hit hr (HI.out hr) HX.out.1 hy hyt⟩⟩

theorem within_any (A : Option Addr) (n c : Nat) (vs : List NV) (xs : List M.Nd) (t a : Int) (w : World) (ht : Tree w A n vs xs) (hr : M.RsN xs) (hn : n * 72 ≤ 140737488355328) (hs : ∀ x ∈ xs, Small x) :
    Calls Try.prog 37 #[.slice A n c, .int .i64 t, .int .i64 a] w fun e w' => ∃ b : Bool, e = .returned (.bool b) ∧ (b = true ↔ M.Reach xs a t) ∧ Below w.heap.size w w' := by
  refine (within_gen A n c vs xs t a w ht hn hs).mono ?_
  rintro e w1 ⟨b, rfl, h, hb⟩
  exact ⟨b, rfl, h hr, hb⟩
end Go.Proofs.Ytkhifljgocopoad
/-
  THE REFERENCE's SameNode, Same, Rises.
-/
namespace Go.Proofs.Ytkhifljgocopoad
open Go.RowKit

/-- the same, and of the same version, if that is asked -/
def sameNd (vb : Bool) (x y : M.Nd) : Bool := alike x y && (!vb || decide (x.ver = y.ver))
theorem same_self (vb : Bool) (x : M.Nd) : sameNd vb x x = true := by simp [sameNd, alike]

/-- two boxes -/
theorem two_boxes (w : World) (v u : NV) (W : World) (hW : W = (w.alloc (.cells #[.int .i64 v.fid, .bool v.dir, .slice v.dA v.dn v.dc, .slice v.eA v.en v.ec, .int .i64 v.ver] 41)).alloc (.cells #[.int .i64 u.fid, .bool u.dir, .slice u.dA u.dn u.dc, .slice u.eA u.en u.ec, .int .i64 u.ver] 41)) :
    Box W w.heap.size v ∧ Box W (w.heap.size + 1) u ∧ Below w.heap.size w W := by
  subst hW
  refine ⟨(Box.new w v).alloc _, ?_, ((Below.refl _ _).alloc (Nat.le_refl _) _).alloc (by simp) _⟩
  have := Box.new (w.alloc (.cells #[.int .i64 v.fid, .bool v.dir, .slice v.dA v.dn v.dc, .slice v.eA v.en v.ec, .int .i64 v.ver] 41)) u
  simpa using this

end Go.Proofs.Ytkhifljgocopoad
/-
  THE REFERENCE's Rises.
-/
namespace Go.Proofs.Ytkhifljgocopoad
open Go.RowKit

namespace M
theorem rs_snoc {K : Type} {lt : K → K → Bool} (o : Ordr lt) (l : List K) (y x : K) (h : Rs lt (l ++ [y])) (hy : lt y x = true) : Rs lt (l ++ [y] ++ [x]) := by
  unfold Rs at *
  rw [List.pairwise_append]
  refine ⟨h, List.pairwise_singleton _ _, fun a ha b hb => ?_⟩
  rw [List.mem_singleton.1 hb]
  rcases List.mem_append.1 ha with h1 | h1
  · exact o.tra _ _ _ ((List.pairwise_append.1 h).2.2 a h1 y (List.mem_singleton.2 rfl)) hy
  · rw [List.mem_singleton.1 h1]; exact hy
theorem rs_one {K : Type} {lt : K → K → Bool} (x : K) : Rs lt [x] := List.pairwise_singleton _ _
theorem rs_step {K : Type} {lt : K → K → Bool} (o : Ordr lt) {l : List K} {j : Nat} {y x : K} (hy : l[j]? = some y) (hx : l[j + 1]? = some x) (h : Rs lt (l.take (j + 1))) (hlt : lt y x = true) : Rs lt (l.take (j + 1 + 1)) := by
  have e1 : l.take (j + 1) = l.take j ++ [y] := by rw [List.take_add_one, hy]; rfl
  have e2 : l.take (j + 1 + 1) = l.take (j + 1) ++ [x] := by rw [List.take_add_one, hx]; rfl
  rw [e2, e1]
  rw [e1] at h
  exact rs_snoc o _ y x h hlt
theorem rs_no {K : Type} {lt : K → K → Bool} {l : List K} {j : Nat} {y x : K} (hy : l[j]? = some y) (hx : l[j + 1]? = some x) (hlt : lt y x = false) : ¬ Rs lt l := by
  intro h
  rw [rs_at h (Nat.lt_succ_self j) hy hx] at hlt; cases hlt
theorem rs_first {K : Type} {lt : K → K → Bool} {l : List K} {x : K} (hx : l[0]? = some x) : Rs lt (l.take 1) := by
  have : l.take 1 = [x] := by
    cases l with
    | nil => cases hx
    | cons a l => cases hx; rfl
  rw [this]; exact rs_one x
end M
open Classical in
noncomputable def riseB (xs : List M.Nd) : Bool := decide (M.Rise xs)
theorem riseB_yes {xs : List M.Nd} (h : M.Rise xs) : riseB xs = true := by unfold riseB; simp [h]
theorem riseB_no {xs : List M.Nd} (h : ¬ M.Rise xs) : riseB xs = false := by unfold riseB; simp [h]
theorem riseB_iff {xs : List M.Nd} : riseB xs = true ↔ M.Rise xs := by unfold riseB; simp

theorem rise_next {xs : List M.Nd} {k : Nat} {x : M.Nd} (hx : xs[k]? = some x) (h : M.Rise (xs.take k)) (hn : M.RsN (xs.take (k + 1))) (he : M.RsE x.ents) : M.Rise (xs.take (k + 1)) := by
  refine ⟨hn, fun y hy => ?_⟩
  rw [take_step hx] at hy
  rcases List.mem_append.1 hy with h1 | h1
  · exact h.2 y h1
  · rw [List.mem_singleton.1 h1]; exact he

set_option maxHeartbeats 4000000 in
theorem rises_any (A : Option Addr) (n c : Nat) (vs : List NV) (xs : List M.Nd) (w : World) (ht : Tree w A n vs xs) (hn : n * 72 ≤ 140737488355328) (hs : ∀ x ∈ xs, Small x) :
    Calls Try.prog 5 #[.slice A n c] w fun e w' => e = .returned (.bool (riseB xs)) ∧ Below w.heap.size w w' := by
  have HT : Hid (Tree w A n vs xs ∧ ∀ x ∈ xs, Small x) := ⟨ht, hs⟩
  clear ht hs
  go_enter Try.func5, Try.ntmps5
  go_wp2
  go_loopw [8] (fun i wr => ∃ k : Nat, k ≤ n ∧ i = .int .i64 k ∧ M.Rise (xs.take k) ∧ Below w.heap.size w wr) (fun i _ => n - (intOf i).toNat)
  case atStart => exact ⟨0, Nat.zero_le _, rfl, ⟨List.Pairwise.nil, fun x hx => by simp at hx⟩, Below.refl _ _⟩
  case round =>
    obtain ⟨k, hk, rfl, hrise, hbw⟩ := hrel
    rename World => w5
    have HRI : Hid (M.Rise (xs.take k)) := hrise
    clear hrise
    by_cases hlt : k < n
    · have htr := HT.out.1.below (Nat.le_refl _) hbw
      obtain ⟨gb, o, v, rfl, hgbl, hvk, c0, c1, c2, c3, c4⟩ := htr.1.at hlt
      obtain ⟨x, hx, hcx⟩ := htr.2.at hvk
      have HX : Hid (xs[k]? = some x ∧ Small x ∧ Cont w v x ∧ vs[k]? = some v) := ⟨hx, HT.out.2 x (List.mem_of_getElem? hx), HT.out.1.2.2 k v x hvk hx, hvk⟩
      have hen : v.en ≤ 140737488355328 := by have := HX.out.2.1.2; have := HX.out.2.2.1.2.2.2.2.1; omega
      have hsz := hbw.size
      have HBX : Hid (Box (w5.alloc (.cells #[.int .i64 v.fid, .bool v.dir, .slice v.dA v.dn v.dc, .slice v.eA v.en v.ec, .int .i64 v.ver] 41)) w5.heap.size v) := Box.new w5 v
      have HTR : Hid (Tree w5 (some ⟨gb, o, none⟩) n vs xs) := htr
      clear hvk hx hcx htr
      by_cases hk0 : k ≤ 0
      case' pos =>
        have HRN : Hid (M.RsN (xs.take (k + 1))) := by
          show M.Rs M.ltI ((xs.take (k + 1)).map _)
          rw [List.map_take, show k + 1 = 1 by omega]
          have := HX.out.1
          rw [show k = 0 by omega] at this
          exact M.rs_first (M.at_key this)
        have hd2 : decide (0 < k) = false := by rw [decide_eq_false_iff_not]; omega
        go_wp2
        go_quiet (fail)
        go_wp2
        clear hd2
      case' neg =>
        obtain ⟨j, hj⟩ : ∃ j, k = j + 1 := ⟨k - 1, by omega⟩
        have hkj : (k : Int) - 1 = (j : Int) := by omega
        have hj0 : (0 : Int) ≤ (j : Int) := by omega
        have hjn : (j : Int) < (n : Int) := by omega
        have HJ : Hid (k = j + 1) := hj
        have hd2 : decide (0 < k) = true := by rw [decide_eq_true_eq]; omega
        obtain ⟨gb', o', u, hA', _, huk, d0, d1, d2, d3, d4⟩ := HTR.out.1.at (j := j) (by omega)
        cases hA'
        have HU : Hid (vs[j]? = some u) := huk
        have HUX : Hid (∃ y, xs[j]? = some y ∧ y.fid = u.fid) := by
          obtain ⟨y, hy, hcy⟩ := HTR.out.2.at huk
          exact ⟨y, hy, hcy.1.symm⟩
        have hvx : v.fid = x.fid := HX.out.2.2.1.1
        have HVX : Hid (v.fid = x.fid) := hvx
        clear hj huk hvx
        by_cases hf : u.fid < v.fid
        case' neg =>
          have hg2 : decide (v.fid ≤ u.fid) = true := by rw [decide_eq_true_eq]; omega
          have HNR : Hid (¬ M.Rise xs) := by
            intro hR
            obtain ⟨y, hy, hyu⟩ := HUX.out
            have hxk := HX.out.1
            rw [HJ.out] at hxk
            refine M.rs_no (M.at_key (f := fun x : M.Nd => x.fid) hy) (M.at_key hxk) ?_ hR.1
            show M.ltI y.fid x.fid = false
            rw [hyu, ← HVX.out]
            unfold M.ltI
            rw [decide_eq_false_iff_not]; exact hf
          clear hf
          go_wp2
          go_quiet (fail)
          go_wp2
          go_ret
          exact ⟨ret_bool (riseB_no HNR.out).symm, below_drewN (hbw.alloc hsz _) _⟩
        case' pos =>
          have hg2 : decide (v.fid ≤ u.fid) = false := by rw [decide_eq_false_iff_not]; omega
          have HRN : Hid (M.RsN (xs.take (k + 1))) := by
            obtain ⟨y, hy, hyu⟩ := HUX.out
            have hxk := HX.out.1
            have h1 := HRI.out.1
            rw [HJ.out] at hxk h1 ⊢
            show M.Rs M.ltI ((xs.take (j + 1 + 1)).map _)
            rw [List.map_take]
            refine M.rs_step M.ordI (M.at_key (f := fun x : M.Nd => x.fid) hy) (M.at_key hxk) ?_ ?_
            · rw [← List.map_take]; exact h1
            · show M.ltI y.fid x.fid = true
              rw [hyu, ← HVX.out]
              unfold M.ltI
              rw [decide_eq_true_eq]; exact hf
          clear hf
          go_wp2
          go_quiet (fail)
          go_wp2
          clear hg2 hd2 hkj hj0 hjn d0 d1 d2 d3 d4 HU HUX HVX HJ
      all_goals
        clear c0 c1 c2 c3 c4
        go_loopw [29] (fun i wr => ∃ q : Nat, q ≤ v.en ∧ i = .int .i64 q ∧ M.RsE (x.ents.take q) ∧ Box wr w5.heap.size v ∧ Below w.heap.size w wr) (fun i _ => v.en - (intOf i).toNat)
        case atStart => exact ⟨0, Nat.zero_le _, rfl, List.Pairwise.nil, HBX.out, below_drewN (hbw.alloc hsz _) _⟩
        case round =>
          obtain ⟨q, hq, rfl, hre, hbx, hbq⟩ := hrel
          have HRE : Hid (M.RsE (x.ents.take q)) := hre
          have HBQ : Hid (Box wr w5.heap.size v) := hbx
          obtain ⟨p0, p1, p2, p3, p4, pf, pz⟩ := hbx.facts
          clear hre hbx p0 p1 p2 p4
          by_cases hqe : q < v.en
          · obtain ⟨g1, o1, a, ha, _, hak, a0, a1⟩ := Ents.at (HX.out.2.2.1.2.2.2.2.below (Nat.le_refl _) hbq) hqe
            rw [ha] at p3
            have HA : Hid (x.ents[q]? = some a) := hak
            by_cases hq0 : q ≤ 0
            · have HNX : Hid (M.RsE (x.ents.take (q + 1))) := by
                show M.Rs M.ltB ((x.ents.take (q + 1)).map _)
                rw [List.map_take, show q + 1 = 1 by omega]
                rw [show q = 0 by omega] at hak
                exact M.rs_first (M.at_key hak)
              clear hak ha
              have hd2 : decide (0 < q) = false := by rw [decide_eq_false_iff_not]; omega
              go_wp2
              go_quiet (fail)
              go_wp2
              go_roundw
              case rel => exact ⟨q + 1, by omega, by go_num, HNX.out, HBQ.out, below_drewN hbq _⟩
              case measure => simp [intOf]; omega
            · obtain ⟨p, hp⟩ : ∃ p, q = p + 1 := ⟨q - 1, by omega⟩
              have hqp : (q : Int) - 1 = (p : Int) := by omega
              have hp0 : (0 : Int) ≤ (p : Int) := by omega
              have hpn : (p : Int) < (v.en : Int) := by omega
              have hqn : (q : Int) < (v.en : Int) := by omega
              have hq00 : (0 : Int) ≤ (q : Int) := by omega
              have HP : Hid (q = p + 1) := hp
              have hd2 : decide (0 < q) = true := by rw [decide_eq_true_eq]; omega
              obtain ⟨g2, o2, b, hb, _, hbk, b0, b1⟩ := Ents.at (HX.out.2.2.1.2.2.2.2.below (Nat.le_refl _) hbq) (show p < v.en by omega)
              rw [ha] at hb
              cases hb
              have HB : Hid (x.ents[p]? = some b) := hbk
              clear hak ha hbk hp
              cases hl : M.ltB b.1 a.1
              · have hbl : Op.bytesLess b.1.toList a.1.toList = false := hl
                have HNR : Hid (¬ M.Rise xs) := by
                  intro hR
                  have h1 := HA.out
                  rw [HP.out] at h1
                  exact M.rs_no (M.at_key (f := fun e : ByteArray × Int => e.1) HB.out) (M.at_key h1) hl (hR.2 x (List.mem_of_getElem? HX.out.1))
                clear hl
                go_wp2
                go_quiet (fail)
                go_wp2
                go_ret
                exact ⟨ret_bool (riseB_no HNR.out).symm, below_drewN hbq _⟩
              · have hbl : Op.bytesLess b.1.toList a.1.toList = true := hl
                have HNX : Hid (M.RsE (x.ents.take (q + 1))) := by
                  have h1 := HA.out
                  have h2 := HRE.out
                  rw [HP.out] at h1 h2 ⊢
                  show M.Rs M.ltB ((x.ents.take (p + 1 + 1)).map _)
                  rw [List.map_take]
                  refine M.rs_step M.ordB (M.at_key (f := fun e : ByteArray × Int => e.1) HB.out) (M.at_key h1) ?_ hl
                  rw [← List.map_take]; exact h2
                clear hl
                go_wp2
                go_quiet (fail)
                go_wp2
                go_roundw
                case rel => exact ⟨q + 1, by omega, by go_num, HNX.out, HBQ.out, below_drewN hbq _⟩
                case measure => simp [intOf]; omega
          · have HRX : Hid (M.RsE x.ents) := by
              have h1 := HRE.out
              rw [List.take_of_length_le (by have := HX.out.2.2.1.2.2.2.2.1; omega)] at h1
              exact h1
            go_wp2
            go_roundw
            case rel => exact ⟨k + 1, by omega, by go_num, rise_next HX.out.1 HRI.out HRN.out HRX.out, hbq⟩
            case measure => simp [intOf]; omega
    · have HN : Hid (xs.take k = xs) := by show _ = _; rw [List.take_of_length_le (by rw [← HT.out.1.2.1, ← HT.out.1.1.1]; omega)]
      go_wp2
      go_ret
      exact ⟨ret_bool (riseB_yes (by rw [← HN.out]; exact HRI.out)).symm, hbw⟩
end Go.Proofs.Ytkhifljgocopoad
/-
  WHAT THE LAWS' ROWS SHARE: nodes and trees as they are read, their sizes, the post-condition out of 'nothing old has turned'.
-/
namespace Go.Proofs.Ytkhifljgocopoad
open Go.ChangeShapes Go.WideShapes Go.ChangeAt Go.RowKit Go.Deep

theorem own : ownKnob Try.prog.godebug = none := by kernel_rfl
theorem laidOut : laidOutB Try.prog = true := by kernel_rfl
theorem cells5 : Try.prog.cellsOf 5 = 1 := by kernel_rfl
theorem cells9 : Try.prog.cellsOf 9 = 1 := by kernel_rfl
theorem cells3 : Try.prog.cellsOf 3 = 1 := by kernel_rfl
theorem cells4 : Try.prog.cellsOf 4 = 1 := by kernel_rfl
theorem cells23 : Try.prog.cellsOf 34 = 1 := by kernel_rfl
theorem cells24 : Try.prog.cellsOf 39 = 1 := by kernel_rfl
theorem cells58 : Try.prog.cellsOf 50 = 2 := by kernel_rfl
theorem cells26 : Try.prog.cellsOf 41 = 5 := by kernel_rfl
theorem bytes5 : Try.prog.bytesOf 5 = 1 := by kernel_rfl
theorem bytes58 : Try.prog.bytesOf 50 = 24 := by kernel_rfl
theorem bytes26 : Try.prog.bytesOf 41 = 72 := by kernel_rfl
theorem bytes9 : Try.prog.bytesOf 9 = 16 := by kernel_rfl

section
variable {H : Type} {enc : TypeId × Value → H}

theorem trodAll_below {P : Program} (hl : laidOutB P = true) {W W' : World} (hb : Below W.heap.size W W') : ∀ {ts : List TypeId} {vs : List Value} {ds : List (DataW H)} {ps : List MemPlace},
    ts.all (fun t => P.readableRec t && decide (t < P.types.size)) = true → DataW.TrodAll enc P W 0 (fun _ => true) true ts vs ds ps → (∀ x ∈ ps, x.block < W.heap.size) →
    DataW.TrodAll enc P W' 0 (fun b => decide (b < W.heap.size)) true ts vs ds ps
  | [], vs, ds, ps, _, h, _ => by
    obtain ⟨rfl, rfl, rfl⟩ := trodAll_nil h
    exact trodAll_mk0
  | t :: ts, vs, ds, ps, ht, h, hlt => by
    obtain ⟨v, vs', d, ds', p, q, rfl, rfl, rfl, h0, hr⟩ := trodAll_cons h
    rw [List.all_cons, Bool.and_eq_true, Bool.and_eq_true] at ht
    exact trodAll_cons_mk (Below.trod hl ht.1.1 (of_decide_eq_true ht.1.2) h0 hb (fun x hx => hlt x (List.mem_append.2 (.inl hx))))
      (trodAll_below hl hb ht.2 hr (fun x hx => hlt x (List.mem_append.2 (.inr hx))))

theorem row_mk {α : Type} {k : Nat} {cs : α → List Value} (k0 : 0 < k) (hk : ∀ v, (cs v).length = k) {w : World} {vs : List α} {a : Addr} (h : ∀ (j : Nat) v, vs[j]? = some v → ∀ (i : Nat) c, (cs v)[i]? = some c → w.cell? (a.add (j * k + i)) = some c) : Row k cs w (some a) vs.length vs := by
  refine ⟨rfl, ?_⟩
  cases hv : vs with
  | nil => exact .inl rfl
  | cons v r =>
    right
    have hv0 : vs[0]? = some v := by rw [hv]; rfl
    have hc0 : (cs v)[0]? = some ((cs v)[0]'(by rw [hk]; exact k0)) := List.getElem?_eq_getElem _
    have h00 := h 0 v hv0 0 _ hc0
    obtain ⟨b, off, spot⟩ := a
    have hspot : spot = none := by simpa [Addr.add] using World.cell?_spot h00
    subst hspot
    refine ⟨b, off, rfl, ?_, fun j u hu i c hc => ?_⟩
    · have := World.block_lt_of_cell? w _ h00
      rw [Addr.add_lit] at this
      exact this
    · rw [← hv] at hu
      have := h j u hu i c hc
      rw [Addr.add_lit] at this
      rw [Nat.add_assoc]
      exact this

/-- bulk: what is in a list is no more than all of it -/
theorem bulk_mem {d : DataW H} : ∀ {l : List (DataW H)}, d ∈ l → Rows.uptoBulk d ≤ Rows.uptoBulkAll l
  | [], h => by cases h
  | a :: r, h => by
    unfold Rows.uptoBulkAll
    rcases List.mem_cons.1 h with rfl | h
    · omega
    · have := bulk_mem h; omega
theorem bulk_pos (d : DataW H) : 1 ≤ Rows.uptoBulk d := by
  cases d with
  | lit l => cases l <;> (unfold Rows.uptoBulk; omega)
  | nil => unfold Rows.uptoBulk; omega
  | ptr d => unfold Rows.uptoBulk; omega
  | slice elems spare => unfold Rows.uptoBulk; omega
  | agg parts => unfold Rows.uptoBulk; omega
  | iface t d => unfold Rows.uptoBulk; omega
  | map entries => unfold Rows.uptoBulk; omega
  | held h => unfold Rows.uptoBulk; omega
theorem bulk_len : ∀ l : List (DataW H), l.length ≤ Rows.uptoBulkAll l
  | [] => by simp [Rows.uptoBulkAll]
  | a :: r => by have h1 := bulk_len r; have h2 := bulk_pos a; unfold Rows.uptoBulkAll; rw [List.length_cons]; omega
theorem bulk_slice (es sp : List (DataW H)) : Rows.uptoBulkAll es ≤ Rows.uptoBulk (.slice es sp) := by unfold Rows.uptoBulk; omega
theorem bulk_sum (f : Nat → Nat) (D : Nat → DataW H) : ∀ l : List Nat, (∀ i ∈ l, f i ≤ Rows.uptoBulk (D i)) → (l.map f).sum ≤ Rows.uptoBulkAll (l.map D)
  | [], _ => by simp [Rows.uptoBulkAll]
  | i :: l, h => by
    have h1 := bulk_sum f D l (fun j hj => h j (List.mem_cons_of_mem _ hj))
    have h2 := h i List.mem_cons_self
    simp only [List.map_cons, List.sum_cons, Rows.uptoBulkAll]
    omega

/-- bytes that came in -/
theorem open_bytes {W : World} {sp : Nat → Bool} {held : Bool} {fuel : Nat} {cs : List Value} {x : DataW H × List MemPlace} (h : DataW.trod enc Try.prog W 0 sp held fuel 34 cs = some x) :
    ∃ (A : Option Addr) (n c : Nat) (l : List UInt8), cs = [.slice A n c] ∧ Byts W A n l ∧ ((x.1 = .nil ∧ n = 0) ∨ ∃ es spare, x.1 = .slice es spare ∧ es.length = n) := by
  rcases open_slice1 Try.underlying34 cells5 h with ⟨rfl, rfl⟩ | ⟨a, len, cap, m, n, V, D, Pl, rfl, hb, hl, hm, hmm, rfl, hx⟩
  · exact ⟨none, 0, 0, [], rfl, ⟨rfl, .inl rfl⟩, .inl ⟨rfl, rfl⟩⟩
  · have hlm : len ≤ m := by rw [hmm]; split <;> omega
    have each : ∀ i, i < len → ∃ u : UInt8, W.cell? (a.add i) = some (.int .u8 (u.toNat : Int)) := fun i hi => by
      obtain ⟨h1, h2⟩ := hx i (by omega)
      obtain ⟨z, hz, _, hw⟩ := DataW.trod_int Try.underlying5 h2
      have hbd := bounds_u8 hw
      refine ⟨UInt8.ofNat z.toNat, ?_⟩
      rw [h1, (List.cons.inj hz).1]
      have : ((UInt8.ofNat z.toNat).toNat : Int) = z := by
        rw [UInt8.toNat_ofNat', Nat.mod_eq_of_lt (by omega)]; omega
      rw [this]
    obtain ⟨U, hU⟩ := choose_lt each
    refine ⟨some a, len, cap, (List.range len).map U, rfl, ?_, .inr ⟨_, _, rfl, by simp⟩⟩
    have := row_mk (k := 1) (cs := byteCells1) (by decide) byt_len (w := W) (vs := (List.range len).map U) (a := a) (fun j v hv i c hc => by
      have hj : j < len := by
        rcases Nat.lt_or_ge j len with h1 | h1
        · exact h1
        · rw [List.getElem?_eq_none (by simpa using h1)] at hv; cases hv
      rw [List.getElem?_map, List.getElem?_range hj] at hv
      cases hv
      cases i with
      | succ i => cases hc
      | zero => cases hc; rw [Nat.mul_one, Nat.add_zero]; exact hU j hj)
    rw [List.length_map, List.length_range] at this
    exact this

/-- entries that came in -/
theorem open_ents {W : World} {sp : Nat → Bool} {held : Bool} {fuel : Nat} {cs : List Value} {x : DataW H × List MemPlace} (h : DataW.trod enc Try.prog W 0 sp held fuel 39 cs = some x) :
    ∃ (A : Option Addr) (n c : Nat) (l : List (ByteArray × Int)), cs = [.slice A n c] ∧ Ents W A n l ∧ ((x.1 = .nil ∧ n = 0) ∨ ∃ es spare, x.1 = .slice es spare ∧ es.length = n) := by
  rcases open_slice_pairs Try.underlying39 Try.underlying50 cells58 rfl rfl cells9 cells3 h with ⟨rfl, rfl⟩ | ⟨a, len, cap, m, n, V0, V1, D0, D1, P0, P1, rfl, hb, hl, hm, hmm, rfl, hx⟩
  · exact ⟨none, 0, 0, [], rfl, ⟨rfl, .inl rfl⟩, .inl ⟨rfl, rfl⟩⟩
  · have hlm : len ≤ m := by rw [hmm]; split <;> omega
    have each : ∀ i, i < len → ∃ u : ByteArray × Int, W.cell? (a.add (i * 2)) = some (.string u.1) ∧ W.cell? (a.add (i * 2 + 1)) = some (.int .i64 u.2) := fun i hi => by
      obtain ⟨h1, h2, h3, h4⟩ := hx i (by omega)
      obtain ⟨s, hs, _, _⟩ := DataW.trod_string Try.underlying9 h3
      obtain ⟨z, hz, _, _⟩ := DataW.trod_int Try.underlying3 h4
      exact ⟨(s, z), by rw [h1, (List.cons.inj hs).1], by rw [h2, (List.cons.inj hz).1]⟩
    obtain ⟨U, hU⟩ := choose_lt each
    refine ⟨some a, len, cap, (List.range len).map U, rfl, ?_, .inr ⟨_, _, rfl, by simp⟩⟩
    have := row_mk (k := 2) (cs := entCells) (by decide) ent_len (w := W) (vs := (List.range len).map U) (a := a) (fun j v hv i c hc => by
      have hj : j < len := by
        rcases Nat.lt_or_ge j len with h1 | h1
        · exact h1
        · rw [List.getElem?_eq_none (by simpa using h1)] at hv; cases hv
      rw [List.getElem?_map, List.getElem?_range hj] at hv
      cases hv
      match i, hc with
      | 0, hc => cases hc; exact (hU j hj).1
      | 1, hc => cases hc; exact (hU j hj).2
      | i + 2, hc => simp [entCells] at hc)
    rw [List.length_map, List.length_range] at this
    exact this

/-- no slice and no text in it is greater than the reach -/
def Sized (t : TypeId) (d : DataW H) : Prop := ∀ n ∈ d.weights Try.prog t, n ≤ reachBytes
theorem sized_of {ts : List TypeId} {ds : List (DataW H)} (hz : (DataW.weightsEach Try.prog ts ds).all (· ≤ reachBytes) = true) {j : Nat} {t : TypeId} {d : DataW H} (ht : ts[j]? = some t) (hd : ds[j]? = some d) : Sized t d := by
  intro n hn
  have := List.all_eq_true.1 hz n (DataW.weights_mem_each ht hd n hn)
  simpa using this
theorem sized_len {t e : TypeId} {es spare : List (DataW H)} (hu : Try.prog.underlying t = some (.slice e)) (h : Sized t (.slice es spare)) : (es.length + spare.length) * Try.prog.bytesOf e ≤ reachBytes := by
  apply h
  unfold DataW.weights
  rw [hu]
  exact List.mem_cons_self
theorem weights_mem_all {e : TypeId} : ∀ {ds : List (DataW H)} {d : DataW H}, d ∈ ds → ∀ n ∈ d.weights Try.prog e, n ∈ DataW.weightsAll Try.prog e ds
  | [], d, hd, n, hn => by cases hd
  | a :: r, d, hd, n, hn => by
    unfold DataW.weightsAll
    rcases List.mem_cons.1 hd with h | h
    · subst h; exact List.mem_append.2 (.inl hn)
    · exact List.mem_append.2 (.inr (weights_mem_all h n hn))
theorem sized_elem {t e : TypeId} {es spare : List (DataW H)} (hu : Try.prog.underlying t = some (.slice e)) (h : Sized t (.slice es spare)) {d : DataW H} (hd : d ∈ es) : Sized e d := by
  intro n hn
  apply h
  unfold DataW.weights
  rw [hu]
  exact List.mem_cons_of_mem _ (List.mem_append.2 (.inl (weights_mem_all hd n hn)))
theorem sized_field {t : TypeId} {fs : Array Field} {ps : List (DataW H)} (hu : Try.prog.underlying t = some (.struct fs)) (h : Sized t (.agg ps)) {j : Nat} {u : TypeId} {d : DataW H} (ht : (fs.toList.map (·.type))[j]? = some u) (hd : ps[j]? = some d) : Sized u d := by
  intro n hn
  apply h
  unfold DataW.weights
  rw [hu]
  exact DataW.weights_mem_each ht hd n hn

set_option maxRecDepth 4000 in
/-- a node that came in -/
theorem open_node_b {W : World} {sp : Nat → Bool} {held : Bool} {fuel : Nat} {cs : List Value} {x : DataW H × List MemPlace} (h : DataW.trod enc Try.prog W 0 sp held fuel 41 cs = some x) :
    ∃ (v : NV) (y : M.Nd), cs = v.cells ∧ Cont W v y ∧ (Sized 41 x.1 → y.data.length ≤ reachBytes ∧ y.ents.length * 24 ≤ reachBytes) ∧ y.ents.length ≤ Rows.uptoBulk x.1 := by
  obtain ⟨ys, m, _, rfl, hl, hys, hf⟩ := DataW.trod_struct Try.underlying41 h
  rw [cells26] at hl
  obtain ⟨c0, c1, c2, c3, c4, rfl⟩ : ∃ a b c d e, cs = [a, b, c, d, e] := by
    match cs, hl with
    | [a, b, c, d, e], _ => exact ⟨a, b, c, d, e, rfl⟩
  have f0 : DataW.trod enc Try.prog W 0 sp held m 3 (([c0, c1, c2, c3, c4].drop 0).take (Try.prog.cellsOf 3)) = ys[0]? := hf 0 _ rfl
  rw [cells3] at f0
  change DataW.trod enc Try.prog W 0 sp held m 3 [c0] = ys[0]? at f0
  have f1 : DataW.trod enc Try.prog W 0 sp held m 4 (([c0, c1, c2, c3, c4].drop 1).take (Try.prog.cellsOf 4)) = ys[1]? := hf 1 _ rfl
  rw [cells4] at f1
  change DataW.trod enc Try.prog W 0 sp held m 4 [c1] = ys[1]? at f1
  have f2 : DataW.trod enc Try.prog W 0 sp held m 34 (([c0, c1, c2, c3, c4].drop 2).take (Try.prog.cellsOf 34)) = ys[2]? := hf 2 _ rfl
  rw [cells23] at f2
  change DataW.trod enc Try.prog W 0 sp held m 34 [c2] = ys[2]? at f2
  have f3 : DataW.trod enc Try.prog W 0 sp held m 39 (([c0, c1, c2, c3, c4].drop 3).take (Try.prog.cellsOf 39)) = ys[3]? := hf 3 _ rfl
  rw [cells24] at f3
  change DataW.trod enc Try.prog W 0 sp held m 39 [c3] = ys[3]? at f3
  have f4 : DataW.trod enc Try.prog W 0 sp held m 3 (([c0, c1, c2, c3, c4].drop 4).take (Try.prog.cellsOf 3)) = ys[4]? := hf 4 _ rfl
  rw [cells3] at f4
  change DataW.trod enc Try.prog W 0 sp held m 3 [c4] = ys[4]? at f4
  have hlen : ys.length = 5 := hys
  have g : ∀ k, k < 5 → ∃ y, ys[k]? = some y := fun k hk => ⟨_, List.getElem?_eq_getElem (by omega)⟩
  obtain ⟨y0, g0⟩ := g 0 (by omega)
  obtain ⟨y1, g1⟩ := g 1 (by omega)
  obtain ⟨y2, g2⟩ := g 2 (by omega)
  obtain ⟨y3, g3⟩ := g 3 (by omega)
  obtain ⟨y4, g4⟩ := g 4 (by omega)
  rw [g0] at f0; rw [g1] at f1; rw [g2] at f2; rw [g3] at f3; rw [g4] at f4
  obtain ⟨z0, e0, _, _⟩ := DataW.trod_int Try.underlying3 f0
  obtain ⟨b1, e1, _⟩ := DataW.trod_bool Try.underlying4 f1
  obtain ⟨A2, n2, k2, l2, e2, hb2, hd2⟩ := open_bytes f2
  obtain ⟨A3, n3, k3, l3, e3, hb3, hd3⟩ := open_ents f3
  obtain ⟨z4, e4, _, _⟩ := DataW.trod_int Try.underlying3 f4
  cases e0; cases e1; cases e2; cases e3; cases e4
  refine ⟨⟨z0, b1, A2, n2, k2, A3, n3, k3, z4⟩, ⟨z0, b1, l2, l3, z4⟩, rfl, ⟨rfl, rfl, rfl, hb2, hb3⟩, fun hsz => ?_, ?_⟩
  case' refine_2 =>
    show l3.length ≤ _
    rw [← hb3.1]
    have hmem : y3.1 ∈ ys.map (·.1) := List.mem_map.2 ⟨y3, List.mem_of_getElem? g3, rfl⟩
    have hle := bulk_mem hmem
    have hag : Rows.uptoBulk (DataW.agg (ys.map (·.1))) = Rows.uptoBulkAll (ys.map (·.1)) + 1 := by unfold Rows.uptoBulk; rfl
    show n3 ≤ Rows.uptoBulk (DataW.agg (ys.map (·.1)))
    rw [hag]
    rcases hd3 with ⟨_, h0⟩ | ⟨es, spare, he, hn⟩
    · omega
    · rw [he] at hle
      have h1 := bulk_len es
      unfold Rows.uptoBulk at hle
      omega
  have s2 : Sized 34 y2.1 := sized_field (H := H) (j := 2) Try.underlying41 hsz rfl (by rw [List.getElem?_map, g2]; rfl)
  have s3 : Sized 39 y3.1 := sized_field (H := H) (j := 3) Try.underlying41 hsz rfl (by rw [List.getElem?_map, g3]; rfl)
  constructor
  · show l2.length ≤ _
    rw [← hb2.1]
    rcases hd2 with ⟨_, h0⟩ | ⟨es, spare, he, hn⟩
    · rw [h0]; exact Nat.zero_le _
    · rw [he] at s2
      have := sized_len Try.underlying34 s2
      rw [bytes5] at this
      omega
  · show l3.length * 24 ≤ _
    rw [← hb3.1]
    rcases hd3 with ⟨_, h0⟩ | ⟨es, spare, he, hn⟩
    · rw [h0]; exact Nat.zero_le _
    · rw [he] at s3
      have := sized_len Try.underlying39 s3
      rw [bytes58] at this
      omega

theorem open_node {W : World} {sp : Nat → Bool} {held : Bool} {fuel : Nat} {cs : List Value} {x : DataW H × List MemPlace} (h : DataW.trod enc Try.prog W 0 sp held fuel 41 cs = some x) :
    ∃ (v : NV) (y : M.Nd), cs = v.cells ∧ Cont W v y ∧ (Sized 41 x.1 → y.data.length ≤ reachBytes ∧ y.ents.length * 24 ≤ reachBytes) := by
  obtain ⟨v, y, h1, h2, h3, _⟩ := open_node_b h
  exact ⟨v, y, h1, h2, h3⟩

theorem reach_val : reachBytes = 140737488351232 := rfl
theorem small_of {y : M.Nd} (h : y.data.length ≤ reachBytes ∧ y.ents.length * 24 ≤ reachBytes) : Small y ∧ (y.ents.length + 1) * 24 ≤ 140737488355328 := by
  rw [reach_val] at h
  exact ⟨⟨by omega, by omega⟩, by omega⟩

instance : Inhabited NV := ⟨NV.zero⟩
instance : Inhabited M.Nd := ⟨nd0⟩
/-- a tree that came in -/
theorem open_nodes_b {W : World} {sp : Nat → Bool} {held : Bool} {fuel : Nat} {cs : List Value} {x : DataW H × List MemPlace} (h : DataW.trod enc Try.prog W 0 sp held fuel 22 cs = some x) :
    ∃ (A : Option Addr) (n c : Nat) (vs : List NV) (xs : List M.Nd), cs = [.slice A n c] ∧ Tree W A n vs xs ∧ (Sized 22 x.1 → n * 72 ≤ reachBytes ∧ ∀ y ∈ xs, y.data.length ≤ reachBytes ∧ y.ents.length * 24 ≤ reachBytes) ∧ (xs.flatMap fun y => y.ents.map (·.2)).length ≤ Rows.uptoBulk x.1 ∧ xs.length ≤ Rows.uptoBulk x.1 := by
  rcases open_slice Try.underlying22 h with ⟨rfl, rfl⟩ | ⟨a, len, cap, m, n, D, Pl, rfl, hb, hl, hm, hmm, rfl, hx⟩
  · exact ⟨none, 0, 0, [], [], rfl, ⟨⟨rfl, .inl rfl⟩, All2.nil⟩, (fun _ => ⟨by simp, fun y hy => by cases hy⟩), by simp, by simp⟩
  · have hlm : len ≤ m := by rw [hmm]; split <;> omega
    rw [cells26] at hx
    have each : ∀ i, i < len → ∃ q : NV × M.Nd, (∀ (j : Nat) c, q.1.cells[j]? = some c → W.cell? (a.add (i * 5 + j)) = some c) ∧ Cont W q.1 q.2 ∧ (Sized 41 (D i) → q.2.data.length ≤ reachBytes ∧ q.2.ents.length * 24 ≤ reachBytes) ∧ q.2.ents.length ≤ Rows.uptoBulk (D i) := fun i hi => by
      obtain ⟨cs', h1, h2⟩ := hx i (by omega)
      obtain ⟨v, y, rfl, hc, hs, hbk⟩ := open_node_b h2
      obtain ⟨_, _, hcell⟩ := World.cells?_some h1
      refine ⟨(v, y), fun j c hc' => ?_, hc, hs, hbk⟩
      have hj : j < 5 := by
        rcases Nat.lt_or_ge j 5 with h3 | h3
        · exact h3
        · rw [List.getElem?_eq_none (by exact h3)] at hc'; cases hc'
      have := hcell j hj
      rw [show (a.add (i * 5)).add j = a.add (i * 5 + j) from Addr.add_add a _ _] at this
      rw [this]
      exact hc'
    obtain ⟨U, hU⟩ := choose_lt each
    refine ⟨some a, len, cap, (List.range len).map fun i => (U i).1, (List.range len).map fun i => (U i).2, rfl, ⟨?_, by simp, fun j v y hv hy => ?_⟩, (fun hsz => ⟨?_, fun y hy => ?_⟩), ?_, ?_⟩
    · have := row_mk (k := 5) (cs := NV.cells) (by decide) nod_len (w := W) (vs := (List.range len).map fun i => (U i).1) (a := a) (fun j v hv i c hc => by
        have hj : j < len := by
          rcases Nat.lt_or_ge j len with h1 | h1
          · exact h1
          · rw [List.getElem?_eq_none (by simpa using h1)] at hv; cases hv
        rw [List.getElem?_map, List.getElem?_range hj] at hv
        cases hv
        exact (hU j hj).1 i c hc)
      rw [List.length_map, List.length_range] at this
      exact this
    · have hj : j < len := by
        rcases Nat.lt_or_ge j len with h1 | h1
        · exact h1
        · rw [List.getElem?_eq_none (by simpa using h1)] at hv; cases hv
      rw [List.getElem?_map, List.getElem?_range hj] at hv hy
      cases hv; cases hy
      exact (hU j hj).2.1
    · have := sized_len Try.underlying22 hsz
      rw [bytes26, List.length_map, List.length_range] at this
      omega
    · obtain ⟨i, hi, rfl⟩ := List.mem_map.1 hy
      have hi := List.mem_range.1 hi
      exact (hU i hi).2.2.1 (sized_elem Try.underlying22 hsz (List.mem_map.2 ⟨i, List.mem_range.2 hi, rfl⟩))
    · refine Nat.le_trans ?_ (bulk_slice _ _)
      have h1 := bulk_sum (H := H) (fun i => (U i).2.ents.length) D (List.range len) (fun i hi => (hU i (List.mem_range.1 hi)).2.2.2)
      have h2 : (((List.range len).map fun i => (U i).2).flatMap fun y => y.ents.map (·.2)).length = ((List.range len).map fun i => (U i).2.ents.length).sum := by
        rw [List.length_flatMap, List.map_map]
        congr 1
        apply List.map_congr_left
        intro i _
        simp
      rw [h2]
      exact h1
    · refine Nat.le_trans ?_ (bulk_slice _ _)
      have h1 := bulk_len ((List.range len).map D)
      simp only [List.length_map, List.length_range] at h1 ⊢
      exact h1

theorem open_nodes {W : World} {sp : Nat → Bool} {held : Bool} {fuel : Nat} {cs : List Value} {x : DataW H × List MemPlace} (h : DataW.trod enc Try.prog W 0 sp held fuel 22 cs = some x) :
    ∃ (A : Option Addr) (n c : Nat) (vs : List NV) (xs : List M.Nd), cs = [.slice A n c] ∧ Tree W A n vs xs ∧ (Sized 22 x.1 → n * 72 ≤ reachBytes ∧ ∀ y ∈ xs, y.data.length ≤ reachBytes ∧ y.ents.length * 24 ≤ reachBytes) := by
  obtain ⟨A, n, c, vs, xs, h1, h2, h3, _⟩ := open_nodes_b h
  exact ⟨A, n, c, vs, xs, h1, h2, h3⟩

theorem node_val {v : Value} {x : NV} (h : v.cells.toList = x.cells) : v = x.val := by
  cases v <;> simp [Value.cells, NV.cells] at h
  rename_i xs
  rw [NV.val]
  congr 1
  apply Array.ext'
  exact h

theorem trodAll_five {P : Program} {w : World} {base : Nat} {spare : Nat → Bool} {held : Bool} {t t' t'' t3 t4 : TypeId} {args : Array Value} {ds : List (DataW H)} {ps : List MemPlace} (h : DataW.TrodAll enc P w base spare held [t, t', t'', t3, t4] args.toList ds ps) :
    ∃ v v' v'' v3 v4 d d' d'' d3 d4 p p' p'' p3 p4, args = #[v, v', v'', v3, v4] ∧ ds = [d, d', d'', d3, d4] ∧ ps = p ++ p' ++ p'' ++ p3 ++ p4 ∧ DataW.Trod enc P w base spare held t v d p ∧ DataW.Trod enc P w base spare held t' v' d' p' ∧ DataW.Trod enc P w base spare held t'' v'' d'' p'' ∧ DataW.Trod enc P w base spare held t3 v3 d3 p3 ∧ DataW.Trod enc P w base spare held t4 v4 d4 p4 := by
  obtain ⟨v, vs, d, ds', p, q, hargs, rfl, rfl, hd, hrest⟩ := trodAll_cons h
  obtain ⟨v', vs', d', ds2, p', q', rfl, rfl, rfl, hd', hrest'⟩ := trodAll_cons hrest
  obtain ⟨v'', vs'', d'', ds3, p'', q'', rfl, rfl, rfl, hd'', hrest''⟩ := trodAll_cons hrest'
  obtain ⟨v3, vs3, d3, ds4, p3, q3, rfl, rfl, rfl, hd3, hrest3⟩ := trodAll_cons hrest''
  obtain ⟨v4, vs4, d4, ds5, p4, q4, rfl, rfl, rfl, hd4, hrest4⟩ := trodAll_cons hrest3
  obtain ⟨rfl, rfl, rfl⟩ := trodAll_nil hrest4
  exact ⟨v, v', v'', v3, v4, d, d', d'', d3, d4, p, p', p'', p3, p4, by cases args; simp_all, rfl, by simp, hd, hd', hd'', hd3, hd4⟩

/-- a law's end: it answered true, and nothing old has turned -/
theorem post_true {f : Func} {s : ChangeSpec} {W W' : World} {args : Array Value} {ds : List (DataW H)} {before : List MemPlace}
    (hf : f.resultTypes = #[4]) (hp : f.params.toList.all (fun t => Try.prog.readableRec t && decide (t < Try.prog.types.size)) = true) (hv : s.vars = []) (hs : s.fn H ds = { results := [.lit (.bool true)], args := ds })
    (hW : DataW.Whole enc Try.prog f.params.toList s.vars false W args.toList ds [] before) (hb : Below W.heap.size W W') :
    s.post enc Try.prog f false true false false W args (.bool true) W' := by
  have hW2 := hW
  obtain ⟨p, q, hA, hV, rfl, _, _⟩ := hW
  have hlt := hW2.lt
  rw [hv] at hV
  obtain ⟨_, rfl⟩ := trodVars_none hV
  rw [List.append_nil] at hlt
  refine ⟨ds, [], _, [], p, [], hW2, ?_, ?_, ?_, hb.frame _, fun h => by cases h⟩
  · rw [List.append_nil, hs, hf]
    exact trodAll_mk1 (shut_bool Try.underlying4 _)
  · rw [List.append_nil, hs]
    exact trodAll_below laidOut hb hp hA hlt
  · rw [hv, List.append_nil, hs]
    rfl
end
end Go.Proofs.Ytkhifljgocopoad
