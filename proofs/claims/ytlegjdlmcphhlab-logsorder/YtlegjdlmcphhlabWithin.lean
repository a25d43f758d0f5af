/-
  Within: what is reached, by entries, from a fid on.
-/
import Derived.Test.YtlegjdlmcphhlabPut
import Derived.Test.YtlegjdlmcphhlabMathc
namespace Go.Proofs.Ytlegjdlmcphhlab
open Go.RowKit


/-- the search's memory: what was handed in, which ones were met, which ones are ahead -/
structure St (w : World) (A : Option Addr) (n c : Nat) (t : Int) (met : List Bool) (ah : List Nat) (wr : World) : Prop where
  bel : Below w.heap.size w wr
  bl : wr.heap[w.heap.size]? = some (.cells #[.slice A n c] 22 (0, 0))
  bf : wr.heap[w.heap.size + 1]? = some (.cells #[.int .i64 t] 3 (0, 0))
  bm : wr.heap[w.heap.size + 2]? = some (.cells (met.map Value.bool).toArray 4 (0, 0))
  bv : wr.heap[w.heap.size + 3]? = some (.cells #[.slice (some ⟨w.heap.size + 2, 0, none⟩) n n] 106 (0, 0))
  ba : ∃ B m, wr.heap[w.heap.size + 4]? = some (.cells #[.slice B ah.length m] 44 (0, 0)) ∧ wr.ownsRow (w.heap.size + 6) 3 1 (.slice B ah.length m) ah.length (ah.map fun i : Nat => .int .i64 (i : Int))
  bc : wr.heap[w.heap.size + 5]? = some (.cells #[.func (.func 84) #[] #[.pointer (some ⟨w.heap.size, 0, none⟩), .pointer (some ⟨w.heap.size + 3, 0, none⟩), .pointer (some ⟨w.heap.size + 4, 0, none⟩), .pointer (some ⟨w.heap.size + 1, 0, none⟩)]] 107 (0, 0))

theorem St.below {w : World} {A : Option Addr} {n c : Nat} {t : Int} {met : List Bool} {ah : List Nat} {wr w' : World} (h : St w A n c t met ah wr) (hb : Below wr.heap.size wr w') : St w A n c t met ah w' := by
  have hs : w.heap.size + 5 < wr.heap.size := lt_of_block h.bc
  obtain ⟨B, m, a1, a2⟩ := h.ba
  exact ⟨h.bel.trans (hb.mono (by omega)), by rw [hb.block _ (by omega)]; exact h.bl, by rw [hb.block _ (by omega)]; exact h.bf, by rw [hb.block _ (by omega)]; exact h.bm, by rw [hb.block _ (by omega)]; exact h.bv,
    ⟨B, m, by rw [hb.block _ (by omega)]; exact a1, own_below a2 hb (Nat.le_refl _)⟩, by rw [hb.block _ (by omega)]; exact h.bc⟩

theorem St.push {w : World} {A : Option Addr} {n c : Nat} {t : Int} {met : List Bool} {ah : List Nat} {w1 w2 : World} {O : Obj} {i m m' : Nat} {B B' : Option Addr} (h : St w A n c t met ah w1)
    (h4 : w1.heap[w.heap.size + 4]? = some (.cells #[.slice B ah.length m] 44 (0, 0))) (hown : w1.ownsRow (w.heap.size + 6) 3 1 (.slice B ah.length m) ah.length (ah.map fun i : Nat => .int .i64 (i : Int)))
    (hg : ((w1.setCell ⟨w.heap.size + 2, i, none⟩ (.bool true)).alloc O).grownBy w2 (Value.slice B ah.length m).ownBlock) (hown2 : w2.ownsRow (w.heap.size + 6) 3 1 (.slice B' (ah.length + 1) m') (ah.length + 1) ((ah.map fun i : Nat => .int .i64 (i : Int)) ++ [.int .i64 (i : Int)])) :
    St w A n c t (met.set i true) (ah ++ [i]) (w2.setCell ⟨w.heap.size + 4, 0, none⟩ (.slice B' (ah.length + 1) m')) := by
  have hs : w.heap.size + 5 < w1.heap.size := lt_of_block h.bc
  have hrow : ∀ k, (Value.slice B ah.length m).ownBlock = some k → w.heap.size + 6 ≤ k := fun k hk => (hown.lt k hk).1
  have hblk : ∀ k, k ≠ w.heap.size + 2 → k < w.heap.size + 6 → w2.heap[k]? = w1.heap[k]? := fun k h2 h6 => by
    rw [hg.block k (by simp; omega) (fun e => by have := hrow k e.symm; omega), Below.heap_alloc _ _ _ (by simp; omega), Below.heap_setCell _ _ _ _ (by exact h2)]
  have hset : ∀ k, k ≠ w.heap.size + 4 → (w2.setCell ⟨w.heap.size + 4, 0, none⟩ (.slice B' (ah.length + 1) m')).heap[k]? = w2.heap[k]? := fun k hk => Below.heap_setCell _ _ _ _ (by exact hk)
  refine ⟨?_, ?_, ?_, ?_, ?_, ⟨B', m', ?_, ?_⟩, ?_⟩
  · refine Below.setCell (Below.grown (Below.alloc (h.bel.setCell (p := ⟨w.heap.size + 2, i, none⟩) (by show w.heap.size ≤ w.heap.size + 2; omega) _) (by simp; omega) O) hg (by simp; omega) (fun k hk => by have := hrow k hk; omega)) (by show w.heap.size ≤ w.heap.size + 4; omega) _
  · rw [hset _ (by omega), hblk _ (by omega) (by omega)]; exact h.bl
  · rw [hset _ (by omega), hblk _ (by omega) (by omega)]; exact h.bf
  · rw [hset _ (by omega), hg.block _ (by simp; omega) (fun e => by have := hrow _ e.symm; omega), Below.heap_alloc _ _ _ (by simp; omega), heap_setCell_same _ _ _ _ _ _ h.bm]
    congr 2
    apply Array.ext'
    simp
  · rw [hset _ (by omega), hblk _ (by omega) (by omega)]; exact h.bv
  · have e4 : w2.heap[w.heap.size + 4]? = some (.cells #[.slice B ah.length m] 44 (0, 0)) := by rw [hblk _ (by omega) (by omega)]; exact h4
    rw [heap_setCell_same _ _ _ _ _ _ e4, List.length_append]
    rfl
  · rw [List.length_append, List.map_append]
    exact ownsRow_setCell_below hown2 (by show w.heap.size + 4 < _; omega) _
  · rw [hset _ (by omega), hblk _ (by omega) (by omega)]; exact h.bc

theorem cell_new2 (w : World) (a : Addr) (u v : Value) (t : TypeId) : ∀ j x, [v][j]? = some x → ((w.setCell a u).alloc (.cells #[v] t)).cell? ((⟨w.heap.size, 0, none⟩ : Addr).add j) = some x := by
  intro j x hj
  cases j with
  | succ j => cases hj
  | zero =>
    cases hj
    have h : ((w.setCell a u).alloc (.cells #[v] t)).heap[w.heap.size]? = some (.cells #[v] t (0, 0)) := by
      have := heap_alloc_new (w.setCell a u) (.cells #[v] t)
      simpa using this
    have := cell_of_one h
    simpa [Addr.add_lit] using this
theorem info3 : (Try.prog.info? 3).map (fun i => (i.zero, i.size, i.bytes)) = some (some (.int .i64 0), 1, 8) := by kernel_rfl

/-- what meetings have done: each one stays as it is, or marks a node that was not yet, and lays it ahead; of a list that rises, what meetS says -/
structure Met (xs : List M.Nd) (n : Nat) (st : List Bool × List Nat) (ts : List Int) (st' : List Bool × List Nat) : Prop where
  len : st'.1.length = st.1.length
  ahl : (∀ i ∈ st.2, i < n) → ∀ i ∈ st'.2, i < n
  cnt : st.2.length ≤ st.1.count true → st'.2.length ≤ st'.1.count true
  meas : st'.2.length + 2 * st'.1.count false ≤ st.2.length + 2 * st.1.count false
  exa : M.RsN xs → st' = ts.foldl (M.meetS xs) st
theorem Met.nil (xs : List M.Nd) (n : Nat) (st : List Bool × List Nat) : Met xs n st [] st := ⟨rfl, fun h => h, fun h => h, Nat.le_refl _, fun _ => rfl⟩
theorem Met.stay {xs : List M.Nd} {n : Nat} {met : List Bool} {ah : List Nat} {a : Int} (h : M.RsN xs → M.meetS xs (met, ah) a = (met, ah)) : Met xs n (met, ah) [a] (met, ah) :=
  ⟨rfl, fun h => h, fun h => h, Nat.le_refl _, fun hr => by simp [h hr]⟩
theorem Met.add {xs : List M.Nd} {n i : Nat} {met : List Bool} {ah : List Nat} {a : Int} (hi : i < n) (hm : met[i]? = some false) (h : M.RsN xs → M.meetS xs (met, ah) a = (met.set i true, ah ++ [i])) : Met xs n (met, ah) [a] (met.set i true, ah ++ [i]) := by
  have hc := M.count_set met i hm
  refine ⟨by simp, fun h j hj => ?_, fun h => ?_, ?_, fun hr => by simp [h hr]⟩
  · rcases List.mem_append.1 hj with hj | hj
    · exact h j hj
    · rw [List.mem_singleton.1 hj]; exact hi
  · show (ah ++ [i]).length ≤ (met.set i true).count true
    have h : ah.length ≤ met.count true := h
    rw [List.length_append, hc.1, List.length_singleton]; omega
  · show (ah ++ [i]).length + 2 * (met.set i true).count false ≤ ah.length + 2 * met.count false
    rw [List.length_append, List.length_singleton]; omega
theorem Met.trans {xs : List M.Nd} {n : Nat} {a b c : List Bool × List Nat} {ts us : List Int} (h : Met xs n a ts b) (k : Met xs n b us c) : Met xs n a (ts ++ us) c :=
  ⟨k.len.trans h.len, fun h0 => k.ahl (h.ahl h0), fun h0 => k.cnt (h.cnt h0), Nat.le_trans k.meas h.meas, fun hr => by rw [List.foldl_append, ← h.exa hr]; exact k.exa hr⟩

set_option maxHeartbeats 1000000 in
theorem meet_any (A : Option Addr) (n c : Nat) (vs : List NV) (xs : List M.Nd) (t a : Int) (met : List Bool) (ah : List Nat) (w wr : World) (ht : Tree w A n vs xs) (hn : n * 72 ≤ 140737488355328) (hml : met.length = n) (hal : ah.length ≤ n) (hst : St w A n c t met ah wr) :
    Calls Try.prog 84 #[.int .i64 a, .pointer (some ⟨w.heap.size, 0, none⟩), .pointer (some ⟨w.heap.size + 3, 0, none⟩), .pointer (some ⟨w.heap.size + 4, 0, none⟩), .pointer (some ⟨w.heap.size + 1, 0, none⟩)] wr fun e w' => ∃ st' : List Bool × List Nat, e = .returned (.bool (decide (a = t))) ∧ St w A n c t st'.1 st'.2 w' ∧ Met xs n (met, ah) [a] st' := by
  obtain ⟨i0, hi, hz, hsz, hbz⟩ := info_parts info3
  have HT : Hid (Tree w A n vs xs) := ht
  have HST : Hid (St w A n c t met ah wr) := hst
  have HML : Hid (met.length = n) := hml
  have q0 := cell_of_one hst.bl
  have HD : Hid ((a == t) = decide (a = t)) := by show _ = _; by_cases h : a = t <;> simp [h]
  clear ht hst hml
  go_enter Try.func84, Try.ntmps84
  go_wp2_with (fail)
  refine (place_any A n c vs a _ (HT.out.1.below (Nat.le_refl _) HST.out.bel) (by omega)).mono ?_
  rintro e w1 ⟨i, b, rfl, hin, hb, hm, hb1⟩
  rw [fids HT.out] at hb hm
  have HS1 : Hid (St w A n c t met ah w1) := HST.out.below hb1
  obtain ⟨B, m, ha1, ha2⟩ := HS1.out.ba
  have HA : Hid (w1.heap[w.heap.size + 4]? = some (.cells #[.slice B ah.length m] 44 (0, 0)) ∧ w1.ownsRow (w.heap.size + 6) 3 1 (.slice B ah.length m) ah.length (ah.map fun i : Nat => .int .i64 (i : Int))) := ⟨ha1, ha2⟩
  have hsz1 : w.heap.size + 5 < w1.heap.size := lt_of_block HS1.out.bc
  have q1 := cell_of_one HS1.out.bf
  have q3 := cell_of_one HS1.out.bv
  have q4 := cell_of_one ha1
  have f4 := free_of_one ha1
  clear hb1 ha1 ha2 q0
  cases b
  · have HI : Hid (Met xs n (met, ah) [a] (met, ah)) := by
      refine Met.stay fun hr => ?_
      unfold M.meetS
      rw [M.idx_miss hr hm (of_decide_eq_false hb.symm)]
    clear hb hm
    go_wp2
    go_ret
    exact ⟨(met, ah), ret_bool HD.out, HS1.out, HI.out⟩
  · have hk := of_decide_eq_true hb.symm
    have hidx : M.RsN xs → M.idxN xs a = some i := fun hr => M.idx_hit hr hm hk
    have hil : i < n := by
      rw [HT.out.1.1, HT.out.2.1]
      rcases Nat.lt_or_ge i (xs.map (·.fid)).length with h1 | h1
      · simpa using h1
      · rw [List.getElem?_eq_none h1] at hk; cases hk
    have hmi : ∃ bb, met[i]? = some bb := ⟨_, List.getElem?_eq_getElem (by rw [HML.out]; exact hil)⟩
    obtain ⟨bb, hbb⟩ := hmi
    have hm2 : w1.cell? ⟨w.heap.size + 2, i, none⟩ = some (.bool bb) := by
      have := HS1.out.bm
      simp [World.cell?, this, hbb]
    have hf2 : w1.frozen? ⟨w.heap.size + 2, i, none⟩ = false := by
      have := HS1.out.bm
      simp [World.frozen?, this]
    cases bb
    · have HI : Hid (Met xs n (met, ah) [a] (met.set i true, ah ++ [i])) := by
        refine Met.add hil hbb fun hr => ?_
        unfold M.meetS
        rw [hidx hr]
        simp only [hbb, if_true]
      clear hb hm hk hidx hbb
      go_wp2_with (at_builtin; refine wpList_append_own _ (by rfl) (.tmp 26) (.tmp 28) 44 (by rfl) (w.heap.size + 6) 3 i0 (.int .i64 0) 1 8 Try.underlying44 hi hz hsz hbz rfl (by decide) _ ah.length _ (by rfl) ((ownsRow_setCell_below HA.out.2 (a := ⟨w.heap.size + 2, i, none⟩) (by show w.heap.size + 2 < _; omega) (.bool true)).alloc _) ⟨w1.heap.size, 0, none⟩ 1 1 [.int .i64 (i : Int)] (by rfl) rfl (cell_new2 _ _ _ _ _) (fun u hu => by simp at hu; subst hu; rfl) (by unfold maxLen; omega) (by omega) (by simp; omega) ?_; intro v2 w2 hown2 hg2 _; obtain ⟨B2, m2, rfl, _, _⟩ := own_form hown2; have HP : Hid (St w A n c t (met.set i true) (ah ++ [i]) (w2.setCell ⟨w.heap.size + 4, 0, none⟩ (.slice B2 (ah.length + 1) m2))) := HS1.out.push HA.out.1 HA.out.2 hg2 hown2; have hx4 : w2.heap[w.heap.size + 4]? = some (.cells #[.slice B ah.length m] 44 (0, 0)) := (by rw [hg2.block _ (by simp; omega) (fun e => by have := (HA.out.2.lt _ e.symm).1; omega), Below.heap_alloc _ _ _ (by simp; omega), Below.heap_setCell _ _ _ _ (by show w.heap.size + 4 ≠ w.heap.size + 2; omega)]; exact HA.out.1); have r4 := cell_of_one hx4; have rf4 := free_of_one hx4; have hx1 : w2.heap[w.heap.size + 1]? = some (.cells #[.int .i64 t] 3 (0, 0)) := (by rw [hg2.block _ (by simp; omega) (fun e => by have := (HA.out.2.lt _ e.symm).1; omega), Below.heap_alloc _ _ _ (by simp; omega), Below.heap_setCell _ _ _ _ (by show w.heap.size + 1 ≠ w.heap.size + 2; omega)]; exact HS1.out.bf); have r1 := cell_of_one hx1; clear hx4 hx1 hg2 hown2)
      go_ret
      exact ⟨(met.set i true, ah ++ [i]), ret_bool HD.out, HP.out, HI.out⟩
    · have HI : Hid (Met xs n (met, ah) [a] (met, ah)) := by
        refine Met.stay fun hr => ?_
        unfold M.meetS
        rw [hidx hr]
        simp [hbb]
      clear hb hm hk hidx hbb
      go_wp2
      go_ret
      exact ⟨(met, ah), ret_bool HD.out, HS1.out, HI.out⟩

theorem meet2_any (A : Option Addr) (n c : Nat) (vs : List NV) (xs : List M.Nd) (t : Int) (x : ByteArray × Int) (met : List Bool) (ah : List Nat) (w wr : World) (ht : Tree w A n vs xs) (hn : n * 72 ≤ 140737488355328) (hml : met.length = n) (hal : ah.length ≤ n) (hst : St w A n c t met ah wr) :
    Calls Try.prog 86 #[.agg #[.string x.1, .int .i64 x.2], .pointer (some ⟨w.heap.size + 5, 0, none⟩)] wr fun e w' => ∃ st' : List Bool × List Nat, e = .returned (.bool (decide (x.2 = t))) ∧ St w A n c t st'.1 st'.2 w' ∧ Met xs n (met, ah) [x.2] st' := by
  have HS : Hid (St w A n c t met ah (wr.alloc (.cells #[.string x.1, .int .i64 x.2] 68))) := hst.below ((Below.refl _ _).alloc (Nat.le_refl _) _)
  have q5 := cell_of_one hst.bc
  have hz := lt_of_block hst.bc
  clear hst
  go_enter Try.func86, Try.ntmps86
  go_wp2_with (go_at_call 84; refine (meet_any A n c vs xs t x.2 met ah w _ ht hn hml hal HS.out).mono ?_; rintro e w1 ⟨st1, rfl, hs1, hm1⟩; have HS1 : Hid (St w A n c t st1.1 st1.2 w1 ∧ Met xs n (met, ah) [x.2] st1) := ⟨hs1, hm1⟩; clear hs1 hm1)
  go_ret
  exact ⟨st1, rfl, HS1.out⟩

/-- as many were met as are ahead, or more -/
def OkS (n : Nat) (st : List Bool × List Nat) : Prop := st.1.length = n ∧ st.2.length ≤ st.1.count true
theorem OkS.le {n : Nat} {st : List Bool × List Nat} (h : OkS n st) : st.2.length ≤ n := by
  have := List.count_le_length (a := true) (l := st.1)
  have := h.1
  have := h.2
  omega
theorem OkS.met {n : Nat} {xs : List M.Nd} {st st' : List Bool × List Nat} {ts : List Int} (h : OkS n st) (hm : Met xs n st ts st') : OkS n st' := ⟨by rw [hm.len]; exact h.1, hm.cnt h.2⟩

/-- what comes of meeting all of es, till one is t -/
def MeetIdx (w : World) (A : Option Addr) (n c : Nat) (t : Int) (xs : List M.Nd) (es : List (ByteArray × Int)) (st : List Bool × List Nat) (e : Ending) (w' : World) : Prop :=
  ∃ (r : Int) (mt : List Bool) (aa : List Nat), e = .returned (.int .i64 r) ∧ St w A n c t mt aa w' ∧ ((r = -1 ∧ Met xs n st (es.map (·.2)) (mt, aa) ∧ ∀ x ∈ es, x.2 ≠ t) ∨ (0 ≤ r ∧ ∃ x ∈ es, x.2 = t))
def MeetAny (w : World) (A : Option Addr) (n c : Nat) (t : Int) (xs : List M.Nd) (es : List (ByteArray × Int)) (st : List Bool × List Nat) (e : Ending) (w' : World) : Prop :=
  ∃ (b : Bool) (mt : List Bool) (aa : List Nat), e = .returned (.bool b) ∧ St w A n c t mt aa w' ∧ ((b = false ∧ Met xs n st (es.map (·.2)) (mt, aa) ∧ ∀ x ∈ es, x.2 ≠ t) ∨ (b = true ∧ ∃ x ∈ es, x.2 = t))

set_option maxHeartbeats 1000000 in
theorem meetIdx_any (A E : Option Addr) (n c k d : Nat) (vs : List NV) (xs : List M.Nd) (es : List (ByteArray × Int)) (t : Int) (st : List Bool × List Nat) (w wi : World) (ht : Tree w A n vs xs) (hn : n * 72 ≤ 140737488355328) (hok : OkS n st) (hst : St w A n c t st.1 st.2 wi) (he : Ents w E k es) (hk : k ≤ 140737488355328) :
    Calls Try.prog 98 #[.slice E k d, .func (.func 86) #[] #[.pointer (some ⟨w.heap.size + 5, 0, none⟩)]] wi (MeetIdx w A n c t xs es st) := by
  have HT : Hid (Tree w A n vs xs ∧ OkS n st) := ⟨ht, hok⟩
  have HST : Hid (St w A n c t st.1 st.2 wi) := hst
  clear ht hok hst
  go_enter Try.func98, Try.ntmps98
  go_wp2
  go_loopw [8] (fun i wr => ∃ (q : Nat) (sq : List Bool × List Nat), q ≤ k ∧ i = .int .i64 q ∧ St w A n c t sq.1 sq.2 wr ∧ Met xs n st ((es.take q).map (·.2)) sq ∧ ∀ x ∈ es.take q, x.2 ≠ t) (fun i _ => k - (intOf i).toNat)
  case atStart => exact ⟨0, st, Nat.zero_le _, rfl, HST.out, Met.nil _ _ _, fun x hx => by simp at hx⟩
  case round =>
    obtain ⟨q, sq, hq, rfl, hs, hmq, hno⟩ := hrel
    have HS : Hid (St w A n c t sq.1 sq.2 wr) := hs
    have HMQ : Hid (Met xs n st ((es.take q).map (·.2)) sq) := hmq
    have HN : Hid (∀ x ∈ es.take q, x.2 ≠ t) := hno
    clear hs hno hmq
    by_cases hlt : q < k
    · obtain ⟨g, o, x, rfl, _, hx, c0, c1⟩ := Ents.at (he.below (Nat.le_refl _) HS.out.bel) hlt
      have HX : Hid (es[q]? = some x) := hx
      have HF : Hid ((es.take (q + 1)).map (·.2) = (es.take q).map (·.2) ++ [x.2]) := by
        show _ = _
        rw [take_step hx, List.map_append]; rfl
      have HOK : Hid (OkS n sq) := HT.out.2.met HMQ.out
      clear hx
      by_cases hxt : x.2 = t
      · have hd : decide (x.2 = t) = true := decide_eq_true hxt
        have HXT : Hid (x.2 = t) := hxt
        clear hxt
        go_wp2_with (go_at_call 86; refine (meet2_any A n c vs xs t x sq.1 sq.2 w _ HT.out.1 hn HOK.out.1 HOK.out.le HS.out).mono ?_; rintro e w1 ⟨s1, rfl, hs1, hm1⟩; rw [hd]; have HS1 : Hid (St w A n c t s1.1 s1.2 w1) := hs1; have HM1 : Hid (Met xs n sq [x.2] s1) := hm1; clear hs1 hm1)
        go_ret
        exact ⟨q, _, _, rfl, HS1.out, .inr ⟨by omega, x, List.mem_of_getElem? HX.out, HXT.out⟩⟩
      · have hd : decide (x.2 = t) = false := decide_eq_false hxt
        have HXT : Hid (x.2 ≠ t) := hxt
        clear hxt
        go_wp2_with (go_at_call 86; refine (meet2_any A n c vs xs t x sq.1 sq.2 w _ HT.out.1 hn HOK.out.1 HOK.out.le HS.out).mono ?_; rintro e w1 ⟨s1, rfl, hs1, hm1⟩; rw [hd]; have HS1 : Hid (St w A n c t s1.1 s1.2 w1) := hs1; have HM1 : Hid (Met xs n sq [x.2] s1) := hm1; clear hs1 hm1)
        go_roundw
        case rel => exact ⟨q + 1, s1, by omega, by go_num, HS1.out, by rw [HF.out]; exact HMQ.out.trans HM1.out, fun y hy => by
          rw [take_step HX.out] at hy
          rcases List.mem_append.1 hy with h1 | h1
          · exact HN.out y h1
          · rw [List.mem_singleton.1 h1]; exact HXT.out⟩
        case measure => simp [intOf]; omega
    · have HL : Hid (es.take q = es) := by show _ = _; rw [List.take_of_length_le (by rw [← he.1]; omega)]
      go_wp2
      go_ret
      refine ⟨-1, _, _, rfl, HS.out, .inl ⟨rfl, by have h := HMQ.out; rw [HL.out] at h; exact h, fun x hx => HN.out x (by rw [HL.out]; exact hx)⟩⟩

theorem meetAny_any (A E : Option Addr) (n c k d : Nat) (vs : List NV) (xs : List M.Nd) (es : List (ByteArray × Int)) (t : Int) (st : List Bool × List Nat) (w wr : World) (ht : Tree w A n vs xs) (hn : n * 72 ≤ 140737488355328) (hok : OkS n st) (hst : St w A n c t st.1 st.2 wr) (he : Ents w E k es) (hk : k ≤ 140737488355328) :
    Calls Try.prog 85 #[.slice E k d, .func (.func 86) #[] #[.pointer (some ⟨w.heap.size + 5, 0, none⟩)]] wr (MeetAny w A n c t xs es st) := by
  go_enter Try.func85, Try.ntmps85
  go_wp2_with (fail)
  refine (meetIdx_any A E n c k d vs xs es t st w _ ht hn hok hst he hk).mono ?_
  rintro e w1 ⟨r, mt, aa, rfl, hs, hcase⟩
  have HS : Hid (St w A n c t mt aa w1) := hs
  clear hs
  rcases hcase with ⟨rfl, h1, h2⟩ | ⟨h0, h1⟩
  · have H1 : Hid (Met xs n st (es.map (·.2)) (mt, aa) ∧ ∀ x ∈ es, x.2 ≠ t) := ⟨h1, h2⟩
    clear h1 h2
    go_wp2
    go_ret
    exact ⟨false, mt, aa, rfl, HS.out, .inl ⟨rfl, H1.out⟩⟩
  · have H1 : Hid (∃ x ∈ es, x.2 = t) := h1
    clear h1
    go_wp2
    go_ret
    exact ⟨true, mt, aa, ret_bool (by simp), HS.out, .inr ⟨rfl, H1.out⟩⟩
end Go.Proofs.Ytlegjdlmcphhlab
