/- TEXTS LAID TOGETHER: Within, In, Ref, Rises -/
import Derived.Test.YtcjobmbbikfnaadPart3
import Derived.Deep.LoopGhost
import Derived.BigRegion
/-
  Within: what is reached, by entries, from a fid on.
-/
namespace Go.Proofs.Ytcjobmbbikfnaad
open Go.RowKit


/-- the search's memory: what was handed in, which ones were met, which ones are ahead -/
structure St (w : World) (A : Option Addr) (n c : Nat) (t : Int) (met : List Bool) (ah : List Nat) (wr : World) : Prop where
  bel : Below w.heap.size w wr
  bl : wr.heap[w.heap.size]? = some (.cells #[.slice A n c] 22 (0, 0))
  bf : wr.heap[w.heap.size + 1]? = some (.cells #[.int .i64 t] 3 (0, 0))
  bm : wr.heap[w.heap.size + 2]? = some (.cells (met.map Value.bool).toArray 4 (0, 0))
  bv : wr.heap[w.heap.size + 3]? = some (.cells #[.slice (some ⟨w.heap.size + 2, 0, none⟩) n n] 111 (0, 0))
  ba : ∃ B m, wr.heap[w.heap.size + 4]? = some (.cells #[.slice B ah.length m] 46 (0, 0)) ∧ wr.ownsRow (w.heap.size + 6) 3 1 (.slice B ah.length m) ah.length (ah.map fun i : Nat => .int .i64 (i : Int))
  bc : wr.heap[w.heap.size + 5]? = some (.cells #[.func (.func 63) #[] #[.pointer (some ⟨w.heap.size, 0, none⟩), .pointer (some ⟨w.heap.size + 3, 0, none⟩), .pointer (some ⟨w.heap.size + 4, 0, none⟩), .pointer (some ⟨w.heap.size + 1, 0, none⟩)]] 88 (0, 0))

theorem St.below {w : World} {A : Option Addr} {n c : Nat} {t : Int} {met : List Bool} {ah : List Nat} {wr w' : World} (h : St w A n c t met ah wr) (hb : Below wr.heap.size wr w') : St w A n c t met ah w' := by
  have hs : w.heap.size + 5 < wr.heap.size := lt_of_block h.bc
  obtain ⟨B, m, a1, a2⟩ := h.ba
  exact ⟨h.bel.trans (hb.mono (by omega)), by rw [hb.block _ (by omega)]; exact h.bl, by rw [hb.block _ (by omega)]; exact h.bf, by rw [hb.block _ (by omega)]; exact h.bm, by rw [hb.block _ (by omega)]; exact h.bv,
    ⟨B, m, by rw [hb.block _ (by omega)]; exact a1, own_below a2 hb (Nat.le_refl _)⟩, by rw [hb.block _ (by omega)]; exact h.bc⟩

theorem St.push {w : World} {A : Option Addr} {n c : Nat} {t : Int} {met : List Bool} {ah : List Nat} {w1 w2 : World} {O : Obj} {i m m' : Nat} {B B' : Option Addr} (h : St w A n c t met ah w1)
    (h4 : w1.heap[w.heap.size + 4]? = some (.cells #[.slice B ah.length m] 46 (0, 0))) (hown : w1.ownsRow (w.heap.size + 6) 3 1 (.slice B ah.length m) ah.length (ah.map fun i : Nat => .int .i64 (i : Int)))
    (hg : ((w1.setCell ⟨w.heap.size + 2, i, none⟩ (.bool true)).alloc O).grownBy w2 (Value.slice B ah.length m).ownBlock) (hown2 : w2.ownsRow (w.heap.size + 6) 3 1 (.slice B' (ah.length + 1) m') (ah.length + 1) ((ah.map fun i : Nat => .int .i64 (i : Int)) ++ [.int .i64 (i : Int)])) :
    St w A n c t (met.set i true) (ah ++ [i]) (w2.setCell ⟨w.heap.size + 4, 0, none⟩ (.slice B' (ah.length + 1) m')) := by
  have hs : w.heap.size + 5 < w1.heap.size := lt_of_block h.bc
  have hrow : ∀ k, (Value.slice B ah.length m).ownBlock = some k → w.heap.size + 6 ≤ k := fun k hk => (hown.lt k hk).1
  have hblk : ∀ k, k ≠ w.heap.size + 2 → k < w.heap.size + 6 → w2.heap[k]? = w1.heap[k]? := fun k h2 h6 => by
    rw [hg.block k (by simp; omega) (fun e => by have := hrow k e.symm; omega), Below.heap_alloc _ _ _ (by simp; omega), Below.heap_setCell _ _ _ _ (by exact h2)]
  have hset : ∀ k, k ≠ w.heap.size + 4 → (w2.setCell ⟨w.heap.size + 4, 0, none⟩ (.slice B' (ah.length + 1) m')).heap[k]? = w2.heap[k]? := fun k hk => Below.heap_setCell _ _ _ _ (by exact hk)
  refine ⟨?_, ?_, ?_, ?_, ?_, ⟨B', m', ?_, ?_⟩, ?_⟩
  · refine Below.setCell (Below.grown (Below.alloc (h.bel.setCell (p := ⟨w.heap.size + 2, i, none⟩) (by show w.heap.size ≤ w.heap.size + 2; omega) _) (by simp; omega) O) hg (by simp; omega) (fun k hk => by have := hrow k hk; omega)) (by show w.heap.size ≤ w.heap.size + 4; omega) _
  · rw [hset _ (by omega), hblk _ (by omega) (by omega)]; exact h.bl
  · rw [hset _ (by omega), hblk _ (by omega) (by omega)]; exact h.bf
  · rw [hset _ (by omega), hg.block _ (by simp; omega) (fun e => by have := hrow _ e.symm; omega), Below.heap_alloc _ _ _ (by simp; omega), heap_setCell_same _ _ _ _ _ _ h.bm]
    congr 2
    apply Array.ext'
    simp
  · rw [hset _ (by omega), hblk _ (by omega) (by omega)]; exact h.bv
  · have e4 : w2.heap[w.heap.size + 4]? = some (.cells #[.slice B ah.length m] 46 (0, 0)) := by rw [hblk _ (by omega) (by omega)]; exact h4
    rw [heap_setCell_same _ _ _ _ _ _ e4, List.length_append]
    rfl
  · rw [List.length_append, List.map_append]
    exact ownsRow_setCell_below hown2 (by show w.heap.size + 4 < _; omega) _
  · rw [hset _ (by omega), hblk _ (by omega) (by omega)]; exact h.bc

theorem cell_new2 (w : World) (a : Addr) (u v : Value) (t : TypeId) : ∀ j x, [v][j]? = some x → ((w.setCell a u).alloc (.cells #[v] t)).cell? ((⟨w.heap.size, 0, none⟩ : Addr).add j) = some x := by
  intro j x hj
  cases j with
  | succ j => cases hj
  | zero =>
    cases hj
    have h : ((w.setCell a u).alloc (.cells #[v] t)).heap[w.heap.size]? = some (.cells #[v] t (0, 0)) := by
      have := heap_alloc_new (w.setCell a u) (.cells #[v] t)
      simpa using this
    have := cell_of_one h
    simpa [Addr.add_lit] using this
theorem info3 : (Try.prog.info? 3).map (fun i => (i.zero, i.size, i.bytes)) = some (some (.int .i64 0), 1, 8) := by kernel_rfl

/-- what meetings have done: each one stays as it is, or marks a node that was not yet, and lays it ahead; of a list that rises, what meetS says -/
structure Met (xs : List M.Nd) (n : Nat) (st : List Bool × List Nat) (ts : List Int) (st' : List Bool × List Nat) : Prop where
  len : st'.1.length = st.1.length
  ahl : (∀ i ∈ st.2, i < n) → ∀ i ∈ st'.2, i < n
  cnt : st.2.length ≤ st.1.count true → st'.2.length ≤ st'.1.count true
  meas : st'.2.length + 2 * st'.1.count false ≤ st.2.length + 2 * st.1.count false
  exa : M.RsN xs → st' = ts.foldl (M.meetS xs) st
theorem Met.nil (xs : List M.Nd) (n : Nat) (st : List Bool × List Nat) : Met xs n st [] st := ⟨rfl, fun h => h, fun h => h, Nat.le_refl _, fun _ => rfl⟩
theorem Met.stay {xs : List M.Nd} {n : Nat} {met : List Bool} {ah : List Nat} {a : Int} (h : M.RsN xs → M.meetS xs (met, ah) a = (met, ah)) : Met xs n (met, ah) [a] (met, ah) :=
  ⟨rfl, fun h => h, fun h => h, Nat.le_refl _, fun hr => by simp [h hr]⟩
theorem Met.add {xs : List M.Nd} {n i : Nat} {met : List Bool} {ah : List Nat} {a : Int} (hi : i < n) (hm : met[i]? = some false) (h : M.RsN xs → M.meetS xs (met, ah) a = (met.set i true, ah ++ [i])) : Met xs n (met, ah) [a] (met.set i true, ah ++ [i]) := by
  have hc := M.count_set met i hm
  refine ⟨by simp, fun h j hj => ?_, fun h => ?_, ?_, fun hr => by simp [h hr]⟩
  · rcases List.mem_append.1 hj with hj | hj
    · exact h j hj
    · rw [List.mem_singleton.1 hj]; exact hi
  · show (ah ++ [i]).length ≤ (met.set i true).count true
    have h : ah.length ≤ met.count true := h
    rw [List.length_append, hc.1, List.length_singleton]; omega
  · show (ah ++ [i]).length + 2 * (met.set i true).count false ≤ ah.length + 2 * met.count false
    rw [List.length_append, List.length_singleton]; omega
theorem Met.trans {xs : List M.Nd} {n : Nat} {a b c : List Bool × List Nat} {ts us : List Int} (h : Met xs n a ts b) (k : Met xs n b us c) : Met xs n a (ts ++ us) c :=
  ⟨k.len.trans h.len, fun h0 => k.ahl (h.ahl h0), fun h0 => k.cnt (h.cnt h0), Nat.le_trans k.meas h.meas, fun hr => by rw [List.foldl_append, ← h.exa hr]; exact k.exa hr⟩

set_option maxHeartbeats 1000000 in
theorem meet_any (A : Option Addr) (n c : Nat) (vs : List NV) (xs : List M.Nd) (t a : Int) (met : List Bool) (ah : List Nat) (w wr : World) (ht : Tree w A n vs xs) (hn : n * 72 ≤ 140737488355328) (hml : met.length = n) (hal : ah.length ≤ n) (hst : St w A n c t met ah wr) :
    Calls Try.prog 63 #[.int .i64 a, .pointer (some ⟨w.heap.size, 0, none⟩), .pointer (some ⟨w.heap.size + 3, 0, none⟩), .pointer (some ⟨w.heap.size + 4, 0, none⟩), .pointer (some ⟨w.heap.size + 1, 0, none⟩)] wr fun e w' => ∃ st' : List Bool × List Nat, e = .returned (.bool (decide (a = t))) ∧ St w A n c t st'.1 st'.2 w' ∧ Met xs n (met, ah) [a] st' := by
  obtain ⟨i0, hi, hz, hsz, hbz⟩ := info_parts info3
  have HT : Hid (Tree w A n vs xs) := ht
  have HST : Hid (St w A n c t met ah wr) := hst
  have HML : Hid (met.length = n) := hml
  have q0 := cell_of_one hst.bl
  have HD : Hid ((a == t) = decide (a = t)) := by show _ = _; by_cases h : a = t <;> simp [h]
  clear ht hst hml
  go_enter Try.func63, Try.ntmps63
  go_wp2_with (fail)
  refine (place_any A n c vs a _ (HT.out.1.below (Nat.le_refl _) HST.out.bel) (by omega)).mono ?_
  rintro e w1 ⟨i, b, rfl, hin, hb, hm, hb1⟩
  rw [fids HT.out] at hb hm
  have HS1 : Hid (St w A n c t met ah w1) := HST.out.below hb1
  obtain ⟨B, m, ha1, ha2⟩ := HS1.out.ba
  have HA : Hid (w1.heap[w.heap.size + 4]? = some (.cells #[.slice B ah.length m] 46 (0, 0)) ∧ w1.ownsRow (w.heap.size + 6) 3 1 (.slice B ah.length m) ah.length (ah.map fun i : Nat => .int .i64 (i : Int))) := ⟨ha1, ha2⟩
  have hsz1 : w.heap.size + 5 < w1.heap.size := lt_of_block HS1.out.bc
  have q1 := cell_of_one HS1.out.bf
  have q3 := cell_of_one HS1.out.bv
  have q4 := cell_of_one ha1
  have f4 := free_of_one ha1
  clear hb1 ha1 ha2 q0
  cases b
  · have HI : Hid (Met xs n (met, ah) [a] (met, ah)) := by
      refine Met.stay fun hr => ?_
      unfold M.meetS
      rw [M.idx_miss hr hm (of_decide_eq_false hb.symm)]
    clear hb hm
    go_wp2
    go_ret
    exact ⟨(met, ah), ret_bool HD.out, HS1.out, HI.out⟩
  · have hk := of_decide_eq_true hb.symm
    have hidx : M.RsN xs → M.idxN xs a = some i := fun hr => M.idx_hit hr hm hk
    have hil : i < n := by
      rw [HT.out.1.1, HT.out.2.1]
      rcases Nat.lt_or_ge i (xs.map (·.fid)).length with h1 | h1
      · simpa using h1
      · rw [List.getElem?_eq_none h1] at hk; cases hk
    have hmi : ∃ bb, met[i]? = some bb := ⟨_, List.getElem?_eq_getElem (by rw [HML.out]; exact hil)⟩
    obtain ⟨bb, hbb⟩ := hmi
    have hm2 : w1.cell? ⟨w.heap.size + 2, i, none⟩ = some (.bool bb) := by
      have := HS1.out.bm
      simp [World.cell?, this, hbb]
    have hf2 : w1.frozen? ⟨w.heap.size + 2, i, none⟩ = false := by
      have := HS1.out.bm
      simp [World.frozen?, this]
    cases bb
    · have HI : Hid (Met xs n (met, ah) [a] (met.set i true, ah ++ [i])) := by
        refine Met.add hil hbb fun hr => ?_
        unfold M.meetS
        rw [hidx hr]
        simp only [hbb, if_true]
      clear hb hm hk hidx hbb
      go_wp2_with (at_builtin; refine wpList_append_own _ (by rfl) (.tmp 26) (.tmp 28) 46 (by rfl) (w.heap.size + 6) 3 i0 (.int .i64 0) 1 8 Try.underlying46 hi hz hsz hbz rfl (by decide) _ ah.length _ (by rfl) ((ownsRow_setCell_below HA.out.2 (a := ⟨w.heap.size + 2, i, none⟩) (by show w.heap.size + 2 < _; omega) (.bool true)).alloc _) ⟨w1.heap.size, 0, none⟩ 1 1 [.int .i64 (i : Int)] (by rfl) rfl (cell_new2 _ _ _ _ _) (fun u hu => by simp at hu; subst hu; rfl) (by unfold maxLen; omega) (by omega) (by simp; omega) ?_; intro v2 w2 hown2 hg2 _; obtain ⟨B2, m2, rfl, _, _⟩ := own_form hown2; have HP : Hid (St w A n c t (met.set i true) (ah ++ [i]) (w2.setCell ⟨w.heap.size + 4, 0, none⟩ (.slice B2 (ah.length + 1) m2))) := HS1.out.push HA.out.1 HA.out.2 hg2 hown2; have hx4 : w2.heap[w.heap.size + 4]? = some (.cells #[.slice B ah.length m] 46 (0, 0)) := (by rw [hg2.block _ (by simp; omega) (fun e => by have := (HA.out.2.lt _ e.symm).1; omega), Below.heap_alloc _ _ _ (by simp; omega), Below.heap_setCell _ _ _ _ (by show w.heap.size + 4 ≠ w.heap.size + 2; omega)]; exact HA.out.1); have r4 := cell_of_one hx4; have rf4 := free_of_one hx4; have hx1 : w2.heap[w.heap.size + 1]? = some (.cells #[.int .i64 t] 3 (0, 0)) := (by rw [hg2.block _ (by simp; omega) (fun e => by have := (HA.out.2.lt _ e.symm).1; omega), Below.heap_alloc _ _ _ (by simp; omega), Below.heap_setCell _ _ _ _ (by show w.heap.size + 1 ≠ w.heap.size + 2; omega)]; exact HS1.out.bf); have r1 := cell_of_one hx1; clear hx4 hx1 hg2 hown2)
      go_ret
      exact ⟨(met.set i true, ah ++ [i]), ret_bool HD.out, HP.out, HI.out⟩
    · have HI : Hid (Met xs n (met, ah) [a] (met, ah)) := by
        refine Met.stay fun hr => ?_
        unfold M.meetS
        rw [hidx hr]
        simp [hbb]
      clear hb hm hk hidx hbb
      go_wp2
      go_ret
      exact ⟨(met, ah), ret_bool HD.out, HS1.out, HI.out⟩

theorem meet2_any (A : Option Addr) (n c : Nat) (vs : List NV) (xs : List M.Nd) (t : Int) (x : ByteArray × Int) (met : List Bool) (ah : List Nat) (w wr : World) (ht : Tree w A n vs xs) (hn : n * 72 ≤ 140737488355328) (hml : met.length = n) (hal : ah.length ≤ n) (hst : St w A n c t met ah wr) :
    Calls Try.prog 65 #[.agg #[.string x.1, .int .i64 x.2], .pointer (some ⟨w.heap.size + 5, 0, none⟩)] wr fun e w' => ∃ st' : List Bool × List Nat, e = .returned (.bool (decide (x.2 = t))) ∧ St w A n c t st'.1 st'.2 w' ∧ Met xs n (met, ah) [x.2] st' := by
  have HS : Hid (St w A n c t met ah (wr.alloc (.cells #[.string x.1, .int .i64 x.2] 62))) := hst.below ((Below.refl _ _).alloc (Nat.le_refl _) _)
  have q5 := cell_of_one hst.bc
  have hz := lt_of_block hst.bc
  clear hst
  go_enter Try.func65, Try.ntmps65
  go_wp2_with (go_at_call 63; refine (meet_any A n c vs xs t x.2 met ah w _ ht hn hml hal HS.out).mono ?_; rintro e w1 ⟨st1, rfl, hs1, hm1⟩; have HS1 : Hid (St w A n c t st1.1 st1.2 w1 ∧ Met xs n (met, ah) [x.2] st1) := ⟨hs1, hm1⟩; clear hs1 hm1)
  go_ret
  exact ⟨st1, rfl, HS1.out⟩

/-- as many were met as are ahead, or more -/
def OkS (n : Nat) (st : List Bool × List Nat) : Prop := st.1.length = n ∧ st.2.length ≤ st.1.count true
theorem OkS.le {n : Nat} {st : List Bool × List Nat} (h : OkS n st) : st.2.length ≤ n := by
  have := List.count_le_length (a := true) (l := st.1)
  have := h.1
  have := h.2
  omega
theorem OkS.met {n : Nat} {xs : List M.Nd} {st st' : List Bool × List Nat} {ts : List Int} (h : OkS n st) (hm : Met xs n st ts st') : OkS n st' := ⟨by rw [hm.len]; exact h.1, hm.cnt h.2⟩

/-- what comes of meeting all of es, till one is t -/
def MeetIdx (w : World) (A : Option Addr) (n c : Nat) (t : Int) (xs : List M.Nd) (es : List (ByteArray × Int)) (st : List Bool × List Nat) (e : Ending) (w' : World) : Prop :=
  ∃ (r : Int) (mt : List Bool) (aa : List Nat), e = .returned (.int .i64 r) ∧ St w A n c t mt aa w' ∧ ((r = -1 ∧ Met xs n st (es.map (·.2)) (mt, aa) ∧ ∀ x ∈ es, x.2 ≠ t) ∨ (0 ≤ r ∧ ∃ x ∈ es, x.2 = t))
def MeetAny (w : World) (A : Option Addr) (n c : Nat) (t : Int) (xs : List M.Nd) (es : List (ByteArray × Int)) (st : List Bool × List Nat) (e : Ending) (w' : World) : Prop :=
  ∃ (b : Bool) (mt : List Bool) (aa : List Nat), e = .returned (.bool b) ∧ St w A n c t mt aa w' ∧ ((b = false ∧ Met xs n st (es.map (·.2)) (mt, aa) ∧ ∀ x ∈ es, x.2 ≠ t) ∨ (b = true ∧ ∃ x ∈ es, x.2 = t))

set_option maxHeartbeats 1000000 in
theorem meetIdx_any (A E : Option Addr) (n c k d : Nat) (vs : List NV) (xs : List M.Nd) (es : List (ByteArray × Int)) (t : Int) (st : List Bool × List Nat) (w wi : World) (ht : Tree w A n vs xs) (hn : n * 72 ≤ 140737488355328) (hok : OkS n st) (hst : St w A n c t st.1 st.2 wi) (he : Ents w E k es) (hk : k ≤ 140737488355328) :
    Calls Try.prog 75 #[.slice E k d, .func (.func 65) #[] #[.pointer (some ⟨w.heap.size + 5, 0, none⟩)]] wi (MeetIdx w A n c t xs es st) := by
  have HT : Hid (Tree w A n vs xs ∧ OkS n st) := ⟨ht, hok⟩
  have HST : Hid (St w A n c t st.1 st.2 wi) := hst
  clear ht hok hst
  go_enter Try.func75, Try.ntmps75
  go_wp2
  go_loopw [8] (fun i wr => ∃ (q : Nat) (sq : List Bool × List Nat), q ≤ k ∧ i = .int .i64 q ∧ St w A n c t sq.1 sq.2 wr ∧ Met xs n st ((es.take q).map (·.2)) sq ∧ ∀ x ∈ es.take q, x.2 ≠ t) (fun i _ => k - (intOf i).toNat)
  case atStart => exact ⟨0, st, Nat.zero_le _, rfl, HST.out, Met.nil _ _ _, fun x hx => by simp at hx⟩
  case round =>
    obtain ⟨q, sq, hq, rfl, hs, hmq, hno⟩ := hrel
    have HS : Hid (St w A n c t sq.1 sq.2 wr) := hs
    have HMQ : Hid (Met xs n st ((es.take q).map (·.2)) sq) := hmq
    have HN : Hid (∀ x ∈ es.take q, x.2 ≠ t) := hno
    clear hs hno hmq
    by_cases hlt : q < k
    · obtain ⟨g, o, x, rfl, _, hx, c0, c1⟩ := Ents.at (he.below (Nat.le_refl _) HS.out.bel) hlt
      have HX : Hid (es[q]? = some x) := hx
      have HF : Hid ((es.take (q + 1)).map (·.2) = (es.take q).map (·.2) ++ [x.2]) := by
        show _ = _
        rw [take_step hx, List.map_append]; rfl
      have HOK : Hid (OkS n sq) := HT.out.2.met HMQ.out
      clear hx
      by_cases hxt : x.2 = t
      · have hd : decide (x.2 = t) = true := decide_eq_true hxt
        have HXT : Hid (x.2 = t) := hxt
        clear hxt
        go_wp2_with (go_at_call 65; refine (meet2_any A n c vs xs t x sq.1 sq.2 w _ HT.out.1 hn HOK.out.1 HOK.out.le HS.out).mono ?_; rintro e w1 ⟨s1, rfl, hs1, hm1⟩; rw [hd]; have HS1 : Hid (St w A n c t s1.1 s1.2 w1) := hs1; have HM1 : Hid (Met xs n sq [x.2] s1) := hm1; clear hs1 hm1)
        go_ret
        exact ⟨q, _, _, rfl, HS1.out, .inr ⟨by omega, x, List.mem_of_getElem? HX.out, HXT.out⟩⟩
      · have hd : decide (x.2 = t) = false := decide_eq_false hxt
        have HXT : Hid (x.2 ≠ t) := hxt
        clear hxt
        go_wp2_with (go_at_call 65; refine (meet2_any A n c vs xs t x sq.1 sq.2 w _ HT.out.1 hn HOK.out.1 HOK.out.le HS.out).mono ?_; rintro e w1 ⟨s1, rfl, hs1, hm1⟩; rw [hd]; have HS1 : Hid (St w A n c t s1.1 s1.2 w1) := hs1; have HM1 : Hid (Met xs n sq [x.2] s1) := hm1; clear hs1 hm1)
        go_roundw
        case rel => exact ⟨q + 1, s1, by omega, by go_num, HS1.out, by rw [HF.out]; exact HMQ.out.trans HM1.out, fun y hy => by
          rw [take_step HX.out] at hy
          rcases List.mem_append.1 hy with h1 | h1
          · exact HN.out y h1
          · rw [List.mem_singleton.1 h1]; exact HXT.out⟩
        case measure => simp [intOf]; omega
    · have HL : Hid (es.take q = es) := by show _ = _; rw [List.take_of_length_le (by rw [← he.1]; omega)]
      go_wp2
      go_ret
      refine ⟨-1, _, _, rfl, HS.out, .inl ⟨rfl, by have h := HMQ.out; rw [HL.out] at h; exact h, fun x hx => HN.out x (by rw [HL.out]; exact hx)⟩⟩

theorem meetAny_any (A E : Option Addr) (n c k d : Nat) (vs : List NV) (xs : List M.Nd) (es : List (ByteArray × Int)) (t : Int) (st : List Bool × List Nat) (w wr : World) (ht : Tree w A n vs xs) (hn : n * 72 ≤ 140737488355328) (hok : OkS n st) (hst : St w A n c t st.1 st.2 wr) (he : Ents w E k es) (hk : k ≤ 140737488355328) :
    Calls Try.prog 64 #[.slice E k d, .func (.func 65) #[] #[.pointer (some ⟨w.heap.size + 5, 0, none⟩)]] wr (MeetAny w A n c t xs es st) := by
  go_enter Try.func64, Try.ntmps64
  go_wp2_with (fail)
  refine (meetIdx_any A E n c k d vs xs es t st w _ ht hn hok hst he hk).mono ?_
  rintro e w1 ⟨r, mt, aa, rfl, hs, hcase⟩
  have HS : Hid (St w A n c t mt aa w1) := hs
  clear hs
  rcases hcase with ⟨rfl, h1, h2⟩ | ⟨h0, h1⟩
  · have H1 : Hid (Met xs n st (es.map (·.2)) (mt, aa) ∧ ∀ x ∈ es, x.2 ≠ t) := ⟨h1, h2⟩
    clear h1 h2
    go_wp2
    go_ret
    exact ⟨false, mt, aa, rfl, HS.out, .inl ⟨rfl, H1.out⟩⟩
  · have H1 : Hid (∃ x ∈ es, x.2 = t) := h1
    clear h1
    go_wp2
    go_ret
    exact ⟨true, mt, aa, ret_bool (by simp), HS.out, .inr ⟨rfl, H1.out⟩⟩
end Go.Proofs.Ytcjobmbbikfnaad
/-
  Within, whole.
-/
namespace Go.Proofs.Ytcjobmbbikfnaad
open Go.RowKit

theorem info4 : (Try.prog.info? 4).map (fun i => (i.zero, i.size, i.bytes)) = some (some (.bool false), 1, 1) := by kernel_rfl
theorem make4 (n : Nat) (hn : n ≤ 140737488355328) (w : World) : (Instr.makeSlice 111 (.int .i64 (n : Int)) (.int .i64 (n : Int))).run Try.prog w = .ok (.slice (some ⟨w.heap.size, 0, none⟩) n n) (w.alloc (.cells (Array.replicate n (Value.bool false)) 4)) := by
  obtain ⟨i0, hi, hz, hsz, hbz⟩ := info_parts info4
  have hr := run_make (P := Try.prog) w 111 4 i0 (.bool false) Try.underlying111 hi hz .i64 .i64 n n (by omega) (Int.le_refl _) (by rw [hbz]; omega) (by omega)
  simp only [Int.toNat_natCast] at hr
  rw [hr]
  have e : madeCells (Value.cells (.bool false)) (n * i0.size) = (Array.replicate n (Value.bool false)) := by
    apply Array.ext'
    rw [hsz, Nat.mul_one]
    have := toList_madeCells_one (.bool false) n
    simp only [Value.cells]
    rw [this]
    simp
  rw [e]

theorem store_func (W : World) (k : Nat) (u : Value) (t : TypeId) (F : Fn) (x y : Array Value) (hk : k = W.heap.size) : (store ⟨k, 0, none⟩ (.func F x y)).run Try.prog (W.alloc (.cells #[u] t)) = .ok () (W.alloc (.cells #[.func F x y] t)) := by
  subst hk
  have h := heap_alloc_new W (.cells #[u] t)
  rw [run_store _ _ _ _ _ rfl, cell_of_one h]
  simp only [free_of_one h, Bool.false_eq_true, if_false]
  rw [World.setCell_alloc_at _ _ _ _ _ rfl]
  rfl

theorem St.start (w : World) (A : Option Addr) (n c : Nat) (t : Int) (W : World) (hW : W = (((((w.alloc (.cells #[.slice A n c] 22)).alloc (.cells #[.int .i64 t] 3)).alloc (.cells (Array.replicate n (Value.bool false)) 4)).alloc (.cells #[.slice (some ⟨w.heap.size + 2, 0, none⟩) n n] 111)).alloc (.cells #[.slice none 0 0] 46)).alloc
      (.cells #[.func (.func 63) #[] #[.pointer (some ⟨w.heap.size, 0, none⟩), .pointer (some ⟨w.heap.size + 3, 0, none⟩), .pointer (some ⟨w.heap.size + 4, 0, none⟩), .pointer (some ⟨w.heap.size + 1, 0, none⟩)]] 88)) :
    St w A n c t (List.replicate n false) [] W := by
  have hb : ∀ k (o : Obj) (V : World), k < V.heap.size → (V.alloc o).heap[k]? = V.heap[k]? := fun k o V h => Below.heap_alloc V o k h
  subst hW
  refine ⟨?_, ?_, ?_, ?_, ?_, ⟨none, 0, ?_, World.ownsRow_nil _ _ _ _⟩, ?_⟩
  · exact ((((((Below.refl _ _).alloc (Nat.le_refl _) _).alloc (by simp) _).alloc (by simp <;> omega) _).alloc (by simp <;> omega) _).alloc (by simp <;> omega) _).alloc (by simp <;> omega) _
  · rw [hb _ _ _ (by simp <;> omega), hb _ _ _ (by simp <;> omega), hb _ _ _ (by simp <;> omega), hb _ _ _ (by simp <;> omega), hb _ _ _ (by simp)]; exact heap_alloc_new _ _
  · rw [hb _ _ _ (by simp <;> omega), hb _ _ _ (by simp <;> omega), hb _ _ _ (by simp <;> omega), hb _ _ _ (by simp)]
    have := heap_alloc_new (w.alloc (.cells #[.slice A n c] 22)) (.cells #[.int .i64 t] 3)
    simpa using this
  · rw [hb _ _ _ (by simp <;> omega), hb _ _ _ (by simp <;> omega), hb _ _ _ (by simp)]
    have := heap_alloc_new ((w.alloc (.cells #[.slice A n c] 22)).alloc (.cells #[.int .i64 t] 3)) (.cells (Array.replicate n (Value.bool false)) 4)
    have e : ((List.replicate n false).map Value.bool).toArray = Array.replicate n (Value.bool false) := by simp
    rw [e]
    simpa using this
  · rw [hb _ _ _ (by simp <;> omega), hb _ _ _ (by simp)]
    have := heap_alloc_new (((w.alloc (.cells #[.slice A n c] 22)).alloc (.cells #[.int .i64 t] 3)).alloc (.cells (Array.replicate n (Value.bool false)) 4)) (.cells #[.slice (some ⟨w.heap.size + 2, 0, none⟩) n n] 111)
    simpa using this
  · rw [hb _ _ _ (by simp)]
    have := heap_alloc_new ((((w.alloc (.cells #[.slice A n c] 22)).alloc (.cells #[.int .i64 t] 3)).alloc (.cells (Array.replicate n (Value.bool false)) 4)).alloc (.cells #[.slice (some ⟨w.heap.size + 2, 0, none⟩) n n] 111)) (.cells #[.slice none 0 0] 46)
    simpa using this
  · have := heap_alloc_new (((((w.alloc (.cells #[.slice A n c] 22)).alloc (.cells #[.int .i64 t] 3)).alloc (.cells (Array.replicate n (Value.bool false)) 4)).alloc (.cells #[.slice (some ⟨w.heap.size + 2, 0, none⟩) n n] 111)).alloc (.cells #[.slice none 0 0] 46)) (.cells #[.func (.func 63) #[] #[.pointer (some ⟨w.heap.size, 0, none⟩), .pointer (some ⟨w.heap.size + 3, 0, none⟩), .pointer (some ⟨w.heap.size + 4, 0, none⟩), .pointer (some ⟨w.heap.size + 1, 0, none⟩)]] 88)
    simpa using this

theorem St.pop {w : World} {A : Option Addr} {n c : Nat} {t : Int} {met : List Bool} {ah : List Nat} {i g m : Nat} {wr : World} (h : St w A n c t met (ah ++ [i]) wr)
    (h4 : wr.heap[w.heap.size + 4]? = some (.cells #[.slice (some ⟨g, 0, none⟩) (ah.length + 1) m] 46 (0, 0))) (hown : wr.ownsRow (w.heap.size + 6) 3 1 (.slice (some ⟨g, 0, none⟩) (ah.length + 1) m) (ah.length + 1) ((ah ++ [i]).map fun i : Nat => .int .i64 (i : Int))) :
    St w A n c t met ah (wr.setCell ⟨w.heap.size + 4, 0, none⟩ (.slice (some ⟨g, 0, none⟩) ah.length m)) := by
  have hset : ∀ k, k ≠ w.heap.size + 4 → (wr.setCell ⟨w.heap.size + 4, 0, none⟩ (.slice (some ⟨g, 0, none⟩) ah.length m)).heap[k]? = wr.heap[k]? := fun k hk => Below.heap_setCell _ _ _ _ (by exact hk)
  refine ⟨h.bel.setCell (by show w.heap.size ≤ w.heap.size + 4; omega) _, by rw [hset _ (by omega)]; exact h.bl, by rw [hset _ (by omega)]; exact h.bf, by rw [hset _ (by omega)]; exact h.bm, by rw [hset _ (by omega)]; exact h.bv, ⟨some ⟨g, 0, none⟩, m, ?_, ?_⟩, by rw [hset _ (by omega)]; exact h.bc⟩
  · rw [heap_setCell_same _ _ _ _ _ _ h4]; rfl
  · refine ownsRow_setCell_below ?_ (by show w.heap.size + 4 < _; omega) _
    rcases hown.2 with ⟨h', _⟩ | ⟨g', cap, cur, h', hb, hg, hnc, hcm, hcs, htake⟩
    · simp at h'
    · simp only [Value.slice.injEq, Option.some.injEq, Addr.mk.injEq, and_true, true_and] at h'
      obtain ⟨rfl, rfl⟩ := h'
      refine ⟨by simp, .inr ⟨g, m, cur, rfl, hb, hg, by omega, hcm, hcs, ?_⟩⟩
      have := congrArg (List.take ah.length) htake
      rw [List.take_take, List.map_append] at this
      have e2 : ((ah.map fun i : Nat => Value.int .i64 (i : Int)) ++ ([i].map fun i : Nat => Value.int .i64 (i : Int))).take ah.length = ah.map fun i : Nat => Value.int .i64 (i : Int) := by
        rw [List.take_append_of_le_length (by simp)]
        exact List.take_of_length_le (by simp)
      rw [e2] at this
      rw [← this]
      congr 1
      omega

/-- where the search is -/
def WSt (xs : List M.Nd) (n : Nat) (a t : Int) (k : Nat) (b : Bool) (mt : List Bool) (aa : List Nat) : Prop :=
  (b = true ∧ (M.RsN xs → M.Reach xs a t)) ∨ (b = false ∧ aa.length + 2 * mt.count false ≤ k ∧ OkS n (mt, aa) ∧ (∀ i ∈ aa, i < n) ∧ (M.RsN xs → M.WInv xs a t (mt, aa)))

set_option maxHeartbeats 2000000 in
theorem within_gen (A : Option Addr) (n c : Nat) (vs : List NV) (xs : List M.Nd) (t a : Int) (w : World) (ht : Tree w A n vs xs) (hn : n * 72 ≤ 140737488355328) (hs : ∀ x ∈ xs, Small x) :
    Calls Try.prog 52 #[.slice A n c, .int .i64 t, .int .i64 a] w fun e w' => ∃ b : Bool, e = .returned (.bool b) ∧ (M.RsN xs → (b = true ↔ M.Reach xs a t)) ∧ Below w.heap.size w w' := by
  have HT : Hid (Tree w A n vs xs ∧ ∀ x ∈ xs, Small x) := ⟨ht, hs⟩
  clear ht hs
  have hmk := make4 n (by omega)
  have hsf := store_func
  have HNL : Hid (n = xs.length) := by show n = _; rw [HT.out.1.1.1, HT.out.1.2.1]
  go_enter Try.func52, Try.ntmps52
  go_wp2_with (fail)
  have H0 := St.start w A n c t _ rfl
  have hok0 : OkS n (List.replicate n false, ([] : List Nat)) := ⟨by simp, by simp⟩
  refine (meet_any A n c vs xs t a (List.replicate n false) [] w _ HT.out.1 hn hok0.1 (by simp) H0).mono ?_
  rintro e w1 ⟨s1, rfl, hs1, hm1⟩
  have HREL : Hid (∃ (b : Bool) (mt : List Bool) (aa : List Nat), decide (a = t) = b ∧ St w A n c t mt aa w1 ∧ WSt xs n a t (2 * n + 2) b mt aa) := by
    refine ⟨_, s1.1, s1.2, rfl, hs1, ?_⟩
    by_cases h : a = t
    · exact .inl ⟨decide_eq_true h, fun _ => by rw [h]; exact .refl⟩
    · refine .inr ⟨decide_eq_false h, ?_, hok0.met hm1, hm1.ahl (by simp), fun hr => ?_⟩
      · have := hm1.meas
        simp at this
        omega
      · have h1 := M.winv_start xs a t h
        rw [← HNL.out] at h1
        rw [show (s1.1, s1.2) = s1 from rfl, hm1.exa hr]
        exact h1
  clear H0 hok0 hs1 hm1 hmk hsf
  go_wp2_with (fail)
  go_loopg [10] (2 * n + 2) (fun k f wr => ∃ (b : Bool) (mt : List Bool) (aa : List Nat), f = .bool b ∧ St w A n c t mt aa wr ∧ WSt xs n a t k b mt aa)
  case atStart =>
    obtain ⟨b, mt, aa, hb, h1, h2⟩ := HREL.out
    exact ⟨b, mt, aa, by rw [hb], h1, h2⟩
  case round =>
    obtain ⟨b, mt, aa, rfl, hs, hcase⟩ := hrel
    have HS : Hid (St w A n c t mt aa wr) := hs
    clear hs
    rcases hcase with ⟨rfl, hreach⟩ | ⟨rfl, hk, hoks, hahl, hinv⟩
    · have HRE : Hid (M.RsN xs → M.Reach xs a t) := hreach
      clear hreach
      go_wp2
      go_ret
      exact ⟨true, rfl, fun hr => ⟨fun _ => HRE.out hr, fun _ => rfl⟩, HS.out.bel⟩
    · have HI : Hid (M.RsN xs → M.WInv xs a t (mt, aa)) := hinv
      have HAL : Hid ((∀ i ∈ aa, i < n) ∧ OkS n (mt, aa)) := ⟨hahl, hoks⟩
      clear hinv hahl hoks
      rcases List.eq_nil_or_concat aa with rfl | ⟨ah, i, rfl⟩
      · obtain ⟨B, m, h4, ho⟩ := HS.out.ba
        have q4 := cell_of_one h4
        simp only [List.length_nil] at q4
        clear h4 ho
        go_wp2
        go_ret
        exact ⟨false, rfl, fun hr => ⟨fun h => (by cases h), fun h => absurd h (M.winv_end (HI.out hr))⟩, HS.out.bel⟩
      · rw [List.concat_eq_append] at HS HI HAL hk
        obtain ⟨B, m, h4, ho⟩ := HS.out.ba
        rw [List.length_append, List.length_singleton] at h4 ho
        obtain ⟨g, rfl, hBg, hgl⟩ := own_some ho (by omega)
        have H4 : Hid (wr.heap[w.heap.size + 4]? = some (.cells #[.slice (some ⟨g, 0, none⟩) (ah.length + 1) m] 46 (0, 0)) ∧ wr.ownsRow (w.heap.size + 6) 3 1 (.slice (some ⟨g, 0, none⟩) (ah.length + 1) m) (ah.length + 1) ((ah ++ [i]).map fun i : Nat => .int .i64 (i : Int))) := ⟨h4, ho⟩
        have q4 := cell_of_one h4
        have f4 := free_of_one h4
        have q0 := cell_of_one HS.out.bl
        have qg : wr.cell? ⟨g, ah.length, none⟩ = some (.int .i64 (i : Int)) := by
          rw [ho.cellAt ah.length (by omega)]; simp
        have hil : i < n := HAL.out.1 i (List.mem_append.2 (.inr (List.mem_singleton.2 rfl)))
        have hmc : ah.length + 1 ≤ m ∧ m ≤ 9223372036854775807 := by
          obtain ⟨A1, c1, e1, e2, e3⟩ := own_form ho
          cases e1
          unfold maxLen at e3
          exact ⟨e2, by omega⟩
        obtain ⟨hmc1, hmc2⟩ := hmc
        have htr := HT.out.1.below (Nat.le_refl _) HS.out.bel
        obtain ⟨gb, o, v, rfl, hgbl, hvk, c0, c1, c2, c3, c4⟩ := htr.1.at hil
        obtain ⟨x, hx, _⟩ := htr.2.at hvk
        have HX : Hid (xs[i]? = some x ∧ Small x ∧ Cont w v x) := ⟨hx, HT.out.2 x (List.mem_of_getElem? hx), HT.out.1.2.2 i v x hvk hx⟩
        have hsz5 : w.heap.size + 5 < wr.heap.size := lt_of_block HS.out.bc
        clear h4 ho hvk hx htr
        have b1 : (0 : Int) ≤ (ah.length : Int) := by omega
        have b2 : (ah.length : Int) < (ah.length : Int) + 1 := by omega
        have b3 : (0 : Int) ≤ (i : Int) := by omega
        have b4 : (i : Int) < (n : Int) := by omega
        have hz4 : w.heap.size + 1 + 1 + 1 + 1 < wr.heap.size := by omega
        have hz0 : w.heap.size < wr.heap.size := by omega
        go_wp2
        go_region
        have HSP : Hid (St w _ n c t mt ah (((wr.setCell ⟨w.heap.size + 4, 0, none⟩ (.slice (some ⟨g, 0, none⟩) ah.length m)).alloc (.cells #[.int .i64 v.fid, .bool v.dir, .slice v.dA v.dn v.dc, .slice v.eA v.en v.ec, .int .i64 v.ver] 41)).drew)) := (HS.out.pop H4.out.1 H4.out.2).below (((Below.refl _ _).alloc (Nat.le_refl _) _).drew)
        have HOK : Hid (OkS n (mt, ah)) := by
          have h1 := HAL.out.2.2
          simp only [List.length_append, List.length_singleton] at h1
          exact ⟨HAL.out.2.1, by show ah.length ≤ mt.count true; omega⟩
        have hen : v.en ≤ 140737488355328 := by have := HX.out.2.1.2; have := HX.out.2.2.2.2.2.2.1; omega
        go_wp2_with (go_at_call 64; refine (meetAny_any _ v.eA n c v.en v.ec vs xs x.ents t (mt, ah) w _ HT.out.1 hn HOK.out HSP.out HX.out.2.2.2.2.2.2 hen).mono ?_; rintro e w2 ⟨b2, mt2, aa2, rfl, hs2, hc2⟩; have HS2 : Hid (St w _ n c t mt2 aa2 w2) := hs2; have HC2 : Hid _ := hc2; clear hs2 hc2)
        have hkk : ah.length + 1 + 2 * mt.count false ≤ gk := by rw [List.length_append, List.length_singleton] at hk; exact hk
        rcases HC2.out with ⟨rfl, heq, hno⟩ | ⟨rfl, y, hy, hyt⟩
        · have hm := heq.meas
          go_roundg (aa2.length + 2 * mt2.count false)
          case measure => simp only at hm; omega
          case rel => exact ⟨false, mt2, aa2, rfl, HS2.out, .inr ⟨rfl, Nat.le_refl _, HOK.out.met heq, heq.ahl (fun j hj => HAL.out.1 j (List.mem_append.2 (.inl hj))), fun hr => by rw [heq.exa hr]; exact M.winv_step hr (HI.out hr) HX.out.1 hno⟩⟩
        · go_roundg 0
          case measure => omega
          case rel => exact ⟨true, mt2, aa2, rfl, HS2.out, .inl ⟨rfl, fun hr => M.winv_hit hr (HI.out hr) HX.out.1 hy hyt⟩⟩

theorem within_any (A : Option Addr) (n c : Nat) (vs : List NV) (xs : List M.Nd) (t a : Int) (w : World) (ht : Tree w A n vs xs) (hr : M.RsN xs) (hn : n * 72 ≤ 140737488355328) (hs : ∀ x ∈ xs, Small x) :
    Calls Try.prog 52 #[.slice A n c, .int .i64 t, .int .i64 a] w fun e w' => ∃ b : Bool, e = .returned (.bool b) ∧ (b = true ↔ M.Reach xs a t) ∧ Below w.heap.size w w' := by
  refine (within_gen A n c vs xs t a w ht hn hs).mono ?_
  rintro e w1 ⟨b, rfl, h, hb⟩
  exact ⟨b, rfl, h hr, hb⟩
end Go.Proofs.Ytcjobmbbikfnaad
/-
  THE REFERENCE's SameNode, Same, Rises.
-/
namespace Go.Proofs.Ytcjobmbbikfnaad
open Go.RowKit

/-- the same, and of the same version, if that is asked -/
def sameNd (vb : Bool) (x y : M.Nd) : Bool := alike x y && (!vb || decide (x.ver = y.ver))
theorem same_self (vb : Bool) (x : M.Nd) : sameNd vb x x = true := by simp [sameNd, alike]

/-- two boxes -/
theorem two_boxes (w : World) (v u : NV) (W : World) (hW : W = (w.alloc (.cells #[.int .i64 v.fid, .bool v.dir, .slice v.dA v.dn v.dc, .slice v.eA v.en v.ec, .int .i64 v.ver] 41)).alloc (.cells #[.int .i64 u.fid, .bool u.dir, .slice u.dA u.dn u.dc, .slice u.eA u.en u.ec, .int .i64 u.ver] 41)) :
    Box W w.heap.size v ∧ Box W (w.heap.size + 1) u ∧ Below w.heap.size w W := by
  subst hW
  refine ⟨(Box.new w v).alloc _, ?_, ((Below.refl _ _).alloc (Nat.le_refl _) _).alloc (by simp) _⟩
  have := Box.new (w.alloc (.cells #[.int .i64 v.fid, .bool v.dir, .slice v.dA v.dn v.dc, .slice v.eA v.en v.ec, .int .i64 v.ver] 41)) u
  simpa using this

set_option maxHeartbeats 2000000 in
theorem sameNode_any (v u : NV) (x y : M.Nd) (vb : Bool) (w : World) (hx : Cont w v x) (hy : Cont w u y) (sx : Small x) (sy : Small y) :
    Calls Try.prog 26 #[v.val, u.val, .bool vb] w fun e w' => e = .returned (.bool (sameNd vb x y)) ∧ Below w.heap.size w w' := by
  have HW : Hid _ := two_boxes w v u
  have hwa : Below w.heap.size w ((w.alloc (.cells #[.int .i64 v.fid, .bool v.dir, .slice v.dA v.dn v.dc, .slice v.eA v.en v.ec, .int .i64 v.ver] 41)).alloc (.cells #[.int .i64 u.fid, .bool u.dir, .slice u.dA u.dn u.dc, .slice u.eA u.en u.ec, .int .i64 u.ver] 41)) := (two_boxes w v u _ rfl).2.2
  have HX : Hid (Cont w v x ∧ Small x) := ⟨hx, sx⟩
  have HY : Hid (Cont w u y ∧ Small y) := ⟨hy, sy⟩
  have d1 := conv_byts (c := v.dc) ((hx.below (Nat.le_refl _) hwa).2.2.2.1)
  have d2 := conv_byts (c := u.dc) ((hy.below (Nat.le_refl _) hwa).2.2.2.1)
  have hvn : v.en ≤ 140737488355328 := by have := sx.2; have := hx.2.2.2.2.1; omega
  have hun : u.en ≤ 140737488355328 := by have := sy.2; have := hy.2.2.2.2.1; omega
  have HF : ∀ b : Bool, Hid ((v.fid = u.fid ∧ v.dir = u.dir ∧ x.data = y.data ∧ x.ents = y.ents ∧ (vb = true → v.ver = u.ver)) ↔ b = true) → Hid (sameNd vb x y = b) := fun b hb => by
    show _ = _
    have hb := hb.out
    rw [hx.1, hx.2.1, hx.2.2.1, hy.1, hy.2.1, hy.2.2.1] at hb
    unfold sameNd alike
    rw [Bool.eq_iff_iff]
    simp only [Bool.and_eq_true, decide_eq_true_eq, Bool.or_eq_true, Bool.not_eq_true']
    rw [← hb]
    constructor
    · rintro ⟨⟨⟨⟨a1, a2⟩, a3⟩, a4⟩, a5⟩
      exact ⟨a1, a2, a3, a4, fun h => a5.elim (fun h' => by rw [h] at h'; cases h') id⟩
    · rintro ⟨a1, a2, a3, a4, a5⟩
      refine ⟨⟨⟨⟨a1, a2⟩, a3⟩, a4⟩, ?_⟩
      cases vb
      · exact .inl rfl
      · exact .inr (a5 rfl)
  have hDT : ((txt x.data).toList == (txt y.data).toList) = decide (x.data = y.data) := by
    rw [raw_eq, decide_eq_decide]; exact txt_inj
  have hlen : v.en = x.ents.length ∧ u.en = y.ents.length := ⟨hx.2.2.2.2.1, hy.2.2.2.2.1⟩
  have HL : Hid (v.en = x.ents.length ∧ u.en = y.ents.length) := hlen
  clear hx hy sx sy hlen
  by_cases h1 : v.fid = u.fid
  case' neg =>
    have q1 : (v.fid == u.fid) = false := by simp [h1]
    have r1 : (v.fid != u.fid) = true := by simp [h1]
    have HR := HF false ⟨fun h => absurd h.1 h1, fun h => by cases h⟩
    clear h1 HF hDT d1 d2
    go_enter Try.func26, Try.ntmps26
    go_wp2
    go_ret
    exact ⟨ret_bool HR.out.symm, hwa⟩
  have q1 : (v.fid == u.fid) = true := by simp [h1]
  have r1 : (v.fid != u.fid) = false := by simp [h1]
  have H1 : Hid (v.fid = u.fid) := h1
  clear h1
  by_cases h2 : v.dir = u.dir
  case' neg =>
    have q2 : (v.dir == u.dir) = false := by simp [h2]
    have r2 : (v.dir != u.dir) = true := by simp [h2]
    have HR := HF false ⟨fun h => absurd h.2.1 h2, fun h => by cases h⟩
    clear h2 HF hDT d1 d2
    go_enter Try.func26, Try.ntmps26
    go_wp2
    go_ret
    exact ⟨ret_bool HR.out.symm, hwa⟩
  have q2 : (v.dir == u.dir) = true := by simp [h2]
  have r2 : (v.dir != u.dir) = false := by simp [h2]
  have H2 : Hid (v.dir = u.dir) := h2
  clear h2
  by_cases h3 : x.data = y.data
  case' neg =>
    have q3 : ((txt x.data).toList == (txt y.data).toList) = false := by rw [hDT]; exact decide_eq_false h3
    have r3 : ((txt x.data).toList != (txt y.data).toList) = true := by rw [bne, q3]; rfl
    have HR := HF false ⟨fun h => absurd h.2.2.1 h3, fun h => by cases h⟩
    clear h3 HF hDT
    go_enter Try.func26, Try.ntmps26
    go_wp2
    go_ret
    exact ⟨ret_bool HR.out.symm, hwa⟩
  have q3 : ((txt x.data).toList == (txt y.data).toList) = true := by rw [hDT]; exact decide_eq_true h3
  have r3 : ((txt x.data).toList != (txt y.data).toList) = false := by rw [bne, q3]; rfl
  have H3 : Hid (x.data = y.data) := h3
  clear h3 hDT
  by_cases h4 : v.en = u.en
  case' neg =>
    have q4 : ((v.en : Int) == (u.en : Int)) = false := by rw [beq_eq_false_iff_ne]; omega
    have r4 : ((v.en : Int) != (u.en : Int)) = true := by rw [bne, q4]; rfl
    have HR := HF false ⟨fun h => absurd (by rw [HL.out.1, HL.out.2, h.2.2.2.1]) h4, fun h => by cases h⟩
    clear h4 HF
    go_enter Try.func26, Try.ntmps26
    go_wp2
    go_ret
    exact ⟨ret_bool HR.out.symm, hwa⟩
  have q4 : ((v.en : Int) == (u.en : Int)) = true := by rw [beq_iff_eq]; omega
  have r4 : ((v.en : Int) != (u.en : Int)) = false := by rw [bne, q4]; rfl
  have H4 : Hid (v.en = u.en) := h4
  clear h4
  by_cases h5 : vb = true → v.ver = u.ver
  case' neg =>
    have hvb : vb = true := by cases vb <;> simp_all
    subst hvb
    have hne : v.ver ≠ u.ver := fun e => h5 fun _ => e
    have q5 : (v.ver == u.ver) = false := by simp [hne]
    have r5 : (v.ver != u.ver) = true := by simp [hne]
    have HR := HF false ⟨fun h => absurd (h.2.2.2.2 rfl) hne, fun h => by cases h⟩
    clear h5 HF hne
    go_enter Try.func26, Try.ntmps26
    go_wp2
    go_ret
    exact ⟨ret_bool HR.out.symm, hwa⟩
  have HR : Hid (sameNd vb x y = decide (x.ents = y.ents)) := HF _ (by
    show _ ↔ _
    rw [decide_eq_true_eq]
    exact ⟨fun h => h.2.2.2.1, fun h => ⟨H1.out, H2.out, H3.out, h, h5⟩⟩)
  have H5 : Hid (vb = true → v.ver = u.ver) := h5
  have hg := guardEnt
  clear h5 HF
  cases vb
  case' true =>
    have q5 : (v.ver == u.ver) = true := by simp [H5.out rfl]
    have r5 : (v.ver != u.ver) = false := by simp [H5.out rfl]
    go_enter Try.func26, Try.ntmps26
    go_wp2
  case' false =>
    go_enter Try.func26, Try.ntmps26
    go_wp2
  all_goals
    go_loopw [51] (fun i wr => ∃ k : Nat, k ≤ v.en ∧ i = .int .i64 k ∧ x.ents.take k = y.ents.take k ∧ Box wr w.heap.size v ∧ Box wr (w.heap.size + 1) u ∧ Below w.heap.size w wr) (fun i _ => v.en - (intOf i).toNat)
    case atStart =>
      have hb := HW.out _ rfl
      exact ⟨0, Nat.zero_le _, rfl, rfl, hb.1, hb.2.1, hb.2.2⟩
    case round =>
      obtain ⟨k, hk, rfl, heq, hbv, hbu, hbw⟩ := hrel
      have HE : Hid (x.ents.take k = y.ents.take k) := heq
      have HB : Hid (Box wr w.heap.size v ∧ Box wr (w.heap.size + 1) u) := ⟨hbv, hbu⟩
      obtain ⟨p0, p1, p2, p3, p4, pf, pz⟩ := hbv.facts
      obtain ⟨z0, z1, z2, z3, z4, zf, zz⟩ := hbu.facts
      clear heq hbv hbu
      by_cases hlt : k < v.en
      · obtain ⟨g1, o1, a, ha, _, hak, a0, a1⟩ := Ents.at (HX.out.1.2.2.2.2.below (Nat.le_refl _) hbw) hlt
        obtain ⟨g2, o2, b, hb, _, hbk, b0, b1⟩ := Ents.at (HY.out.1.2.2.2.2.below (Nat.le_refl _) hbw) (show k < u.en by have := H4.out; omega)
        have hkn : (k : Int) < (v.en : Int) := by omega
        have hku : (k : Int) < (u.en : Int) := by have := H4.out; omega
        have hk0 : (0 : Int) ≤ (k : Int) := by omega
        rw [ha] at p3
        rw [hb] at z3
        have HA : Hid (x.ents[k]? = some a ∧ y.ents[k]? = some b) := ⟨hak, hbk⟩
        have hq := neqEnt a b
        clear hak hbk ha hb p0 p1 p2 p4 z0 z1 z2 z4
        by_cases hab : a = b
        · have hd : decide (a = b) = true := decide_eq_true hab
          rw [hd] at hq
          have HAB : Hid (a = b) := hab
          clear hab hd
          go_wp2
          go_quiet (fail)
          go_wp2
          go_roundw
          case rel => exact ⟨k + 1, by omega, by go_num, by rw [take_step HA.out.1, take_step HA.out.2, HE.out, HAB.out], HB.out.1, HB.out.2, below_drewN hbw _⟩
          case measure => simp [intOf]; omega
        · have hd : decide (a = b) = false := decide_eq_false hab
          rw [hd] at hq
          have HN : Hid (a ≠ b) := hab
          clear hab hd
          go_wp2
          go_quiet (fail)
          go_wp2
          go_ret
          exact ⟨ret_bool (by rw [HR.out, decide_eq_false (ne_of_at HA.out.1 HA.out.2 HN.out)]), below_drewN hbw _⟩
      · have HN : Hid (x.ents.length ≤ k ∧ y.ents.length ≤ k) := by
          have := HL.out
          have := H4.out
          show _ ∧ _
          omega
        go_wp2
        go_ret
        exact ⟨ret_bool (by
          have e := HE.out
          rw [List.take_of_length_le HN.out.1, List.take_of_length_le HN.out.2] at e
          rw [HR.out, decide_eq_true e]), hbw⟩
end Go.Proofs.Ytcjobmbbikfnaad
/-
  THE REFERENCE's Rises.
-/
namespace Go.Proofs.Ytcjobmbbikfnaad
open Go.RowKit

namespace M
theorem rs_snoc {K : Type} {lt : K → K → Bool} (o : Ordr lt) (l : List K) (y x : K) (h : Rs lt (l ++ [y])) (hy : lt y x = true) : Rs lt (l ++ [y] ++ [x]) := by
  unfold Rs at *
  rw [List.pairwise_append]
  refine ⟨h, List.pairwise_singleton _ _, fun a ha b hb => ?_⟩
  rw [List.mem_singleton.1 hb]
  rcases List.mem_append.1 ha with h1 | h1
  · exact o.tra _ _ _ ((List.pairwise_append.1 h).2.2 a h1 y (List.mem_singleton.2 rfl)) hy
  · rw [List.mem_singleton.1 h1]; exact hy
theorem rs_one {K : Type} {lt : K → K → Bool} (x : K) : Rs lt [x] := List.pairwise_singleton _ _
theorem rs_step {K : Type} {lt : K → K → Bool} (o : Ordr lt) {l : List K} {j : Nat} {y x : K} (hy : l[j]? = some y) (hx : l[j + 1]? = some x) (h : Rs lt (l.take (j + 1))) (hlt : lt y x = true) : Rs lt (l.take (j + 1 + 1)) := by
  have e1 : l.take (j + 1) = l.take j ++ [y] := by rw [List.take_add_one, hy]; rfl
  have e2 : l.take (j + 1 + 1) = l.take (j + 1) ++ [x] := by rw [List.take_add_one, hx]; rfl
  rw [e2, e1]
  rw [e1] at h
  exact rs_snoc o _ y x h hlt
theorem rs_no {K : Type} {lt : K → K → Bool} {l : List K} {j : Nat} {y x : K} (hy : l[j]? = some y) (hx : l[j + 1]? = some x) (hlt : lt y x = false) : ¬ Rs lt l := by
  intro h
  rw [rs_at h (Nat.lt_succ_self j) hy hx] at hlt; cases hlt
theorem rs_first {K : Type} {lt : K → K → Bool} {l : List K} {x : K} (hx : l[0]? = some x) : Rs lt (l.take 1) := by
  have : l.take 1 = [x] := by
    cases l with
    | nil => cases hx
    | cons a l => cases hx; rfl
  rw [this]; exact rs_one x
end M
open Classical in
noncomputable def riseB (xs : List M.Nd) : Bool := decide (M.Rise xs)
theorem riseB_yes {xs : List M.Nd} (h : M.Rise xs) : riseB xs = true := by unfold riseB; simp [h]
theorem riseB_no {xs : List M.Nd} (h : ¬ M.Rise xs) : riseB xs = false := by unfold riseB; simp [h]
theorem riseB_iff {xs : List M.Nd} : riseB xs = true ↔ M.Rise xs := by unfold riseB; simp

theorem rise_next {xs : List M.Nd} {k : Nat} {x : M.Nd} (hx : xs[k]? = some x) (h : M.Rise (xs.take k)) (hn : M.RsN (xs.take (k + 1))) (he : M.RsE x.ents) : M.Rise (xs.take (k + 1)) := by
  refine ⟨hn, fun y hy => ?_⟩
  rw [take_step hx] at hy
  rcases List.mem_append.1 hy with h1 | h1
  · exact h.2 y h1
  · rw [List.mem_singleton.1 h1]; exact he

set_option maxHeartbeats 4000000 in
theorem rises_any (A : Option Addr) (n c : Nat) (vs : List NV) (xs : List M.Nd) (w : World) (ht : Tree w A n vs xs) (hn : n * 72 ≤ 140737488355328) (hs : ∀ x ∈ xs, Small x) :
    Calls Try.prog 7 #[.slice A n c] w fun e w' => e = .returned (.bool (riseB xs)) ∧ Below w.heap.size w w' := by
  have HT : Hid (Tree w A n vs xs ∧ ∀ x ∈ xs, Small x) := ⟨ht, hs⟩
  clear ht hs
  go_enter Try.func7, Try.ntmps7
  go_wp2
  go_loopw [8] (fun i wr => ∃ k : Nat, k ≤ n ∧ i = .int .i64 k ∧ M.Rise (xs.take k) ∧ Below w.heap.size w wr) (fun i _ => n - (intOf i).toNat)
  case atStart => exact ⟨0, Nat.zero_le _, rfl, ⟨List.Pairwise.nil, fun x hx => by simp at hx⟩, Below.refl _ _⟩
  case round =>
    obtain ⟨k, hk, rfl, hrise, hbw⟩ := hrel
    rename World => w5
    have HRI : Hid (M.Rise (xs.take k)) := hrise
    clear hrise
    by_cases hlt : k < n
    · have htr := HT.out.1.below (Nat.le_refl _) hbw
      obtain ⟨gb, o, v, rfl, hgbl, hvk, c0, c1, c2, c3, c4⟩ := htr.1.at hlt
      obtain ⟨x, hx, hcx⟩ := htr.2.at hvk
      have HX : Hid (xs[k]? = some x ∧ Small x ∧ Cont w v x ∧ vs[k]? = some v) := ⟨hx, HT.out.2 x (List.mem_of_getElem? hx), HT.out.1.2.2 k v x hvk hx, hvk⟩
      have hen : v.en ≤ 140737488355328 := by have := HX.out.2.1.2; have := HX.out.2.2.1.2.2.2.2.1; omega
      have hsz := hbw.size
      have HBX : Hid (Box (w5.alloc (.cells #[.int .i64 v.fid, .bool v.dir, .slice v.dA v.dn v.dc, .slice v.eA v.en v.ec, .int .i64 v.ver] 41)) w5.heap.size v) := Box.new w5 v
      have HTR : Hid (Tree w5 (some ⟨gb, o, none⟩) n vs xs) := htr
      clear hvk hx hcx htr
      by_cases hk0 : k ≤ 0
      case' pos =>
        have HRN : Hid (M.RsN (xs.take (k + 1))) := by
          show M.Rs M.ltI ((xs.take (k + 1)).map _)
          rw [List.map_take, show k + 1 = 1 by omega]
          have := HX.out.1
          rw [show k = 0 by omega] at this
          exact M.rs_first (M.at_key this)
        have hd2 : decide (0 < k) = false := by rw [decide_eq_false_iff_not]; omega
        go_wp2
        go_quiet (fail)
        go_wp2
        clear hd2
      case' neg =>
        obtain ⟨j, hj⟩ : ∃ j, k = j + 1 := ⟨k - 1, by omega⟩
        have hkj : (k : Int) - 1 = (j : Int) := by omega
        have hj0 : (0 : Int) ≤ (j : Int) := by omega
        have hjn : (j : Int) < (n : Int) := by omega
        have HJ : Hid (k = j + 1) := hj
        have hd2 : decide (0 < k) = true := by rw [decide_eq_true_eq]; omega
        obtain ⟨gb', o', u, hA', _, huk, d0, d1, d2, d3, d4⟩ := HTR.out.1.at (j := j) (by omega)
        cases hA'
        have HU : Hid (vs[j]? = some u) := huk
        have HUX : Hid (∃ y, xs[j]? = some y ∧ y.fid = u.fid) := by
          obtain ⟨y, hy, hcy⟩ := HTR.out.2.at huk
          exact ⟨y, hy, hcy.1.symm⟩
        have hvx : v.fid = x.fid := HX.out.2.2.1.1
        have HVX : Hid (v.fid = x.fid) := hvx
        clear hj huk hvx
        by_cases hf : u.fid < v.fid
        case' neg =>
          have hg2 : decide (v.fid ≤ u.fid) = true := by rw [decide_eq_true_eq]; omega
          have HNR : Hid (¬ M.Rise xs) := by
            intro hR
            obtain ⟨y, hy, hyu⟩ := HUX.out
            have hxk := HX.out.1
            rw [HJ.out] at hxk
            refine M.rs_no (M.at_key (f := fun x : M.Nd => x.fid) hy) (M.at_key hxk) ?_ hR.1
            show M.ltI y.fid x.fid = false
            rw [hyu, ← HVX.out]
            unfold M.ltI
            rw [decide_eq_false_iff_not]; exact hf
          clear hf
          go_wp2
          go_quiet (fail)
          go_wp2
          go_ret
          exact ⟨ret_bool (riseB_no HNR.out).symm, below_drewN (hbw.alloc hsz _) _⟩
        case' pos =>
          have hg2 : decide (v.fid ≤ u.fid) = false := by rw [decide_eq_false_iff_not]; omega
          have HRN : Hid (M.RsN (xs.take (k + 1))) := by
            obtain ⟨y, hy, hyu⟩ := HUX.out
            have hxk := HX.out.1
            have h1 := HRI.out.1
            rw [HJ.out] at hxk h1 ⊢
            show M.Rs M.ltI ((xs.take (j + 1 + 1)).map _)
            rw [List.map_take]
            refine M.rs_step M.ordI (M.at_key (f := fun x : M.Nd => x.fid) hy) (M.at_key hxk) ?_ ?_
            · rw [← List.map_take]; exact h1
            · show M.ltI y.fid x.fid = true
              rw [hyu, ← HVX.out]
              unfold M.ltI
              rw [decide_eq_true_eq]; exact hf
          clear hf
          go_wp2
          go_quiet (fail)
          go_wp2
          clear hg2 hd2 hkj hj0 hjn d0 d1 d2 d3 d4 HU HUX HVX HJ
      all_goals
        clear c0 c1 c2 c3 c4
        go_loopw [29] (fun i wr => ∃ q : Nat, q ≤ v.en ∧ i = .int .i64 q ∧ M.RsE (x.ents.take q) ∧ Box wr w5.heap.size v ∧ Below w.heap.size w wr) (fun i _ => v.en - (intOf i).toNat)
        case atStart => exact ⟨0, Nat.zero_le _, rfl, List.Pairwise.nil, HBX.out, below_drewN (hbw.alloc hsz _) _⟩
        case round =>
          obtain ⟨q, hq, rfl, hre, hbx, hbq⟩ := hrel
          have HRE : Hid (M.RsE (x.ents.take q)) := hre
          have HBQ : Hid (Box wr w5.heap.size v) := hbx
          obtain ⟨p0, p1, p2, p3, p4, pf, pz⟩ := hbx.facts
          clear hre hbx p0 p1 p2 p4
          by_cases hqe : q < v.en
          · obtain ⟨g1, o1, a, ha, _, hak, a0, a1⟩ := Ents.at (HX.out.2.2.1.2.2.2.2.below (Nat.le_refl _) hbq) hqe
            rw [ha] at p3
            have HA : Hid (x.ents[q]? = some a) := hak
            by_cases hq0 : q ≤ 0
            · have HNX : Hid (M.RsE (x.ents.take (q + 1))) := by
                show M.Rs M.ltB ((x.ents.take (q + 1)).map _)
                rw [List.map_take, show q + 1 = 1 by omega]
                rw [show q = 0 by omega] at hak
                exact M.rs_first (M.at_key hak)
              clear hak ha
              have hd2 : decide (0 < q) = false := by rw [decide_eq_false_iff_not]; omega
              go_wp2
              go_quiet (fail)
              go_wp2
              go_roundw
              case rel => exact ⟨q + 1, by omega, by go_num, HNX.out, HBQ.out, below_drewN hbq _⟩
              case measure => simp [intOf]; omega
            · obtain ⟨p, hp⟩ : ∃ p, q = p + 1 := ⟨q - 1, by omega⟩
              have hqp : (q : Int) - 1 = (p : Int) := by omega
              have hp0 : (0 : Int) ≤ (p : Int) := by omega
              have hpn : (p : Int) < (v.en : Int) := by omega
              have hqn : (q : Int) < (v.en : Int) := by omega
              have hq00 : (0 : Int) ≤ (q : Int) := by omega
              have HP : Hid (q = p + 1) := hp
              have hd2 : decide (0 < q) = true := by rw [decide_eq_true_eq]; omega
              obtain ⟨g2, o2, b, hb, _, hbk, b0, b1⟩ := Ents.at (HX.out.2.2.1.2.2.2.2.below (Nat.le_refl _) hbq) (show p < v.en by omega)
              rw [ha] at hb
              cases hb
              have HB : Hid (x.ents[p]? = some b) := hbk
              clear hak ha hbk hp
              cases hl : M.ltB b.1 a.1
              · have hbl : Op.bytesLess b.1.toList a.1.toList = false := hl
                have HNR : Hid (¬ M.Rise xs) := by
                  intro hR
                  have h1 := HA.out
                  rw [HP.out] at h1
                  exact M.rs_no (M.at_key (f := fun e : ByteArray × Int => e.1) HB.out) (M.at_key h1) hl (hR.2 x (List.mem_of_getElem? HX.out.1))
                clear hl
                go_wp2
                go_quiet (fail)
                go_wp2
                go_ret
                exact ⟨ret_bool (riseB_no HNR.out).symm, below_drewN hbq _⟩
              · have hbl : Op.bytesLess b.1.toList a.1.toList = true := hl
                have HNX : Hid (M.RsE (x.ents.take (q + 1))) := by
                  have h1 := HA.out
                  have h2 := HRE.out
                  rw [HP.out] at h1 h2 ⊢
                  show M.Rs M.ltB ((x.ents.take (p + 1 + 1)).map _)
                  rw [List.map_take]
                  refine M.rs_step M.ordB (M.at_key (f := fun e : ByteArray × Int => e.1) HB.out) (M.at_key h1) ?_ hl
                  rw [← List.map_take]; exact h2
                clear hl
                go_wp2
                go_quiet (fail)
                go_wp2
                go_roundw
                case rel => exact ⟨q + 1, by omega, by go_num, HNX.out, HBQ.out, below_drewN hbq _⟩
                case measure => simp [intOf]; omega
          · have HRX : Hid (M.RsE x.ents) := by
              have h1 := HRE.out
              rw [List.take_of_length_le (by have := HX.out.2.2.1.2.2.2.2.1; omega)] at h1
              exact h1
            go_wp2
            go_roundw
            case rel => exact ⟨k + 1, by omega, by go_num, rise_next HX.out.1 HRI.out HRN.out HRX.out, hbq⟩
            case measure => simp [intOf]; omega
    · have HN : Hid (xs.take k = xs) := by show _ = _; rw [List.take_of_length_le (by rw [← HT.out.1.2.1, ← HT.out.1.1.1]; omega)]
      go_wp2
      go_ret
      exact ⟨ret_bool (riseB_yes (by rw [← HN.out]; exact HRI.out)).symm, hbw⟩
end Go.Proofs.Ytcjobmbbikfnaad
