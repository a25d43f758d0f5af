/-
  A MAP IS GONE THROUGH; the reference's With and Without.
-/
import Derived.Test.YtkdpdgbacladhaaOf
namespace Go.Proofs.Ytkdpdgbacladhaa
open Go.RowKit
open Go.ChangeMaps (setBlock)

/-- block r goes through the map at bm; all that was there in w0 is there -/
structure It (w0 : World) (r bm : Nat) (es : Array MapEntry) (clock : Nat) (seen : Array Nat) (wr : World) : Prop where
  it : ∃ c0, wr.heap[r]? = some (.mapIter (some bm) clock seen c0) ∧ clock ≤ c0
  at_ : w0.heap[bm]? = some (.map es clock)
  far : w0.heap.size ≤ r
  bel : Below w0.heap.size w0 wr
theorem It.below {w0 : World} {r bm : Nat} {es : Array MapEntry} {clock : Nat} {seen : Array Nat} {wr w' : World} (h : It w0 r bm es clock seen wr) (hb : Below wr.heap.size wr w') : It w0 r bm es clock seen w' := by
  obtain ⟨⟨c0, h1, h2⟩, h3, h4, h5⟩ := h
  exact ⟨⟨c0, by rw [hb.block r (lt_of_block h1)]; exact h1, h2⟩, h3, h4, h5.trans (hb.mono h5.size)⟩
theorem It.set {w0 : World} {r bm : Nat} {es : Array MapEntry} {clock : Nat} {seen : Array Nat} {wr : World} (h : It w0 r bm es clock seen wr) {b : Nat} (hb : w0.heap.size ≤ b) (hne : r ≠ b) (o : Obj) : It w0 r bm es clock seen (setBlock wr b o) := by
  obtain ⟨⟨c0, h1, h2⟩, h3, h4, h5⟩ := h
  exact ⟨⟨c0, by rw [setBlock_other hne]; exact h1, h2⟩, h3, h4, setBlock_below h5 hb o⟩
theorem It.seen {w0 : World} {r bm : Nat} {es : Array MapEntry} {clock : Nat} {seen : Array Nat} {wr : World} (h : It w0 r bm es clock seen wr) : wr.iterSeen r = seen := by
  obtain ⟨⟨c0, h1, _⟩, _⟩ := h
  simp [World.iterSeen, h1]

/-- the worlds behind 'next' -/
theorem It.next {w0 : World} {r bm : Nat} {es : Array MapEntry} {clock : Nat} {seen : Array Nat} {wr : World} (h : It w0 r bm es clock seen wr) (hn : (es.toList.map (·.born)).Nodup) (hc : ∀ e ∈ es.toList, e.born < clock) (ty : TypeId) :
    ((leftOf es seen).size = 0 ∧ (Instr.next (.pointer (some ⟨r, 0, none⟩)) false ty).run Try.prog wr = .ok (.tuple #[.bool false]) wr) ∨
    ∃ e ∈ (leftOf es seen).toList, ∃ W : World, (Instr.next (.pointer (some ⟨r, 0, none⟩)) false ty).run Try.prog wr = .ok (.tuple #[.bool true, e.key, e.val]) W ∧
      (Instr.entry (.pointer (some ⟨r, 0, none⟩))).run Try.prog W = .ok (.tuple #[e.key, e.val]) W ∧ It w0 r bm es clock (seen.push e.born) W ∧ W.heap.size = wr.heap.size ∧ ∀ c : Nat, c ≠ r → W.heap[c]? = wr.heap[c]? := by
  obtain ⟨⟨c0, h1, h2⟩, h3, h4, h5⟩ := h
  have hbm : bm < w0.heap.size := lt_of_block h3
  have hb : wr.heap[bm]? = some (.map es clock) := by rw [h5.block bm hbm]; exact h3
  rcases run_next_at (P := Try.prog) wr ty r bm clock c0 seen es clock h1 hb hc h2 with h | ⟨e, he, w1, hw1, hrun⟩
  · exact .inl h
  · right
    have hr1 : w1.heap[r]? = some (.mapIter (some bm) clock seen c0) := by rcases hw1 with rfl | rfl <;> exact h1
    have hsz : w1.heap.size = wr.heap.size := by rcases hw1 with rfl | rfl <;> rfl
    have hh : ∀ c : Nat, w1.heap[c]? = wr.heap[c]? := by rcases hw1 with rfl | rfl <;> exact fun _ => rfl
    have hb1 : Below w0.heap.size w0 w1 := by rcases hw1 with rfl | rfl; exact h5; exact h5.drew
    have hW : (setBlock w1 r (.mapIter (some bm) clock (seen.push e.born) clock)).heap[r]? = some (.mapIter (some bm) clock (seen.push e.born) clock) := setBlock_at hr1
    refine ⟨e, he, _, hrun, run_entry_at _ r bm clock seen es clock e hW (by rw [setBlock_other (by omega), hh]; exact hb) (mem_left he).1 hn, ⟨⟨clock, hW, Nat.le_refl _⟩, h3, h4, setBlock_below hb1 h4 _⟩, by rw [setBlock_size]; exact hsz, fun c hc => by rw [setBlock_other hc]; exact hh c⟩

/-- of what has been seen, and is asked for, g tells -/
def Seen (p : Int → Bool) (es : Array MapEntry) (seen : Array Nat) (g : Int → Option Value) : Prop :=
  ∀ k v, g k = some v ↔ ∃ e ∈ es.toList, seen.contains e.born = true ∧ e.key = .int .i64 k ∧ e.val = v ∧ p k = true
theorem seen_none (p : Int → Bool) (es : Array MapEntry) : Seen p es #[] (fun _ => none) := by
  intro k v
  constructor
  · intro h; cases h
  · rintro ⟨e, _, h, _⟩; simp at h
theorem key_one {L : List MapEntry} (hp : L.Pairwise fun a b => a.key ≠ b.key) {a b : MapEntry} (ha : a ∈ L) (hb : b ∈ L) (h : a.key = b.key) : a = b := by
  obtain ⟨i, hi, rfl⟩ := List.mem_iff_getElem.1 ha
  obtain ⟨j, hj, rfl⟩ := List.mem_iff_getElem.1 hb
  rw [List.pairwise_iff_getElem] at hp
  rcases Nat.lt_trichotomy i j with h1 | h1 | h1
  · exact absurd h (hp i j hi hj h1)
  · subst h1; rfl
  · exact absurd h.symm (hp j i hj hi h1)
theorem seen_step {p : Int → Bool} {es : Array MapEntry} {seen : Array Nat} {g f : Int → Option Value} {e : MapEntry} {k : Int} (h : Seen p es seen g) (hh : Holds es.toList f) (hn : (es.toList.map (·.born)).Nodup)
    (he : e ∈ es.toList) (hk : e.key = .int .i64 k) (hp : p k = true) : Seen p es (seen.push e.born) (updF g k e.val) := by
  intro q v
  unfold updF
  by_cases hq : q = k
  · rw [if_pos hq]
    subst hq
    constructor
    · intro h1
      injection h1 with h1
      exact ⟨e, he, by rw [contains_push]; simp, hk, h1, hp⟩
    · rintro ⟨x, hx, _, hxk, hxv, _⟩
      have := key_one hh.one hx he (by rw [hxk, hk])
      rw [← hxv, this]
  · rw [if_neg hq, h q v]
    constructor
    · rintro ⟨x, hx, hs, hr⟩
      exact ⟨x, hx, by rw [contains_push, hs]; rfl, hr⟩
    · rintro ⟨x, hx, hs, hxk, hr⟩
      refine ⟨x, hx, ?_, hxk, hr⟩
      rw [contains_push, Bool.or_eq_true] at hs
      rcases hs with hs | hs
      · exact hs
      · have hxe := born_inj hn hx he (by simpa using hs)
        subst hxe
        rw [hk] at hxk
        injection hxk with _ hxk
        exact absurd hxk.symm hq
theorem seen_skip {p : Int → Bool} {es : Array MapEntry} {seen : Array Nat} {g : Int → Option Value} {e : MapEntry} {k : Int} (h : Seen p es seen g) (hn : (es.toList.map (·.born)).Nodup)
    (he : e ∈ es.toList) (hk : e.key = .int .i64 k) (hp : p k = false) : Seen p es (seen.push e.born) g := by
  intro q v
  rw [h q v]
  constructor
  · rintro ⟨x, hx, hs, hr⟩
    exact ⟨x, hx, by rw [contains_push, hs]; rfl, hr⟩
  · rintro ⟨x, hx, hs, hxk, hxv, hpq⟩
    refine ⟨x, hx, ?_, hxk, hxv, hpq⟩
    rw [contains_push, Bool.or_eq_true] at hs
    rcases hs with hs | hs
    · exact hs
    · have hxe := born_inj hn hx he (by simpa using hs)
      subst hxe
      rw [hk] at hxk
      injection hxk with _ hxk
      subst hxk
      rw [hp] at hpq
      cases hpq
theorem seen_end {p : Int → Bool} {es : Array MapEntry} {seen : Array Nat} {g f : Int → Option Value} (h : Seen p es seen g) (hh : Holds es.toList f) (h0 : (leftOf es seen).size = 0) (k : Int) : g k = if p k then f k else none := by
  have hall := all_seen es seen h0
  cases hg : g k with
  | some v =>
    obtain ⟨e, he, _, hk, hv, hp⟩ := (h k v).1 hg
    rw [hp, if_pos rfl]
    obtain ⟨q, hq, hf⟩ := hh.key e he
    rw [hk] at hq
    injection hq with _ hq
    subst hq
    rw [hf, hv]
  | none =>
    cases hp : p k with
    | false => rfl
    | true =>
      rw [if_pos rfl]
      cases hf : f k with
      | none => rfl
      | some v =>
        obtain ⟨e, he, hk, hv⟩ := hh.all k v hf
        have := (h k v).2 ⟨e, he, hall e he, hk, hv, hp⟩
        rw [hg] at this
        cases this

/-- the map's copy, so far -/
def RI (w0 : World) (bm : Nat) (es : Array MapEntry) (clock : Nat) (p : Int → Bool) (seen : Array Nat) (wr : World) : Prop :=
  It w0 (w0.heap.size + 1) bm es clock seen wr ∧ ∃ g, IMap wr w0.heap.size g ∧ Seen p es seen g
theorem RI.start {w0 : World} {bm : Nat} {es : Array MapEntry} {clock : Nat} (p : Int → Bool) (hb : w0.heap[bm]? = some (.map es clock)) : RI w0 bm es clock p #[] ((w0.alloc (.map #[] 0)).alloc (.mapIter (some bm) clock #[] clock)) := by
  have h1 : ((w0.alloc (.map #[] 0)).alloc (.mapIter (some bm) clock #[] clock)).heap[w0.heap.size + 1]? = some (.mapIter (some bm) clock #[] clock) := by
    have := heap_alloc_new (w0.alloc (.map #[] 0)) (.mapIter (some bm) clock #[] clock)
    simpa using this
  refine ⟨⟨⟨clock, h1, Nat.le_refl _⟩, hb, by omega, ((Below.refl _ _).alloc (Nat.le_refl _) _).alloc (by simp) _⟩, fun _ => none, ?_, seen_none p es⟩
  exact (IMap.new w0).below (Nat.le_refl _) ((Below.refl _ _).alloc (Nat.le_refl _) _)
/-- what a round of the copy finds -/
theorem RI.round {w0 : World} {bm : Nat} {es : Array MapEntry} {clock : Nat} {p : Int → Bool} {seen : Array Nat} {wr : World} {f : Int → Option Value} {xs : List M.Nd} (h : RI w0 bm es clock p seen wr) (hh : Holds es.toList f) (hn : (es.toList.map (·.born)).Nodup) (hc : ∀ e ∈ es.toList, e.born < clock) (ha : Agree w0 f xs) (ty : TypeId) :
    ((leftOf es seen).size = 0 ∧ (Instr.next (.pointer (some ⟨w0.heap.size + 1, 0, none⟩)) false ty).run Try.prog wr = .ok (.tuple #[.bool false]) wr) ∨
    ∃ (b : Nat) (v : NV) (k : Int) (W : World), (leftOf es (seen.push b)).size < (leftOf es seen).size ∧ (Instr.next (.pointer (some ⟨w0.heap.size + 1, 0, none⟩)) false ty).run Try.prog wr = .ok (.tuple #[.bool true, .int .i64 k, v.val]) W ∧
      (Instr.entry (.pointer (some ⟨w0.heap.size + 1, 0, none⟩))).run Try.prog W = .ok (.tuple #[.int .i64 k, v.val]) W ∧
      (p k = false → RI w0 bm es clock p (seen.push b) (W.alloc (.cells #[.int .i64 v.fid, .bool v.dir, .slice v.dA v.dn v.dc, .slice v.eA v.en v.ec, .int .i64 v.ver] 26))) ∧
      (p k = true → ∃ o : Obj, (Instr.mapUpdate 30 (.map (some w0.heap.size)) (.int .i64 k) v.val).run Try.prog (W.alloc (.cells #[.int .i64 v.fid, .bool v.dir, .slice v.dA v.dn v.dc, .slice v.eA v.en v.ec, .int .i64 v.ver] 26)) = .ok () (setBlock (W.alloc (.cells #[.int .i64 v.fid, .bool v.dir, .slice v.dA v.dn v.dc, .slice v.eA v.en v.ec, .int .i64 v.ver] 26)) w0.heap.size o) ∧ RI w0 bm es clock p (seen.push b) (setBlock (W.alloc (.cells #[.int .i64 v.fid, .bool v.dir, .slice v.dA v.dn v.dc, .slice v.eA v.en v.ec, .int .i64 v.ver] 26)) w0.heap.size o)) := by
  obtain ⟨hit, g, hg, hs⟩ := h
  rcases hit.next hn hc ty with h1 | ⟨e, he, W, h1, h2, h3, h4, h5⟩
  · exact .inl h1
  · right
    obtain ⟨hem, _⟩ := mem_left he
    obtain ⟨k, hk, hf⟩ := hh.key e hem
    rcases ha k with ⟨h6, _⟩ | ⟨v, x, h6, _, _⟩
    · rw [h6] at hf; cases hf
    · rw [h6] at hf
      injection hf with hf
      have hgW : IMap W w0.heap.size g := hg.same (h5 _ (by omega))
      have hwa : Below W.heap.size W (W.alloc (.cells #[.int .i64 v.fid, .bool v.dir, .slice v.dA v.dn v.dc, .slice v.eA v.en v.ec, .int .i64 v.ver] 26)) := (Below.refl _ _).alloc (Nat.le_refl _) _
      refine ⟨e.born, v, k, W, left_shrinks es seen e he, by rw [h1, hk, hf], by rw [h2, hk, hf], fun hp => ?_, fun hp => ?_⟩
      · exact ⟨h3.below hwa, g, hgW.below (Nat.le_refl _) hwa, seen_skip hs hn hem hk hp⟩
      · obtain ⟨o, hr, hi⟩ := run_update_map 30 26 Try.underlying30 (hgW.below (Nat.le_refl _) hwa) k v.val
        refine ⟨o, hr, (h3.below hwa).set (Nat.le_refl _) (by omega) o, _, hi, ?_⟩
        have := seen_step hs hh hn hem hk hp
        rw [← hf] at this
        exact this

theorem find_putN (xs : List M.Nd) (x : M.Nd) (k : Int) : M.find (M.putN xs x) k = if k = x.fid then some x else M.find xs k := by
  by_cases hk : k = x.fid
  · rw [if_pos hk, hk]; exact findN_put xs x
  · rw [if_neg hk]; exact findN_other xs x k hk

set_option maxHeartbeats 2000000 in
theorem with_any (bm : Nat) (xs : List M.Nd) (v : NV) (x : M.Nd) (w : World) (ht : TMap w bm xs) (hc : Cont w v x) :
    Calls Try.prog 13 #[.map (some bm), v.val] w fun e w' => ∃ b, e = .returned (.map (some b)) ∧ TMap w' b (M.putN xs x) ∧ Below w.heap.size w w' := by
  obtain ⟨f, ⟨es, clock, hb, hh, hn, hcl⟩, ha⟩ := ht
  have hwa : Below w.heap.size w (w.alloc (.cells #[.int .i64 v.fid, .bool v.dir, .slice v.dA v.dn v.dc, .slice v.eA v.en v.ec, .int .i64 v.ver] 26)) := (Below.refl _ _).alloc (Nat.le_refl _) _
  have hbm : bm < w.heap.size := lt_of_block hb
  have H0 : Hid ((w.alloc (.cells #[.int .i64 v.fid, .bool v.dir, .slice v.dA v.dn v.dc, .slice v.eA v.en v.ec, .int .i64 v.ver] 26)).heap[bm]? = some (.map es clock) ∧ Box (w.alloc (.cells #[.int .i64 v.fid, .bool v.dir, .slice v.dA v.dn v.dc, .slice v.eA v.en v.ec, .int .i64 v.ver] 26)) w.heap.size v ∧ Cont (w.alloc (.cells #[.int .i64 v.fid, .bool v.dir, .slice v.dA v.dn v.dc, .slice v.eA v.en v.ec, .int .i64 v.ver] 26)) v x ∧ Agree (w.alloc (.cells #[.int .i64 v.fid, .bool v.dir, .slice v.dA v.dn v.dc, .slice v.eA v.en v.ec, .int .i64 v.ver] 26)) f xs ∧ Below w.heap.size w (w.alloc (.cells #[.int .i64 v.fid, .bool v.dir, .slice v.dA v.dn v.dc, .slice v.eA v.en v.ec, .int .i64 v.ver] 26))) :=
    ⟨by rw [hwa.block bm hbm]; exact hb, Box.new w v, hc.below (Nat.le_refl _) hwa, ha.below (Nat.le_refl _) hwa, hwa⟩
  have HH : Hid (Holds es.toList f ∧ (es.toList.map (·.born)).Nodup ∧ ∀ e ∈ es.toList, e.born < clock) := ⟨hh, hn, hcl⟩
  have hrg := run_range_map (P := Try.prog) ((w.alloc (.cells #[.int .i64 v.fid, .bool v.dir, .slice v.dA v.dn v.dc, .slice v.eA v.en v.ec, .int .i64 v.ver] 26)).alloc (.map #[] 0)) 30 3 26 bm es clock Try.underlying30 (by rw [Below.heap_alloc _ _ _ (lt_of_block H0.out.1)]; exact H0.out.1)
  have hmm := @run_makeMap Try.prog
  clear hb hh hn hcl ha hc hwa
  go_enter Try.func13, Try.ntmps13
  go_wp2
  have hsz : (w.alloc (.cells #[.int .i64 v.fid, .bool v.dir, .slice v.dA v.dn v.dc, .slice v.eA v.en v.ec, .int .i64 v.ver] 26)).heap.size = w.heap.size + 1 := by simp
  generalize w.alloc (.cells #[.int .i64 v.fid, .bool v.dir, .slice v.dA v.dn v.dc, .slice v.eA v.en v.ec, .int .i64 v.ver] 26) = W0 at H0 hrg hsz ⊢
  have HSZ : Hid (W0.heap.size = w.heap.size + 1) := hsz
  clear hrg hsz
  go_loopw [] (fun wr => ∃ seen, RI W0 bm es clock (fun _ => true) seen wr) (fun wr => (leftOf es (wr.iterSeen (w.heap.size + 1 + 1))).size)
  case atStart => exact ⟨#[], RI.start _ H0.out.1⟩
  case round =>
    obtain ⟨seen, hri⟩ := hrel
    have HRI : Hid (RI W0 bm es clock (fun _ => true) seen wr) := hri
    have hse := hri.1.seen
    have hrd := hri.round HH.out.1 HH.out.2.1 HH.out.2.2 H0.out.2.2.2.1 0
    rw [HSZ.out] at hrd hse
    rcases hrd with ⟨h0, hnx⟩ | ⟨b, ve, k, W, hlt, hnx, hen, _, hup⟩
    · obtain ⟨hit, g, hg, hs⟩ := HRI.out
      have hge : g = f := by funext q; have := seen_end hs HH.out.1 h0 q; simpa using this
      rw [hge] at hg
      rw [HSZ.out] at hg
      obtain ⟨o, hu, him⟩ := run_update_map 30 26 Try.underlying30 hg v.fid v.val
      have hbl : Below w.heap.size w (setBlock wr (w.heap.size + 1) o) := setBlock_below (H0.out.2.2.2.2.trans (hit.bel.mono (by rw [HSZ.out]; omega))) (by omega) o
      have hb0 : Below W0.heap.size W0 (setBlock wr (w.heap.size + 1) o) := setBlock_below hit.bel (by rw [HSZ.out]; omega) o
      have HF : Hid (TMap (setBlock wr (w.heap.size + 1) o) (w.heap.size + 1) (M.putN xs x) ∧ Below w.heap.size w (setBlock wr (w.heap.size + 1) o)) :=
        ⟨⟨_, him, (agree_upd H0.out.2.2.2.1 H0.out.2.2.1 (find_putN xs x)).below (Nat.le_refl _) hb0⟩, hbl⟩
      obtain ⟨p0, p1, p2, p3, p4, pf, pz⟩ := (H0.out.2.1.below hit.bel (by rw [HSZ.out]; omega)).facts
      clear hit hs hge hg him hbl hb0 hse h0 hri
      go_wp2
      go_ret
      exact ⟨_, rfl, HF.out.1, HF.out.2⟩
    · obtain ⟨o, hu, hri2⟩ := hup rfl
      have HR2 : Hid (RI W0 bm es clock (fun _ => true) (seen.push b) (setBlock (W.alloc (.cells #[.int .i64 ve.fid, .bool ve.dir, .slice ve.dA ve.dn ve.dc, .slice ve.eA ve.en ve.ec, .int .i64 ve.ver] 26)) (w.heap.size + 1) o)) := hri2
      have hse2 := hri2.1.seen
      rw [HSZ.out] at hse2
      have HM : Hid (_ ∧ _ ∧ _) := ⟨hlt, hse, hse2⟩
      clear hup hri hri2 hlt hse hse2
      go_wp2
      go_roundw
      case rel => exact ⟨_, HR2.out⟩
      case measure => rw [HM.out.2.2, HM.out.2.1]; exact HM.out.1

theorem find_dropN (xs : List M.Nd) (t k : Int) : M.find (M.dropN xs t) k = if k = t then none else M.find xs k := by
  by_cases hk : k = t
  · rw [if_pos hk, hk]; exact findN_drop xs t
  · rw [if_neg hk]
    unfold M.find M.dropN
    rw [List.find?_filter]
    congr 1
    funext y
    by_cases hy : y.fid = k
    · simp [hy, hk]
    · simp [hy]

set_option maxHeartbeats 2000000 in
theorem without_any (bm : Nat) (xs : List M.Nd) (t : Int) (w : World) (ht : TMap w bm xs) :
    Calls Try.prog 16 #[.map (some bm), .int .i64 t] w fun e w' => ∃ b, e = .returned (.map (some b)) ∧ TMap w' b (M.dropN xs t) ∧ Below w.heap.size w w' := by
  obtain ⟨f, ⟨es, clock, hb, hh, hn, hcl⟩, ha⟩ := ht
  have H0 : Hid (w.heap[bm]? = some (.map es clock) ∧ Agree w f xs) := ⟨hb, ha⟩
  have HH : Hid (Holds es.toList f ∧ (es.toList.map (·.born)).Nodup ∧ ∀ e ∈ es.toList, e.born < clock) := ⟨hh, hn, hcl⟩
  have hrg := run_range_map (P := Try.prog) (w.alloc (.map #[] 0)) 30 3 26 bm es clock Try.underlying30 (by rw [Below.heap_alloc _ _ _ (lt_of_block hb)]; exact hb)
  have hmm := @run_makeMap Try.prog
  clear hb hh hn hcl ha
  go_enter Try.func16, Try.ntmps16
  go_wp2
  clear hrg
  go_loopw [] (fun wr => ∃ seen, RI w bm es clock (fun k => !decide (k = t)) seen wr) (fun wr => (leftOf es (wr.iterSeen (w.heap.size + 1))).size)
  case atStart => exact ⟨#[], RI.start _ H0.out.1⟩
  case round =>
    obtain ⟨seen, hri⟩ := hrel
    have HRI : Hid (RI w bm es clock (fun k => !decide (k = t)) seen wr) := hri
    have hse := hri.1.seen
    have hrd := hri.round HH.out.1 HH.out.2.1 HH.out.2.2 H0.out.2 0
    rcases hrd with ⟨h0, hnx⟩ | ⟨b, ve, k, W, hlt, hnx, hen, hno, hup⟩
    · obtain ⟨hit, g, hg, hs⟩ := HRI.out
      have HF : Hid (TMap wr w.heap.size (M.dropN xs t) ∧ Below w.heap.size w wr) := by
        refine ⟨⟨g, hg, fun q => ?_⟩, hit.bel⟩
        rw [seen_end hs HH.out.1 h0 q, find_dropN]
        by_cases hq : q = t
        · simp [hq]
        · have := (H0.out.2.below (Nat.le_refl _) hit.bel) q
          simpa [hq] using this
      clear hit hs hg hse h0 hri
      go_wp2
      go_ret
      exact ⟨_, rfl, HF.out.1, HF.out.2⟩
    · by_cases hkt : k = t
      · have hri2 := hno (by simp [hkt])
        have HR2 : Hid (RI w bm es clock (fun k => !decide (k = t)) (seen.push b) (W.alloc (.cells #[.int .i64 ve.fid, .bool ve.dir, .slice ve.dA ve.dn ve.dc, .slice ve.eA ve.en ve.ec, .int .i64 ve.ver] 26))) := hri2
        have hse2 := hri2.1.seen
        have HM : Hid (_ ∧ _ ∧ _) := ⟨hlt, hse, hse2⟩
        have q1 : (k == t) = true := by simp [hkt]
        have q2 : (k != t) = false := by simp [hkt]
        clear hup hno hri hri2 hlt hse hse2 hkt
        go_wp2
        go_roundw
        case rel => exact ⟨_, HR2.out⟩
        case measure => rw [HM.out.2.2, HM.out.2.1]; exact HM.out.1
      · obtain ⟨o, hu, hri2⟩ := hup (by simp [hkt])
        have HR2 : Hid (RI w bm es clock (fun k => !decide (k = t)) (seen.push b) (setBlock (W.alloc (.cells #[.int .i64 ve.fid, .bool ve.dir, .slice ve.dA ve.dn ve.dc, .slice ve.eA ve.en ve.ec, .int .i64 ve.ver] 26)) w.heap.size o)) := hri2
        have hse2 := hri2.1.seen
        have HM : Hid (_ ∧ _ ∧ _) := ⟨hlt, hse, hse2⟩
        have q1 : (k == t) = false := by simp [hkt]
        have q2 : (k != t) = true := by simp [hkt]
        clear hup hno hri hri2 hlt hse hse2 hkt
        go_wp2
        go_roundw
        case rel => exact ⟨_, HR2.out⟩
        case measure => rw [HM.out.2.2, HM.out.2.1]; exact HM.out.1
end Go.Proofs.Ytkdpdgbacladhaa
