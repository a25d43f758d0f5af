/- TEXTS LAID TOGETHER: With, Refc, Refd, Rwithin, Refa, Doesg, Put7, Certh, Certu -/
import Derived.Test.YtkhifljgocopoadPart7
import Derived.Test.YtkhifljgocopoadPart9
import Derived.Deep.Cut
import Derived.Deep.LoopGhost
import Derived.Test.YtkhifljgocopoadPart8
import Derived.Test.YtkhifljgocopoadPart6
import Derived.Deep.CutRange
import Derived.Deep.RegionWith
import Derived.BigRegion
/-
  A MAP IS GONE THROUGH; the reference's With and Without.
-/
namespace Go.Proofs.Ytkhifljgocopoad
open Go.RowKit
open Go.ChangeMaps (setBlock)

/-- block r goes through the map at bm; all that was there in w0 is there -/
structure It (w0 : World) (r bm : Nat) (es : Array MapEntry) (clock : Nat) (seen : Array Nat) (wr : World) : Prop where
  it : ∃ c0, wr.heap[r]? = some (.mapIter (some bm) clock seen c0) ∧ clock ≤ c0
  at_ : w0.heap[bm]? = some (.map es clock)
  far : w0.heap.size ≤ r
  bel : Below w0.heap.size w0 wr
theorem It.below {w0 : World} {r bm : Nat} {es : Array MapEntry} {clock : Nat} {seen : Array Nat} {wr w' : World} (h : It w0 r bm es clock seen wr) (hb : Below wr.heap.size wr w') : It w0 r bm es clock seen w' := by
  obtain ⟨⟨c0, h1, h2⟩, h3, h4, h5⟩ := h
  exact ⟨⟨c0, by rw [hb.block r (lt_of_block h1)]; exact h1, h2⟩, h3, h4, h5.trans (hb.mono h5.size)⟩
theorem It.set {w0 : World} {r bm : Nat} {es : Array MapEntry} {clock : Nat} {seen : Array Nat} {wr : World} (h : It w0 r bm es clock seen wr) {b : Nat} (hb : w0.heap.size ≤ b) (hne : r ≠ b) (o : Obj) : It w0 r bm es clock seen (setBlock wr b o) := by
  obtain ⟨⟨c0, h1, h2⟩, h3, h4, h5⟩ := h
  exact ⟨⟨c0, by rw [setBlock_other hne]; exact h1, h2⟩, h3, h4, setBlock_below h5 hb o⟩
theorem It.seen {w0 : World} {r bm : Nat} {es : Array MapEntry} {clock : Nat} {seen : Array Nat} {wr : World} (h : It w0 r bm es clock seen wr) : wr.iterSeen r = seen := by
  obtain ⟨⟨c0, h1, _⟩, _⟩ := h
  simp [World.iterSeen, h1]

/-- the worlds behind 'next' -/
theorem It.next {w0 : World} {r bm : Nat} {es : Array MapEntry} {clock : Nat} {seen : Array Nat} {wr : World} (h : It w0 r bm es clock seen wr) (hn : (es.toList.map (·.born)).Nodup) (hc : ∀ e ∈ es.toList, e.born < clock) (ty : TypeId) :
    ((leftOf es seen).size = 0 ∧ (Instr.next (.pointer (some ⟨r, 0, none⟩)) false ty).run Try.prog wr = .ok (.tuple #[.bool false]) wr) ∨
    ∃ e ∈ (leftOf es seen).toList, ∃ W : World, (Instr.next (.pointer (some ⟨r, 0, none⟩)) false ty).run Try.prog wr = .ok (.tuple #[.bool true, e.key, e.val]) W ∧
      (Instr.entry (.pointer (some ⟨r, 0, none⟩))).run Try.prog W = .ok (.tuple #[e.key, e.val]) W ∧ It w0 r bm es clock (seen.push e.born) W ∧ W.heap.size = wr.heap.size ∧ ∀ c : Nat, c ≠ r → W.heap[c]? = wr.heap[c]? := by
  obtain ⟨⟨c0, h1, h2⟩, h3, h4, h5⟩ := h
  have hbm : bm < w0.heap.size := lt_of_block h3
  have hb : wr.heap[bm]? = some (.map es clock) := by rw [h5.block bm hbm]; exact h3
  rcases run_next_at (P := Try.prog) wr ty r bm clock c0 seen es clock h1 hb hc h2 with h | ⟨e, he, w1, hw1, hrun⟩
  · exact .inl h
  · right
    have hr1 : w1.heap[r]? = some (.mapIter (some bm) clock seen c0) := by rcases hw1 with rfl | rfl <;> exact h1
    have hsz : w1.heap.size = wr.heap.size := by rcases hw1 with rfl | rfl <;> rfl
    have hh : ∀ c : Nat, w1.heap[c]? = wr.heap[c]? := by rcases hw1 with rfl | rfl <;> exact fun _ => rfl
    have hb1 : Below w0.heap.size w0 w1 := by rcases hw1 with rfl | rfl; exact h5; exact h5.drew
    have hW : (setBlock w1 r (.mapIter (some bm) clock (seen.push e.born) clock)).heap[r]? = some (.mapIter (some bm) clock (seen.push e.born) clock) := setBlock_at hr1
    refine ⟨e, he, _, hrun, run_entry_at _ r bm clock seen es clock e hW (by rw [setBlock_other (by omega), hh]; exact hb) (mem_left he).1 hn, ⟨⟨clock, hW, Nat.le_refl _⟩, h3, h4, setBlock_below hb1 h4 _⟩, by rw [setBlock_size]; exact hsz, fun c hc => by rw [setBlock_other hc]; exact hh c⟩

/-- of what has been seen, and is asked for, g tells -/
def Seen (p : Int → Bool) (es : Array MapEntry) (seen : Array Nat) (g : Int → Option Value) : Prop :=
  ∀ k v, g k = some v ↔ ∃ e ∈ es.toList, seen.contains e.born = true ∧ e.key = .int .i64 k ∧ e.val = v ∧ p k = true
theorem seen_none (p : Int → Bool) (es : Array MapEntry) : Seen p es #[] (fun _ => none) := by
  intro k v
  constructor
  · intro h; cases h
  · rintro ⟨e, _, h, _⟩; simp at h
theorem key_one {L : List MapEntry} (hp : L.Pairwise fun a b => a.key ≠ b.key) {a b : MapEntry} (ha : a ∈ L) (hb : b ∈ L) (h : a.key = b.key) : a = b := by
  obtain ⟨i, hi, rfl⟩ := List.mem_iff_getElem.1 ha
  obtain ⟨j, hj, rfl⟩ := List.mem_iff_getElem.1 hb
  rw [List.pairwise_iff_getElem] at hp
  rcases Nat.lt_trichotomy i j with h1 | h1 | h1
  · exact absurd h (hp i j hi hj h1)
  · subst h1; rfl
  · exact absurd h.symm (hp j i hj hi h1)
theorem seen_step {p : Int → Bool} {es : Array MapEntry} {seen : Array Nat} {g f : Int → Option Value} {e : MapEntry} {k : Int} (h : Seen p es seen g) (hh : Holds es.toList f) (hn : (es.toList.map (·.born)).Nodup)
    (he : e ∈ es.toList) (hk : e.key = .int .i64 k) (hp : p k = true) : Seen p es (seen.push e.born) (updF g k e.val) := by
  intro q v
  unfold updF
  by_cases hq : q = k
  · rw [if_pos hq]
    subst hq
    constructor
    · intro h1
      injection h1 with h1
      exact ⟨e, he, by rw [contains_push]; simp, hk, h1, hp⟩
    · rintro ⟨x, hx, _, hxk, hxv, _⟩
      have := key_one hh.one hx he (by rw [hxk, hk])
      rw [← hxv, this]
  · rw [if_neg hq, h q v]
    constructor
    · rintro ⟨x, hx, hs, hr⟩
      exact ⟨x, hx, by rw [contains_push, hs]; rfl, hr⟩
    · rintro ⟨x, hx, hs, hxk, hr⟩
      refine ⟨x, hx, ?_, hxk, hr⟩
      rw [contains_push, Bool.or_eq_true] at hs
      rcases hs with hs | hs
      · exact hs
      · have hxe := born_inj hn hx he (by simpa using hs)
        subst hxe
        rw [hk] at hxk
        injection hxk with _ hxk
        exact absurd hxk.symm hq
theorem seen_skip {p : Int → Bool} {es : Array MapEntry} {seen : Array Nat} {g : Int → Option Value} {e : MapEntry} {k : Int} (h : Seen p es seen g) (hn : (es.toList.map (·.born)).Nodup)
    (he : e ∈ es.toList) (hk : e.key = .int .i64 k) (hp : p k = false) : Seen p es (seen.push e.born) g := by
  intro q v
  rw [h q v]
  constructor
  · rintro ⟨x, hx, hs, hr⟩
    exact ⟨x, hx, by rw [contains_push, hs]; rfl, hr⟩
  · rintro ⟨x, hx, hs, hxk, hxv, hpq⟩
    refine ⟨x, hx, ?_, hxk, hxv, hpq⟩
    rw [contains_push, Bool.or_eq_true] at hs
    rcases hs with hs | hs
    · exact hs
    · have hxe := born_inj hn hx he (by simpa using hs)
      subst hxe
      rw [hk] at hxk
      injection hxk with _ hxk
      subst hxk
      rw [hp] at hpq
      cases hpq
theorem seen_end {p : Int → Bool} {es : Array MapEntry} {seen : Array Nat} {g f : Int → Option Value} (h : Seen p es seen g) (hh : Holds es.toList f) (h0 : (leftOf es seen).size = 0) (k : Int) : g k = if p k then f k else none := by
  have hall := all_seen es seen h0
  cases hg : g k with
  | some v =>
    obtain ⟨e, he, _, hk, hv, hp⟩ := (h k v).1 hg
    rw [hp, if_pos rfl]
    obtain ⟨q, hq, hf⟩ := hh.key e he
    rw [hk] at hq
    injection hq with _ hq
    subst hq
    rw [hf, hv]
  | none =>
    cases hp : p k with
    | false => rfl
    | true =>
      rw [if_pos rfl]
      cases hf : f k with
      | none => rfl
      | some v =>
        obtain ⟨e, he, hk, hv⟩ := hh.all k v hf
        have := (h k v).2 ⟨e, he, hall e he, hk, hv, hp⟩
        rw [hg] at this
        cases this

/-- the map's copy, so far -/
def RI (w0 : World) (bm : Nat) (es : Array MapEntry) (clock : Nat) (p : Int → Bool) (seen : Array Nat) (wr : World) : Prop :=
  It w0 (w0.heap.size + 1) bm es clock seen wr ∧ ∃ g, IMap wr w0.heap.size g ∧ Seen p es seen g
theorem RI.start {w0 : World} {bm : Nat} {es : Array MapEntry} {clock : Nat} (p : Int → Bool) (hb : w0.heap[bm]? = some (.map es clock)) : RI w0 bm es clock p #[] ((w0.alloc (.map #[] 0)).alloc (.mapIter (some bm) clock #[] clock)) := by
  have h1 : ((w0.alloc (.map #[] 0)).alloc (.mapIter (some bm) clock #[] clock)).heap[w0.heap.size + 1]? = some (.mapIter (some bm) clock #[] clock) := by
    have := heap_alloc_new (w0.alloc (.map #[] 0)) (.mapIter (some bm) clock #[] clock)
    simpa using this
  refine ⟨⟨⟨clock, h1, Nat.le_refl _⟩, hb, by omega, ((Below.refl _ _).alloc (Nat.le_refl _) _).alloc (by simp) _⟩, fun _ => none, ?_, seen_none p es⟩
  exact (IMap.new w0).below (Nat.le_refl _) ((Below.refl _ _).alloc (Nat.le_refl _) _)
/-- what a round of the copy finds -/
theorem RI.round {w0 : World} {bm : Nat} {es : Array MapEntry} {clock : Nat} {p : Int → Bool} {seen : Array Nat} {wr : World} {f : Int → Option Value} {xs : List M.Nd} (h : RI w0 bm es clock p seen wr) (hh : Holds es.toList f) (hn : (es.toList.map (·.born)).Nodup) (hc : ∀ e ∈ es.toList, e.born < clock) (ha : Agree w0 f xs) (ty : TypeId) :
    ((leftOf es seen).size = 0 ∧ (Instr.next (.pointer (some ⟨w0.heap.size + 1, 0, none⟩)) false ty).run Try.prog wr = .ok (.tuple #[.bool false]) wr) ∨
    ∃ (b : Nat) (v : NV) (k : Int) (W : World), (leftOf es (seen.push b)).size < (leftOf es seen).size ∧ (Instr.next (.pointer (some ⟨w0.heap.size + 1, 0, none⟩)) false ty).run Try.prog wr = .ok (.tuple #[.bool true, .int .i64 k, v.val]) W ∧
      (Instr.entry (.pointer (some ⟨w0.heap.size + 1, 0, none⟩))).run Try.prog W = .ok (.tuple #[.int .i64 k, v.val]) W ∧
      (p k = false → RI w0 bm es clock p (seen.push b) (W.alloc (.cells #[.int .i64 v.fid, .bool v.dir, .slice v.dA v.dn v.dc, .slice v.eA v.en v.ec, .int .i64 v.ver] 41))) ∧
      (p k = true → ∃ o : Obj, (Instr.mapUpdate 31 (.map (some w0.heap.size)) (.int .i64 k) v.val).run Try.prog (W.alloc (.cells #[.int .i64 v.fid, .bool v.dir, .slice v.dA v.dn v.dc, .slice v.eA v.en v.ec, .int .i64 v.ver] 41)) = .ok () (setBlock (W.alloc (.cells #[.int .i64 v.fid, .bool v.dir, .slice v.dA v.dn v.dc, .slice v.eA v.en v.ec, .int .i64 v.ver] 41)) w0.heap.size o) ∧ RI w0 bm es clock p (seen.push b) (setBlock (W.alloc (.cells #[.int .i64 v.fid, .bool v.dir, .slice v.dA v.dn v.dc, .slice v.eA v.en v.ec, .int .i64 v.ver] 41)) w0.heap.size o)) := by
  obtain ⟨hit, g, hg, hs⟩ := h
  rcases hit.next hn hc ty with h1 | ⟨e, he, W, h1, h2, h3, h4, h5⟩
  · exact .inl h1
  · right
    obtain ⟨hem, _⟩ := mem_left he
    obtain ⟨k, hk, hf⟩ := hh.key e hem
    rcases ha k with ⟨h6, _⟩ | ⟨v, x, h6, _, _⟩
    · rw [h6] at hf; cases hf
    · rw [h6] at hf
      injection hf with hf
      have hgW : IMap W w0.heap.size g := hg.same (h5 _ (by omega))
      have hwa : Below W.heap.size W (W.alloc (.cells #[.int .i64 v.fid, .bool v.dir, .slice v.dA v.dn v.dc, .slice v.eA v.en v.ec, .int .i64 v.ver] 41)) := (Below.refl _ _).alloc (Nat.le_refl _) _
      refine ⟨e.born, v, k, W, left_shrinks es seen e he, by rw [h1, hk, hf], by rw [h2, hk, hf], fun hp => ?_, fun hp => ?_⟩
      · exact ⟨h3.below hwa, g, hgW.below (Nat.le_refl _) hwa, seen_skip hs hn hem hk hp⟩
      · obtain ⟨o, hr, hi⟩ := run_update_map 31 41 Try.underlying31 (hgW.below (Nat.le_refl _) hwa) k v.val
        refine ⟨o, hr, (h3.below hwa).set (Nat.le_refl _) (by omega) o, _, hi, ?_⟩
        have := seen_step hs hh hn hem hk hp
        rw [← hf] at this
        exact this

theorem find_putN (xs : List M.Nd) (x : M.Nd) (k : Int) : M.find (M.putN xs x) k = if k = x.fid then some x else M.find xs k := by
  by_cases hk : k = x.fid
  · rw [if_pos hk, hk]; exact findN_put xs x
  · rw [if_neg hk]; exact findN_other xs x k hk

theorem find_dropN (xs : List M.Nd) (t k : Int) : M.find (M.dropN xs t) k = if k = t then none else M.find xs k := by
  by_cases hk : k = t
  · rw [if_pos hk, hk]; exact findN_drop xs t
  · rw [if_neg hk]
    unfold M.find M.dropN
    rw [List.find?_filter]
    congr 1
    funext y
    by_cases hy : y.fid = k
    · simp [hy, hk]
    · simp [hy]

end Go.Proofs.Ytkhifljgocopoad
/-
  THE REFERENCE's Leave AND Enter: lists of one's own, one entry behind the other.
-/
namespace Go.Proofs.Ytkhifljgocopoad
open Go.RowKit

/-- a list of one's own since w0 -/
def Keep (w0 : World) (es : List (ByteArray × Int)) (A : Option Addr) (m c : Nat) (wr : World) : Prop :=
  wr.ownsRow w0.heap.size 50 2 (.slice A m c) m (es.flatMap entCells) ∧ Below w0.heap.size w0 wr
theorem Keep.start (w0 : World) : Keep w0 [] none 0 0 w0 := ⟨World.ownsRow_nil _ _ _ _, Below.refl _ _⟩
theorem Keep.alloc {w0 : World} {es : List (ByteArray × Int)} {A : Option Addr} {m c : Nat} {wr : World} (h : Keep w0 es A m c wr) (o : Obj) : Keep w0 es A m c (wr.alloc o) :=
  ⟨own_below h.1 ((Below.refl _ _).alloc (Nat.le_refl _) o) (Nat.le_refl _), h.2.alloc h.2.size o⟩
theorem Keep.drew {w0 : World} {es : List (ByteArray × Int)} {A : Option Addr} {m c : Nat} {wr : World} (h : Keep w0 es A m c wr) : Keep w0 es A m c wr.drew :=
  ⟨own_below h.1 ((Below.refl _ _).drew) (Nat.le_refl _), h.2.drew⟩
theorem Keep.app {w0 : World} {es : List (ByteArray × Int)} {e : ByteArray × Int} {A A' : Option Addr} {m c c' : Nat} {W w1 : World} (h : Keep w0 es A m c W) (hg : W.grownBy w1 (Value.slice A m c).ownBlock)
    (ho : w1.ownsRow w0.heap.size 50 2 (.slice A' (m + 1) c') (m + 1) (es.flatMap entCells ++ [e].flatMap entCells)) : Keep w0 (es ++ [e]) A' (m + 1) c' w1 := by
  refine ⟨by rw [List.flatMap_append]; exact ho, h.2.grown hg h.2.size fun k hk => (h.1.lt k hk).1⟩
theorem Keep.len {w0 : World} {es : List (ByteArray × Int)} {A : Option Addr} {m c : Nat} {wr : World} (h : Keep w0 es A m c wr) : m = es.length := own_len ent_len (by decide) h.1

theorem row_new2 (w : World) (o : Obj) (e : ByteArray × Int) : Row 2 entCells ((w.alloc o).alloc (.cells #[.string e.1, .int .i64 e.2] 50)) (some ⟨w.heap.size + 1, 0, none⟩) 1 [e] := by
  have := row_of_box2 (Box2.new (w.alloc o) e)
  simpa using this
theorem row_new1 (w : World) (e : ByteArray × Int) : Row 2 entCells (w.alloc (.cells #[.string e.1, .int .i64 e.2] 50)) (some ⟨w.heap.size, 0, none⟩) 1 [e] := row_of_box2 (Box2.new w e)

theorem dropE_snoc (es : List (ByteArray × Int)) (e : ByteArray × Int) (s : ByteArray) : M.dropE (es ++ [e]) s = if e.1 = s then M.dropE es s else M.dropE es s ++ [e] := by
  unfold M.dropE
  rw [List.filter_append]
  by_cases h : e.1 = s <;> simp [h]

end Go.Proofs.Ytkhifljgocopoad
/-
  THE REFERENCE's Enter.
-/
namespace Go.Proofs.Ytkhifljgocopoad
open Go.RowKit

/-- has the new entry its place already? what is there so far -/
def isIn (s : ByteArray) (l : List (ByteArray × Int)) : Bool := l.any fun e => M.ltB s e.1
def sofar (e0 : ByteArray × Int) (l : List (ByteArray × Int)) : List (ByteArray × Int) := if isIn e0.1 l then M.putE l e0 else l
theorem isIn_no {s : ByteArray} {l : List (ByteArray × Int)} (h : isIn s l = false) : ∀ e ∈ l, M.ltB s e.1 = false := by
  unfold isIn at h
  rw [List.any_eq_false] at h
  intro e he
  simpa using h e he
theorem low_all {s : ByteArray} {l : List (ByteArray × Int)} (h : isIn s l = false) (hne : ∀ e ∈ l, e.1 ≠ s) : ∀ e ∈ l, M.ltB e.1 s = true := by
  intro e he
  cases hl : M.ltB e.1 s
  · exact absurd (M.ordB.tri _ _ hl (isIn_no h e he)) (hne e he)
  · rfl
theorem putE_low {e0 : ByteArray × Int} {l : List (ByteArray × Int)} (h : isIn e0.1 l = false) (hne : ∀ e ∈ l, e.1 ≠ e0.1) : M.putE l e0 = l ++ [e0] := by
  unfold M.putE M.put
  rw [List.filter_eq_self.2 (low_all h hne), List.filter_eq_nil_iff.2 (fun e he => by rw [isIn_no h e he]; simp)]
theorem isIn_snoc (s : ByteArray) (l : List (ByteArray × Int)) (e : ByteArray × Int) : isIn s (l ++ [e]) = (isIn s l || M.ltB s e.1) := by
  unfold isIn; rw [List.any_append]; simp
theorem rs_last {l : List (ByteArray × Int)} {e : ByteArray × Int} (hr : M.RsE (l ++ [e])) {s : ByteArray} (h : isIn s l = true) : M.ltB s e.1 = true := by
  unfold isIn at h
  rw [List.any_eq_true] at h
  obtain ⟨y, hy, hsy⟩ := h
  have hp : M.Rs M.ltB ((l ++ [e]).map (·.1)) := hr
  unfold M.Rs at hp
  rw [List.map_append, List.pairwise_append] at hp
  exact M.ordB.tra _ _ _ hsy (hp.2.2 y.1 (List.mem_map.2 ⟨y, hy, rfl⟩) e.1 (by simp))
theorem sofar_first {e0 e : ByteArray × Int} {l : List (ByteArray × Int)} (h : isIn e0.1 l = false) (hne : ∀ e ∈ l, e.1 ≠ e0.1) (hl : M.ltB e0.1 e.1 = true) : sofar e0 (l ++ [e]) = l ++ [e0] ++ [e] := by
  unfold sofar
  rw [isIn_snoc, h, hl]
  simp only [Bool.false_or, if_true]
  unfold M.putE M.put
  have hel : M.ltB e.1 e0.1 = false := by
    cases hx : M.ltB e.1 e0.1
    · rfl
    · have := M.ordB.tra _ _ _ hx hl; rw [M.ordB.irr] at this; cases this
  have hL : l.filter (fun y => M.ltB y.1 e0.1) = l := List.filter_eq_self.2 (low_all h hne)
  have hR : l.filter (fun y => M.ltB e0.1 y.1) = [] := List.filter_eq_nil_iff.2 (fun e he => by rw [isIn_no h e he]; simp)
  rw [List.filter_append, List.filter_append, hL, hR]
  simp [hel, hl]
theorem sofar_low {e0 e : ByteArray × Int} {l : List (ByteArray × Int)} (h : isIn e0.1 l = false) (hl : M.ltB e0.1 e.1 = false) : sofar e0 (l ++ [e]) = l ++ [e] := by
  unfold sofar
  rw [isIn_snoc, h, hl]
  rfl
theorem sofar_then {e0 e : ByteArray × Int} {l : List (ByteArray × Int)} (h : isIn e0.1 l = true) (hr : M.RsE (l ++ [e])) : sofar e0 (l ++ [e]) = sofar e0 l ++ [e] := by
  have hl := rs_last hr h
  have hel : M.ltB e.1 e0.1 = false := by
    cases hx : M.ltB e.1 e0.1
    · rfl
    · have := M.ordB.tra _ _ _ hx hl; rw [M.ordB.irr] at this; cases this
  unfold sofar
  rw [isIn_snoc, h]
  simp only [Bool.true_or, if_true]
  unfold M.putE M.put
  rw [List.filter_append, List.filter_append]
  simp [hel, hl]
theorem putE_drop (es : List (ByteArray × Int)) (e0 : ByteArray × Int) : M.putE (M.dropE es e0.1) e0 = M.putE es e0 := by
  unfold M.putE M.put M.dropE
  rw [List.filter_filter, List.filter_filter]
  have h1 : ∀ y : ByteArray × Int, (M.ltB y.1 e0.1 && !decide (y.1 = e0.1)) = M.ltB y.1 e0.1 := fun y => by
    by_cases h : y.1 = e0.1
    · rw [h, M.ordB.irr]; rfl
    · simp [h]
  have h2 : ∀ y : ByteArray × Int, (M.ltB e0.1 y.1 && !decide (y.1 = e0.1)) = M.ltB e0.1 y.1 := fun y => by
    by_cases h : y.1 = e0.1
    · rw [h, M.ordB.irr]; rfl
    · simp [h]
  simp only [h1, h2]
theorem drop_ne (es : List (ByteArray × Int)) (s : ByteArray) : ∀ e ∈ M.dropE es s, e.1 ≠ s := by
  intro e he
  have := (List.mem_filter.1 he).2
  simpa using this
theorem rs_dropE {es : List (ByteArray × Int)} (s : ByteArray) (h : M.RsE es) : M.RsE (M.dropE es s) := M.rs_sub h (List.filter_sublist.map _)
theorem rs_takeE {es : List (ByteArray × Int)} (k : Nat) (h : M.RsE es) : M.RsE (es.take k) := M.rs_sub h ((List.take_sublist k es).map _)

/-- the entry at hand stays where it is -/
theorem box2_kept {w0 : World} {es : List (ByteArray × Int)} {A : Option Addr} {m c : Nat} {wr w4 : World} {e : ByteArray × Int} {o : Obj} (h : Keep w0 es A m c wr)
    (hg : ((wr.alloc (.cells #[.string e.1, .int .i64 e.2] 50)).alloc o).grownBy w4 (Value.slice A m c).ownBlock) : Box2 w4 wr.heap.size e := by
  have h0 : Box2 (wr.alloc (.cells #[.string e.1, .int .i64 e.2] 50)) wr.heap.size e := Box2.new wr e
  have h1 : Box2 ((wr.alloc (.cells #[.string e.1, .int .i64 e.2] 50)).alloc o) wr.heap.size e := by
    unfold Box2 at h0 ⊢
    rw [Below.heap_alloc _ _ _ (lt_of_block h0)]
    exact h0
  refine h1.grownO hg fun hx => ?_
  have := (h.1.lt wr.heap.size hx.symm).2
  omega

end Go.Proofs.Ytkhifljgocopoad
/-
  THE REFERENCE's Within: all that can be seen from a fid on.
-/
namespace Go.Proofs.Ytkhifljgocopoad
open Go.RowKit
open Go.ChangeMaps (setBlock)

theorem len_le_of_nodup : ∀ {l m : List Int}, l.Nodup → (∀ x ∈ l, x ∈ m) → l.length ≤ m.length
  | [], _, _, _ => Nat.zero_le _
  | x :: l, m, hn, h => by
    rw [List.nodup_cons] at hn
    have hx : x ∈ m := h x List.mem_cons_self
    have ih := len_le_of_nodup (l := l) (m := m.erase x) hn.2 (fun y hy => by
      have hne : y ≠ x := fun e => hn.1 (e ▸ hy)
      exact (List.mem_erase_of_ne hne).2 (h y (List.mem_cons_of_mem _ hy)))
    have := List.length_erase_of_mem hx
    have := List.length_pos_of_mem hx
    rw [List.length_cons]
    omega
/-- the fids of all entries -/
def allF (xs : List M.Nd) : List Int := xs.flatMap fun x => x.ents.map (·.2)
/-- what the search keeps: those had, in turn; k of them are done -/
structure BI (xs : List M.Nd) (a : Int) (H : List Int) (k : Nat) : Prop where
  nd : H.Nodup
  ina : a ∈ H
  re : ∀ q ∈ H, M.Reach xs a q
  cl : ∀ (i : Nat) q x, i < k → H[i]? = some q → M.find xs q = some x → ∀ e ∈ x.ents, e.2 ∈ H
theorem BI.start (xs : List M.Nd) (a : Int) : BI xs a [a] 0 := ⟨by simp, by simp, fun q hq => by rw [List.mem_singleton.1 hq]; exact .refl, fun i q x hi => absurd hi (Nat.not_lt_zero _)⟩
theorem BI.len {xs : List M.Nd} {a : Int} {H : List Int} {k : Nat} (h : BI xs a H k) : H.length ≤ (allF xs).length + 1 := by
  have := len_le_of_nodup (m := a :: allF xs) h.nd (fun q hq => by
    have hr := h.re q hq
    cases hr with
    | refl => exact List.mem_cons_self
    | step _ hf he => exact List.mem_cons_of_mem _ (List.mem_flatMap.2 ⟨_, List.mem_of_find?_eq_some hf, List.mem_map.2 ⟨_, he, rfl⟩⟩))
  simpa using this
theorem BI.done {xs : List M.Nd} {a t : Int} {H : List Int} {k : Nat} (h : BI xs a H k) (hk : H.length ≤ k) : t ∈ H ↔ M.Reach xs a t := by
  refine ⟨h.re t, fun hr => ?_⟩
  induction hr with
  | refl => exact h.ina
  | step _ hf he ih =>
    obtain ⟨i, hi⟩ := List.getElem?_of_mem ih
    have := (List.getElem?_eq_some_iff.1 hi).1
    exact h.cl i _ _ (by omega) hi hf _ he
/-- one entry's fid is met -/
def meetH (H : List Int) (q : Int) : List Int := if q ∈ H then H else H ++ [q]
theorem meetH_pre (H : List Int) (q : Int) : ∃ S, meetH H q = H ++ S := by
  unfold meetH
  split
  · exact ⟨[], by simp⟩
  · exact ⟨[q], rfl⟩
theorem meetH_mem (H : List Int) (q : Int) : q ∈ meetH H q := by unfold meetH; split <;> simp_all
theorem foldH_pre : ∀ (ts : List Int) (H : List Int), ∃ S, ts.foldl meetH H = H ++ S
  | [], H => ⟨[], by simp⟩
  | t :: ts, H => by
    obtain ⟨S, hS⟩ := meetH_pre H t
    obtain ⟨R, hR⟩ := foldH_pre ts (meetH H t)
    exact ⟨S ++ R, by rw [List.foldl_cons, hR, hS, List.append_assoc]⟩
theorem foldH_mem : ∀ (ts : List Int) (H : List Int), ∀ t ∈ ts, t ∈ ts.foldl meetH H
  | [], _, _, h => by cases h
  | t :: ts, H, u, h => by
    rw [List.foldl_cons]
    rcases List.mem_cons.1 h with rfl | h
    · obtain ⟨R, hR⟩ := foldH_pre ts (meetH H u)
      rw [hR]; exact List.mem_append.2 (.inl (meetH_mem H u))
    · exact foldH_mem ts _ u h
theorem foldH_nd : ∀ (ts : List Int) (H : List Int), H.Nodup → (ts.foldl meetH H).Nodup
  | [], _, h => h
  | t :: ts, H, h => by
    rw [List.foldl_cons]
    refine foldH_nd ts _ ?_
    unfold meetH
    split
    · exact h
    · rename_i hn
      rw [List.nodup_append]
      exact ⟨h, by simp, fun x hx y hy e => by rw [List.mem_singleton.1 hy] at e; exact hn (e ▸ hx)⟩
theorem foldH_re {P : Int → Prop} : ∀ (ts : List Int) (H : List Int), (∀ q ∈ H, P q) → (∀ t ∈ ts, P t) → ∀ q ∈ ts.foldl meetH H, P q
  | [], _, h, _ => h
  | t :: ts, H, h, ht => by
    rw [List.foldl_cons]
    refine foldH_re ts _ (fun q hq => ?_) (fun u hu => ht u (List.mem_cons_of_mem _ hu))
    unfold meetH at hq
    split at hq
    · exact h q hq
    · rcases List.mem_append.1 hq with hq | hq
      · exact h q hq
      · rw [List.mem_singleton.1 hq]; exact ht t List.mem_cons_self
/-- one that was ahead is done -/
theorem BI.step {xs : List M.Nd} {a : Int} {H : List Int} {k : Nat} {q : Int} (h : BI xs a H k) (hq : H[k]? = some q) (es : List (ByteArray × Int)) (he : es = ((M.find xs q).map (·.ents)).getD []) (j : Nat) : BI xs a (((es.take j).map (·.2)).foldl meetH H) k ∧ BI xs a ((es.map (·.2)).foldl meetH H) (k + 1) := by
  have key : ∀ ts : List (ByteArray × Int), (∀ e ∈ ts, e ∈ es) → BI xs a ((ts.map (·.2)).foldl meetH H) k := by
    intro ts hts
    obtain ⟨S, hS⟩ := foldH_pre (ts.map (·.2)) H
    have hre : ∀ t ∈ ts.map (·.2), M.Reach xs a t := by
      intro t ht
      obtain ⟨e, he1, rfl⟩ := List.mem_map.1 ht
      have hee := hts e he1
      rw [he] at hee
      cases hf : M.find xs q with
      | none => rw [hf] at hee; cases hee
      | some x => rw [hf] at hee; exact .step (h.re q (List.mem_of_getElem? hq)) hf hee
    refine ⟨foldH_nd _ _ h.nd, by rw [hS]; exact List.mem_append.2 (.inl h.ina), foldH_re _ _ h.re hre, fun i p x hi hp hf e hex => ?_⟩
    have hil : i < H.length := by have := (List.getElem?_eq_some_iff.1 hq).1; omega
    rw [hS] at hp ⊢
    rw [List.getElem?_append_left hil] at hp
    exact List.mem_append.2 (.inl (h.cl i p x hi hp hf e hex))
  refine ⟨key _ (fun e he => List.mem_of_mem_take he), ?_⟩
  have h1 := key es (fun e he => he)
  obtain ⟨S, hS⟩ := foldH_pre (es.map (·.2)) H
  refine ⟨h1.nd, h1.ina, h1.re, fun i p x hi hp hf e hex => ?_⟩
  rcases Nat.lt_or_ge i k with hik | hik
  · exact h1.cl i p x hik hp hf e hex
  · have hik : i = k := by omega
    subst hik
    have hil : i < H.length := (List.getElem?_eq_some_iff.1 hq).1
    rw [hS, List.getElem?_append_left hil, hq] at hp
    cases hp
    rw [hf] at he
    have hex2 : e ∈ es := by rw [he]; exact hex
    exact foldH_mem _ _ _ (List.mem_map.2 ⟨e, hex2, rfl⟩)

/-- the search's memory -/
structure WM (w : World) (bm : Nat) (xs : List M.Nd) (H : List Int) (k g off c : Nat) (wr : World) : Prop where
  bel : Below w.heap.size w wr
  had : IMap wr w.heap.size (hadF H)
  que : Que wr (w.heap.size + 1) g off c (H.drop k)
theorem zero4 (w : World) : (zeroValue 4).run Try.prog w = .ok (.bool false) w := by
  obtain ⟨i, hi, hz, hs, hb⟩ := info_parts info4
  simp [zeroValue, typeInfo, hi, hz]
theorem had_ask {w : World} {b : Nat} {H : List Int} (h : IMap w b (hadF H)) (q : Int) : (Instr.lookup 33 (.map (some b)) (.int .i64 q) false).run Try.prog w = .ok (.bool (decide (q ∈ H))) w := by
  rw [run_lookup_map 33 4 Try.underlying33 (zero4 w) h q false, hadF_ask]
  rfl
theorem had_add {w : World} {b : Nat} {H : List Int} (h : IMap w b (hadF H)) (q : Int) : ∃ o : Obj, (Instr.mapUpdate 33 (.map (some b)) (.int .i64 q) (.bool true)).run Try.prog w = .ok () (setBlock w b o) ∧ IMap (setBlock w b o) b (hadF (H ++ [q])) := by
  obtain ⟨o, h1, h2⟩ := run_update_map 33 4 Try.underlying33 h q (.bool true)
  rw [hadF_add] at h2
  exact ⟨o, h1, h2⟩
theorem had_new (w : World) : IMap (w.alloc (.map #[] 0)) w.heap.size (hadF []) := by
  have h : (fun _ => none : Int → Option Value) = hadF [] := by funext q; simp [hadF]
  rw [← h]
  exact IMap.new w
theorem ents_of {w wr : World} {bm : Nat} {xs : List M.Nd} (h : TMap w bm xs) (hb : Below w.heap.size w wr) (hs : ∀ x ∈ xs, Small x) (q : Int) : ∃ (v : NV) (es : List (ByteArray × Int)), (Instr.lookup 31 (.map (some bm)) (.int .i64 q) false).run Try.prog wr = .ok v.val wr ∧ es = ((M.find xs q).map (·.ents)).getD [] ∧ Ents w v.eA v.en es ∧ v.en * 24 ≤ 140737488355328 := by
  obtain ⟨f, hi, ha⟩ := h
  have hr := run_lookup_map 31 41 Try.underlying31 (zero26 wr) (hi.below (Nat.le_refl _) hb) q false
  rcases ha q with ⟨h1, h2⟩ | ⟨v, x, h1, h2, h3⟩
  · rw [h1] at hr
    exact ⟨NV.zero, [], hr, by rw [h2]; rfl, ⟨rfl, .inl rfl⟩, by simp [NV.zero]⟩
  · rw [h1] at hr
    exact ⟨v, x.ents, hr, by rw [h2]; rfl, h3.2.2.2.2, by rw [h3.2.2.2.2.1]; exact (hs x (List.mem_of_find?_eq_some h2)).2⟩
theorem WM.box {w : World} {bm : Nat} {xs : List M.Nd} {H : List Int} {k g off c : Nat} {wr : World} (h : WM w bm xs H k g off c wr) (o : Obj) : WM w bm xs H k g off c (wr.alloc o) :=
  ⟨h.bel.alloc h.bel.size o, h.had.same (Below.heap_alloc _ _ _ h.had.lt), h.que.alloc o⟩
theorem WM.add {w : World} {bm : Nat} {xs : List M.Nd} {H : List Int} {k g off c : Nat} {wr W : World} {q : Int} {o E : Obj} {g' off' c' : Nat} (h : WM w bm xs H k g off c wr) (hm : IMap (setBlock wr w.heap.size o) w.heap.size (hadF (H ++ [q]))) (hk : k ≤ H.length)
    (hq : Que W (w.heap.size + 1) g' off' c' (H.drop k ++ [q])) (hg : ((setBlock wr w.heap.size o).alloc E).grownBy W (some g)) : WM w bm xs (H ++ [q]) k g' off' c' W := by
  have hgB := h.que.1
  have hlt : w.heap.size < wr.heap.size := h.had.lt
  refine ⟨Below.grown ((setBlock_below h.bel (Nat.le_refl _) o).alloc (by rw [setBlock_size]; omega) E) hg (by simp [setBlock_size]; omega) (fun k hk => by cases hk; omega), hm.same ?_, by rw [List.drop_append_of_le_length hk]; exact hq⟩
  rw [hg.block w.heap.size (by simp [setBlock_size]; omega) (by simp only [ne_eq, Option.some.injEq]; omega), Below.heap_alloc _ _ _ (by rw [setBlock_size]; omega)]
theorem fieldE (v : NV) (w : World) : (Instr.field 41 v.val 3).run Try.prog w = .ok (.slice v.eA v.en v.ec) w := by kernel_rfl

end Go.Proofs.Ytkhifljgocopoad
/-
  THE REFERENCE's Apply: a tree's map as it is counted; what is asked, and answered.
-/
namespace Go.Proofs.Ytkhifljgocopoad
open Go.RowKit

theorem nodup_le {α : Type} [DecidableEq α] : ∀ {l m : List α}, l.Nodup → (∀ a ∈ l, a ∈ m) → l.length ≤ m.length
  | [], _, _, _ => Nat.zero_le _
  | a :: l, m, hn, hs => by
    rw [List.nodup_cons] at hn
    have ha : a ∈ m := hs a List.mem_cons_self
    have h1 : l.length ≤ (m.erase a).length := nodup_le hn.2 fun b hb => by
      rw [List.mem_erase_of_ne (fun e => hn.1 (by rw [← e]; exact hb))]
      exact hs b (List.mem_cons_of_mem _ hb)
    rw [List.length_erase_of_mem ha] at h1
    have := List.length_pos_of_mem ha
    simp only [List.length_cons]
    omega
/-- the keys of entries that hold numbers alone -/
def keyI (e : MapEntry) : Int := match e.key with | .int _ k => k | _ => 0
theorem rs_nodup {xs : List M.Nd} (h : M.RsN xs) : (xs.map (·.fid)).Nodup := List.Pairwise.imp (fun {a b} hab e => by subst e; simp [M.ltI] at hab) h
/-- a map counts as many as the tree has -/
theorem TMap.count {w : World} {bm : Nat} {xs : List M.Nd} (h : TMap w bm xs) (hr : M.RsN xs) : ∃ (es : Array MapEntry) (clock : Nat), w.heap[bm]? = some (.map es clock) ∧ es.size = xs.length := by
  obtain ⟨f, ⟨es, clock, hb, hh, hn, hcl⟩, ha⟩ := h
  refine ⟨es, clock, hb, ?_⟩
  have hk : ∀ e ∈ es.toList, e.key = .int .i64 (keyI e) ∧ f (keyI e) = some e.val := fun e he => by
    obtain ⟨k, h1, h2⟩ := hh.key e he
    have : keyI e = k := by unfold keyI; rw [h1]
    rw [this]; exact ⟨h1, h2⟩
  have hnd : (es.toList.map keyI).Nodup := by
    rw [List.nodup_iff_pairwise_ne, List.pairwise_map]
    refine List.Pairwise.imp_of_mem ?_ hh.one
    intro a b ha2 hb2 hab e
    apply hab
    rw [(hk a ha2).1, (hk b hb2).1, e]
  have h1 : (es.toList.map keyI).length ≤ (xs.map (·.fid)).length := nodup_le hnd fun k hkm => by
    obtain ⟨e, he, rfl⟩ := List.mem_map.1 hkm
    rcases ha (keyI e) with ⟨q1, _⟩ | ⟨v, x, _, q2, _⟩
    · rw [(hk e he).2] at q1; cases q1
    · have := M.find_mem q2
      exact List.mem_map.2 ⟨x, this.1, this.2⟩
  have h2 : (xs.map (·.fid)).length ≤ (es.toList.map keyI).length := nodup_le (rs_nodup hr) fun k hkm => by
    obtain ⟨x, hx, rfl⟩ := List.mem_map.1 hkm
    rcases ha x.fid with ⟨_, q2⟩ | ⟨v, y, q1, _, _⟩
    · exact absurd q2 (by
        intro hf
        unfold M.find at hf
        rw [List.find?_eq_none] at hf
        exact hf x hx (by simp))
    · obtain ⟨e, he, h3, h4⟩ := hh.all _ _ q1
      refine List.mem_map.2 ⟨e, he, ?_⟩
      unfold keyI; rw [h3]
  simp only [List.length_map] at h1 h2
  simp at h1 h2
  omega
/-- a node's map; a map of a tree; a node -/
def IsMp (xs : List M.Nd) : Value → World → Prop := fun v W => ∃ b, v = .map (some b) ∧ TMap W b xs
theorem isMp_below {xs : List M.Nd} {v : Value} {W W' : World} (hb : Below W.heap.size W W') (h : IsMp xs v W) : IsMp xs v W' := by
  obtain ⟨b, e, ht⟩ := h
  exact ⟨b, e, ht.below (Nat.le_refl _) hb⟩
def IsNd (x : M.Nd) : Value → World → Prop := fun v W => ∃ v' : NV, v = v'.val ∧ Cont W v' x
theorem isNd_below {x : M.Nd} {v : Value} {W W' : World} (hb : Below W.heap.size W W') (h : IsNd x v W) : IsNd x v W' := by
  obtain ⟨v', e, hc⟩ := h
  exact ⟨v', e, hc.below (Nat.le_refl _) hb⟩
/-- what the reference's Apply answers -/
def AppliedM (w : World) (spec : Int × List M.Nd) (e : Ending) (w' : World) : Prop :=
  Below w.heap.size w w' ∧ ∃ m, e = .returned (.tuple #[.map m, .int .i64 spec.1]) ∧ ((spec.1 = 0 ∧ ∃ bm, m = some bm ∧ TMap w' bm spec.2) ∨ (spec.1 ≠ 0 ∧ m = none))
theorem AppliedM.no {w w' : World} {s : Int × List M.Nd} {k : Int} (h : s.1 = k) (hk : k ≠ 0) (hb : Below w.heap.size w w') : AppliedM w s (.returned (.tuple #[.map none, .int .i64 k])) w' := by
  subst h; exact ⟨hb, none, rfl, .inr ⟨hk, rfl⟩⟩
theorem AppliedM.yes {w w' : World} {s : Int × List M.Nd} {ys : List M.Nd} {bm : Nat} (h : s = (0, ys)) (ht : TMap w' bm ys) (hb : Below w.heap.size w w') : AppliedM w s (.returned (.tuple #[.map (some bm), .int .i64 0])) w' := by
  subst h; exact ⟨hb, some bm, rfl, .inl ⟨rfl, bm, rfl, ht⟩⟩
/-- an act in a box, and a version -/
def ApW (w : World) (a : AV) (ver : Int) (W : World) : Prop := Below w.heap.size w W ∧ BoxA W w.heap.size a ∧ W.heap[w.heap.size + 1]? = some (.cells #[.int .i64 ver] 3 (0, 0))
theorem apw_start (w : World) (a : AV) (ver : Int) : ∀ W, W = (w.alloc (.cells #[.int .i64 a.kind, .int .i64 a.fid, .int .i64 a.dir, .string a.name, .int .i64 a.to, .string a.toName, .slice a.dA a.dn a.dc] 36)).alloc (.cells #[.int .i64 ver] 3) → ApW w a ver W := by
  rintro W rfl
  refine ⟨((Below.refl _ _).alloc (Nat.le_refl _) _).alloc (by simp) _, (BoxA.new w a).alloc _, ?_⟩
  have := heap_alloc_new (w.alloc (.cells #[.int .i64 a.kind, .int .i64 a.fid, .int .i64 a.dir, .string a.name, .int .i64 a.to, .string a.toName, .slice a.dA a.dn a.dc] 36)) (.cells #[.int .i64 ver] 3)
  simpa using this
theorem ApW.next {w W W' : World} {a : AV} {ver : Int} (h : ApW w a ver W) (hb : Below W.heap.size W W') : ApW w a ver W' := by
  have hz : w.heap.size + 1 < W.heap.size := lt_of_block h.2.2
  exact ⟨h.1.trans (hb.mono h.1.size), h.2.1.below hb (lt_of_block h.2.1), by rw [hb.block _ hz]; exact h.2.2⟩
theorem ApW.ver {w W : World} {a : AV} {ver : Int} (h : ApW w a ver W) : W.cell? ⟨w.heap.size + 1, 0, none⟩ = some (.int .i64 ver) := by simp [World.cell?, h.2.2]
end Go.Proofs.Ytkhifljgocopoad
/-
  WHAT SINGLE OPERATIONS DO, further: an act in a box, a pair's parts (for regions that draw their order).
-/
namespace Go.Proofs.Ytkhifljgocopoad
open Go.RowKit

section
variable {w : World} {d : Option Tmp} {ty : TypeId} {pos : String} {af : Array Edge} {g : Option (Nat × Bool)} {x y : Operand}
theorem run_loadAb {ρ : Operand → Value} {s : Nat} {v : AV} (hx : ρ x = .pointer (some ⟨s, 0, none⟩)) (h : BoxA w s v) : (execOp ρ ⟨d, .load 36 x, ty, pos, af, g⟩).run Try.prog w = .ok (.value v.val) w := by
  obtain ⟨b0, b1, b2, b3, b4, b5, b6, bf, bz⟩ := h.facts
  simp [execOp, hx, go_sem, b0, b1, b2, b3, b4, b5, b6]
theorem run_lenF {ρ : Operand → Value} {A : Option Addr} {n c : Nat} {t : TypeId} (h : Try.prog.underlying t = some (.slice (Try.prog.elem t))) (hx : ρ x = .slice A n c) : (execOp ρ ⟨d, .call { callee := .builtin .len, args := #[x], argTypes := #[t] }, ty, pos, af, g⟩).run Try.prog w = .ok (.value (.int .i64 (n : Int))) w := by
  have hl := run_len_slice (P := Try.prog) (w := w) t ty A n c h
  clear h
  simp [hx, go_sem, hl]
theorem run_ext0 {ρ : Operand → Value} {u v : Value} (hx : ρ x = .tuple #[u, v]) : (execOp ρ ⟨d, .extract x 0, ty, pos, af, g⟩).run Try.prog w = .ok (.value u) w := by
  simp [execOp, hx, go_sem]
theorem run_ext1 {ρ : Operand → Value} {u v : Value} (hx : ρ x = .tuple #[u, v]) : (execOp ρ ⟨d, .extract x 1, ty, pos, af, g⟩).run Try.prog w = .ok (.value v) w := by
  simp [execOp, hx, go_sem]
end
/-- what an act comes to, as a map and an error; the map of it -/
def IsAm (spec : Int × List M.Nd) : Value → World → Prop := fun v W => ∃ m, v = .tuple #[.map m, .int .i64 spec.1] ∧ ((spec.1 = 0 ∧ ∃ bm, m = some bm ∧ TMap W bm spec.2) ∨ (spec.1 ≠ 0 ∧ m = none))
def IsAm0 (spec : Int × List M.Nd) : Value → World → Prop := fun v W => ∃ m, v = .map m ∧ ((spec.1 = 0 ∧ ∃ bm, m = some bm ∧ TMap W bm spec.2) ∨ (spec.1 ≠ 0 ∧ m = none))
theorem am_below {spec : Int × List M.Nd} {m : Option Nat} {W W' : World} (hb : Below W.heap.size W W') (h : (spec.1 = 0 ∧ ∃ bm, m = some bm ∧ TMap W bm spec.2) ∨ (spec.1 ≠ 0 ∧ m = none)) : (spec.1 = 0 ∧ ∃ bm, m = some bm ∧ TMap W' bm spec.2) ∨ (spec.1 ≠ 0 ∧ m = none) :=
  h.imp (fun ⟨h0, bm, e, ht⟩ => ⟨h0, bm, e, ht.below (Nat.le_refl _) hb⟩) id
theorem isAm_below {spec : Int × List M.Nd} {v : Value} {W W' : World} (hb : Below W.heap.size W W') (h : IsAm spec v W) : IsAm spec v W' := by
  obtain ⟨m, e, h⟩ := h
  exact ⟨m, e, am_below hb h⟩
theorem isAm0_below {spec : Int × List M.Nd} {v : Value} {W W' : World} (hb : Below W.heap.size W W') (h : IsAm0 spec v W) : IsAm0 spec v W' := by
  obtain ⟨m, e, h⟩ := h
  exact ⟨m, e, am_below hb h⟩
/-- an act's copy -/
def IsAc (y : M.Act) : Value → World → Prop := fun v W => ∃ av : AV, v = AV.val av ∧ ContA W av y
theorem isAc_below {y : M.Act} {v : Value} {W W' : World} (hb : Below W.heap.size W W') (h : IsAc y v W) : IsAc y v W' := by
  obtain ⟨av, e, h3⟩ := h
  exact ⟨av, e, h3.below (Nat.le_refl _) hb⟩
/-- a list of fids that many -/
def IsFn (n : Nat) : Value → World → Prop := fun v _ => ∃ (A : Option Addr) (c : Nat), v = .slice A n c
theorem bring_nil {xs : List M.Nd} {a : M.Act} {v : Int} (h : (M.bringS xs a v).1 ≠ 0) : (M.bringS xs a v).2 = [] := by
  revert h
  unfold M.bringS
  split
  · intro _; rfl
  · split
    · intro _; rfl
    · split
      · intro _; rfl
      · split
        · intro _; rfl
        · intro h; exact absurd rfl h
theorem store_nil {xs : List M.Nd} {a : M.Act} {v : Int} (h : (M.storeS xs a v).1 ≠ 0) : (M.storeS xs a v).2 = [] := by
  revert h
  unfold M.storeS
  split
  · intro _; rfl
  · split
    · intro _; rfl
    · split
      · intro _; rfl
      · intro h; exact absurd rfl h
theorem remove_nil {xs : List M.Nd} {a : M.Act} {v : Int} (h : (M.removeS xs a v).1 ≠ 0) : (M.removeS xs a v).2 = [] := by
  revert h
  unfold M.removeS
  split
  · intro _; rfl
  · split
    · intro _; rfl
    · split
      · intro _; rfl
      · intro h; exact absurd rfl h
theorem rename_nil {xs : List M.Nd} {a : M.Act} {v : Int} (h : (M.renameS xs a v).1 ≠ 0) : (M.renameS xs a v).2 = [] := by
  revert h
  unfold M.renameS
  split
  · intro _; rfl
  · split
    · intro _; rfl
    · split
      · intro _; rfl
      · split
        · intro _; rfl
        · split
          · intro _; rfl
          · intro h; exact absurd rfl h
theorem apply_nil {xs : List M.Nd} {a : M.Act} {v : Int} (h : (M.applyS xs a v).1 ≠ 0) : (M.applyS xs a v).2 = [] := by
  revert h
  unfold M.applyS
  split
  · exact bring_nil
  · split
    · exact store_nil
    · split
      · exact remove_nil
      · split
        · exact rename_nil
        · intro _; rfl
end Go.Proofs.Ytkhifljgocopoad
/-
  AN ACT IS STORED, cell by cell.
-/
namespace Go.Proofs.Ytkhifljgocopoad
open Go.RowKit

/-- an act is stored, cell by cell; a record -/
abbrev put7 (w : World) (s o : Nat) (a : AV) : World :=
  ((((((w.setCell ⟨s, o, none⟩ (.int .i64 a.kind)).setCell ⟨s, o + 1, none⟩ (.int .i64 a.fid)).setCell ⟨s, o + 2, none⟩ (.int .i64 a.dir)).setCell ⟨s, o + 3, none⟩ (.string a.name)).setCell ⟨s, o + 4, none⟩ (.int .i64 a.to)).setCell ⟨s, o + 5, none⟩ (.string a.toName)).setCell ⟨s, o + 6, none⟩ (.slice a.dA a.dn a.dc)
theorem put7_below {B : Nat} {a w : World} (h : Below B a w) {s : Nat} (hs : B ≤ s) (o : Nat) (v : AV) : Below B a (put7 w s o v) :=
  ((((((h.setCell (by exact hs) _).setCell (by exact hs) _).setCell (by exact hs) _).setCell (by exact hs) _).setCell (by exact hs) _).setCell (by exact hs) _).setCell (by exact hs) _
theorem put7_own {w : World} {B : Nat} {e : TypeId} {k : Nat} {v : Value} {n : Nat} {xs : List Value} (h : w.ownsRow B e k v n xs) {s : Nat} (hs : s < B) (o : Nat) (x : AV) : (put7 w s o x).ownsRow B e k v n xs :=
  ownsRow_setCell_below (ownsRow_setCell_below (ownsRow_setCell_below (ownsRow_setCell_below (ownsRow_setCell_below (ownsRow_setCell_below (ownsRow_setCell_below h (by exact hs) _) (by exact hs) _) (by exact hs) _) (by exact hs) _) (by exact hs) _) (by exact hs) _) (by exact hs) _
theorem boxA_set1 {w : World} {s : Nat} {a : AV} (h : BoxA w s a) (k : Int) : BoxA (w.setCell ⟨s, 1, none⟩ (.int .i64 k)) s ⟨a.kind, k, a.dir, a.name, a.to, a.toName, a.dA, a.dn, a.dc⟩ := by
  unfold BoxA at h ⊢; rw [heap_setCell_same _ _ _ _ _ _ h]; rfl
theorem boxA_set2 {w : World} {s : Nat} {a : AV} (h : BoxA w s a) (k : Int) : BoxA (w.setCell ⟨s, 2, none⟩ (.int .i64 k)) s ⟨a.kind, a.fid, k, a.name, a.to, a.toName, a.dA, a.dn, a.dc⟩ := by
  unfold BoxA at h ⊢; rw [heap_setCell_same _ _ _ _ _ _ h]; rfl
theorem boxA_set4 {w : World} {s : Nat} {a : AV} (h : BoxA w s a) (k : Int) : BoxA (w.setCell ⟨s, 4, none⟩ (.int .i64 k)) s ⟨a.kind, a.fid, a.dir, a.name, k, a.toName, a.dA, a.dn, a.dc⟩ := by
  unfold BoxA at h ⊢; rw [heap_setCell_same _ _ _ _ _ _ h]; rfl
set_option maxHeartbeats 2000000 in
theorem put7_box {w : World} {s : Nat} {v : AV} (h : BoxA w s v) (x : AV) : BoxA (put7 w s 0 x) s x := by
  unfold BoxA at h ⊢
  have e0 := heap_setCell_same w s 0 _ 36 (.int .i64 x.kind) h
  have e1 := heap_setCell_same _ s 1 _ 36 (.int .i64 x.fid) e0
  have e2 := heap_setCell_same _ s 2 _ 36 (.int .i64 x.dir) e1
  have e3 := heap_setCell_same _ s 3 _ 36 (.string x.name) e2
  have e4 := heap_setCell_same _ s 4 _ 36 (.int .i64 x.to) e3
  have e5 := heap_setCell_same _ s 5 _ 36 (.string x.toName) e4
  exact heap_setCell_same _ s 6 _ 36 (.slice x.dA x.dn x.dc) e5
theorem put7_other {w : World} {s t : Nat} (ht : t ≠ s) (o : Nat) (x : AV) : (put7 w s o x).heap[t]? = w.heap[t]? := by
  have h : ∀ (W : World) (k : Nat) (u : Value), (W.setCell ⟨s, k, none⟩ u).heap[t]? = W.heap[t]? := fun W k u => Below.heap_setCell _ _ _ _ (by exact ht)
  simp only [put7, h]
end Go.Proofs.Ytkhifljgocopoad
/-
  PACKAGE cert: an act as it is here.
-/
namespace Go.Proofs.Ytkhifljgocopoad
open Go.RowKit
open Go.ChangeMaps (setBlock)

section
variable {w : World} {d : Option Tmp} {ty : TypeId} {pos : String} {af : Array Edge} {g : Option (Nat × Bool)} {x y : Operand}
theorem run_alloc3 {ρ : Operand → Value} : (execOp ρ ⟨d, .alloc 3, ty, pos, af, g⟩).run Try.prog w = .ok (.value (.pointer (some ⟨w.heap.size, 0, none⟩))) (w.alloc (.cells #[.int .i64 0] 3)) := by
  simp [execOp, go_sem]
theorem run_alloc4 {ρ : Operand → Value} : (execOp ρ ⟨d, .alloc 4, ty, pos, af, g⟩).run Try.prog w = .ok (.value (.pointer (some ⟨w.heap.size, 0, none⟩))) (w.alloc (.cells #[.bool false] 4)) := by
  simp [execOp, go_sem]
end
/-- a new block of one cell -/
def IsB (lo : Nat) (t : TypeId) (u : Value) : Value → World → Prop := fun v W => ∃ g, v = .pointer (some ⟨g, 0, none⟩) ∧ lo ≤ g ∧ W.heap[g]? = some (.cells #[u] t (0, 0))
theorem isB_stays (lo : Nat) (t : TypeId) (u : Value) : Stays (IsB lo t u) := by
  rintro v W W' hb ⟨g, e, hl, h⟩
  exact ⟨g, e, hl, by rw [hb.block g (lt_of_block h)]; exact h⟩
theorem isB_new {lo : Nat} {t : TypeId} {u : Value} {W : World} (h : lo ≤ W.heap.size) : IsB lo t u (.pointer (some ⟨W.heap.size, 0, none⟩)) (W.alloc (.cells #[u] t)) := ⟨W.heap.size, rfl, h, heap_alloc_new W _⟩
def VH (s : Nat) (a : AV) (mk : Bool) (lo : Nat) : Nat → Value → World → Prop
  | 0 => IsU (.pointer (some ⟨s, 1, none⟩))
  | 1 => IsU (.int .i64 a.fid)
  | 2 => IsU a.val
  | 3 => IsU (.bool mk)
  | 4 => IsB lo 3 (.int .i64 0)
  | 5 => IsB lo 4 (.bool false)
  | _ => fun _ _ => True
theorem VH_stays (s : Nat) (a : AV) (mk : Bool) (lo : Nat) : ∀ i, Stays (VH s a mk lo i) := by
  intro i v W W' hb h
  match i, h with
  | 0, h => exact h
  | 1, h => exact h
  | 2, h => exact h
  | 3, h => exact h
  | 4, h => exact isB_stays _ _ _ _ _ _ hb h
  | 5, h => exact isB_stays _ _ _ _ _ _ hb h
  | k + 6, h => trivial
theorem two_end {W : World} {bo bm : Nat} {u v : Value} (ho : W.heap[bo]? = some (.cells #[u] 3 (0, 0))) (hm : W.heap[bm]? = some (.cells #[v] 4 (0, 0))) (x y : Value) :
    ∀ W3, W3 = (W.setCell ⟨bo, 0, none⟩ x).setCell ⟨bm, 0, none⟩ y → W3.heap[bo]? = some (.cells #[x] 3 (0, 0)) ∧ W3.heap[bm]? = some (.cells #[y] 4 (0, 0)) ∧ (∀ B w, Below B w W → B ≤ bo → B ≤ bm → Below B w W3) := by
  rintro W3 rfl
  have hne : bo ≠ bm := by rintro rfl; rw [ho] at hm; cases hm
  refine ⟨?_, ?_, fun B w hb h1 h2 => (hb.setCell (p := ⟨bo, 0, none⟩) h1 _).setCell (p := ⟨bm, 0, none⟩) h2 _⟩
  · rw [Below.heap_setCell _ _ _ _ (by exact hne)]
    exact heap_setCell_same _ _ _ _ _ _ ho
  · have h := heap_setCell_same (W.setCell ⟨bo, 0, none⟩ x) bm 0 #[v] 4 y (by rw [Below.heap_setCell _ _ _ _ (by exact Ne.symm hne)]; exact hm)
    exact h
theorem here_start (w : World) (a : AV) (sb : Nat) : ∀ W, W = ((w.alloc (.cells #[.pointer (some ⟨sb, 0, none⟩)] 51)).alloc (.cells #[.int .i64 a.kind, .int .i64 a.fid, .int .i64 a.dir, .string a.name, .int .i64 a.to, .string a.toName, .slice a.dA a.dn a.dc] 36)).alloc (.cells #[.int .i64 0, .int .i64 0, .int .i64 0, .string ⟨#[]⟩, .int .i64 0, .string ⟨#[]⟩, .slice none 0 0] 36) →
    Below w.heap.size w W ∧ W.heap[w.heap.size]? = some (.cells #[.pointer (some ⟨sb, 0, none⟩)] 51 (0, 0)) ∧ BoxA W (w.heap.size + 1) a ∧ BoxA W (w.heap.size + 2) AV.zero ∧ W.heap.size = w.heap.size + 3 := by
  rintro W rfl
  refine ⟨(((Below.refl _ _).alloc (Nat.le_refl _) _).alloc (by simp) _).alloc (by simp; omega) _, ?_, ?_, ?_, by simp⟩
  · rw [Below.heap_alloc _ _ _ (by simp; omega), Below.heap_alloc _ _ _ (by simp)]
    exact heap_alloc_new w _
  · have := BoxA.new (w.alloc (.cells #[.pointer (some ⟨sb, 0, none⟩)] 51)) a
    rw [World.size_alloc] at this
    exact this.alloc _
  · unfold BoxA
    have := heap_alloc_new ((w.alloc (.cells #[.pointer (some ⟨sb, 0, none⟩)] 51)).alloc (.cells #[.int .i64 a.kind, .int .i64 a.fid, .int .i64 a.dir, .string a.name, .int .i64 a.to, .string a.toName, .slice a.dA a.dn a.dc] 36)) (.cells #[.int .i64 0, .int .i64 0, .int .i64 0, .string ⟨#[]⟩, .int .i64 0, .string ⟨#[]⟩, .slice none 0 0] 36)
    simpa [AV.zero] using this
/-- where here is, behind its closure's variables -/
structure HereI (w W : World) (sb bo bm : Nat) (x : AV) (ac : M.Act) : Prop where
  below : Below w.heap.size w W
  st : W.heap[w.heap.size]? = some (.cells #[.pointer (some ⟨sb, 0, none⟩)] 51 (0, 0))
  box : BoxA W (w.heap.size + 1) x
  res : BoxA W (w.heap.size + 2) AV.zero
  own : W.ownsRow (w.heap.size + 3) 5 1 (.slice x.dA x.dn x.dc) x.dn (ac.data.flatMap byteCells1)
  ho : W.heap[bo]? = some (.cells #[.int .i64 ac.fid] 3 (0, 0))
  hm : W.heap[bm]? = some (.cells #[.bool (M.makeB ac)] 4 (0, 0))
  lo : w.heap.size + 3 ≤ bo ∧ w.heap.size + 3 ≤ bm
theorem HereI.facts {w W : World} {sb bo bm : Nat} {x : AV} {ac : M.Act} (h : HereI w W sb bo bm x ac) : W.cell? ⟨w.heap.size, 0, none⟩ = some (.pointer (some ⟨sb, 0, none⟩)) ∧ W.cell? ⟨bo, 0, none⟩ = some (.int .i64 ac.fid) ∧ W.cell? ⟨bm, 0, none⟩ = some (.bool (M.makeB ac)) :=
  ⟨by simp [World.cell?, h.st], by simp [World.cell?, h.ho], by simp [World.cell?, h.hm]⟩
/-- a cell of the act is written -/
theorem HereI.set {w W : World} {sb bo bm : Nat} {x y : AV} {ac : M.Act} (h : HereI w W sb bo bm x ac) (o : Nat) (u : Value) (hb : BoxA (W.setCell ⟨w.heap.size + 1, o, none⟩ u) (w.heap.size + 1) y) (hy : y.dA = x.dA ∧ y.dn = x.dn ∧ y.dc = x.dc) : HereI w (W.setCell ⟨w.heap.size + 1, o, none⟩ u) sb bo bm y ac := by
  have hh : ∀ q, q ≠ w.heap.size + 1 → (W.setCell ⟨w.heap.size + 1, o, none⟩ u).heap[q]? = W.heap[q]? := fun q hq => Below.heap_setCell _ _ _ _ (by exact hq)
  refine ⟨h.below.setCell (p := ⟨w.heap.size + 1, o, none⟩) (Nat.le_succ _) u, by rw [hh _ (by omega)]; exact h.st, hb, ?_, ?_, by rw [hh _ (by have := h.lo; omega)]; exact h.ho, by rw [hh _ (by have := h.lo; omega)]; exact h.hm, h.lo⟩
  · unfold BoxA; rw [hh _ (by omega)]; exact h.res
  · rw [hy.1, hy.2.1, hy.2.2]
    exact ownsRow_setCell_below h.own (a := ⟨w.heap.size + 1, o, none⟩) (by show w.heap.size + 1 < _; omega) u
theorem HereI.drew {w W : World} {sb bo bm : Nat} {x : AV} {ac : M.Act} (h : HereI w W sb bo bm x ac) : HereI w W.drew sb bo bm x ac := by
  have hd : Below W.heap.size W W.drew := (Below.refl _ _).drew
  exact ⟨h.below.trans (hd.mono h.below.size), h.st, h.box, h.res, own_below h.own hd (Nat.le_refl _), h.ho, h.hm, h.lo⟩

theorem HereI.of {w w2 W : World} {sb bo bm : Nat} {x : AV} {ac : M.Act} (h : Below w.heap.size w w2 ∧ w2.heap[w.heap.size]? = some (.cells #[.pointer (some ⟨sb, 0, none⟩)] 51 (0, 0)) ∧ BoxA w2 (w.heap.size + 1) x ∧ BoxA w2 (w.heap.size + 2) AV.zero ∧ w2.ownsRow (w.heap.size + 3) 5 1 (.slice x.dA x.dn x.dc) x.dn (ac.data.flatMap byteCells1) ∧ w.heap.size + 3 ≤ w2.heap.size)
    (hb : Below w2.heap.size w2 W) (ho : W.heap[bo]? = some (.cells #[.int .i64 ac.fid] 3 (0, 0))) (hm : W.heap[bm]? = some (.cells #[.bool (M.makeB ac)] 4 (0, 0))) (lo : w2.heap.size ≤ bo ∧ w2.heap.size ≤ bm) : HereI w W sb bo bm x ac :=
  ⟨h.1.trans (hb.mono h.1.size), by rw [hb.block _ (lt_of_block h.2.1)]; exact h.2.1, h.2.2.1.below hb (lt_of_block h.2.2.1), h.2.2.2.1.below hb (lt_of_block h.2.2.2.1), own_below h.2.2.2.2.1 hb (Nat.le_refl _), ho, hm, by have := h.2.2.2.2.2; omega⟩

set_option maxRecDepth 8000 in
set_option maxHeartbeats 4000000 in
theorem here_any (s : M.St) (a : AV) (ac : M.Act) (B sb : Nat) (A : Option Addr) (n c : Nat) (us : List NV) (D : Option Addr) (p q : Nat) (avs : List AV) (b1 b2 b3 : Nat) (w : World) (h : StM w B sb s A n c us D p q avs b1 b2 b3) (ha : ContA w a ac) (hs : ac.data.length ≤ 140737488355328) :
    Calls Try.prog 12 #[.pointer (some ⟨sb, 0, none⟩), a.val] w fun e w' => ∃ a' : AV, e = .returned a'.val ∧ OwnA w' w.heap.size a' (M.hereS s ac) ∧ Below w.heap.size w w' := by
  have HS : Hid (StM w B sb s A n c us D p q avs b1 b2 b3 ∧ ContA w a ac) := ⟨h, ha⟩
  have HW : Hid _ := here_start w a sb
  clear h ha
  go_enter Try.func12, Try.ntmps12
  go_wp2_with (fail)
  obtain ⟨q1, q2, q3, q4, q5⟩ := HW.out _ rfl
  refine (ownAct_any a ac _ (HS.out.2.below (Nat.le_refl _) q1) hs).mono ?_
  rintro e w1 ⟨x1, rfl, ho, hb1⟩
  rw [q5] at ho
  obtain ⟨xk, xf, xd, xn, xt, xtn, dA, dn, dc⟩ := x1
  obtain ⟨rfl, rfl, rfl, rfl, rfl, rfl, how⟩ := ho
  have hz1 := hb1.size
  rw [q5] at hz1
  have H1 : Hid (Below w.heap.size w w1 ∧ w1.heap[w.heap.size]? = some (.cells #[.pointer (some ⟨sb, 0, none⟩)] 51 (0, 0)) ∧ BoxA w1 (w.heap.size + 1) a ∧ BoxA w1 (w.heap.size + 2) AV.zero ∧ w1.ownsRow (w.heap.size + 3) 5 1 (.slice dA dn dc) dn (ac.data.flatMap byteCells1)) :=
    ⟨q1.trans (hb1.mono (by omega)), by rw [hb1.block _ (by omega)]; exact q2, q3.below hb1 (by omega), q4.below hb1 (by omega), how⟩
  have hsz : w.heap.size + 3 ≤ w1.heap.size := hz1
  clear q1 q2 q3 q4 q5 hb1 how HW hz1
  obtain ⟨a0, a1, a2, a3, a4, a5, a6, af, az⟩ := H1.out.2.2.1.facts
  go_upto_region 2 with (fail)
  have hE : ∃ W2, W2 = put7 w1 (w.heap.size + 1) 0 ⟨ac.kind, ac.fid, ac.dir, ac.name, ac.to, ac.toName, dA, dn, dc⟩ := ⟨_, rfl⟩
  obtain ⟨w2, hW2⟩ := hE
  have H2 : Hid (Below w.heap.size w w2 ∧ w2.heap[w.heap.size]? = some (.cells #[.pointer (some ⟨sb, 0, none⟩)] 51 (0, 0)) ∧ BoxA w2 (w.heap.size + 1) ⟨ac.kind, ac.fid, ac.dir, ac.name, ac.to, ac.toName, dA, dn, dc⟩ ∧ BoxA w2 (w.heap.size + 2) AV.zero ∧ w2.ownsRow (w.heap.size + 3) 5 1 (.slice dA dn dc) dn (ac.data.flatMap byteCells1) ∧ w.heap.size + 3 ≤ w2.heap.size) := by
    rw [hW2]
    refine ⟨put7_below H1.out.1 (Nat.le_succ _) 0 _, by rw [put7_other (by omega)]; exact H1.out.2.1, put7_box H1.out.2.2.1 _, ?_, put7_own H1.out.2.2.2.2 (by omega) 0 _, by simp [put7]; exact hsz⟩
    unfold BoxA; rw [put7_other (by omega)]; exact H1.out.2.2.2.1
  simp only [put7, Nat.reduceAdd] at hW2
  rw [← hW2]
  clear hW2 H1 a0 a1 a2 a3 a4 a5 a6 af az hsz
  go_cut [5, 6] from 10 to 13 (fun u v W => ∃ bo bm, u = .pointer (some ⟨bo, 0, none⟩) ∧ v = .pointer (some ⟨bm, 0, none⟩) ∧ Hid (HereI w W sb bo bm ⟨ac.kind, ac.fid, ac.dir, ac.name, ac.to, ac.toName, dA, dn, dc⟩ ac))
  case first =>
    have hbd : ∀ W, Below w2.drew.heap.size w2.drew W → Below w2.heap.size w2 W := fun W hb => (Below.refl _ _).drew.trans hb
    refine wp_region_front (VH (w.heap.size + 1) ⟨ac.kind, ac.fid, ac.dir, ac.name, ac.to, ac.toName, dA, dn, dc⟩ (M.makeB ac) w2.heap.size) 6 (by kernel_rfl) (by kernel_rfl) (by kernel_rfl) (VH_stays _ _ _ _) ?_ ?_
    · intro i hi
      match i, hi with
      | 0, _ =>
        refine StepAt.by rfl fun a' W hf hb hd => .inl ⟨want_none, ?_⟩
        exact does_rn (run_fieldA ((hf.keeps 3 (by kernel_rfl)).trans rfl) (by decide)) ⟨Below.refl _ _, rfl⟩
      | 1, _ =>
        refine StepAt.by rfl fun a' W hf hb hd => .inl ⟨want_none, ?_⟩
        exact does_rn (run_load3 (hd 0 (by kernel_rfl)) (H2.out.2.2.1.below (hbd W hb) (lt_of_block H2.out.2.2.1)).facts.2.1) ⟨Below.refl _ _, rfl⟩
      | 2, _ =>
        refine StepAt.by rfl fun a' W hf hb hd => .inl ⟨want_none, ?_⟩
        exact does_rn (run_loadAb ((hf.keeps 3 (by kernel_rfl)).trans rfl) (H2.out.2.2.1.below (hbd W hb) (lt_of_block H2.out.2.2.1))) ⟨Below.refl _ _, rfl⟩
      | 3, _ =>
        refine StepAt.by rfl fun a' W hf hb hd => .inl ⟨want_none, ?_⟩
        refine does_call1 (enters_of Try.func14 (by kernel_rfl) (by kernel_rfl)) (hd 2 (by kernel_rfl)) ((making_any _ W).mono ?_)
        rintro e w' ⟨rfl, hb'⟩
        exact ⟨_, rfl, hb', rfl⟩
      | 4, _ =>
        refine StepAt.by rfl fun a' W hf hb hd => .inl ⟨want_none, ?_⟩
        exact does_rn run_alloc3 ⟨(Below.refl _ _).alloc (Nat.le_refl _) _, isB_new (hbd W hb).size⟩
      | 5, _ =>
        refine StepAt.by rfl fun a' W hf hb hd => .inl ⟨want_none, ?_⟩
        exact does_rn run_alloc4 ⟨(Below.refl _ _).alloc (Nat.le_refl _) _, isB_new (hbd W hb).size⟩
      | k + 6, hi => exact absurd hi (Nat.not_lt.2 (Nat.le_add_left _ _))
    · intro a' W hf hb0 hv
      have e11 : a'.eval (.tmp 11) = .int .i64 ac.fid := hv 1 (by decide)
      have e13 : a'.eval (.tmp 13) = .bool (M.makeB ac) := hv 3 (by decide)
      obtain ⟨bo, e5, lo, ho⟩ := hv 4 (by decide)
      obtain ⟨bm, e6, lm, hm⟩ := hv 5 (by decide)
      have e5' : a'.eval (.tmp 5) = .pointer (some ⟨bo, 0, none⟩) := e5
      have e6' : a'.eval (.tmp 6) = .pointer (some ⟨bm, 0, none⟩) := e6
      have hl := hf.lit (fun t => decide (10 ≤ t) && decide (t ≤ 13) || decide (t = 5) || decide (t = 6)) (by kernel_rfl)
      simp only [overL, Nat.reduceAdd, Nat.reduceLeDiff, Nat.reduceEqDiff, decide_true, decide_false, Bool.and_true, Bool.and_false, Bool.or_true, Bool.or_false] at hl
      rw [hl, e11, e13, e5', e6']
      have HE : Hid _ := two_end ho hm (.int .i64 ac.fid) (.bool (M.makeB ac))
      have HB0 : Hid (Below w2.heap.size w2 W ∧ w2.heap.size ≤ bo ∧ w2.heap.size ≤ bm) := ⟨hb0, lo, lm⟩
      have co : W.cell? ⟨bo, 0, none⟩ = some (.int .i64 0) := by simp [World.cell?, ho]
      have cm : W.cell? ⟨bm, 0, none⟩ = some (.bool false) := by simp [World.cell?, hm]
      have fo : W.frozen? ⟨bo, 0, none⟩ = false := by simp [World.frozen?, ho]
      have fm : W.frozen? ⟨bm, 0, none⟩ = false := by simp [World.frozen?, hm]
      have hne : bo ≠ bm := by rintro rfl; rw [ho] at hm; cases hm
      clear hl hf hb0 hv e11 e13 e5 e6 e5' e6' ho hm
      simp only [List.drop_succ_cons, List.drop_zero]
      go_wp2_with (fail)
      go_meet
      case rel =>
        obtain ⟨e1, e2, e3⟩ := HE.out _ rfl
        exact ⟨bo, bm, rfl, rfl, HereI.of H2.out (e3 _ _ HB0.out.1 HB0.out.2.1 HB0.out.2.2) e1 e2 HB0.out.2⟩
  obtain ⟨bo, bm, rfl, rfl, HI⟩ := hcut
  rename World => w4
  clear H2
  obtain ⟨ks, ko, km⟩ := HI.out.facts
  obtain ⟨a0, a1, a2, a3, a4, a5, a6, af, az⟩ := HI.out.box.facts
  have HST : Hid (StM w4.drew B sb s A n c us D p q avs b1 b2 b3) := (HS.out.1.below (Nat.le_refl _) HI.out.below).below (Nat.le_refl _) ((Below.refl _ _).drew)
  go_upto_region 4 with (fail)
  go_cut [] from 15 to 24 (fun W => Hid (HereI w W sb bo bm ⟨ac.kind, M.turnS s ac ac.fid, M.turnS s ac ac.dir, ac.name, ac.to, ac.toName, dA, dn, dc⟩ ac))
  case first =>
    have HF : Hid (∀ W, W = ((w4.setCell ⟨w.heap.size + 1, 1, none⟩ (.int .i64 (M.turnS s ac ac.fid))).setCell ⟨w.heap.size + 1, 2, none⟩ (.int .i64 (M.turnS s ac ac.dir))).drew → HereI w W sb bo bm ⟨ac.kind, M.turnS s ac ac.fid, M.turnS s ac ac.dir, ac.name, ac.to, ac.toName, dA, dn, dc⟩ ac) := by
      rintro W rfl
      have h1 := HI.out.set 1 _ (boxA_set1 HI.out.box (M.turnS s ac ac.fid)) ⟨rfl, rfl, rfl⟩
      exact (h1.set 2 _ (boxA_set2 h1.box (M.turnS s ac ac.dir)) ⟨rfl, rfl, rfl⟩).drew
    go_region_with (go_at_call 18; refine (turned_any s ac _ B sb bm bo w.heap.size A n c us D p q avs b1 b2 b3 w4.drew HST.out km ko ks).mono ?_; rintro e w5 ⟨rfl, rfl⟩)
    all_goals
      go_wp2_with (fail)
      go_meet
      case rel => exact HF.out _ rfl
  rename World => w5
  have H5 : Hid (HereI w w5 sb bo bm ⟨ac.kind, M.turnS s ac ac.fid, M.turnS s ac ac.dir, ac.name, ac.to, ac.toName, dA, dn, dc⟩ ac) := hcut
  clear hcut HI HST ks ko km a0 a1 a2 a3 a4 a5 a6 af az
  obtain ⟨ks, ko, km⟩ := H5.out.facts
  obtain ⟨a0, a1, a2, a3, a4, a5, a6, af, az⟩ := H5.out.box.facts
  obtain ⟨z0, z1, z2, z3, z4, z5, z6, zf, zz⟩ := H5.out.res.facts
  have HST : Hid (StM w5 B sb s A n c us D p q avs b1 b2 b3) := HS.out.1.below (Nat.le_refl _) H5.out.below
  by_cases h5 : ac.kind = 5
  · have k5 : (ac.kind == 5) = true := by simp [h5]
    have HP : Hid (∀ W, W = put7 (w5.setCell ⟨w.heap.size + 1, 4, none⟩ (.int .i64 (M.turnS s ac ac.to))) (w.heap.size + 2) 0 ⟨ac.kind, M.turnS s ac ac.fid, M.turnS s ac ac.dir, ac.name, M.turnS s ac ac.to, ac.toName, dA, dn, dc⟩ → OwnA W w.heap.size ⟨ac.kind, M.turnS s ac ac.fid, M.turnS s ac ac.dir, ac.name, M.turnS s ac ac.to, ac.toName, dA, dn, dc⟩ (M.hereS s ac) ∧ Below w.heap.size w W) := by
      rintro W rfl
      have h1 := H5.out.set 4 _ (boxA_set4 H5.out.box (M.turnS s ac ac.to)) ⟨rfl, rfl, rfl⟩
      exact ⟨⟨rfl, rfl, rfl, rfl, by unfold M.hereS; rw [if_pos h5], rfl, own_mono (put7_own h1.own (by omega) 0 _) (Nat.le_add_right _ 3)⟩, put7_below h1.below (by omega) 0 _⟩
    clear h5
    go_wp2_with (go_at_call 18; refine (turned_any s ac _ B sb bm bo w.heap.size A n c us D p q avs b1 b2 b3 w5 HST.out km ko ks).mono ?_; rintro e w6 ⟨rfl, hw⟩; rw [hw]; clear hw)
    exact bodyPost_ret (v := AV.val ⟨ac.kind, M.turnS s ac ac.fid, M.turnS s ac ac.dir, ac.name, M.turnS s ac ac.to, ac.toName, dA, dn, dc⟩) (by simp [results, Try.results12, go_sem, z0, z1, z2, z3, z4, z5, z6]) rfl ⟨_, rfl, HP.out _ rfl⟩
  · have k5 : (ac.kind == 5) = false := by simp [h5]
    have HP : Hid (∀ W, W = put7 w5 (w.heap.size + 2) 0 ⟨ac.kind, M.turnS s ac ac.fid, M.turnS s ac ac.dir, ac.name, ac.to, ac.toName, dA, dn, dc⟩ → OwnA W w.heap.size ⟨ac.kind, M.turnS s ac ac.fid, M.turnS s ac ac.dir, ac.name, ac.to, ac.toName, dA, dn, dc⟩ (M.hereS s ac) ∧ Below w.heap.size w W) := by
      rintro W rfl
      exact ⟨⟨rfl, rfl, rfl, rfl, by unfold M.hereS; rw [if_neg h5], rfl, own_mono (put7_own H5.out.own (by omega) 0 _) (Nat.le_add_right _ 3)⟩, put7_below H5.out.below (by omega) 0 _⟩
    clear h5
    go_wp2_with (fail)
    exact bodyPost_ret (v := AV.val ⟨ac.kind, M.turnS s ac ac.fid, M.turnS s ac ac.dir, ac.name, ac.to, ac.toName, dA, dn, dc⟩) (by simp [results, Try.results12, go_sem, z0, z1, z2, z3, z4, z5, z6]) rfl ⟨_, rfl, HP.out _ rfl⟩
end Go.Proofs.Ytkhifljgocopoad
/-
  PACKAGE cert: whether a record may be done.
-/
namespace Go.Proofs.Ytkhifljgocopoad
open Go.RowKit
open Go.ChangeMaps (setBlock)

theorem boxR_new (w : World) (r : RV) (a : AV) : ∀ W, W = (w.alloc (.cells #[.int .i64 r.a.kind, .int .i64 r.a.fid, .int .i64 r.a.dir, .string r.a.name, .int .i64 r.a.to, .string r.a.toName, .slice r.a.dA r.a.dn r.a.dc, .int .i64 r.ver, .int .i64 r.id] 38)).alloc (.cells #[.int .i64 a.kind, .int .i64 a.fid, .int .i64 a.dir, .string a.name, .int .i64 a.to, .string a.toName, .slice a.dA a.dn a.dc] 36) → Below w.heap.size w W ∧ BoxR W w.heap.size r ∧ BoxA W (w.heap.size + 1) a ∧ W.heap.size = w.heap.size + 2 := by
  rintro W rfl
  refine ⟨((Below.refl _ _).alloc (Nat.le_refl _) _).alloc (by simp) _, (BoxR.new w r).alloc _, ?_, by simp⟩
  have h := BoxA.new (w.alloc (.cells #[.int .i64 r.a.kind, .int .i64 r.a.fid, .int .i64 r.a.dir, .string r.a.name, .int .i64 r.a.to, .string r.a.toName, .slice r.a.dA r.a.dn r.a.dc, .int .i64 r.ver, .int .i64 r.id] 38)) a
  rw [World.size_alloc] at h
  exact h
/-- what try answers -/
def TryPost (w : World) (spec : Int × List M.Nd) (e : Ending) (w' : World) : Prop :=
  ∃ (A : Option Addr) (m d : Nat) (us : List NV), e = .returned (.tuple #[.slice A m d, .int .i64 spec.1]) ∧ OwnT w' w.heap.size A m d us spec.2 ∧ Below w.heap.size w w'
theorem TryPost.err {w w' : World} {spec : Int × List M.Nd} {k : Int} (h : spec = (k, [])) (hb : Below w.heap.size w w') : TryPost w spec (.returned (.tuple #[.slice none 0 0, .int .i64 k])) w' := by
  rw [h]
  exact ⟨none, 0, 0, [], rfl, ownT_nil _ _, hb⟩

set_option maxRecDepth 8000 in
set_option maxHeartbeats 4000000 in
theorem try_any (s : M.St) (r : RV) (x : M.Rec) (a : AV) (B sb : Nat) (A : Option Addr) (n c : Nat) (us : List NV) (D : Option Addr) (p q : Nat) (avs : List AV) (b1 b2 b3 : Nat) (w : World) (h : StM w B sb s A n c us D p q avs b1 b2 b3) (hg : Good s.tr) (hr : ContR w r x) (ha : ContA w a (M.hereS s x.act)) (hsa : SmallA (M.hereS s x.act)) :
    Calls Try.prog 13 #[.pointer (some ⟨sb, 0, none⟩), r.val, a.val] w (TryPost w (M.tryS s x)) := by
  have HS : Hid (StM w B sb s A n c us D p q avs b1 b2 b3 ∧ ContR w r x ∧ ContA w a (M.hereS s x.act) ∧ Good s.tr ∧ SmallA (M.hereS s x.act)) := ⟨h, hr, ha, hg, hsa⟩
  have HW : Hid _ := boxR_new w r a
  clear h hr ha hg hsa
  go_enter Try.func13, Try.ntmps13
  go_wp2_with (fail)
  obtain ⟨q1, q2, q3, q4⟩ := HW.out _ rfl
  refine (rests_any s r.a x.act B sb A n c us D p q avs b1 b2 b3 _ (HS.out.1.below (Nat.le_refl _) q1) (HS.out.2.1.1.below (Nat.le_refl _) q1)).mono ?_
  rintro e w1 ⟨rfl, hb1⟩
  have hz1 := hb1.size
  rw [q4] at hz1
  have H1 : Hid (Below w.heap.size w w1 ∧ BoxR w1 w.heap.size r ∧ BoxA w1 (w.heap.size + 1) a) := ⟨q1.trans (hb1.mono (by omega)), q2.below hb1 (by omega), q3.below hb1 (by omega)⟩
  clear q1 q2 q3 q4 hb1 hz1 HW
  cases hrs : M.restS s x.act
  case' true =>
    have HT : Hid (M.tryS s x = (14, [])) := by show _ = _; unfold M.tryS; rw [if_pos hrs]
    clear hrs
    go_wp2_with (fail)
    go_ret2
    exact TryPost.err HT.out H1.out.1
  have HR : Hid (M.restS s x.act = false) := hrs
  clear hrs
  have HFID : Hid (r.a.fid = x.act.fid) := HS.out.2.1.1.2.1
  have HMK : Hid ((decide (a.kind = 1) || decide (a.kind = 2)) = M.makeB x.act) := by show _ = _; rw [HS.out.2.2.1.1]; rfl
  go_upto_region 3 with (fail)
  go_cut [13] from 14 to 23 (fun t W => t = .bool (M.makeB x.act && !M.freshS s x.act.fid) ∧ Hid (Below w.heap.size w W ∧ BoxR W w.heap.size r ∧ BoxA W (w.heap.size + 1) a))
  case first =>
    obtain ⟨r0, r1, r2, r3, r4, r5, r6, r7, r8, rf, rz⟩ := H1.out.2.1.facts
    obtain ⟨a0, a1, a2, a3, a4, a5, a6, af, az⟩ := H1.out.2.2.facts
    go_wp2_with (fail)
    refine (making_any a w1).mono ?_
    rintro e w2 ⟨rfl, hb2⟩
    have H2 : Hid (Below w.heap.size w w2 ∧ BoxR w2 w.heap.size r ∧ BoxA w2 (w.heap.size + 1) a) := ⟨H1.out.1.trans (hb2.mono H1.out.1.size), H1.out.2.1.below hb2 rz, H1.out.2.2.below hb2 az⟩
    rw [HMK.out]
    clear hb2 H1 HMK r0 r1 r2 r3 r4 r5 r6 r7 r8 rf a0 a1 a2 a3 a4 a5 a6 af
    obtain ⟨r0, r1, r2, r3, r4, r5, r6, r7, r8, rf, rz⟩ := H2.out.2.1.facts
    have HST2 : Hid (StM w2 B sb s A n c us D p q avs b1 b2 b3) := HS.out.1.below (Nat.le_refl _) H2.out.1
    cases hmk : M.makeB x.act
    · have HMB : Hid (M.makeB x.act = false) := hmk
      clear hmk
      go_wp2_with (fail)
      go_meet
      case rel => exact ⟨by rw [HMB.out]; rfl, H2.out⟩
    · have HMB : Hid (M.makeB x.act = true) := hmk
      clear hmk
      go_wp2_with (go_at_call 20; refine (fresh_any s _ B sb A n c us D p q avs b1 b2 b3 w2 HST2.out).mono ?_; rintro e w3 ⟨rfl, hw⟩; rw [hw]; clear hw)
      go_meet
      case rel => exact ⟨by rw [HMB.out, HFID.out]; rfl, H2.out⟩
  obtain ⟨rfl, H2⟩ := hcut
  rename World => w2
  clear H1 HMK
  have HF1 : Hid ((M.makeB x.act && !M.freshS s x.act.fid) = true → M.tryS s x = (2, [])) := fun h => by unfold M.tryS; rw [if_neg (by rw [HR.out]; decide), if_pos h]
  have HF2 : Hid ((M.makeB x.act && !M.freshS s x.act.fid) = false → M.tryS s x = if M.staleS s (M.hereS s x.act) x.ver = true then (13, []) else M.applyS s.tr (M.hereS s x.act) s.ver) := fun h => by unfold M.tryS; rw [if_neg (by rw [HR.out]; decide), if_neg (by rw [h]; decide)]
  generalize (M.makeB x.act && !M.freshS s x.act.fid) = kb at HF1 HF2 ⊢
  cases kb
  case' true =>
    go_wp2_with (fail)
    go_ret2
    exact TryPost.err (HF1.out (by simp)) H2.out.1
  have HT : Hid (M.tryS s x = if M.staleS s (M.hereS s x.act) x.ver = true then (13, []) else M.applyS s.tr (M.hereS s x.act) s.ver) := HF2.out (by simp)
  clear HF1 HF2 HR
  obtain ⟨r0, r1, r2, r3, r4, r5, r6, r7, r8, rf, rz⟩ := H2.out.2.1.facts
  obtain ⟨a0, a1, a2, a3, a4, a5, a6, af, az⟩ := H2.out.2.2.facts
  have HST2 : Hid (StM w2 B sb s A n c us D p q avs b1 b2 b3 ∧ ContA w2 a (M.hereS s x.act)) := ⟨HS.out.1.below (Nat.le_refl _) H2.out.1, HS.out.2.2.1.below (Nat.le_refl _) H2.out.1⟩
  go_wp2_with (fail)
  refine (stale_any s a (M.hereS s x.act) r.ver B sb A n c us D p q avs b1 b2 b3 w2 HST2.out.1 HS.out.2.2.2.1 HST2.out.2).mono ?_
  rintro e w3 ⟨rfl, hb3⟩
  rw [HS.out.2.1.2.1]
  have H3 : Hid (Below w.heap.size w w3 ∧ BoxA w3 (w.heap.size + 1) a ∧ StM w3 B sb s A n c us D p q avs b1 b2 b3 ∧ ContA w3 a (M.hereS s x.act)) := ⟨H2.out.1.trans (hb3.mono H2.out.1.size), H2.out.2.2.below hb3 az, HST2.out.1.below (Nat.le_refl _) hb3, HST2.out.2.below (Nat.le_refl _) hb3⟩
  clear hb3 H2 HST2 r0 r1 r2 r3 r4 r5 r6 r7 r8 rf a0 a1 a2 a3 a4 a5 a6 af
  generalize M.staleS s (M.hereS s x.act) x.ver = sb2 at HT ⊢
  cases sb2
  case' true =>
    go_wp2_with (fail)
    go_ret2
    exact TryPost.err (by rw [HT.out]; simp) H3.out.1
  have HT2 : Hid (M.tryS s x = M.applyS s.tr (M.hereS s x.act) s.ver) := by show _ = _; rw [HT.out]; simp
  clear HT
  obtain ⟨f0, f1, f2, f3, f4, f5, f6, ff, fz⟩ := H3.out.2.2.1.facts
  obtain ⟨a0, a1, a2, a3, a4, a5, a6, af, az⟩ := H3.out.2.1.facts
  have hn72 : (n + 2) * 72 ≤ 140737488355328 := by have h1 := H3.out.2.2.1.tree.tree.1.1; have h2 := H3.out.2.2.1.tree.tree.2.1; have h3 := HS.out.2.2.2.1.2.2; omega
  have HD : Hid (Below w3.heap.size w3 w3.drew) := (Below.refl _ _).drew
  go_upto_region 7 with (fail)
  go_region_with (go_at_call 22; refine (apply_any A n c us s.tr a (M.hereS s x.act) s.ver w3.drew (H3.out.2.2.1.tree.tree.below (Nat.le_refl _) HD.out) hn72 HS.out.2.2.2.1.2.1 (H3.out.2.2.2.below (Nat.le_refl _) HD.out) HS.out.2.2.2.2).mono ?_; rintro e w4 ⟨B4, m4, d4, k4, rfl, hap, hb4⟩; have H4 : Hid (TryPost w (M.tryS s x) (.returned (.tuple #[.slice B4 m4 d4, .int .i64 k4])) w4) := (by rw [HT2.out]; obtain ⟨hk, us4, ho⟩ := hap HS.out.2.2.2.1.1; exact ⟨B4, m4, d4, us4, by rw [hk], ho.mono H3.out.1.size, H3.out.1.trans ((HD.out.trans (hb4.mono (Nat.le_refl _))).mono H3.out.1.size)⟩); clear hap hb4)
  all_goals
    go_wp2_with (fail)
    go_ret2
    exact H4.out
end Go.Proofs.Ytkhifljgocopoad
