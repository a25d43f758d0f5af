/- TEXTS LAID TOGETHER: With, Soft, Rlist, Region, Regionb, List -/
import Derived.Test.YtjpdoblmdchmkadPart5
import Derived.Test.YtjpdoblmdchmkadPart6
import Derived.Test.YtjpdoblmdchmkadPart7
import Derived.Deep.Cut
import Derived.Deep.CutRange
/-
  A MAP IS GONE THROUGH; the reference's With and Without.
-/
namespace Go.Proofs.Ytjpdoblmdchmkad
open Go.RowKit
open Go.ChangeMaps (setBlock)

/-- block r goes through the map at bm; all that was there in w0 is there -/
structure It (w0 : World) (r bm : Nat) (es : Array MapEntry) (clock : Nat) (seen : Array Nat) (wr : World) : Prop where
  it : ∃ c0, wr.heap[r]? = some (.mapIter (some bm) clock seen c0) ∧ clock ≤ c0
  at_ : w0.heap[bm]? = some (.map es clock)
  far : w0.heap.size ≤ r
  bel : Below w0.heap.size w0 wr
theorem It.below {w0 : World} {r bm : Nat} {es : Array MapEntry} {clock : Nat} {seen : Array Nat} {wr w' : World} (h : It w0 r bm es clock seen wr) (hb : Below wr.heap.size wr w') : It w0 r bm es clock seen w' := by
  obtain ⟨⟨c0, h1, h2⟩, h3, h4, h5⟩ := h
  exact ⟨⟨c0, by rw [hb.block r (lt_of_block h1)]; exact h1, h2⟩, h3, h4, h5.trans (hb.mono h5.size)⟩
theorem It.set {w0 : World} {r bm : Nat} {es : Array MapEntry} {clock : Nat} {seen : Array Nat} {wr : World} (h : It w0 r bm es clock seen wr) {b : Nat} (hb : w0.heap.size ≤ b) (hne : r ≠ b) (o : Obj) : It w0 r bm es clock seen (setBlock wr b o) := by
  obtain ⟨⟨c0, h1, h2⟩, h3, h4, h5⟩ := h
  exact ⟨⟨c0, by rw [setBlock_other hne]; exact h1, h2⟩, h3, h4, setBlock_below h5 hb o⟩
theorem It.seen {w0 : World} {r bm : Nat} {es : Array MapEntry} {clock : Nat} {seen : Array Nat} {wr : World} (h : It w0 r bm es clock seen wr) : wr.iterSeen r = seen := by
  obtain ⟨⟨c0, h1, _⟩, _⟩ := h
  simp [World.iterSeen, h1]

/-- the worlds behind 'next' -/
theorem It.next {w0 : World} {r bm : Nat} {es : Array MapEntry} {clock : Nat} {seen : Array Nat} {wr : World} (h : It w0 r bm es clock seen wr) (hn : (es.toList.map (·.born)).Nodup) (hc : ∀ e ∈ es.toList, e.born < clock) (ty : TypeId) :
    ((leftOf es seen).size = 0 ∧ (Instr.next (.pointer (some ⟨r, 0, none⟩)) false ty).run Try.prog wr = .ok (.tuple #[.bool false]) wr) ∨
    ∃ e ∈ (leftOf es seen).toList, ∃ W : World, (Instr.next (.pointer (some ⟨r, 0, none⟩)) false ty).run Try.prog wr = .ok (.tuple #[.bool true, e.key, e.val]) W ∧
      (Instr.entry (.pointer (some ⟨r, 0, none⟩))).run Try.prog W = .ok (.tuple #[e.key, e.val]) W ∧ It w0 r bm es clock (seen.push e.born) W ∧ W.heap.size = wr.heap.size ∧ ∀ c : Nat, c ≠ r → W.heap[c]? = wr.heap[c]? := by
  obtain ⟨⟨c0, h1, h2⟩, h3, h4, h5⟩ := h
  have hbm : bm < w0.heap.size := lt_of_block h3
  have hb : wr.heap[bm]? = some (.map es clock) := by rw [h5.block bm hbm]; exact h3
  rcases run_next_at (P := Try.prog) wr ty r bm clock c0 seen es clock h1 hb hc h2 with h | ⟨e, he, w1, hw1, hrun⟩
  · exact .inl h
  · right
    have hr1 : w1.heap[r]? = some (.mapIter (some bm) clock seen c0) := by rcases hw1 with rfl | rfl <;> exact h1
    have hsz : w1.heap.size = wr.heap.size := by rcases hw1 with rfl | rfl <;> rfl
    have hh : ∀ c : Nat, w1.heap[c]? = wr.heap[c]? := by rcases hw1 with rfl | rfl <;> exact fun _ => rfl
    have hb1 : Below w0.heap.size w0 w1 := by rcases hw1 with rfl | rfl; exact h5; exact h5.drew
    have hW : (setBlock w1 r (.mapIter (some bm) clock (seen.push e.born) clock)).heap[r]? = some (.mapIter (some bm) clock (seen.push e.born) clock) := setBlock_at hr1
    refine ⟨e, he, _, hrun, run_entry_at _ r bm clock seen es clock e hW (by rw [setBlock_other (by omega), hh]; exact hb) (mem_left he).1 hn, ⟨⟨clock, hW, Nat.le_refl _⟩, h3, h4, setBlock_below hb1 h4 _⟩, by rw [setBlock_size]; exact hsz, fun c hc => by rw [setBlock_other hc]; exact hh c⟩

/-- of what has been seen, and is asked for, g tells -/
def Seen (p : Int → Bool) (es : Array MapEntry) (seen : Array Nat) (g : Int → Option Value) : Prop :=
  ∀ k v, g k = some v ↔ ∃ e ∈ es.toList, seen.contains e.born = true ∧ e.key = .int .i64 k ∧ e.val = v ∧ p k = true
theorem seen_none (p : Int → Bool) (es : Array MapEntry) : Seen p es #[] (fun _ => none) := by
  intro k v
  constructor
  · intro h; cases h
  · rintro ⟨e, _, h, _⟩; simp at h
theorem key_one {L : List MapEntry} (hp : L.Pairwise fun a b => a.key ≠ b.key) {a b : MapEntry} (ha : a ∈ L) (hb : b ∈ L) (h : a.key = b.key) : a = b := by
  obtain ⟨i, hi, rfl⟩ := List.mem_iff_getElem.1 ha
  obtain ⟨j, hj, rfl⟩ := List.mem_iff_getElem.1 hb
  rw [List.pairwise_iff_getElem] at hp
  rcases Nat.lt_trichotomy i j with h1 | h1 | h1
  · exact absurd h (hp i j hi hj h1)
  · subst h1; rfl
  · exact absurd h.symm (hp j i hj hi h1)
theorem seen_step {p : Int → Bool} {es : Array MapEntry} {seen : Array Nat} {g f : Int → Option Value} {e : MapEntry} {k : Int} (h : Seen p es seen g) (hh : Holds es.toList f) (hn : (es.toList.map (·.born)).Nodup)
    (he : e ∈ es.toList) (hk : e.key = .int .i64 k) (hp : p k = true) : Seen p es (seen.push e.born) (updF g k e.val) := by
  intro q v
  unfold updF
  by_cases hq : q = k
  · rw [if_pos hq]
    subst hq
    constructor
    · intro h1
      injection h1 with h1
      exact ⟨e, he, by rw [contains_push]; simp, hk, h1, hp⟩
    · rintro ⟨x, hx, _, hxk, hxv, _⟩
      have := key_one hh.one hx he (by rw [hxk, hk])
      rw [← hxv, this]
  · rw [if_neg hq, h q v]
    constructor
    · rintro ⟨x, hx, hs, hr⟩
      exact ⟨x, hx, by rw [contains_push, hs]; rfl, hr⟩
    · rintro ⟨x, hx, hs, hxk, hr⟩
      refine ⟨x, hx, ?_, hxk, hr⟩
      rw [contains_push, Bool.or_eq_true] at hs
      rcases hs with hs | hs
      · exact hs
      · have hxe := born_inj hn hx he (by simpa using hs)
        subst hxe
        rw [hk] at hxk
        injection hxk with _ hxk
        exact absurd hxk.symm hq
theorem seen_skip {p : Int → Bool} {es : Array MapEntry} {seen : Array Nat} {g : Int → Option Value} {e : MapEntry} {k : Int} (h : Seen p es seen g) (hn : (es.toList.map (·.born)).Nodup)
    (he : e ∈ es.toList) (hk : e.key = .int .i64 k) (hp : p k = false) : Seen p es (seen.push e.born) g := by
  intro q v
  rw [h q v]
  constructor
  · rintro ⟨x, hx, hs, hr⟩
    exact ⟨x, hx, by rw [contains_push, hs]; rfl, hr⟩
  · rintro ⟨x, hx, hs, hxk, hxv, hpq⟩
    refine ⟨x, hx, ?_, hxk, hxv, hpq⟩
    rw [contains_push, Bool.or_eq_true] at hs
    rcases hs with hs | hs
    · exact hs
    · have hxe := born_inj hn hx he (by simpa using hs)
      subst hxe
      rw [hk] at hxk
      injection hxk with _ hxk
      subst hxk
      rw [hp] at hpq
      cases hpq
theorem seen_end {p : Int → Bool} {es : Array MapEntry} {seen : Array Nat} {g f : Int → Option Value} (h : Seen p es seen g) (hh : Holds es.toList f) (h0 : (leftOf es seen).size = 0) (k : Int) : g k = if p k then f k else none := by
  have hall := all_seen es seen h0
  cases hg : g k with
  | some v =>
    obtain ⟨e, he, _, hk, hv, hp⟩ := (h k v).1 hg
    rw [hp, if_pos rfl]
    obtain ⟨q, hq, hf⟩ := hh.key e he
    rw [hk] at hq
    injection hq with _ hq
    subst hq
    rw [hf, hv]
  | none =>
    cases hp : p k with
    | false => rfl
    | true =>
      rw [if_pos rfl]
      cases hf : f k with
      | none => rfl
      | some v =>
        obtain ⟨e, he, hk, hv⟩ := hh.all k v hf
        have := (h k v).2 ⟨e, he, hall e he, hk, hv, hp⟩
        rw [hg] at this
        cases this

/-- the map's copy, so far -/
def RI (w0 : World) (bm : Nat) (es : Array MapEntry) (clock : Nat) (p : Int → Bool) (seen : Array Nat) (wr : World) : Prop :=
  It w0 (w0.heap.size + 1) bm es clock seen wr ∧ ∃ g, IMap wr w0.heap.size g ∧ Seen p es seen g
theorem RI.start {w0 : World} {bm : Nat} {es : Array MapEntry} {clock : Nat} (p : Int → Bool) (hb : w0.heap[bm]? = some (.map es clock)) : RI w0 bm es clock p #[] ((w0.alloc (.map #[] 0)).alloc (.mapIter (some bm) clock #[] clock)) := by
  have h1 : ((w0.alloc (.map #[] 0)).alloc (.mapIter (some bm) clock #[] clock)).heap[w0.heap.size + 1]? = some (.mapIter (some bm) clock #[] clock) := by
    have := heap_alloc_new (w0.alloc (.map #[] 0)) (.mapIter (some bm) clock #[] clock)
    simpa using this
  refine ⟨⟨⟨clock, h1, Nat.le_refl _⟩, hb, by omega, ((Below.refl _ _).alloc (Nat.le_refl _) _).alloc (by simp) _⟩, fun _ => none, ?_, seen_none p es⟩
  exact (IMap.new w0).below (Nat.le_refl _) ((Below.refl _ _).alloc (Nat.le_refl _) _)
/-- what a round of the copy finds -/
theorem RI.round {w0 : World} {bm : Nat} {es : Array MapEntry} {clock : Nat} {p : Int → Bool} {seen : Array Nat} {wr : World} {f : Int → Option Value} {xs : List M.Nd} (h : RI w0 bm es clock p seen wr) (hh : Holds es.toList f) (hn : (es.toList.map (·.born)).Nodup) (hc : ∀ e ∈ es.toList, e.born < clock) (ha : Agree w0 f xs) (ty : TypeId) :
    ((leftOf es seen).size = 0 ∧ (Instr.next (.pointer (some ⟨w0.heap.size + 1, 0, none⟩)) false ty).run Try.prog wr = .ok (.tuple #[.bool false]) wr) ∨
    ∃ (b : Nat) (v : NV) (k : Int) (W : World), (leftOf es (seen.push b)).size < (leftOf es seen).size ∧ (Instr.next (.pointer (some ⟨w0.heap.size + 1, 0, none⟩)) false ty).run Try.prog wr = .ok (.tuple #[.bool true, .int .i64 k, v.val]) W ∧
      (Instr.entry (.pointer (some ⟨w0.heap.size + 1, 0, none⟩))).run Try.prog W = .ok (.tuple #[.int .i64 k, v.val]) W ∧
      (p k = false → RI w0 bm es clock p (seen.push b) (W.alloc (.cells #[.int .i64 v.fid, .bool v.dir, .slice v.dA v.dn v.dc, .slice v.eA v.en v.ec, .int .i64 v.ver] 41))) ∧
      (p k = true → ∃ o : Obj, (Instr.mapUpdate 31 (.map (some w0.heap.size)) (.int .i64 k) v.val).run Try.prog (W.alloc (.cells #[.int .i64 v.fid, .bool v.dir, .slice v.dA v.dn v.dc, .slice v.eA v.en v.ec, .int .i64 v.ver] 41)) = .ok () (setBlock (W.alloc (.cells #[.int .i64 v.fid, .bool v.dir, .slice v.dA v.dn v.dc, .slice v.eA v.en v.ec, .int .i64 v.ver] 41)) w0.heap.size o) ∧ RI w0 bm es clock p (seen.push b) (setBlock (W.alloc (.cells #[.int .i64 v.fid, .bool v.dir, .slice v.dA v.dn v.dc, .slice v.eA v.en v.ec, .int .i64 v.ver] 41)) w0.heap.size o)) := by
  obtain ⟨hit, g, hg, hs⟩ := h
  rcases hit.next hn hc ty with h1 | ⟨e, he, W, h1, h2, h3, h4, h5⟩
  · exact .inl h1
  · right
    obtain ⟨hem, _⟩ := mem_left he
    obtain ⟨k, hk, hf⟩ := hh.key e hem
    rcases ha k with ⟨h6, _⟩ | ⟨v, x, h6, _, _⟩
    · rw [h6] at hf; cases hf
    · rw [h6] at hf
      injection hf with hf
      have hgW : IMap W w0.heap.size g := hg.same (h5 _ (by omega))
      have hwa : Below W.heap.size W (W.alloc (.cells #[.int .i64 v.fid, .bool v.dir, .slice v.dA v.dn v.dc, .slice v.eA v.en v.ec, .int .i64 v.ver] 41)) := (Below.refl _ _).alloc (Nat.le_refl _) _
      refine ⟨e.born, v, k, W, left_shrinks es seen e he, by rw [h1, hk, hf], by rw [h2, hk, hf], fun hp => ?_, fun hp => ?_⟩
      · exact ⟨h3.below hwa, g, hgW.below (Nat.le_refl _) hwa, seen_skip hs hn hem hk hp⟩
      · obtain ⟨o, hr, hi⟩ := run_update_map 31 41 Try.underlying31 (hgW.below (Nat.le_refl _) hwa) k v.val
        refine ⟨o, hr, (h3.below hwa).set (Nat.le_refl _) (by omega) o, _, hi, ?_⟩
        have := seen_step hs hh hn hem hk hp
        rw [← hf] at this
        exact this

theorem find_putN (xs : List M.Nd) (x : M.Nd) (k : Int) : M.find (M.putN xs x) k = if k = x.fid then some x else M.find xs k := by
  by_cases hk : k = x.fid
  · rw [if_pos hk, hk]; exact findN_put xs x
  · rw [if_neg hk]; exact findN_other xs x k hk

theorem find_dropN (xs : List M.Nd) (t k : Int) : M.find (M.dropN xs t) k = if k = t then none else M.find xs k := by
  by_cases hk : k = t
  · rw [if_pos hk, hk]; exact findN_drop xs t
  · rw [if_neg hk]
    unfold M.find M.dropN
    rw [List.find?_filter]
    congr 1
    funext y
    by_cases hy : y.fid = k
    · simp [hy, hk]
    · simp [hy]

end Go.Proofs.Ytjpdoblmdchmkad
/-
  A REGION THAT DRAWS ITS ORDER, WITH OPERATIONS THAT MAY WRITE INTO WHAT THE REGION ITSELF MADE ('append' onto an 'append'):
  what is said of a value must last only till it is used up.
-/
namespace Go.Proofs.Ytjpdoblmdchmkad
open Go.RowKit

/-- operation i uses what operation j made: it waits for it as for data -/
def usesD (o : Oper) (j : Nat) : Bool := o.after.any fun e => Region.binds .any e && e.on == j && (match e.ground with | .data => true | _ => false)
theorem waits_of_uses {o : Oper} {j : Nat} (h : usesD o j = true) : waits o j = true := by
  unfold usesD at h
  unfold waits
  rw [Array.any_eq_true'] at h ⊢
  obtain ⟨e, he, hb⟩ := h
  simp only [Bool.and_eq_true] at hb
  exact ⟨e, he, by simp only [Bool.and_eq_true]; exact hb.1⟩
/-- whoever comes up as i has u behind it -/
def before (ops : Array Oper) : Nat → Nat → Nat → Bool
  | 0, _, _ => false
  | n + 1, i, u => match ops[i]? with
    | some o => o.after.any fun e => Region.binds .any e && (e.on == u || before ops n e.on u)
    | none => false
theorem before_listed {ops : Array Oper} {listed : Array Bool} (hc : ∀ j o, ops[j]? = some o → listed.getD j true = true → ∀ i, waits o i = true → listed.getD i true = true) :
    ∀ (n i u : Nat), (∀ o, ops[i]? = some o → ∀ j, waits o j = true → listed.getD j true = true) → before ops n i u = true → listed.getD u true = true
  | 0, _, _, _, h => by cases h
  | n + 1, i, u, hw, h => by
    unfold before at h
    cases ho : ops[i]? with
    | none => rw [ho] at h; cases h
    | some o =>
      rw [ho] at h
      obtain ⟨e, he, hb⟩ := Array.any_eq_true'.1 h
      simp only [Bool.and_eq_true, Bool.or_eq_true, beq_iff_eq] at hb
      have hwe : waits o e.on = true := by
        unfold waits
        rw [Array.any_eq_true']
        exact ⟨e, he, by simp [hb.1]⟩
      have hl := hw o ho e.on hwe
      rcases hb.2 with h1 | h1
      · rw [← h1]; exact hl
      · exact before_listed hc n e.on u (fun o' ho' j hj => hc e.on o' ho' hl j hj) h1

/-- some operation that is not yet listed uses j, or none ever does -/
def Live (ops : Array Oper) (listed : Array Bool) (j : Nat) : Prop :=
  (∃ (u : Nat) (o : Oper), ops[u]? = some o ∧ usesD o j = true ∧ listed.getD u true = false) ∨ ∀ (u : Nat) (o : Oper), ops[u]? = some o → usesD o j = false
/-- when i has come up, what j made may still be used -/
def mustKeep (ops : Array Oper) (i j : Nat) : Bool :=
  !(((List.range ops.size).any fun u => match ops[u]? with | some o => usesD o j | none => false) && (List.range ops.size).all fun u => match ops[u]? with | some o => !usesD o j || u == i || before ops ops.size i u | none => true) && !before ops ops.size j i

def SoftAt (P : Program) (ops : Array Oper) (Q : Exit → Act → World → Prop) (a0 : Act) (w0 : World) (V : Nat → Value → World → Prop) (i : Nat) : Prop :=
  ∀ o, ops[i]? = some o → ∀ a w, FramedAt ops i a0 a → Below w0.heap.size w0 w → (∀ j, usesD o j = true → V j (a.eval (.tmp (slotAt ops j))) w) →
    ∀ K : Act → World → Prop, Hid (∀ v w', Below w0.heap.size w w' → (∀ j, j ≠ i → mustKeep ops i j = true → ∀ u, V j u w → V j u w') → V i v w' → K (a.put o.dst v) w') →
      if Region.wanted o (yielded ops a.tmps) = true then Oper.wp P o a w K Q else K (a.put o.dst undef) w

theorem wpAny_soft {P : Program} {ops : Array Oper} {Q : Exit → Act → World → Prop} {a0 : Act} {w0 : World} {V : Nat → Value → World → Prop} (ht : tidy ops a0.tmps.size = true) (steps : ∀ i, i < ops.size → SoftAt P ops Q a0 w0 V i)
    (last : ∀ a w, Framed ops a0 a → Below w0.heap.size w0 w → (∀ j, j < ops.size → (∀ (u : Nat) (o : Oper), ops[u]? = some o → usesD o j = false) → V j (a.eval (.tmp (slotAt ops j))) w) → Q .normal a w) :
    ∀ (fuel : Nat) (listed : Array Bool) (a : Act) (w : World), listed.size = ops.size → unlisted listed ≤ fuel → FramedBy ops listed a0 a → Below w0.heap.size w0 w →
      (∀ j, j < ops.size → listed.getD j true = true → Live ops listed j → V j (a.eval (.tmp (slotAt ops j))) w) → wpAny P .any ops Q fuel listed a w := by
  have hdone : ∀ (listed : Array Bool), listed.size = ops.size → Region.ready .any ops listed = [] → ∀ j, j < ops.size → listed.getD j true = true := by
    intro listed hsz hr j
    induction j using Nat.strongRecOn with
    | ind j ih =>
      intro hj
      cases hb : listed.getD j true with
      | true => rfl
      | false =>
        have ho : ops[j]? = some ops[j] := Array.getElem?_eq_getElem hj
        have hm : j ∈ Region.ready .any ops listed := by
          rw [mem_ready]
          refine ⟨hb, _, ho, fun e he _ => ?_⟩
          have hlt := (tidy_at ht ho).1 e he
          have h1 := ih e.on hlt (by omega)
          have h2 : e.on < listed.size := by omega
          simp only [Array.getD_eq_getD_getElem?, Array.getElem?_eq_getElem h2, Option.getD_some] at h1 ⊢
          exact h1
        rw [hr] at hm
        cases hm
  intro fuel
  induction fuel with
  | zero =>
    intro listed a w hsz hu hf hb hV
    have hall : ∀ j, listed.getD j true = true := by
      intro j
      have h0 : listed.toList.filter (fun b => !b) = [] := List.eq_nil_of_length_eq_zero (by simpa [unlisted] using hu)
      rw [List.filter_eq_nil_iff] at h0
      rcases Nat.lt_or_ge j listed.size with h | h
      · have := h0 listed[j] (by simp)
        simp [h] at this ⊢
        exact this
      · simp [h]
    refine ⟨?_, last a w hf.all hb fun j hj hno => hV j hj (hall j) (.inr hno)⟩
    unfold Region.ready
    rw [List.filter_eq_nil_iff]
    intro j _
    rw [hall j]
    simp
  | succ fuel ih =>
    intro listed a w hsz hu hf hb hV
    refine ⟨fun hr => last a w hf.all hb fun j hj hno => hV j hj (hdone listed hsz hr j hj) (.inr hno), fun i hi => ?_⟩
    obtain ⟨hun, o, ho, hall⟩ := mem_ready.1 hi
    have hilt : i < ops.size := (Array.getElem?_eq_some_iff.1 ho).1
    obtain ⟨hback, d, hd, hdlt, hslot, _⟩ := tidy_at ht ho
    refine wpOp_step ho fun K' hK => ?_
    have hlw : ∀ j, waits o j = true → listed.getD j true = true := by
      intro j hj
      obtain ⟨e, he, hbe⟩ := Array.any_eq_true'.1 hj
      simp only [Bool.and_eq_true, beq_iff_eq] at hbe
      have h1 := hall e he hbe.1
      have h2 := hback e he
      rw [← hbe.2]
      have h3 : e.on < listed.size := by omega
      simp only [Array.getD_eq_getD_getElem?, Array.getElem?_eq_getElem h3, Option.getD_some] at h1 ⊢
      exact h1
    have hjlt : ∀ j, waits o j = true → j < ops.size := by
      intro j hj
      obtain ⟨e, he, hbe⟩ := Array.any_eq_true'.1 hj
      simp only [Bool.and_eq_true, beq_iff_eq] at hbe
      have h2 := hback e he
      omega
    refine steps i hilt o ho a w (hf.at_ hun) hb (fun j hj => hV j (hjlt j (waits_of_uses hj)) (hlw j (waits_of_uses hj)) (.inl ⟨i, o, ho, hj, hun⟩)) K' ?_
    intro v w' hw0 hkeep hv
    refine hK _ _ (ih _ _ _ (by simp [hsz]) (by have := unlisted_set hun; omega) (hf.put ho hsz hlw v) (hb.trans hw0) fun j hj hl hlive => ?_)
    by_cases hji : j = i
    · subst hji
      have : (a.put o.dst v).eval (.tmp (slotAt ops j)) = v := by
        rw [hslot, hd]
        have hlt : d < a.tmps.size := by rw [hf.size]; exact hdlt
        simp [Act.eval, Act.put, hlt]
      rw [this]
      exact hv
    · have hoj : ops[j]? = some ops[j] := Array.getElem?_eq_getElem hj
      have hne := tidy_ne ht hoj ho hji
      rw [Act.eval_put (by intro d' hd' e; injection e with e; rw [hd] at hd'; injection hd' with hd'; rw [hslot] at hne; exact hne (e.trans hd'.symm))]
      rw [getD_set_ne true (Ne.symm hji)] at hl
      have hlive0 : Live ops listed j := by
        rcases hlive with ⟨u, ou, hou, hus, hnl⟩ | h
        · refine .inl ⟨u, ou, hou, hus, ?_⟩
          by_cases hui : u = i
          · subst hui; exact hun
          · rw [getD_set_ne true (Ne.symm hui)] at hnl; exact hnl
        · exact .inr h
      have hVj := hV j hj hl hlive0
      refine hkeep j hji ?_ _ hVj
      cases hmk : mustKeep ops i j with
      | true => rfl
      | false =>
        unfold mustKeep at hmk
        exfalso
        rw [Bool.and_eq_false_iff] at hmk
        rcases hmk with hmk | hmk
        case inr =>
          simp only [Bool.not_eq_false'] at hmk
          have := before_listed hf.closed ops.size j i (fun o' ho' q hq => hf.closed j o' ho' hl q hq) hmk
          rw [this] at hun
          cases hun
        simp only [Bool.not_eq_false', Bool.and_eq_true] at hmk
        obtain ⟨h2, h3⟩ := hmk
        rcases hlive with ⟨u, ou, hou, hus, hnl⟩ | hno
        · rw [List.all_eq_true] at h3
          have h4 := h3 u (List.mem_range.2 (Array.getElem?_eq_some_iff.1 hou).1)
          simp only [hou, hus, Bool.not_true, Bool.false_or, Bool.or_eq_true, beq_iff_eq] at h4
          rcases h4 with h4 | h4
          · subst h4
            have hlt : u < listed.size := by omega
            simp [hlt] at hnl
          · have hl2 := before_listed hf.closed ops.size i u (fun o' ho' q hq => by rw [ho] at ho'; injection ho' with ho'; subst ho'; exact hlw q hq) h4
            by_cases hui : u = i
            · subst hui; rw [hl2] at hun; cases hun
            · rw [getD_set_ne true (Ne.symm hui), hl2] at hnl; cases hnl
        · rw [List.any_eq_true] at h2
          obtain ⟨u, hu2, h5⟩ := h2
          cases hou : ops[u]? with
          | none => rw [hou] at h5; cases h5
          | some ou => rw [hou] at h5; simp only [hno u ou hou] at h5; cases h5

/-- THE RULE. -/
theorem wp_region_soft {P : Program} {ops : Array Oper} {Q : Exit → Act → World → Prop} {a0 : Act} {w0 : World} (V : Nat → Value → World → Prop) {id : Nat} (hm : P.follows .mixedOrders = true)
    (ht : tidy ops a0.tmps.size = true) (steps : ∀ i, i < ops.size → SoftAt P ops Q a0 w0.drew V i)
    (last : ∀ a w, Framed ops a0 a → Below w0.heap.size w0 w → (∀ j, j < ops.size → (∀ (u : Nat) (o : Oper), ops[u]? = some o → usesD o j = false) → V j (a.eval (.tmp (slotAt ops j))) w) → Q .normal a w) :
    (Code.region id ops true).wp P Q a0 w0 := by
  refine wp_region_any hm ?_
  refine wpAny_soft (w0 := w0.drew) ht steps (fun a w hf hb hv => last a w hf ((Below.refl _ _).drew.trans hb) hv) _ _ _ _ (by simp) ?_ ?_ (Below.refl _ _) ?_
  · simp [unlisted]
  · refine ⟨rfl, rfl, fun _ _ => rfl, fun j o hj hl => ?_⟩
    have hlt := (Array.getElem?_eq_some_iff.1 hj).1
    simp [hlt] at hl
  · intro j hj hl
    simp [hj] at hl

theorem SoftAt.by {P : Program} {ops : Array Oper} {Q : Exit → Act → World → Prop} {a0 : Act} {w0 : World} {V : Nat → Value → World → Prop} {i : Nat} {o : Oper} (ho : ops[i]? = some o)
    (h : ∀ a w, FramedAt ops i a0 a → Below w0.heap.size w0 w → (∀ j, usesD o j = true → V j (a.eval (.tmp (slotAt ops j))) w) →
      (Region.wanted o (yielded ops a.tmps) = true ∧ Does P o a w (fun v w' => Below w0.heap.size w w' ∧ (∀ j, j ≠ i → mustKeep ops i j = true → ∀ u, V j u w → V j u w') ∧ V i v w')) ∨ (Region.wanted o (yielded ops a.tmps) = false ∧ V i undef w)) : SoftAt P ops Q a0 w0 V i := by
  intro o' ho' a w hf hb hd K hK
  have e : o = o' := Option.some.inj (ho.symm.trans ho')
  subst e
  rcases h a w hf hb hd with ⟨hw, hr⟩ | ⟨hw, hv⟩
  · rw [if_pos hw]
    unfold Oper.wp
    rcases hr with ⟨v, w', hr, hb', hk', hv⟩ | ⟨f, args, w', hr, hc⟩
    · rw [hr]
      exact hK.out v w' hb' hk' hv
    · rw [hr]
      refine Calls.mono hc ?_
      rintro e w'' ⟨r, rfl, hb', hk', hv⟩
      exact hK.out r w'' hb' hk' hv
  · rw [hw]
    exact hK.out undef w (Below.refl _ _) (fun _ _ _ _ h => h) hv
end Go.Proofs.Ytjpdoblmdchmkad
/-
  FOR THE REFERENCE's List: operations on rows of nodes in a region that draws; the frame behind a region, written out; rising lists.
-/
namespace Go.Proofs.Ytjpdoblmdchmkad
open Go.RowKit

section
variable {ρ : Operand → Value} {w : World} {d : Option Tmp} {ty : TypeId} {pos : String} {af : Array Edge} {g : Option (Nat × Bool)}
theorem run_build0 : (execOp ρ ⟨d, .buildSlice 22 0 #[], ty, pos, af, g⟩).run Try.prog w = .ok (.value (.slice (some ⟨w.heap.size, 0, none⟩) 0 0)) (w.alloc (.cells #[] 41)) := by
  simp [execOp, go_sem]
theorem run_build1 {x : Operand} {v : NV} (hx : ρ x = v.val) : (execOp ρ ⟨d, .buildSlice 22 1 #[(0, x)], ty, pos, af, g⟩).run Try.prog w = .ok (.value (.slice (some ⟨w.heap.size, 0, none⟩) 1 1)) (w.alloc (.cells #[.int .i64 v.fid, .bool v.dir, .slice v.dA v.dn v.dc, .slice v.eA v.en v.ec, .int .i64 v.ver] 41)) := by
  simp [execOp, go_sem, hx]
theorem run_front {x y : Operand} {a : Addr} {m c k : Nat} (hx : ρ x = .slice (some a) m c) (hy : ρ y = .int .i64 (k : Int)) (hk : k ≤ c) : (execOp ρ ⟨d, .slice 22 x none (some y) none, ty, pos, af, g⟩).run Try.prog w = .ok (.value (.slice (some a) k c)) w := by
  simp [execOp, go_sem, hx, hy, hk]
theorem run_front_nil {x y : Operand} (hx : ρ x = .slice none 0 0) (hy : ρ y = .int .i64 ((0 : Nat) : Int)) : (execOp ρ ⟨d, .slice 22 x none (some y) none, ty, pos, af, g⟩).run Try.prog w = .ok (.value (.slice none 0 0)) w := by
  simp [execOp, go_sem, hx, hy]
theorem run_back {x y : Operand} {a : Addr} {m c k : Nat} (hx : ρ x = .slice (some a) m c) (hy : ρ y = .int .i64 (k : Int)) (hk : k ≤ m) : (execOp ρ ⟨d, .slice 22 x (some y) none none, ty, pos, af, g⟩).run Try.prog w = .ok (.value (.slice (some (if c = k then a else a.add (k * 5))) (m - k) (c - k))) w := by
  simp [execOp, go_sem, hx, hy, hk]
  split <;> rfl
theorem run_back_nil {x y : Operand} (hx : ρ x = .slice none 0 0) (hy : ρ y = .int .i64 ((0 : Nat) : Int)) : (execOp ρ ⟨d, .slice 22 x (some y) none none, ty, pos, af, g⟩).run Try.prog w = .ok (.value (.slice none 0 0)) w := by
  simp [execOp, go_sem, hx, hy]
theorem run_append26 {B : Nat} {x y : Operand} {v : Value} {n : Nat} {us : List NV} (hx : ρ x = v) (hown : w.ownsRow B 41 5 v n (us.flatMap NV.cells)) {A : Option Addr} {m c : Nat} {vs : List NV} (hy : ρ y = .slice A m c) (hrow : Nodes w A m vs)
    (hnm : (n + m) * 72 ≤ 140737488355328) (hB : B ≤ w.heap.size) :
    ∃ v' w', (execOp ρ ⟨d, .call { callee := .builtin .append, args := #[x, y], argTypes := #[22, 22] }, ty, pos, af, g⟩).run Try.prog w = .ok (.value v') w' ∧ w'.ownsRow B 41 5 v' (n + m) ((us ++ vs).flatMap NV.cells) ∧ w.grownBy w' v.ownBlock := by
  obtain ⟨i26, hi26, hz26, hs26, hb26⟩ := info_parts info26
  obtain ⟨v', w', hr, h2, h3⟩ := run_append_row (P := Try.prog) w B 22 ty 41 i26 _ 72 Try.underlying22 hi26 hz26 hs26 hb26 rfl (by decide) v n _ hown A m c vs hrow nod_len nod_one (by unfold maxLen; omega) hnm hB
  refine ⟨v', w', ?_, by rw [List.flatMap_append]; exact h2, h3⟩
  simp only [execOp, resolve, invoke, builtin, Sem.run_bind, Sem.run_pure, Result.andThen_ok, List.map_toArray, List.map_cons, List.map_nil, hx, hy, hr]
end

theorem row_take {w : World} {A : Option Addr} {n : Nat} {vs : List NV} (h : Nodes w A n vs) (k : Nat) (hk : k ≤ n) : Nodes w A k (vs.take k) := by
  obtain ⟨hn, h⟩ := h
  refine ⟨by rw [List.length_take]; omega, ?_⟩
  rcases h with h | ⟨b, o, e, hlt, hc⟩
  · left; rw [h]; simp
  · refine .inr ⟨b, o, e, hlt, fun j v hv => hc j v ?_⟩
    rw [List.getElem?_take] at hv
    split at hv
    · exact hv
    · cases hv

end Go.Proofs.Ytjpdoblmdchmkad
/-
  THE LAST REGION OF THE REFERENCE's List: a node is put into its place by three appends, in whatever order the region goes.
-/
namespace Go.Proofs.Ytjpdoblmdchmkad
open Go.RowKit

def ops8 : Array Oper := #[
  ⟨some 29, .buildSlice 22 0 #[], 22, "ref.go:87", #[], none⟩,
  ⟨some 30, .move (.tmp 3), 22, "ref.go:87", #[], none⟩,
  ⟨some 31, .move (.tmp 6), 3, "ref.go:87", #[], none⟩,
  ⟨some 32, .slice 22 (.tmp 30) none (some (.tmp 31)) none, 22, "ref.go:87", #[⟨1, .data⟩, ⟨2, .data⟩], none⟩,
  ⟨some 33, .call { callee := .builtin .append, args := #[.tmp 29, .tmp 32], argTypes := #[22, 22] }, 22, "ref.go:87", #[⟨0, .data⟩, ⟨3, .data⟩], none⟩,
  ⟨some 34, .load 41 (.tmp 5), 41, "ref.go:87", #[], none⟩,
  ⟨some 35, .buildSlice 22 1 #[(0, .tmp 34)], 22, "ref.go:87", #[⟨5, .data⟩], none⟩,
  ⟨some 36, .call { callee := .builtin .append, args := #[.tmp 33, .tmp 35], argTypes := #[22, 22] }, 22, "ref.go:87", #[⟨4, .data⟩, ⟨6, .data⟩, ⟨4, .chain⟩], none⟩,
  ⟨some 37, .move (.tmp 3), 22, "ref.go:87", #[], none⟩,
  ⟨some 38, .move (.tmp 6), 3, "ref.go:87", #[], none⟩,
  ⟨some 39, .slice 22 (.tmp 37) (some (.tmp 38)) none none, 22, "ref.go:87", #[⟨8, .data⟩, ⟨9, .data⟩], none⟩,
  ⟨some 40, .call { callee := .builtin .append, args := #[.tmp 36, .tmp 39], argTypes := #[22, 22] }, 22, "ref.go:87", #[⟨7, .data⟩, ⟨10, .data⟩, ⟨7, .chain⟩], none⟩,
  ⟨some 3, .assign (.tmp 40), 22, "ref.go:87", #[⟨11, .data⟩, ⟨11, .chain⟩, ⟨0, .phase⟩, ⟨1, .phase⟩, ⟨2, .phase⟩, ⟨3, .phase⟩, ⟨4, .phase⟩, ⟨5, .phase⟩, ⟨6, .phase⟩, ⟨7, .phase⟩, ⟨8, .phase⟩, ⟨9, .phase⟩, ⟨10, .phase⟩, ⟨11, .phase⟩], none⟩]

/-- what a value is -/
def IsV (c : Value) : Value → World → Prop := fun v _ => v = c
def OldRow (w0 : World) (L : List NV) : Value → World → Prop := fun v w => ∃ A n c, v = .slice A n c ∧ Nodes w0 A n L ∧ Below w0.heap.size w0 w
def NoRoom (w0 : World) : Value → World → Prop := fun v w => ∃ s, v = .slice (some ⟨s, 0, none⟩) 0 0 ∧ w.heap[s]? = some (.cells #[] 41 (0, 0)) ∧ w0.heap.size ≤ s
def OneRow (ve : NV) : Value → World → Prop := fun v w => ∃ s, v = .slice (some ⟨s, 0, none⟩) 1 1 ∧ Box w s ve
def OwnRow (w0 : World) (L : List NV) : Value → World → Prop := fun v w => w.ownsRow w0.heap.size 41 5 v L.length (L.flatMap NV.cells)
def V8 (w0 : World) (A : Option Addr) (m c j : Nat) (us : List NV) (ve : NV) : Nat → Value → World → Prop
  | 0 => NoRoom w0
  | 1 => IsV (.slice A m c)
  | 2 => IsV (.int .i64 (j : Int))
  | 3 => OldRow w0 (us.take j)
  | 4 => OwnRow w0 (us.take j)
  | 5 => IsV ve.val
  | 6 => OneRow ve
  | 7 => OwnRow w0 (us.take j ++ [ve])
  | 8 => IsV (.slice A m c)
  | 9 => IsV (.int .i64 (j : Int))
  | 10 => OldRow w0 (us.drop j)
  | 11 => OwnRow w0 (us.take j ++ [ve] ++ us.drop j)
  | 12 => OwnRow w0 (us.take j ++ [ve] ++ us.drop j)
  | _ => fun _ _ => True

theorem tidy8 : tidy ops8 42 = true := by kernel_rfl
theorem v8_stays (w0 : World) (A : Option Addr) (m c j : Nat) (us : List NV) (ve : NV) : ∀ i v w w', Below w.heap.size w w' → V8 w0 A m c j us ve i v w → V8 w0 A m c j us ve i v w' := by
  have ho : ∀ L v w w', Below w.heap.size w w' → OwnRow w0 L v w → OwnRow w0 L v w' := fun L v w w' hb h => own_below h hb (Nat.le_refl _)
  have hd : ∀ L v w w', Below w.heap.size w w' → OldRow w0 L v w → OldRow w0 L v w' := fun L v w w' hb ⟨A, n, c, h1, h2, h3⟩ => ⟨A, n, c, h1, h2, h3.trans (hb.mono h3.size)⟩
  intro i v w w' hb h
  match i with
  | 0 => obtain ⟨s, h1, h2, h3⟩ := h; exact ⟨s, h1, by rw [hb.block s (lt_of_block h2)]; exact h2, h3⟩
  | 1 | 2 | 5 | 8 | 9 => exact h
  | 3 | 10 => exact hd _ _ _ _ hb h
  | 4 | 7 | 11 | 12 => exact ho _ _ _ _ hb h
  | 6 => obtain ⟨s, h1, h2⟩ := h; exact ⟨s, h1, h2.below hb (lt_of_block h2)⟩
  | _ + 13 => exact h
end Go.Proofs.Ytjpdoblmdchmkad
/-
  THE LAST REGION OF THE REFERENCE's List, whatever order it draws.
-/
namespace Go.Proofs.Ytjpdoblmdchmkad
open Go.RowKit

theorem noRoom_own {w0 w : World} {s : Nat} (h : w.heap[s]? = some (.cells #[] 41 (0, 0))) (hs : w0.heap.size ≤ s) : w.ownsRow w0.heap.size 41 5 (.slice (some ⟨s, 0, none⟩) 0 0) 0 (([] : List NV).flatMap NV.cells) :=
  ⟨rfl, .inr ⟨s, 0, #[], rfl, hs, h, Nat.le_refl _, by unfold maxLen; omega, rfl, rfl⟩⟩
theorem box_row {w : World} {s : Nat} {v : NV} (h : Box w s v) : Nodes w (some ⟨s, 0, none⟩) 1 [v] := by
  obtain ⟨p0, p1, p2, p3, p4, pf, pz⟩ := h.facts
  refine ⟨rfl, .inr ⟨s, 0, rfl, pz, fun j u hu i c hc => ?_⟩⟩
  cases j with
  | succ j => cases hu
  | zero =>
    cases hu
    match i, hc with
    | 0, hc => cases hc; exact p0
    | 1, hc => cases hc; exact p1
    | 2, hc => cases hc; exact p2
    | 3, hc => cases hc; exact p3
    | 4, hc => cases hc; exact p4
    | i + 5, hc => simp [NV.cells] at hc
theorem grown_w0 {w0 w w' : World} {v : Value} {e : TypeId} {k n : Nat} {xs : List Value} (hb : Below w0.heap.size w0 w) (hown : w.ownsRow w0.heap.size e k v n xs) (hg : w.grownBy w' v.ownBlock) : Below w0.heap.size w w' :=
  Below.grown (Below.refl _ _) hg (by exact hb.size) (fun k hk => (hown.lt k hk).1)
theorem does_val {a : Act} {w w' : World} {R : Value → World → Prop} {o : Oper} {v : Value} (h : (execOp a.eval o).run Try.prog w = .ok (.value v) w') (hR : R v w') : Does Try.prog o a w R := .inl ⟨v, w', h, hR⟩

set_option maxHeartbeats 2000000 in
theorem region8 {Q : Exit → Act → World → Prop} {a0 : Act} {w0 : World} {A : Option Addr} {m c j B sb : Nat} {us : List NV} {ve : NV} {id : Nat} (hsz : a0.tmps.size = 42) (h3 : a0.eval (.tmp 3) = .slice A m c) (h6 : a0.eval (.tmp 6) = .int .i64 (j : Int)) (h5 : a0.eval (.tmp 5) = .pointer (some ⟨sb, 0, none⟩))
    (hown : w0.ownsRow B 41 5 (.slice A m c) m (us.flatMap NV.cells)) (hbox : Box w0 sb ve) (hj : j ≤ m) (hm : (m + 1) * 72 ≤ 140737488355328)
    (last : ∀ a w, Framed ops8 a0 a → Below w0.heap.size w0 w → OwnRow w0 (us.take j ++ [ve] ++ us.drop j) (a.eval (.tmp 3)) w → Q .normal a w) : (Code.region id ops8 true).wp Try.prog Q a0 w0 := by
  have hrow : Nodes w0 A m us := Row.ofOwn nod_len (by decide) hown
  have hml : m = us.length := hrow.1
  obtain ⟨A', c', hv', hmc, _⟩ := own_form hown
  cases hv'
  have hnil : A = none → m = 0 ∧ c = 0 := by
    intro h
    rcases hown.2 with ⟨h1, _⟩ | ⟨g, cap, cur, h1, _⟩
    · cases h1; exact ⟨rfl, rfl⟩
    · rw [h] at h1; cases h1
  have hdrew : ∀ w, Below w0.drew.heap.size w0.drew w → Below w0.heap.size w0 w := fun w hb => (Below.refl _ _).drew.trans hb
  have keepV : ∀ w w', Below w0.heap.size w0 w' → ∀ i u, (i = 1 ∨ i = 2 ∨ i = 3 ∨ i = 5 ∨ i = 8 ∨ i = 9 ∨ i = 10) → V8 w0 A m c j us ve i u w → V8 w0 A m c j us ve i u w' := by
    intro w w' hb i u hi h
    rcases hi with rfl | rfl | rfl | rfl | rfl | rfl | rfl
    · exact h
    · exact h
    · obtain ⟨B1, n1, c1, e1, e2, _⟩ := h; exact ⟨B1, n1, c1, e1, e2, hb⟩
    · exact h
    · exact h
    · exact h
    · obtain ⟨B1, n1, c1, e1, e2, _⟩ := h; exact ⟨B1, n1, c1, e1, e2, hb⟩
  have same : ∀ (i : Nat) (w : World) (R : Prop), R → Below w0.drew.heap.size w w ∧ (∀ q, q ≠ i → mustKeep ops8 i q = true → ∀ u, V8 w0 A m c j us ve q u w → V8 w0 A m c j us ve q u w) ∧ R := fun i w R h => ⟨Below.refl _ _, fun _ _ _ _ h => h, h⟩
  have grew : ∀ (i : Nat) (w w' : World) (R : Prop), Below w0.heap.size w0 w → Below w.heap.size w w' → R → Below w0.drew.heap.size w w' ∧ (∀ q, q ≠ i → mustKeep ops8 i q = true → ∀ u, V8 w0 A m c j us ve q u w → V8 w0 A m c j us ve q u w') ∧ R :=
    fun i w w' R hb0 hb h => ⟨hb.mono (by exact hb0.size), fun q _ _ u hu => v8_stays w0 A m c j us ve q u w w' hb hu, h⟩
  refine wp_region_soft (V8 w0 A m c j us ve) (by kernel_rfl) (by rw [hsz]; exact tidy8) ?_ ?_
  · intro i hi
    match i, hi with
    | 0, _ =>
      refine SoftAt.by rfl fun a w hf hb hd => .inl ⟨want_none, does_val run_build0 (grew 0 _ _ _ (hdrew w hb) ((Below.refl _ _).alloc (Nat.le_refl _) _) ⟨w.heap.size, rfl, heap_alloc_new w _, (hdrew w hb).size⟩)⟩
    | 1, _ => exact SoftAt.by rfl fun a w hf hb hd => .inl ⟨want_none, does_move ((hf.keeps 3 (by kernel_rfl)).trans h3) (same 1 _ _ rfl)⟩
    | 2, _ => exact SoftAt.by rfl fun a w hf hb hd => .inl ⟨want_none, does_move ((hf.keeps 6 (by kernel_rfl)).trans h6) (same 2 _ _ rfl)⟩
    | 3, _ =>
      refine SoftAt.by rfl fun a w hf hb hd => .inl ⟨want_none, ?_⟩
      have e1 : a.eval (.tmp 30) = .slice A m c := hd 1 (by kernel_rfl)
      have e2 : a.eval (.tmp 31) = .int .i64 (j : Int) := hd 2 (by kernel_rfl)
      cases A with
      | none =>
        obtain ⟨hm0, hc0⟩ := hnil rfl
        subst hm0 hc0
        have hj0 : j = 0 := by omega
        subst hj0
        refine does_val (run_front_nil e1 e2) (same 3 _ _ ⟨none, 0, 0, rfl, ⟨by simp, .inl (by simp)⟩, hdrew w hb⟩)
      | some p => exact does_val (run_front e1 e2 (by omega)) (same 3 _ _ ⟨some p, j, c, rfl, row_take hrow j hj, hdrew w hb⟩)
    | 4, _ =>
      refine SoftAt.by rfl fun a w hf hb hd => .inl ⟨want_none, ?_⟩
      obtain ⟨s, e1, hs, hsB⟩ := hd 0 (by kernel_rfl)
      obtain ⟨A3, n3, c3, e3, hr3, _⟩ := hd 3 (by kernel_rfl)
      have hown0 := noRoom_own (w0 := w0) hs hsB
      have hn3 : n3 ≤ m := by have := hr3.1; rw [List.length_take] at this; omega
      obtain ⟨v', w', hrun, ho, hg⟩ := run_append26 (d := some 33) (ty := 22) (pos := "ref.go:87") (af := #[⟨0, .data⟩, ⟨3, .data⟩]) (g := none) (us := []) e1 hown0 e3 (hr3.below (Nat.le_refl _) (hdrew w hb)) (by omega) (hdrew w hb).size
      refine does_val hrun ⟨grown_w0 (w0 := w0) (hdrew w hb) hown0 hg, fun q hq hmk u hu => ?_, ?_⟩
      · have hb' : Below w0.heap.size w0 w' := (hdrew w hb).trans (grown_w0 (w0 := w0) (hdrew w hb) hown0 hg)
        match q, hq, hmk, hu with
        | 0, _, hmk, _ => exact absurd hmk (by rw [show mustKeep ops8 4 0 = false from by kernel_rfl]; simp)
        | 6, _, _, hu =>
          obtain ⟨s6, e6, hb6⟩ := hu
          refine ⟨s6, e6, ?_⟩
          unfold Box at hb6 ⊢
          have hne : s6 ≠ s := by
            intro e
            rw [e, hs] at hb6
            simp at hb6
          rw [hg.block s6 (lt_of_block hb6) (by simp only [Value.ownBlock, ne_eq, Option.some.injEq]; exact hne)]
          exact hb6
        | 1, _, _, hu => exact keepV w w' hb' 1 u (by simp) hu
        | 2, _, _, hu => exact keepV w w' hb' 2 u (by simp) hu
        | 3, _, _, hu => exact keepV w w' hb' 3 u (by simp) hu
        | 5, _, _, hu => exact keepV w w' hb' 5 u (by simp) hu
        | 8, _, _, hu => exact keepV w w' hb' 8 u (by simp) hu
        | 9, _, _, hu => exact keepV w w' hb' 9 u (by simp) hu
        | 10, _, _, hu => exact keepV w w' hb' 10 u (by simp) hu
        | 4, hq, _, _ => exact absurd rfl hq
        | 7, _, hmk, _ => exact absurd hmk (by rw [show mustKeep ops8 4 7 = false from by kernel_rfl]; simp)
        | 11, _, hmk, _ => exact absurd hmk (by rw [show mustKeep ops8 4 11 = false from by kernel_rfl]; simp)
        | 12, _, hmk, _ => exact absurd hmk (by rw [show mustKeep ops8 4 12 = false from by kernel_rfl]; simp)
        | q + 13, _, _, hu => trivial
      · have e : (us.take j).length = 0 + n3 := by rw [← hr3.1, Nat.zero_add]
        show w'.ownsRow w0.heap.size 41 5 v' (us.take j).length ((us.take j).flatMap NV.cells)
        rw [e]
        exact ho
    | 5, _ =>
      refine SoftAt.by rfl fun a w hf hb hd => .inl ⟨want_none, does_load26 ((hf.keeps 5 (by kernel_rfl)).trans h5) (hbox.below (hdrew w hb) (lt_of_block hbox)) (same 5 _ _ rfl)⟩
    | 6, _ =>
      refine SoftAt.by rfl fun a w hf hb hd => .inl ⟨want_none, does_val (run_build1 (hd 5 (by kernel_rfl))) (grew 6 _ _ _ (hdrew w hb) ((Below.refl _ _).alloc (Nat.le_refl _) _) ⟨w.heap.size, rfl, Box.new w ve⟩)⟩
    | 7, _ =>
      refine SoftAt.by rfl fun a w hf hb hd => .inl ⟨want_none, ?_⟩
      have ho4 : w.ownsRow w0.heap.size 41 5 (a.eval (.tmp 33)) (us.take j).length ((us.take j).flatMap NV.cells) := hd 4 (by kernel_rfl)
      obtain ⟨s6, e6, hb6⟩ := hd 6 (by kernel_rfl)
      obtain ⟨v', w', hrun, ho, hg⟩ := run_append26 (d := some 36) (ty := 22) (pos := "ref.go:87") (af := #[⟨4, .data⟩, ⟨6, .data⟩, ⟨4, .chain⟩]) (g := none) rfl ho4 e6 (box_row hb6) (by rw [List.length_take]; omega) (hdrew w hb).size
      refine does_val hrun ⟨grown_w0 (w0 := w0) (hdrew w hb) ho4 hg, fun q hq hmk u hu => ?_, ?_⟩
      · have hb' : Below w0.heap.size w0 w' := (hdrew w hb).trans (grown_w0 (w0 := w0) (hdrew w hb) ho4 hg)
        match q, hq, hmk, hu with
        | 0, _, hmk, _ => exact absurd hmk (by rw [show mustKeep ops8 7 0 = false from by kernel_rfl]; simp)
        | 4, _, hmk, _ => exact absurd hmk (by rw [show mustKeep ops8 7 4 = false from by kernel_rfl]; simp)
        | 6, _, hmk, _ => exact absurd hmk (by rw [show mustKeep ops8 7 6 = false from by kernel_rfl]; simp)
        | 1, _, _, hu => exact keepV w w' hb' 1 u (by simp) hu
        | 2, _, _, hu => exact keepV w w' hb' 2 u (by simp) hu
        | 3, _, _, hu => exact keepV w w' hb' 3 u (by simp) hu
        | 5, _, _, hu => exact keepV w w' hb' 5 u (by simp) hu
        | 8, _, _, hu => exact keepV w w' hb' 8 u (by simp) hu
        | 9, _, _, hu => exact keepV w w' hb' 9 u (by simp) hu
        | 10, _, _, hu => exact keepV w w' hb' 10 u (by simp) hu
        | 7, hq, _, _ => exact absurd rfl hq
        | 11, _, hmk, _ => exact absurd hmk (by rw [show mustKeep ops8 7 11 = false from by kernel_rfl]; simp)
        | 12, _, hmk, _ => exact absurd hmk (by rw [show mustKeep ops8 7 12 = false from by kernel_rfl]; simp)
        | q + 13, _, _, hu => trivial
      · show w'.ownsRow w0.heap.size 41 5 v' (us.take j ++ [ve]).length ((us.take j ++ [ve]).flatMap NV.cells)
        rw [List.length_append]
        exact ho
    | 8, _ => exact SoftAt.by rfl fun a w hf hb hd => .inl ⟨want_none, does_move ((hf.keeps 3 (by kernel_rfl)).trans h3) (same 8 _ _ rfl)⟩
    | 9, _ => exact SoftAt.by rfl fun a w hf hb hd => .inl ⟨want_none, does_move ((hf.keeps 6 (by kernel_rfl)).trans h6) (same 9 _ _ rfl)⟩
    | 10, _ =>
      refine SoftAt.by rfl fun a w hf hb hd => .inl ⟨want_none, ?_⟩
      have e1 : a.eval (.tmp 37) = .slice A m c := hd 8 (by kernel_rfl)
      have e2 : a.eval (.tmp 38) = .int .i64 (j : Int) := hd 9 (by kernel_rfl)
      cases A with
      | none =>
        obtain ⟨hm0, hc0⟩ := hnil rfl
        subst hm0 hc0
        have hj0 : j = 0 := by omega
        subst hj0
        have hus : us = [] := List.eq_nil_of_length_eq_zero hml.symm
        subst hus
        refine does_val (run_back_nil e1 e2) (same 10 _ _ ⟨none, 0, 0, rfl, ⟨by simp, .inl (by simp)⟩, hdrew w hb⟩)
      | some p =>
        rcases hrow.2 with he | ⟨b, o, he, hlt, hc⟩
        · have hm0 : m = 0 := by rw [hml, he]; rfl
          have hj0 : j = 0 := by omega
          refine does_val (run_back e1 e2 hj) (same 10 _ _ ⟨_, m - j, c - j, rfl, ⟨by rw [List.length_drop]; omega, .inl (by rw [he]; simp)⟩, hdrew w hb⟩)
        · cases he
          refine does_val (run_back e1 e2 hj) (same 10 _ _ ⟨_, m - j, c - j, rfl, ?_, hdrew w hb⟩)
          by_cases hcj : c = j
          · have hmj : m = j := by omega
            exact ⟨by rw [List.length_drop]; omega, .inl (List.drop_of_length_le (by omega))⟩
          · rw [if_neg hcj, Addr.add_lit]
            exact row_sub hrow j
    | 11, _ =>
      refine SoftAt.by rfl fun a w hf hb hd => .inl ⟨want_none, ?_⟩
      have ho7 : w.ownsRow w0.heap.size 41 5 (a.eval (.tmp 36)) (us.take j ++ [ve]).length ((us.take j ++ [ve]).flatMap NV.cells) := hd 7 (by kernel_rfl)
      obtain ⟨A3, n3, c3, e3, hr3, _⟩ := hd 10 (by kernel_rfl)
      have hn3 : n3 = m - j := by have := hr3.1; rw [List.length_drop] at this; omega
      obtain ⟨v', w', hrun, ho, hg⟩ := run_append26 (d := some 40) (ty := 22) (pos := "ref.go:87") (af := #[⟨7, .data⟩, ⟨10, .data⟩, ⟨7, .chain⟩]) (g := none) rfl ho7 e3 (hr3.below (Nat.le_refl _) (hdrew w hb)) (by simp only [List.length_append, List.length_take, List.length_singleton]; omega) (hdrew w hb).size
      refine does_val hrun ⟨grown_w0 (w0 := w0) (hdrew w hb) ho7 hg, fun q hq hmk u hu => ?_, ?_⟩
      · have hb' : Below w0.heap.size w0 w' := (hdrew w hb).trans (grown_w0 (w0 := w0) (hdrew w hb) ho7 hg)
        match q, hq, hmk, hu with
        | 0, _, hmk, _ => exact absurd hmk (by rw [show mustKeep ops8 11 0 = false from by kernel_rfl]; simp)
        | 4, _, hmk, _ => exact absurd hmk (by rw [show mustKeep ops8 11 4 = false from by kernel_rfl]; simp)
        | 6, _, hmk, _ => exact absurd hmk (by rw [show mustKeep ops8 11 6 = false from by kernel_rfl]; simp)
        | 7, _, hmk, _ => exact absurd hmk (by rw [show mustKeep ops8 11 7 = false from by kernel_rfl]; simp)
        | 1, _, _, hu => exact keepV w w' hb' 1 u (by simp) hu
        | 2, _, _, hu => exact keepV w w' hb' 2 u (by simp) hu
        | 3, _, _, hu => exact keepV w w' hb' 3 u (by simp) hu
        | 5, _, _, hu => exact keepV w w' hb' 5 u (by simp) hu
        | 8, _, _, hu => exact keepV w w' hb' 8 u (by simp) hu
        | 9, _, _, hu => exact keepV w w' hb' 9 u (by simp) hu
        | 10, _, _, hu => exact keepV w w' hb' 10 u (by simp) hu
        | 11, hq, _, _ => exact absurd rfl hq
        | 12, _, hmk, _ => exact absurd hmk (by rw [show mustKeep ops8 11 12 = false from by kernel_rfl]; simp)
        | q + 13, _, _, hu => trivial
      · show w'.ownsRow w0.heap.size 41 5 v' (us.take j ++ [ve] ++ us.drop j).length ((us.take j ++ [ve] ++ us.drop j).flatMap NV.cells)
        rw [List.length_append, List.length_drop, ← hml, ← hn3]
        exact ho
    | 12, _ => exact SoftAt.by rfl fun a w hf hb hd => .inl ⟨want_none, does_assign rfl (same 12 _ _ (hd 11 (by kernel_rfl)))⟩
    | k + 13, hi => exact absurd hi (Nat.not_lt.2 (Nat.le_add_left _ _))
  · intro a w hf hb hv
    exact last a w hf hb (hv 12 (by decide) (fun u o ho => by
      have hu : u < ops8.size := (Array.getElem?_eq_some_iff.1 ho).1
      have hall : (List.range ops8.size).all (fun u => match ops8[u]? with | some o => !usesD o 12 | none => true) = true := by kernel_rfl
      rw [List.all_eq_true] at hall
      have := hall u (List.mem_range.2 hu)
      rw [ho] at this
      simpa using this))
end Go.Proofs.Ytjpdoblmdchmkad
/-
  THE REFERENCE's List.
-/
namespace Go.Proofs.Ytjpdoblmdchmkad
open Go.RowKit
open Go.ChangeMaps (setBlock)

/-- is the key among those seen? -/
def seenK (es : Array MapEntry) (seen : Array Nat) (k : Int) : Bool := es.toList.any fun e => seen.contains e.born && decide (intKey e.key = some k)
/-- the list so far -/
structure LI (w : World) (bm : Nat) (es : Array MapEntry) (clock : Nat) (xs : List M.Nd) (seen : Array Nat) (A : Option Addr) (m c : Nat) (us : List NV) (wr : World) : Prop where
  it : It w w.heap.size bm es clock seen wr
  own : wr.ownsRow (w.heap.size + 1) 41 5 (.slice A m c) m (us.flatMap NV.cells)
  con : All2 (Cont w) us (xs.filter fun x => seenK es seen x.fid)
theorem LI.start {w : World} {bm : Nat} {es : Array MapEntry} {clock : Nat} (xs : List M.Nd) (hb : w.heap[bm]? = some (.map es clock)) : LI w bm es clock xs #[] none 0 0 [] (w.alloc (.mapIter (some bm) clock #[] clock)) := by
  refine ⟨⟨⟨clock, heap_alloc_new w _, Nat.le_refl _⟩, hb, Nat.le_refl _, (Below.refl _ _).alloc (Nat.le_refl _) _⟩, World.ownsRow_nil _ _ _ _, ?_⟩
  have : (xs.filter fun x => seenK es #[] x.fid) = [] := List.filter_eq_nil_iff.2 (fun x _ => by simp [seenK])
  rw [this]
  exact All2.nil

theorem seenK_push {es : Array MapEntry} {seen : Array Nat} {e : MapEntry} {k : Int} (he : e ∈ es.toList) (hk : e.key = .int .i64 k) (hnd : (es.toList.map (·.born)).Nodup) (q : Int) : seenK es (seen.push e.born) q = (seenK es seen q || decide (q = k)) := by
  have hone : ∀ e' ∈ es.toList, e'.born = e.born → e' = e := by
    intro e' he' hb
    obtain ⟨i, hi⟩ := List.getElem?_of_mem he'
    obtain ⟨j, hj⟩ := List.getElem?_of_mem he
    have hi' : (es.toList.map (·.born))[i]? = some e.born := by rw [List.getElem?_map, hi]; simp [hb]
    have hj' : (es.toList.map (·.born))[j]? = some e.born := by rw [List.getElem?_map, hj]; rfl
    obtain ⟨hil, hie⟩ := List.getElem?_eq_some_iff.1 hi'
    obtain ⟨hjl, hje⟩ := List.getElem?_eq_some_iff.1 hj'
    have hij : i = j := (List.getElem_inj hnd).1 (hie.trans hje.symm)
    subst hij
    rw [hi] at hj
    exact Option.some.inj hj
  rw [Bool.eq_iff_iff, Bool.or_eq_true, decide_eq_true_eq]
  unfold seenK
  simp only [List.any_eq_true, Bool.and_eq_true, decide_eq_true_eq, Array.contains_eq_mem, Array.mem_push]
  constructor
  · rintro ⟨e', he', hs, hq⟩
    rcases hs with hs | hs
    · exact .inl ⟨e', he', hs, hq⟩
    · have := hone e' he' hs
      subst this
      rw [hk] at hq
      simp [intKey] at hq
      exact .inr hq.symm
  · rintro (⟨e', he', hs, hq⟩ | rfl)
    · exact ⟨e', he', .inl hs, hq⟩
    · exact ⟨e, he, .inr rfl, by rw [hk]; rfl⟩
theorem seenK_not {es : Array MapEntry} {seen : Array Nat} {e : MapEntry} {k : Int} (he : e ∈ es.toList) (hk : e.key = .int .i64 k) (hns : seen.contains e.born = false) (hone : es.toList.Pairwise fun a b => a.key ≠ b.key) : seenK es seen k = false := by
  rw [Bool.eq_false_iff]
  intro h
  unfold seenK at h
  rw [List.any_eq_true] at h
  obtain ⟨e', he', h⟩ := h
  simp only [Bool.and_eq_true, decide_eq_true_eq] at h
  have hk' := intKey_iff.1 h.2
  have : e' = e := by
    obtain ⟨i, hi⟩ := List.getElem?_of_mem he'
    obtain ⟨j, hj⟩ := List.getElem?_of_mem he
    obtain ⟨hil, hie⟩ := List.getElem?_eq_some_iff.1 hi
    obtain ⟨hjl, hje⟩ := List.getElem?_eq_some_iff.1 hj
    rcases Nat.lt_trichotomy i j with hlt | heq | hlt
    · exact absurd (by rw [hie, hje, hk, hk']) (List.pairwise_iff_getElem.1 hone i j hil hjl hlt)
    · subst heq; rw [← hie, ← hje]
    · exact absurd (by rw [hie, hje, hk, hk']) (List.pairwise_iff_getElem.1 hone j i hjl hil hlt)
  subst this
  rw [hns] at h
  cases h.1
/-- one more is in its place -/
theorem list_con {w : World} {es : Array MapEntry} {seen : Array Nat} {xs : List M.Nd} {us : List NV} {ve : NV} {x : M.Nd} {b j : Nat} (hr : M.RsN xs) (hx : x ∈ xs) (hc : Cont w ve x) (hcon : All2 (Cont w) us (xs.filter fun y => seenK es seen y.fid))
    (hpush : ∀ q, seenK es (seen.push b) q = (seenK es seen q || decide (q = x.fid))) (hnot : seenK es seen x.fid = false) (hlo : ∀ u ∈ us.take j, u.fid < ve.fid) (hup : ∀ u, us[j]? = some u → ¬ u.fid < ve.fid) :
    All2 (Cont w) (us.take j ++ [ve] ++ us.drop j) (xs.filter fun y => seenK es (seen.push b) y.fid) := by
  rw [filter_put hr hx (seenK es seen) (seenK es (seen.push b)) hnot hpush]
  have hrs : M.RsN (xs.filter fun y => seenK es seen y.fid) := M.rs_sub hr (List.filter_sublist.map _)
  have hfx : ve.fid = x.fid := hc.1
  rw [put_place (k := j) hrs ?_ ?_]
  · exact All2.append (All2.append (hcon.take j) (All2.one hc)) (hcon.drop j)
  · intro y hy
    obtain ⟨i, hi⟩ := List.getElem?_of_mem hy
    have ht := hcon.take j
    have hlt : i < ((xs.filter fun y => seenK es seen y.fid).take j).length := (List.getElem?_eq_some_iff.1 hi).1
    have hiu : i < (us.take j).length := by rw [ht.1]; exact hlt
    have hu : (us.take j)[i]? = some (us.take j)[i] := List.getElem?_eq_getElem hiu
    have hcu := ht.2 i _ y hu hi
    have := hlo _ (List.mem_of_getElem? hu)
    rw [hcu.1, hfx] at this
    exact this
  · intro y hy
    have hlt := (List.getElem?_eq_some_iff.1 hy).1
    have hju : j < us.length := by rw [hcon.1]; exact hlt
    have hu : us[j]? = some us[j] := List.getElem?_eq_getElem hju
    have hcu := hcon.2 j _ y hu hy
    have h1 := hup _ hu
    rw [hcu.1, hfx] at h1
    have hne : y.fid ≠ x.fid := by
      intro e
      have hm := (List.mem_filter.1 (List.mem_of_getElem? hy)).2
      simp only [e] at hm
      rw [hnot] at hm; cases hm
    omega

set_option maxHeartbeats 4000000 in
theorem list_any (bm : Nat) (xs : List M.Nd) (w : World) (ht : TMap w bm xs) (hr : M.RsN xs) (hn : (xs.length + 1) * 72 ≤ 140737488355328) :
    Calls Try.prog 27 #[.map (some bm)] w fun e w' => ∃ (A : Option Addr) (m c : Nat) (us : List NV), e = .returned (.slice A m c) ∧ Tree w' A m us xs ∧ Below w.heap.size w w' := by
  obtain ⟨f, ⟨es, clock, hb, hh, hnd, hcl⟩, ha⟩ := ht
  have H0 : Hid (w.heap[bm]? = some (.map es clock) ∧ Agree w f xs ∧ M.RsN xs) := ⟨hb, ha, hr⟩
  have HH : Hid (Holds es.toList f ∧ (es.toList.map (·.born)).Nodup ∧ ∀ e ∈ es.toList, e.born < clock) := ⟨hh, hnd, hcl⟩
  have hrg := run_range_map (P := Try.prog) w 31 3 41 bm es clock Try.underlying31 hb
  clear hb hh hnd hcl ha hr
  go_enter Try.func27, Try.ntmps27
  go_wp2
  clear hrg
  go_loopw [3] (fun l wr => ∃ (seen : Array Nat) (A : Option Addr) (m c : Nat) (us : List NV), l = .slice A m c ∧ LI w bm es clock xs seen A m c us wr) (fun _ wr => (leftOf es (wr.iterSeen w.heap.size)).size)
  case atStart => exact ⟨#[], none, 0, 0, [], rfl, LI.start xs H0.out.1⟩
  case round =>
    obtain ⟨seen, A, m, c, us, rfl, hli⟩ := hrel
    have HLI : Hid (LI w bm es clock xs seen A m c us wr) := hli
    have hse := hli.it.seen
    rcases hli.it.next HH.out.2.1 HH.out.2.2 0 with ⟨h0, hnx⟩ | ⟨e, he, W, hnx, hen, hit, hsz, hoth⟩
    · have HF : Hid (Tree wr A m us xs ∧ Below w.heap.size w wr) := by
        have hall := all_seen es seen h0
        have hfil : (xs.filter fun x => seenK es seen x.fid) = xs := by
          rw [List.filter_eq_self]
          intro x hx
          obtain ⟨i, hi⟩ := List.getElem?_of_mem hx
          have hfx := M.find_self H0.out.2.2 hi
          rcases H0.out.2.1 x.fid with ⟨_, h2⟩ | ⟨v, y, h1, _, _⟩
          · rw [hfx] at h2; cases h2
          · obtain ⟨e, he, hk, _⟩ := HH.out.1.all _ _ h1
            unfold seenK
            rw [List.any_eq_true]
            exact ⟨e, he, by rw [hall e he, intKey_iff.2 hk]; simp⟩
        have hc := hli.con
        rw [hfil] at hc
        exact ⟨⟨Row.ofOwn nod_len (by decide) hli.own, hc.imp fun v x h => h.below (Nat.le_refl _) hli.it.bel⟩, hli.it.bel⟩
      clear hli hse h0
      go_wp2
      go_ret
      exact ⟨A, m, c, us, rfl, HF.out.1, HF.out.2⟩
    · obtain ⟨hem, hns⟩ := mem_left he
      obtain ⟨k, hk, hfk⟩ := HH.out.1.key e hem
      rcases H0.out.2.1 k with ⟨h6, _⟩ | ⟨ve, x, h6, hfx, hcx⟩
      · rw [h6] at hfk; cases hfk
      · rw [h6] at hfk
        injection hfk with hfk
        rw [hk, ← hfk] at hnx hen
        have hlt := left_shrinks es seen e he
        have hwa : Below W.heap.size W (W.alloc (.cells #[.int .i64 ve.fid, .bool ve.dir, .slice ve.dA ve.dn ve.dc, .slice ve.eA ve.en ve.ec, .int .i64 ve.ver] 41)) := (Below.refl _ _).alloc (Nat.le_refl _) _
        have HX : Hid (Cont w ve x ∧ x ∈ xs ∧ x.fid = k) := ⟨hcx, List.mem_of_find?_eq_some hfx, find_fid hfx⟩
        have HL1 : Hid (LI w bm es clock xs seen A m c us wr) := hli
        have HSK : Hid ((∀ q, seenK es (seen.push e.born) q = (seenK es seen q || decide (q = x.fid))) ∧ seenK es seen x.fid = false) := by
          have hxk : x.fid = k := find_fid hfx
          exact ⟨fun q => by rw [hxk]; exact seenK_push hem hk HH.out.2.1 q, by rw [hxk]; exact seenK_not hem hk hns HH.out.1.one⟩
        have HM : Hid ((leftOf es (seen.push e.born)).size < (leftOf es seen).size ∧ wr.iterSeen w.heap.size = seen) := ⟨hlt, hse⟩
        have HI2 : Hid (It w w.heap.size bm es clock (seen.push e.born) (W.alloc (.cells #[.int .i64 ve.fid, .bool ve.dir, .slice ve.dA ve.dn ve.dc, .slice ve.eA ve.en ve.ec, .int .i64 ve.ver] 41)) ∧ (W.alloc (.cells #[.int .i64 ve.fid, .bool ve.dir, .slice ve.dA ve.dn ve.dc, .slice ve.eA ve.en ve.ec, .int .i64 ve.ver] 41)).ownsRow (w.heap.size + 1) 41 5 (.slice A m c) m (us.flatMap NV.cells) ∧ Box (W.alloc (.cells #[.int .i64 ve.fid, .bool ve.dir, .slice ve.dA ve.dn ve.dc, .slice ve.eA ve.en ve.ec, .int .i64 ve.ver] 41)) W.heap.size ve) := by
          refine ⟨hit.below hwa, ?_, Box.new W ve⟩
          refine own_below ?_ hwa (Nat.le_refl _)
          refine ⟨hli.own.1, ?_⟩
          rcases hli.own.2 with h2 | ⟨g, cap, cur, e1, h1, hg, r⟩
          · exact .inl h2
          · exact .inr ⟨g, cap, cur, e1, h1, by rw [hoth g (by omega)]; exact hg, r⟩
        clear hli hlt hse hem hns hk h6 hfx hcx he hit hoth hwa hfk hsz
        go_upto_region 5 with (fail)
        clear hnx hen
        generalize W.alloc (.cells #[.int .i64 ve.fid, .bool ve.dir, .slice ve.dA ve.dn ve.dc, .slice ve.eA ve.en ve.ec, .int .i64 ve.ver] 41) = Wa at HI2 ⊢
        generalize W.heap.size = sb at HI2 ⊢
        have hmx : m ≤ xs.length := by
          have h1 := own_len nod_len (by decide) HL1.out.own
          have h2 := HL1.out.con.1
          have h3 := List.length_filter_le (fun x : M.Nd => seenK es seen x.fid) xs
          omega
        have hml : m = us.length := own_len nod_len (by decide) HL1.out.own
        have HML : Hid (m = us.length) := hml
        clear hml
        go_wp2
        go_loopw [6] (fun i wi => ∃ j : Nat, j ≤ m ∧ i = .int .i64 j ∧ Hid (∀ u ∈ us.take j, u.fid < ve.fid) ∧ Below Wa.heap.size Wa wi) (fun i _ => m - (intOf i).toNat)
        case atStart => exact ⟨0, Nat.zero_le _, rfl, (by intro u hu; simp at hu), Below.refl _ _⟩
        case round =>
          rename World => wi
          obtain ⟨j, hj, rfl, HLO, hbi⟩ := hrel
          obtain ⟨p0, p1, p2, p3, p4, pf, pz⟩ := (HI2.out.2.2.below hbi (lt_of_block HI2.out.2.2)).facts
          clear p1 p2 p3 p4
          by_cases hjm : j < m
          · obtain ⟨b, o, v, hA, _, hvj, c0, c1, c2, c3, c4⟩ := Nodes.at (Row.ofOwn nod_len (by decide) (own_below HI2.out.2.1 hbi (Nat.le_refl _))) hjm
            have HVJ : Hid (us[j]? = some v) := hvj
            have hd1 : decide ((j : Int) < (m : Int)) = true := by rw [decide_eq_true_eq]; omega
            have hjn : (j : Int) < (m : Int) := by omega
            have hj0 : (0 : Int) ≤ (j : Int) := by omega
            subst hA
            clear hvj c1 c2 c3 c4
            by_cases hlo : v.fid < ve.fid
            · have hd2 : decide (v.fid < ve.fid) = true := by rw [decide_eq_true_eq]; exact hlo
              have HLV : Hid (v.fid < ve.fid) := hlo
              clear hlo
              go_wp2
              go_quiet (fail)
              go_wp2
              go_roundw
              case rel => exact ⟨j + 1, by omega, by go_num, (by intro u hu; rw [take_step HVJ.out] at hu; rcases List.mem_append.1 hu with h1 | h1; exact HLO.out u h1; rw [List.mem_singleton.1 h1]; exact HLV.out), below_drewN hbi _⟩
              case measure => simp [intOf]; omega
            · have hd2 : decide (v.fid < ve.fid) = false := by rw [decide_eq_false_iff_not]; exact hlo
              have HUP : Hid (∀ u, us[j]? = some u → ¬ u.fid < ve.fid) := by intro u hu; rw [HVJ.out] at hu; injection hu with hu; subst hu; exact hlo
              clear hlo
              go_wp2
              go_quiet (fail)
              go_upto_region 8 with (fail)
              refine region8 (j := j) (B := w.heap.size + 1) (sb := sb) (us := us) (ve := ve) rfl rfl rfl rfl (own_below HI2.out.2.1 (below_drewN hbi _) (Nat.le_refl _)) (HI2.out.2.2.below (below_drewN hbi _) (lt_of_block HI2.out.2.2)) hj (by omega) ?_
              intro a' w' hf hb ho
              have hl := hf.lit (fun t => decide (t = 3) || (decide (29 ≤ t) && decide (t ≤ 40))) (by kernel_rfl)
              simp only [overL, Nat.reduceAdd, Nat.reduceLeDiff, Nat.reduceEqDiff, decide_true, decide_false, Bool.and_true, Bool.and_false, Bool.false_or, Bool.true_or] at hl
              obtain ⟨A', c', hv, _, _⟩ := own_form ho
              have ho' : w'.ownsRow (w.heap.size + 1) 41 5 (.slice A' (us.take j ++ [ve] ++ us.drop j).length c') (us.take j ++ [ve] ++ us.drop j).length ((us.take j ++ [ve] ++ us.drop j).flatMap NV.cells) := by
                rw [← hv]
                refine own_mono ho ?_
                have h1 := lt_of_block HI2.out.1.it.choose_spec.1
                have h2 := (below_drewN hbi nq).size
                omega
              have HLI2 : Hid (LI w bm es clock xs (seen.push e.born) A' (us.take j ++ [ve] ++ us.drop j).length c' (us.take j ++ [ve] ++ us.drop j) w') :=
                ⟨HI2.out.1.below ((below_drewN hbi _).trans (hb.mono (below_drewN hbi nq).size)), ho', list_con H0.out.2.2 HX.out.2.1 HX.out.1 HL1.out.con HSK.out.1 HSK.out.2 HLO.out (fun u hu => Int.not_lt.2 (HUP.out u hu))⟩
              rw [hl, hv]
              clear hl hv ho ho' hf hb
              go_wp2_with (fail)
              go_roundw
              case rel => exact ⟨seen.push e.born, A', _, c', _, rfl, HLI2.out⟩
              case measure => rw [HLI2.out.it.seen, HM.out.2]; exact HM.out.1
          · have HUP : Hid (∀ u, us[j]? = some u → ¬ u.fid < ve.fid) := by
              intro u hu
              have := (List.getElem?_eq_some_iff.1 hu).1
              have := HML.out
              omega
            have hd1 : decide ((j : Int) < (m : Int)) = false := by rw [decide_eq_false_iff_not]; omega
            go_wp2
            go_quiet (fail)
            go_upto_region 8 with (fail)
            refine region8 (j := j) (B := w.heap.size + 1) (sb := sb) (us := us) (ve := ve) rfl rfl rfl rfl (own_below HI2.out.2.1 (below_drewN hbi _) (Nat.le_refl _)) (HI2.out.2.2.below (below_drewN hbi _) (lt_of_block HI2.out.2.2)) hj (by omega) ?_
            intro a' w' hf hb ho
            have hl := hf.lit (fun t => decide (t = 3) || (decide (29 ≤ t) && decide (t ≤ 40))) (by kernel_rfl)
            simp only [overL, Nat.reduceAdd, Nat.reduceLeDiff, Nat.reduceEqDiff, decide_true, decide_false, Bool.and_true, Bool.and_false, Bool.false_or, Bool.true_or] at hl
            obtain ⟨A', c', hv, _, _⟩ := own_form ho
            have ho' : w'.ownsRow (w.heap.size + 1) 41 5 (.slice A' (us.take j ++ [ve] ++ us.drop j).length c') (us.take j ++ [ve] ++ us.drop j).length ((us.take j ++ [ve] ++ us.drop j).flatMap NV.cells) := by
              rw [← hv]
              refine own_mono ho ?_
              have h1 := lt_of_block HI2.out.1.it.choose_spec.1
              have h2 := (below_drewN hbi nq).size
              omega
            have HLI2 : Hid (LI w bm es clock xs (seen.push e.born) A' (us.take j ++ [ve] ++ us.drop j).length c' (us.take j ++ [ve] ++ us.drop j) w') :=
              ⟨HI2.out.1.below ((below_drewN hbi _).trans (hb.mono (below_drewN hbi nq).size)), ho', list_con H0.out.2.2 HX.out.2.1 HX.out.1 HL1.out.con HSK.out.1 HSK.out.2 HLO.out (fun u hu => Int.not_lt.2 (HUP.out u hu))⟩
            rw [hl, hv]
            clear hl hv ho ho' hf hb
            go_wp2_with (fail)
            go_roundw
            case rel => exact ⟨seen.push e.born, A', _, c', _, rfl, HLI2.out⟩
            case measure => rw [HLI2.out.it.seen, HM.out.2]; exact HM.out.1
end Go.Proofs.Ytjpdoblmdchmkad
