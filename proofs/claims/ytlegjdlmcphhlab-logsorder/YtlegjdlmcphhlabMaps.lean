/-
  MAPS KEYED BY A NUMBER: what a map's block holds, as a function; it is made, asked, written.
-/
import Derived.Test.YtlegjdlmcphhlabRefb
import Derived.Maps.RangeRun
namespace Go.Proofs.Ytlegjdlmcphhlab
open Go.RowKit
open Go.ChangeMaps (setBlock)

/-- the entries es hold f -/
structure Holds (es : List MapEntry) (f : Int → Option Value) : Prop where
  key : ∀ e ∈ es, ∃ k, e.key = .int .i64 k ∧ f k = some e.val
  all : ∀ k v, f k = some v → ∃ e ∈ es, e.key = .int .i64 k ∧ e.val = v
  one : es.Pairwise fun a b => a.key ≠ b.key
/-- block b is a map that holds f -/
def IMap (w : World) (b : Nat) (f : Int → Option Value) : Prop :=
  ∃ (es : Array MapEntry) (clock : Nat), w.heap[b]? = some (.map es clock) ∧ Holds es.toList f ∧ (es.toList.map (·.born)).Nodup ∧ ∀ e ∈ es.toList, e.born < clock
theorem IMap.lt {w : World} {b : Nat} {f : Int → Option Value} (h : IMap w b f) : b < w.heap.size := by
  obtain ⟨es, c, hb, _⟩ := h
  exact lt_of_block hb
theorem IMap.same {w w' : World} {b : Nat} {f : Int → Option Value} (h : IMap w b f) (hb : w'.heap[b]? = w.heap[b]?) : IMap w' b f := by
  obtain ⟨es, c, h1, h2⟩ := h
  exact ⟨es, c, by rw [hb]; exact h1, h2⟩
theorem IMap.below {B : Nat} {w w' : World} {b : Nat} {f : Int → Option Value} (h : IMap w b f) (hB : w.heap.size ≤ B) (hb : Below B w w') : IMap w' b f :=
  h.same (hb.block b (by have := h.lt; omega))
theorem IMap.new (w : World) : IMap (w.alloc (.map #[] 0)) w.heap.size (fun _ => none) :=
  ⟨#[], 0, heap_alloc_new w _, ⟨(by intro e he; simp at he), (by intro k v h; cases h), (by simp)⟩, (by simp), (by intro e he; simp at he)⟩

def intKey : Value → Option Int
  | .int .i64 k => some k
  | _ => none
theorem intKey_iff {v : Value} {k : Int} : intKey v = some k ↔ v = .int .i64 k := by
  constructor
  · intro h
    unfold intKey at h
    split at h
    · injection h with h; rw [h]
    · cases h
  · intro h; rw [h]; rfl
/-- the place of a key -/
def posK (k : Int) : List MapEntry → Nat → Option (Nat × Value)
  | [], _ => none
  | e :: es, i => if intKey e.key = some k then some (i, e.val) else posK k es (i + 1)
theorem findNow_pos {f : Int → Option Value} (k : Int) : ∀ (es : List MapEntry) (i : Nat), (∀ e ∈ es, ∃ k, e.key = .int .i64 k ∧ f k = some e.val) → Instr.findNow (.int .i64) (.int .i64 k) es i = some (posK k es i)
  | [], i, _ => rfl
  | e :: es, i, h => by
    obtain ⟨q, hq, _⟩ := h e (List.mem_cons_self ..)
    have ih := findNow_pos k es (i + 1) (fun e he => h e (List.mem_cons_of_mem _ he))
    simp only [Instr.findNow, posK, hq, Instr.sameNow, if_true, intKey, Option.some.injEq]
    by_cases hk : k = q
    · subst hk; simp
    · have h1 : (k == q) = false := by simp [hk]
      rw [h1]
      simp only
      rw [ih, if_neg (fun h => hk h.symm)]
theorem pos_none {k : Int} : ∀ {es : List MapEntry} {i : Nat}, posK k es i = none → ∀ e ∈ es, e.key ≠ .int .i64 k
  | [], _, _, e, he => by cases he
  | a :: es, i, h, e, he => by
    simp only [posK] at h
    by_cases hk : intKey a.key = some k
    · rw [if_pos hk] at h; cases h
    · rw [if_neg hk] at h
      rcases List.mem_cons.1 he with h1 | h1
      · subst h1; exact fun h2 => hk (intKey_iff.2 h2)
      · exact pos_none h e h1
theorem pos_some {k : Int} {j : Nat} {v : Value} : ∀ {es : List MapEntry} {i : Nat}, posK k es i = some (j, v) → i ≤ j ∧ ∃ e, es[j - i]? = some e ∧ e.key = .int .i64 k ∧ e.val = v
  | [], _, h => by cases h
  | a :: es, i, h => by
    simp only [posK] at h
    by_cases hk : intKey a.key = some k
    · rw [if_pos hk] at h
      simp only [Option.some.injEq, Prod.mk.injEq] at h
      obtain ⟨rfl, h2⟩ := h
      exact ⟨Nat.le_refl _, a, by simp, intKey_iff.1 hk, h2⟩
    · rw [if_neg hk] at h
      obtain ⟨h1, e, h2, h3⟩ := pos_some h
      refine ⟨by omega, e, ?_, h3⟩
      rw [show j - i = (j - (i + 1)) + 1 by omega, List.getElem?_cons_succ]
      exact h2
theorem modify_map {k : Int} {j : Nat} {g : MapEntry → MapEntry} {L : List MapEntry} {e0 : MapEntry} (h0 : L[j]? = some e0) (hk : e0.key = .int .i64 k) (hp : L.Pairwise fun a b => a.key ≠ b.key) :
    L.modify j g = L.map (fun e => if intKey e.key = some k then g e else e) := by
  apply List.ext_getElem?
  intro i
  rw [List.getElem?_modify, List.getElem?_map]
  cases hi : L[i]? with
  | none => rfl
  | some e =>
    show some (if j = i then g e else e) = some (if intKey e.key = some k then g e else e)
    by_cases hij : j = i
    · subst hij
      rw [h0] at hi
      injection hi with hi
      subst hi
      rw [if_pos rfl, if_pos (intKey_iff.2 hk)]
    · rw [if_neg hij, if_neg]
      · intro hc
        have hc := intKey_iff.1 hc
        obtain ⟨hj1, hj2⟩ := List.getElem?_eq_some_iff.1 h0
        obtain ⟨hi1, hi2⟩ := List.getElem?_eq_some_iff.1 hi
        rw [List.pairwise_iff_getElem] at hp
        rcases Nat.lt_or_gt_of_ne hij with h | h
        · exact hp j i hj1 hi1 h (by rw [hj2, hi2, hk, hc])
        · exact hp i j hi1 hj1 h (by rw [hj2, hi2, hk, hc])
theorem holds_pos {es : List MapEntry} {f : Int → Option Value} (h : Holds es f) (k : Int) : (posK k es 0).map (·.2) = f k := by
  cases hp : posK k es 0 with
  | none =>
    cases hf : f k with
    | none => rfl
    | some v =>
      obtain ⟨e, he, hk, _⟩ := h.all k v hf
      exact absurd hk (pos_none hp e he)
  | some q =>
    obtain ⟨j, v⟩ := q
    obtain ⟨_, e, he, hk, hv⟩ := pos_some hp
    obtain ⟨k', hk', hf⟩ := h.key e (List.mem_of_getElem? he)
    rw [hk] at hk'
    injection hk' with _ hk'
    subst hk'
    rw [hf, ← hv]
    rfl

theorem under3 : Try.prog.underlying 3 = some (.int .i64) := by kernel_rfl
theorem check3 (empty : Bool) (k : Int) (w : World) : (Instr.checkKey empty 10000 3 (.int .i64 k)).run Try.prog w = .ok () w := by
  unfold Instr.checkKey
  simp [run_underlying under3]
theorem findKey3 {es : List MapEntry} {f : Int → Option Value} (h : Holds es f) (k : Int) (w : World) : (Instr.findKey 3 (.int .i64 k) es).run Try.prog w = .ok (posK k es 0) w := by
  unfold Instr.findKey
  simp [run_underlying under3, findNow_pos k es 0 h.key]

theorem run_lookup_map (t e : TypeId) (ht : Try.prog.underlying t = some (.map 3 e)) {z : Value} {w : World} (hz : (zeroValue e).run Try.prog w = .ok z w) {b : Nat} {f : Int → Option Value} (h : IMap w b f) (k : Int) (ok : Bool) :
    (Instr.lookup t (.map (some b)) (.int .i64 k) ok).run Try.prog w = .ok (if ok then .tuple #[(f k).getD z, .bool (f k).isSome] else (f k).getD z) w := by
  obtain ⟨es, c, hb, hh, _⟩ := h
  unfold Instr.lookup
  simp only [run_underlying ht, Sem.run_bind, Result.andThen_ok, MapKept.run_getObj_map hb, Sem.run_pure, check3, findKey3 hh]
  rw [← holds_pos hh k]
  cases posK k es.toList 0 with
  | none => simp [hz]
  | some q => obtain ⟨j, v⟩ := q; simp

/-- f, but v at k -/
def updF (f : Int → Option Value) (k : Int) (v : Value) : Int → Option Value := fun q => if q = k then some v else f q

theorem setBlock_at {w : World} {b : Nat} {o o' : Obj} (h : w.heap[b]? = some o) : (setBlock w b o').heap[b]? = some o' := by
  unfold setBlock
  have := lt_of_block h
  simp [this]
theorem setBlock_other {w : World} {b c : Nat} {o : Obj} (h : c ≠ b) : (setBlock w b o).heap[c]? = w.heap[c]? := by
  unfold setBlock
  simp [Ne.symm h]
theorem setBlock_size {w : World} {b : Nat} {o : Obj} : (setBlock w b o).heap.size = w.heap.size := by unfold setBlock; simp
theorem setBlock_below {B : Nat} {a w : World} {b : Nat} (h : Below B a w) (hb : B ≤ b) (o : Obj) : Below B a (setBlock w b o) :=
  h.trans ⟨rfl, rfl, rfl, by rw [setBlock_size]; exact Nat.le_refl _, fun k hk => setBlock_other (by omega)⟩
theorem run_setObj_map {w : World} {r : Nat} {es : Array MapEntry} {c : Nat} (hr : w.heap[r]? = some (.map es c)) (o' : Obj) : (setObj r o').run Try.prog w = .ok () (setBlock w r o') := by
  simp [setObj, Sem.run, hr, setBlock]

theorem run_update_map (t e : TypeId) (ht : Try.prog.underlying t = some (.map 3 e)) {w : World} {b : Nat} {f : Int → Option Value} (h : IMap w b f) (k : Int) (v : Value) :
    ∃ o : Obj, (Instr.mapUpdate t (.map (some b)) (.int .i64 k) v).run Try.prog w = .ok () (setBlock w b o) ∧ IMap (setBlock w b o) b (updF f k v) := by
  obtain ⟨es, c, hb, hh, hn, hc⟩ := h
  unfold Instr.mapUpdate
  simp only [run_underlying ht, Sem.run_bind, Result.andThen_ok, MapKept.run_getObj_map hb, check3, findKey3 hh]
  cases hp : posK k es.toList 0 with
  | none =>
    refine ⟨_, run_setObj_map hb _, _, _, setBlock_at hb, ?_, ?_, ?_⟩
    · have hno := pos_none hp
      refine ⟨fun x hx => ?_, fun q u hq => ?_, ?_⟩
      · simp only [Array.toList_push, List.mem_append, List.mem_singleton] at hx
        rcases hx with hx | hx
        · obtain ⟨q, h1, h2⟩ := hh.key x hx
          refine ⟨q, h1, ?_⟩
          unfold updF
          rw [if_neg (by intro e; subst e; exact hno x hx h1)]
          exact h2
        · subst hx; exact ⟨k, rfl, by simp [updF]⟩
      · unfold updF at hq
        simp only [Array.toList_push, List.mem_append, List.mem_singleton]
        by_cases hqk : q = k
        · rw [if_pos hqk] at hq
          injection hq with hq
          exact ⟨_, .inr rfl, by rw [hqk], hq⟩
        · rw [if_neg hqk] at hq
          obtain ⟨x, hx, h1, h2⟩ := hh.all q u hq
          exact ⟨x, .inl hx, h1, h2⟩
      · simp only [Array.toList_push]
        rw [List.pairwise_append]
        refine ⟨hh.one, List.pairwise_singleton _ _, fun a ha b' hb' => ?_⟩
        rw [List.mem_singleton.1 hb']
        exact hno a ha
    · simp only [Array.toList_push, List.map_append, List.map_cons, List.map_nil]
      rw [List.nodup_append]
      refine ⟨hn, by simp, fun a ha b' hb' => ?_⟩
      obtain ⟨x, hx, rfl⟩ := List.mem_map.1 ha
      rw [List.mem_singleton.1 hb']
      exact Nat.ne_of_lt (hc x hx)
    · intro x hx
      simp only [Array.toList_push, List.mem_append, List.mem_singleton] at hx
      rcases hx with hx | hx
      · have := hc x hx; omega
      · subst hx; exact Nat.lt_succ_self _
  | some q =>
    obtain ⟨j, u⟩ := q
    obtain ⟨_, e0, he0, hk0, _⟩ := pos_some hp
    rw [Nat.sub_zero] at he0
    have hej : es[j]? = some e0 := by rw [← Array.getElem?_toList]; exact he0
    have hks : (Instr.keyThatStays (((es[j]?).map (·.key)).getD (.int .i64 k)) (.int .i64 k)).run Try.prog w = .ok (.int .i64 k) w := by
      rw [hej]
      simp [Instr.keyThatStays, hk0, Instr.sameBits]
    simp only [hks, Sem.run_bind, Result.andThen_ok]
    refine ⟨_, run_setObj_map hb _, _, _, setBlock_at hb, ?_, ?_, ?_⟩
    all_goals rw [Array.toList_modify, modify_map he0 hk0 hh.one]
    · refine ⟨fun x hx => ?_, fun q u hq => ?_, ?_⟩
      · obtain ⟨y, hy, rfl⟩ := List.mem_map.1 hx
        by_cases hyk : intKey y.key = some k
        · rw [if_pos hyk]; exact ⟨k, rfl, by simp [updF]⟩
        · rw [if_neg hyk]
          obtain ⟨q, h1, h2⟩ := hh.key y hy
          refine ⟨q, h1, ?_⟩
          unfold updF
          rw [if_neg (by intro e; subst e; exact hyk (intKey_iff.2 h1))]
          exact h2
      · unfold updF at hq
        by_cases hqk : q = k
        · rw [if_pos hqk] at hq
          injection hq with hq
          refine ⟨_, List.mem_map.2 ⟨e0, List.mem_of_getElem? he0, rfl⟩, ?_, ?_⟩
          · rw [if_pos (intKey_iff.2 hk0), hqk]
          · rw [if_pos (intKey_iff.2 hk0)]; exact hq
        · rw [if_neg hqk] at hq
          obtain ⟨x, hx, h1, h2⟩ := hh.all q u hq
          have hxk : ¬ intKey x.key = some k := by rw [h1]; simp [intKey, hqk]
          refine ⟨_, List.mem_map.2 ⟨x, hx, rfl⟩, ?_, ?_⟩
          · rw [if_neg hxk]; exact h1
          · rw [if_neg hxk]; exact h2
      · rw [List.pairwise_map]
        have hkey : ∀ e : MapEntry, (if intKey e.key = some k then ({ e with key := .int .i64 k, val := v } : MapEntry) else e).key = e.key := by
          intro e
          by_cases h : intKey e.key = some k
          · rw [if_pos h]; exact (intKey_iff.1 h).symm
          · rw [if_neg h]
        refine hh.one.imp fun h => ?_
        rw [hkey, hkey]
        exact h
    · rw [List.map_map]
      have : ((fun e : MapEntry => e.born) ∘ fun e : MapEntry => if intKey e.key = some k then ({ e with key := .int .i64 k, val := v } : MapEntry) else e) = fun e => e.born := by
        funext e
        show (if intKey e.key = some k then ({ e with key := .int .i64 k, val := v } : MapEntry) else e).born = e.born
        split <;> rfl
      rw [this]
      exact hn
    · intro x hx
      obtain ⟨y, hy, rfl⟩ := List.mem_map.1 hx
      have := hc y hy
      split <;> exact this
end Go.Proofs.Ytlegjdlmcphhlab
