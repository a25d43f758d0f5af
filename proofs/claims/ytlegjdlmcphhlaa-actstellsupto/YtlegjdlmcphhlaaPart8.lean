/- TEXTS LAID TOGETHER: Maps, Of, Ask, Refe, Refx, With, Refc -/
import Derived.Test.YtlegjdlmcphhlaaPart7
import Derived.Maps.RangeRun
import Derived.Test.YtlegjdlmcphhlaaPart5
/-
  MAPS KEYED BY A NUMBER: what a map's block holds, as a function; it is made, asked, written.
-/
namespace Go.Proofs.Ytlegjdlmcphhlaa
open Go.RowKit
open Go.ChangeMaps (setBlock)

/-- the entries es hold f -/
structure Holds (es : List MapEntry) (f : Int → Option Value) : Prop where
  key : ∀ e ∈ es, ∃ k, e.key = .int .i64 k ∧ f k = some e.val
  all : ∀ k v, f k = some v → ∃ e ∈ es, e.key = .int .i64 k ∧ e.val = v
  one : es.Pairwise fun a b => a.key ≠ b.key
/-- block b is a map that holds f -/
def IMap (w : World) (b : Nat) (f : Int → Option Value) : Prop :=
  ∃ (es : Array MapEntry) (clock : Nat), w.heap[b]? = some (.map es clock) ∧ Holds es.toList f ∧ (es.toList.map (·.born)).Nodup ∧ ∀ e ∈ es.toList, e.born < clock
theorem IMap.lt {w : World} {b : Nat} {f : Int → Option Value} (h : IMap w b f) : b < w.heap.size := by
  obtain ⟨es, c, hb, _⟩ := h
  exact lt_of_block hb
theorem IMap.same {w w' : World} {b : Nat} {f : Int → Option Value} (h : IMap w b f) (hb : w'.heap[b]? = w.heap[b]?) : IMap w' b f := by
  obtain ⟨es, c, h1, h2⟩ := h
  exact ⟨es, c, by rw [hb]; exact h1, h2⟩
theorem IMap.below {B : Nat} {w w' : World} {b : Nat} {f : Int → Option Value} (h : IMap w b f) (hB : w.heap.size ≤ B) (hb : Below B w w') : IMap w' b f :=
  h.same (hb.block b (by have := h.lt; omega))
theorem IMap.new (w : World) : IMap (w.alloc (.map #[] 0)) w.heap.size (fun _ => none) :=
  ⟨#[], 0, heap_alloc_new w _, ⟨(by intro e he; simp at he), (by intro k v h; cases h), (by simp)⟩, (by simp), (by intro e he; simp at he)⟩

def intKey : Value → Option Int
  | .int .i64 k => some k
  | _ => none
theorem intKey_iff {v : Value} {k : Int} : intKey v = some k ↔ v = .int .i64 k := by
  constructor
  · intro h
    unfold intKey at h
    split at h
    · injection h with h; rw [h]
    · cases h
  · intro h; rw [h]; rfl
/-- the place of a key -/
def posK (k : Int) : List MapEntry → Nat → Option (Nat × Value)
  | [], _ => none
  | e :: es, i => if intKey e.key = some k then some (i, e.val) else posK k es (i + 1)
theorem findNow_pos {f : Int → Option Value} (k : Int) : ∀ (es : List MapEntry) (i : Nat), (∀ e ∈ es, ∃ k, e.key = .int .i64 k ∧ f k = some e.val) → Instr.findNow (.int .i64) (.int .i64 k) es i = some (posK k es i)
  | [], i, _ => rfl
  | e :: es, i, h => by
    obtain ⟨q, hq, _⟩ := h e (List.mem_cons_self ..)
    have ih := findNow_pos k es (i + 1) (fun e he => h e (List.mem_cons_of_mem _ he))
    simp only [Instr.findNow, posK, hq, Instr.sameNow, if_true, intKey, Option.some.injEq]
    by_cases hk : k = q
    · subst hk; simp
    · have h1 : (k == q) = false := by simp [hk]
      rw [h1]
      simp only
      rw [ih, if_neg (fun h => hk h.symm)]
theorem pos_none {k : Int} : ∀ {es : List MapEntry} {i : Nat}, posK k es i = none → ∀ e ∈ es, e.key ≠ .int .i64 k
  | [], _, _, e, he => by cases he
  | a :: es, i, h, e, he => by
    simp only [posK] at h
    by_cases hk : intKey a.key = some k
    · rw [if_pos hk] at h; cases h
    · rw [if_neg hk] at h
      rcases List.mem_cons.1 he with h1 | h1
      · subst h1; exact fun h2 => hk (intKey_iff.2 h2)
      · exact pos_none h e h1
theorem pos_some {k : Int} {j : Nat} {v : Value} : ∀ {es : List MapEntry} {i : Nat}, posK k es i = some (j, v) → i ≤ j ∧ ∃ e, es[j - i]? = some e ∧ e.key = .int .i64 k ∧ e.val = v
  | [], _, h => by cases h
  | a :: es, i, h => by
    simp only [posK] at h
    by_cases hk : intKey a.key = some k
    · rw [if_pos hk] at h
      simp only [Option.some.injEq, Prod.mk.injEq] at h
      obtain ⟨rfl, h2⟩ := h
      exact ⟨Nat.le_refl _, a, by simp, intKey_iff.1 hk, h2⟩
    · rw [if_neg hk] at h
      obtain ⟨h1, e, h2, h3⟩ := pos_some h
      refine ⟨by omega, e, ?_, h3⟩
      rw [show j - i = (j - (i + 1)) + 1 by omega, List.getElem?_cons_succ]
      exact h2
theorem modify_map {k : Int} {j : Nat} {g : MapEntry → MapEntry} {L : List MapEntry} {e0 : MapEntry} (h0 : L[j]? = some e0) (hk : e0.key = .int .i64 k) (hp : L.Pairwise fun a b => a.key ≠ b.key) :
    L.modify j g = L.map (fun e => if intKey e.key = some k then g e else e) := by
  apply List.ext_getElem?
  intro i
  rw [List.getElem?_modify, List.getElem?_map]
  cases hi : L[i]? with
  | none => rfl
  | some e =>
    show some (if j = i then g e else e) = some (if intKey e.key = some k then g e else e)
    by_cases hij : j = i
    · subst hij
      rw [h0] at hi
      injection hi with hi
      subst hi
      rw [if_pos rfl, if_pos (intKey_iff.2 hk)]
    · rw [if_neg hij, if_neg]
      · intro hc
        have hc := intKey_iff.1 hc
        obtain ⟨hj1, hj2⟩ := List.getElem?_eq_some_iff.1 h0
        obtain ⟨hi1, hi2⟩ := List.getElem?_eq_some_iff.1 hi
        rw [List.pairwise_iff_getElem] at hp
        rcases Nat.lt_or_gt_of_ne hij with h | h
        · exact hp j i hj1 hi1 h (by rw [hj2, hi2, hk, hc])
        · exact hp i j hi1 hj1 h (by rw [hj2, hi2, hk, hc])
theorem holds_pos {es : List MapEntry} {f : Int → Option Value} (h : Holds es f) (k : Int) : (posK k es 0).map (·.2) = f k := by
  cases hp : posK k es 0 with
  | none =>
    cases hf : f k with
    | none => rfl
    | some v =>
      obtain ⟨e, he, hk, _⟩ := h.all k v hf
      exact absurd hk (pos_none hp e he)
  | some q =>
    obtain ⟨j, v⟩ := q
    obtain ⟨_, e, he, hk, hv⟩ := pos_some hp
    obtain ⟨k', hk', hf⟩ := h.key e (List.mem_of_getElem? he)
    rw [hk] at hk'
    injection hk' with _ hk'
    subst hk'
    rw [hf, ← hv]
    rfl

theorem under3 : Try.prog.underlying 3 = some (.int .i64) := by kernel_rfl
theorem check3 (empty : Bool) (k : Int) (w : World) : (Instr.checkKey empty 10000 3 (.int .i64 k)).run Try.prog w = .ok () w := by
  unfold Instr.checkKey
  simp [run_underlying under3]
theorem findKey3 {es : List MapEntry} {f : Int → Option Value} (h : Holds es f) (k : Int) (w : World) : (Instr.findKey 3 (.int .i64 k) es).run Try.prog w = .ok (posK k es 0) w := by
  unfold Instr.findKey
  simp [run_underlying under3, findNow_pos k es 0 h.key]

theorem run_lookup_map (t e : TypeId) (ht : Try.prog.underlying t = some (.map 3 e)) {z : Value} {w : World} (hz : (zeroValue e).run Try.prog w = .ok z w) {b : Nat} {f : Int → Option Value} (h : IMap w b f) (k : Int) (ok : Bool) :
    (Instr.lookup t (.map (some b)) (.int .i64 k) ok).run Try.prog w = .ok (if ok then .tuple #[(f k).getD z, .bool (f k).isSome] else (f k).getD z) w := by
  obtain ⟨es, c, hb, hh, _⟩ := h
  unfold Instr.lookup
  simp only [run_underlying ht, Sem.run_bind, Result.andThen_ok, MapKept.run_getObj_map hb, Sem.run_pure, check3, findKey3 hh]
  rw [← holds_pos hh k]
  cases posK k es.toList 0 with
  | none => simp [hz]
  | some q => obtain ⟨j, v⟩ := q; simp

/-- f, but v at k -/
def updF (f : Int → Option Value) (k : Int) (v : Value) : Int → Option Value := fun q => if q = k then some v else f q

theorem setBlock_at {w : World} {b : Nat} {o o' : Obj} (h : w.heap[b]? = some o) : (setBlock w b o').heap[b]? = some o' := by
  unfold setBlock
  have := lt_of_block h
  simp [this]
theorem setBlock_other {w : World} {b c : Nat} {o : Obj} (h : c ≠ b) : (setBlock w b o).heap[c]? = w.heap[c]? := by
  unfold setBlock
  simp [Ne.symm h]
theorem setBlock_size {w : World} {b : Nat} {o : Obj} : (setBlock w b o).heap.size = w.heap.size := by unfold setBlock; simp
theorem setBlock_below {B : Nat} {a w : World} {b : Nat} (h : Below B a w) (hb : B ≤ b) (o : Obj) : Below B a (setBlock w b o) :=
  h.trans ⟨rfl, rfl, rfl, by rw [setBlock_size]; exact Nat.le_refl _, fun k hk => setBlock_other (by omega)⟩
theorem run_setObj_map {w : World} {r : Nat} {es : Array MapEntry} {c : Nat} (hr : w.heap[r]? = some (.map es c)) (o' : Obj) : (setObj r o').run Try.prog w = .ok () (setBlock w r o') := by
  simp [setObj, Sem.run, hr, setBlock]

theorem run_update_map (t e : TypeId) (ht : Try.prog.underlying t = some (.map 3 e)) {w : World} {b : Nat} {f : Int → Option Value} (h : IMap w b f) (k : Int) (v : Value) :
    ∃ o : Obj, (Instr.mapUpdate t (.map (some b)) (.int .i64 k) v).run Try.prog w = .ok () (setBlock w b o) ∧ IMap (setBlock w b o) b (updF f k v) := by
  obtain ⟨es, c, hb, hh, hn, hc⟩ := h
  unfold Instr.mapUpdate
  simp only [run_underlying ht, Sem.run_bind, Result.andThen_ok, MapKept.run_getObj_map hb, check3, findKey3 hh]
  cases hp : posK k es.toList 0 with
  | none =>
    refine ⟨_, run_setObj_map hb _, _, _, setBlock_at hb, ?_, ?_, ?_⟩
    · have hno := pos_none hp
      refine ⟨fun x hx => ?_, fun q u hq => ?_, ?_⟩
      · simp only [Array.toList_push, List.mem_append, List.mem_singleton] at hx
        rcases hx with hx | hx
        · obtain ⟨q, h1, h2⟩ := hh.key x hx
          refine ⟨q, h1, ?_⟩
          unfold updF
          rw [if_neg (by intro e; subst e; exact hno x hx h1)]
          exact h2
        · subst hx; exact ⟨k, rfl, by simp [updF]⟩
      · unfold updF at hq
        simp only [Array.toList_push, List.mem_append, List.mem_singleton]
        by_cases hqk : q = k
        · rw [if_pos hqk] at hq
          injection hq with hq
          exact ⟨_, .inr rfl, by rw [hqk], hq⟩
        · rw [if_neg hqk] at hq
          obtain ⟨x, hx, h1, h2⟩ := hh.all q u hq
          exact ⟨x, .inl hx, h1, h2⟩
      · simp only [Array.toList_push]
        rw [List.pairwise_append]
        refine ⟨hh.one, List.pairwise_singleton _ _, fun a ha b' hb' => ?_⟩
        rw [List.mem_singleton.1 hb']
        exact hno a ha
    · simp only [Array.toList_push, List.map_append, List.map_cons, List.map_nil]
      rw [List.nodup_append]
      refine ⟨hn, by simp, fun a ha b' hb' => ?_⟩
      obtain ⟨x, hx, rfl⟩ := List.mem_map.1 ha
      rw [List.mem_singleton.1 hb']
      exact Nat.ne_of_lt (hc x hx)
    · intro x hx
      simp only [Array.toList_push, List.mem_append, List.mem_singleton] at hx
      rcases hx with hx | hx
      · have := hc x hx; omega
      · subst hx; exact Nat.lt_succ_self _
  | some q =>
    obtain ⟨j, u⟩ := q
    obtain ⟨_, e0, he0, hk0, _⟩ := pos_some hp
    rw [Nat.sub_zero] at he0
    have hej : es[j]? = some e0 := by rw [← Array.getElem?_toList]; exact he0
    have hks : (Instr.keyThatStays (((es[j]?).map (·.key)).getD (.int .i64 k)) (.int .i64 k)).run Try.prog w = .ok (.int .i64 k) w := by
      rw [hej]
      simp [Instr.keyThatStays, hk0, Instr.sameBits]
    simp only [hks, Sem.run_bind, Result.andThen_ok]
    refine ⟨_, run_setObj_map hb _, _, _, setBlock_at hb, ?_, ?_, ?_⟩
    all_goals rw [Array.toList_modify, modify_map he0 hk0 hh.one]
    · refine ⟨fun x hx => ?_, fun q u hq => ?_, ?_⟩
      · obtain ⟨y, hy, rfl⟩ := List.mem_map.1 hx
        by_cases hyk : intKey y.key = some k
        · rw [if_pos hyk]; exact ⟨k, rfl, by simp [updF]⟩
        · rw [if_neg hyk]
          obtain ⟨q, h1, h2⟩ := hh.key y hy
          refine ⟨q, h1, ?_⟩
          unfold updF
          rw [if_neg (by intro e; subst e; exact hyk (intKey_iff.2 h1))]
          exact h2
      · unfold updF at hq
        by_cases hqk : q = k
        · rw [if_pos hqk] at hq
          injection hq with hq
          refine ⟨_, List.mem_map.2 ⟨e0, List.mem_of_getElem? he0, rfl⟩, ?_, ?_⟩
          · rw [if_pos (intKey_iff.2 hk0), hqk]
          · rw [if_pos (intKey_iff.2 hk0)]; exact hq
        · rw [if_neg hqk] at hq
          obtain ⟨x, hx, h1, h2⟩ := hh.all q u hq
          have hxk : ¬ intKey x.key = some k := by rw [h1]; simp [intKey, hqk]
          refine ⟨_, List.mem_map.2 ⟨x, hx, rfl⟩, ?_, ?_⟩
          · rw [if_neg hxk]; exact h1
          · rw [if_neg hxk]; exact h2
      · rw [List.pairwise_map]
        have hkey : ∀ e : MapEntry, (if intKey e.key = some k then ({ e with key := .int .i64 k, val := v } : MapEntry) else e).key = e.key := by
          intro e
          by_cases h : intKey e.key = some k
          · rw [if_pos h]; exact (intKey_iff.1 h).symm
          · rw [if_neg h]
        refine hh.one.imp fun h => ?_
        rw [hkey, hkey]
        exact h
    · rw [List.map_map]
      have : ((fun e : MapEntry => e.born) ∘ fun e : MapEntry => if intKey e.key = some k then ({ e with key := .int .i64 k, val := v } : MapEntry) else e) = fun e => e.born := by
        funext e
        show (if intKey e.key = some k then ({ e with key := .int .i64 k, val := v } : MapEntry) else e).born = e.born
        split <;> rfl
      rw [this]
      exact hn
    · intro x hx
      obtain ⟨y, hy, rfl⟩ := List.mem_map.1 hx
      have := hc y hy
      split <;> exact this
end Go.Proofs.Ytlegjdlmcphhlaa
/-
  TREES AS MAPS: the reference's Of.
-/
namespace Go.Proofs.Ytlegjdlmcphhlaa
open Go.RowKit
open Go.ChangeMaps (setBlock)

/-- the map's function tells what the tree has -/
def Agree (w : World) (f : Int → Option Value) (xs : List M.Nd) : Prop :=
  ∀ k, (f k = none ∧ M.find xs k = none) ∨ ∃ (v : NV) (x : M.Nd), f k = some v.val ∧ M.find xs k = some x ∧ Cont w v x
theorem Agree.below {B : Nat} {w w' : World} {f : Int → Option Value} {xs : List M.Nd} (h : Agree w f xs) (hB : w.heap.size ≤ B) (hb : Below B w w') : Agree w' f xs := fun k =>
  (h k).imp id fun ⟨v, x, h1, h2, h3⟩ => ⟨v, x, h1, h2, h3.below hB hb⟩
theorem agree_nil (w : World) : Agree w (fun _ => none) [] := fun _ => .inl ⟨rfl, rfl⟩
def TMap (w : World) (b : Nat) (xs : List M.Nd) : Prop := ∃ f, IMap w b f ∧ Agree w f xs
theorem TMap.below {B : Nat} {w w' : World} {b : Nat} {xs : List M.Nd} (h : TMap w b xs) (hB : w.heap.size ≤ B) (hb : Below B w w') : TMap w' b xs := by
  obtain ⟨f, h1, h2⟩ := h
  exact ⟨f, h1.below hB hb, h2.below hB hb⟩
theorem find_fid {xs : List M.Nd} {k : Int} {x : M.Nd} (h : M.find xs k = some x) : x.fid = k := by
  unfold M.find at h
  have := List.find?_some h
  simpa using this
theorem find_snoc {xs : List M.Nd} {x : M.Nd} (hr : M.RsN (xs ++ [x])) (k : Int) : M.find (xs ++ [x]) k = if k = x.fid then some x else M.find xs k := by
  have hno : M.find xs x.fid = none := by
    unfold M.find
    rw [List.find?_eq_none]
    intro y hy
    have hp : M.Rs M.ltI ((xs ++ [x]).map (·.fid)) := hr
    unfold M.Rs at hp
    rw [List.map_append, List.pairwise_append] at hp
    have := hp.2.2 y.fid (List.mem_map.2 ⟨y, hy, rfl⟩) x.fid (by simp)
    simp [M.ltI] at this
    simp
    omega
  unfold M.find at hno ⊢
  rw [List.find?_append]
  by_cases hk : k = x.fid
  · subst hk
    rw [hno, if_pos rfl]
    simp
  · rw [if_neg hk]
    have : ([x].find? fun x => decide (x.fid = k)) = none := by simp [Ne.symm hk]
    rw [this]
    simp
theorem agree_upd {w : World} {f : Int → Option Value} {xs ys : List M.Nd} {v : NV} {x : M.Nd} (h : Agree w f xs) (hc : Cont w v x) (hf : ∀ k, M.find ys k = if k = x.fid then some x else M.find xs k) : Agree w (updF f v.fid v.val) ys := by
  intro k
  rw [hf k]
  unfold updF
  rw [hc.1]
  by_cases hk : k = x.fid
  · rw [if_pos hk, if_pos hk]; exact .inr ⟨v, x, rfl, rfl, hc⟩
  · rw [if_neg hk, if_neg hk]; exact h k

/-- so far -/
def OfInv (w : World) (b : Nat) (xs : List M.Nd) (wr : World) : Prop := (∃ f, IMap wr b f ∧ Agree w f xs) ∧ Below w.heap.size w wr
theorem of_step {w : World} {b : Nat} {xs ys : List M.Nd} {v : NV} {x : M.Nd} {wr : World} (h : OfInv w b xs wr) (hwb : w.heap.size ≤ b) (hc : Cont w v x) (hf : ∀ k, M.find ys k = if k = x.fid then some x else M.find xs k) :
    ∃ o : Obj, (Instr.mapUpdate 30 (.map (some b)) (.int .i64 v.fid) v.val).run Try.prog wr = .ok () (setBlock wr b o) ∧ OfInv w b ys (setBlock wr b o) := by
  obtain ⟨⟨f, hi, ha⟩, hb⟩ := h
  obtain ⟨o, hrun, him⟩ := run_update_map 30 26 Try.underlying30 hi v.fid v.val
  exact ⟨o, hrun, ⟨_, him, agree_upd ha hc hf⟩, setBlock_below hb hwb o⟩
theorem OfInv.alloc {w : World} {b : Nat} {xs : List M.Nd} {wr : World} (h : OfInv w b xs wr) (o : Obj) : OfInv w b xs (wr.alloc o) := by
  obtain ⟨⟨f, hi, ha⟩, hb⟩ := h
  exact ⟨⟨f, hi.below (Nat.le_refl _) ((Below.refl _ _).alloc (Nat.le_refl _) o), ha⟩, hb.alloc hb.size o⟩
theorem OfInv.tmap {w : World} {b : Nat} {xs : List M.Nd} {wr : World} (h : OfInv w b xs wr) : TMap wr b xs := by
  obtain ⟨⟨f, hi, ha⟩, hb⟩ := h
  exact ⟨f, hi, ha.below (Nat.le_refl _) hb⟩
theorem rs_takeN {xs : List M.Nd} (k : Nat) (h : M.RsN xs) : M.RsN (xs.take k) := M.rs_sub h ((List.take_sublist k xs).map _)

set_option maxHeartbeats 2000000 in
theorem of_any (A : Option Addr) (n c : Nat) (vs : List NV) (xs : List M.Nd) (w : World) (ht : Tree w A n vs xs) (hr : M.RsN xs) (hn : n * 72 ≤ 140737488355328) :
    Calls Try.prog 8 #[.slice A n c] w fun e w' => ∃ b, e = .returned (.map (some b)) ∧ TMap w' b xs ∧ Below w.heap.size w w' := by
  have HT : Hid (Tree w A n vs xs ∧ M.RsN xs) := ⟨ht, hr⟩
  have HL : Hid (n = xs.length) := by show n = _; rw [ht.1.1, ht.2.1]
  have hmm := @run_makeMap Try.prog
  have H0 : Hid (OfInv w w.heap.size [] (w.alloc (.map #[] 0))) := ⟨⟨_, IMap.new w, agree_nil w⟩, (Below.refl _ _).alloc (Nat.le_refl _) _⟩
  clear ht hr
  go_enter Try.func8, Try.ntmps8
  go_wp2
  go_loopw [9] (fun i wr => ∃ k : Nat, k ≤ n ∧ i = .int .i64 k ∧ OfInv w w.heap.size (xs.take k) wr) (fun i _ => n - (intOf i).toNat)
  case atStart => exact ⟨0, Nat.zero_le _, rfl, H0.out⟩
  case round =>
    obtain ⟨k, hk, rfl, hinv⟩ := hrel
    have HI : Hid (OfInv w w.heap.size (xs.take k) wr) := hinv
    have hb := hinv.2
    clear hinv
    by_cases hlt : k < n
    · have hxr := HT.out.1.below (Nat.le_refl _) hb
      obtain ⟨b, o, v, hA, _, hvk, a0, a1, a2, a3, a4⟩ := hxr.1.at hlt
      obtain ⟨x, hxk, hcx⟩ := HT.out.1.2.at hvk
      have HX : Hid (Cont w v x ∧ xs[k]? = some x) := ⟨hcx, hxk⟩
      have HF : Hid (∀ q, M.find (xs.take (k + 1)) q = if q = x.fid then some x else M.find (xs.take k) q) := by
        intro q
        have h1 := rs_takeN (k + 1) HT.out.2
        rw [take_step hxk] at h1 ⊢
        exact find_snoc h1 q
      obtain ⟨ob, hrun, hinv2⟩ := of_step (HI.out.alloc (.cells #[.int .i64 v.fid, .bool v.dir, .slice v.dA v.dn v.dc, .slice v.eA v.en v.ec, .int .i64 v.ver] 26)) (Nat.le_refl _) hcx HF.out
      have HI2 : Hid (OfInv w w.heap.size (xs.take (k + 1)) (setBlock (wr.alloc (.cells #[.int .i64 v.fid, .bool v.dir, .slice v.dA v.dn v.dc, .slice v.eA v.en v.ec, .int .i64 v.ver] 26)) w.heap.size ob)) := hinv2
      have hkn : (k : Int) < (n : Int) := by omega
      have hk0 : (0 : Int) ≤ (k : Int) := by omega
      subst hA
      clear hxr hvk hxk hcx hinv2
      go_wp2
      go_roundw
      case rel => exact ⟨k + 1, by omega, by go_num, HI2.out⟩
      case measure => simp [intOf]; omega
    · have HN : Hid (xs.take k = xs) := by have := HL.out; show _ = _; exact List.take_of_length_le (by omega)
      go_wp2
      go_ret
      have h1 := HI.out
      rw [HN.out] at h1
      exact ⟨_, rfl, h1.tmap, hb⟩
end Go.Proofs.Ytlegjdlmcphhlaa
/-
  A TREE AS A MAP, asked.
-/
namespace Go.Proofs.Ytlegjdlmcphhlaa
open Go.RowKit

theorem zero26 (w : World) : (zeroValue 26).run Try.prog w = .ok NV.zero.val w := by
  obtain ⟨i26, hi26, hz26, hs26, hb26⟩ := info_parts info26
  simp [zeroValue, typeInfo, hi26, hz26, NV.zero]
theorem IMap.ask {w : World} {bm : Nat} {xs : List M.Nd} (h : TMap w bm xs) (k : Int) :
    (M.find xs k = none ∧ ∀ ok : Bool, (Instr.lookup 30 (.map (some bm)) (.int .i64 k) ok).run Try.prog w = .ok (if ok then .tuple #[NV.zero.val, .bool false] else NV.zero.val) w) ∨
    ∃ (v : NV) (x : M.Nd), M.find xs k = some x ∧ Cont w v x ∧ ∀ ok : Bool, (Instr.lookup 30 (.map (some bm)) (.int .i64 k) ok).run Try.prog w = .ok (if ok then .tuple #[v.val, .bool true] else v.val) w := by
  obtain ⟨f, hi, ha⟩ := h
  rcases ha k with ⟨h1, h2⟩ | ⟨v, x, h1, h2, h3⟩
  · refine .inl ⟨h2, fun ok => ?_⟩
    rw [run_lookup_map 30 26 Try.underlying30 (zero26 w) hi k ok, h1]
    rfl
  · refine .inr ⟨v, x, h2, h3, fun ok => ?_⟩
    rw [run_lookup_map 30 26 Try.underlying30 (zero26 w) hi k ok, h1]
    rfl

end Go.Proofs.Ytlegjdlmcphhlaa
/-
  THE REFERENCE's Entry.
-/
namespace Go.Proofs.Ytlegjdlmcphhlaa
open Go.RowKit

theorem look_none {es : List (ByteArray × Int)} {s : ByteArray} {k : Nat} (h : ∀ e ∈ es.take k, e.1 ≠ s) (hk : es.length ≤ k) : M.look es s = none := by
  rw [List.take_of_length_le hk] at h
  unfold M.look
  rw [List.find?_eq_none]
  intro e he
  simpa using h e he
theorem look_some {es : List (ByteArray × Int)} {s : ByteArray} {k : Nat} {a : ByteArray × Int} (h : ∀ e ∈ es.take k, e.1 ≠ s) (ha : es[k]? = some a) (hs : a.1 = s) : M.look es s = some a := by
  unfold M.look
  obtain ⟨hi, hx⟩ := List.getElem?_eq_some_iff.1 ha
  rw [List.find?_eq_some_iff_getElem]
  refine ⟨by simpa using hs, k, hi, hx, fun j hj => ?_⟩
  have := h es[j] (List.mem_take_iff_getElem.2 ⟨j, by omega, rfl⟩)
  simpa using this

set_option maxHeartbeats 2000000 in
theorem refEntry_any (v : NV) (x : M.Nd) (s : ByteArray) (w : World) (hc : Cont w v x) (hs : Small x) :
    Calls Try.prog 25 #[v.val, .string s] w fun e w' => e = .returned (.tuple #[.int .i64 (((M.look x.ents s).map (·.2)).getD 0), .bool (M.look x.ents s).isSome]) ∧ Below w.heap.size w w' := by
  have hwa : Below w.heap.size w (w.alloc (.cells #[.int .i64 v.fid, .bool v.dir, .slice v.dA v.dn v.dc, .slice v.eA v.en v.ec, .int .i64 v.ver] 26)) := (Below.refl _ _).alloc (Nat.le_refl _) _
  have HB : Hid (Box (w.alloc (.cells #[.int .i64 v.fid, .bool v.dir, .slice v.dA v.dn v.dc, .slice v.eA v.en v.ec, .int .i64 v.ver] 26)) w.heap.size v) := Box.new w v
  have HC : Hid (Cont w v x ∧ Small x) := ⟨hc, hs⟩
  have hen : v.en ≤ 140737488355328 := by have := hc.2.2.2.2.1; have := hs.2; omega
  have HL : Hid (v.en = x.ents.length) := hc.2.2.2.2.1
  clear hc hs
  go_enter Try.func25, Try.ntmps25
  go_wp2
  go_loopw [11] (fun i wr => ∃ k : Nat, k ≤ v.en ∧ i = .int .i64 k ∧ Hid (∀ e ∈ x.ents.take k, e.1 ≠ s) ∧ Box wr w.heap.size v ∧ Below w.heap.size w wr) (fun i _ => v.en - (intOf i).toNat)
  case atStart => exact ⟨0, Nat.zero_le _, rfl, (by intro e he; simp at he), HB.out, hwa⟩
  case round =>
    obtain ⟨k, hk, rfl, HE, hbx, hb⟩ := hrel
    have HBX : Hid (Box wr w.heap.size v) := hbx
    obtain ⟨p0, p1, p2, p3, p4, pf, pz⟩ := hbx.facts
    clear hbx p0 p1 p2 p4
    have hsz := hb.size
    by_cases hlt : k < v.en
    · obtain ⟨g, o, ⟨nm, fd⟩, ha, _, hak, a0, a1⟩ := Ents.at (HC.out.1.2.2.2.2.below (Nat.le_refl _) hb) hlt
      have HA : Hid (x.ents[k]? = some (nm, fd)) := hak
      dsimp only at a0 a1
      have hkn : (k : Int) < (v.en : Int) := by omega
      have hk0 : (0 : Int) ≤ (k : Int) := by omega
      have hba : Below wr.heap.size wr (wr.alloc (.cells #[.string nm, .int .i64 fd] 72)) := (Below.refl _ _).alloc (Nat.le_refl _) _
      have HR : Hid (Box (wr.alloc (.cells #[.string nm, .int .i64 fd] 72)) w.heap.size v ∧ Below w.heap.size w (wr.alloc (.cells #[.string nm, .int .i64 fd] 72))) := ⟨HBX.out.alloc _, hb.trans (hba.mono hsz)⟩
      clear hak hba p3
      by_cases hse : nm = s
      · have q : (nm.toList == s.toList) = true := by rw [raw_eq]; exact decide_eq_true hse
        have HSE : Hid (nm = s) := hse
        clear hse
        go_wp2
        go_ret2
        rw [look_some HE.out HA.out HSE.out]
        exact ⟨rfl, HR.out.2⟩
      · have q : (nm.toList == s.toList) = false := by rw [raw_eq]; exact decide_eq_false hse
        have HSE : Hid (nm ≠ s) := hse
        clear hse
        go_wp2
        go_roundw
        case rel => exact ⟨k + 1, by omega, by go_num, by intro e he; rw [take_step HA.out] at he; rcases List.mem_append.1 he with h1 | h1; exact HE.out e h1; rw [List.mem_singleton.1 h1]; exact HSE.out, HR.out.1, HR.out.2⟩
        case measure => simp [intOf]; omega
    · have HN : Hid (x.ents.length ≤ k) := by have := HL.out; show _ ≤ _; omega
      go_wp2
      go_ret2
      rw [look_none HE.out HN.out]
      exact ⟨rfl, hb⟩
end Go.Proofs.Ytlegjdlmcphhlaa
/-
  THE REFERENCE's dir, room, and what sets a version.
-/
namespace Go.Proofs.Ytlegjdlmcphhlaa
open Go.RowKit

set_option maxRecDepth 4000 in
set_option maxHeartbeats 1000000 in
theorem refDir_any (bm : Nat) (xs : List M.Nd) (t : Int) (w : World) (ht : TMap w bm xs) :
    Calls Try.prog 60 #[.map (some bm), .int .i64 t] w fun e w' => ∃ v : NV, e = .returned (.tuple #[v.val, .int .i64 (M.dirS xs t).1]) ∧ ((M.dirS xs t).1 = 0 → Cont w' v (M.dirS xs t).2) ∧ Below w.heap.size w w' := by
  obtain ⟨f, hi, ha⟩ := ht
  have hlk := run_lookup_map 30 26 Try.underlying30 (zero26 (w.alloc (.cells #[.int .i64 0, .bool false, .slice none 0 0, .slice none 0 0, .int .i64 0] 26))) (hi.below (Nat.le_refl _) ((Below.refl _ _).alloc (Nat.le_refl _) (.cells #[.int .i64 0, .bool false, .slice none 0 0, .slice none 0 0, .int .i64 0] 26))) t true
  rcases ha t with ⟨h1, hf⟩ | ⟨v, x, h1, hf, hcx⟩
  · rw [h1] at hlk
    simp only [if_true, Option.getD_none, Option.isSome_none] at hlk
    have HD : Hid (M.dirS xs t = (12, nd0)) := M.dir_none hf
    clear hf hi ha h1
    go_enter Try.func60, Try.ntmps60
    go_wp2
    exact bodyPost_ret (v := .tuple #[NV.zero.val, .int .i64 12]) (by simp [results, Try.results60, go_sem, NV.zero]) rfl ⟨NV.zero, by rw [HD.out], fun h => by rw [HD.out] at h; simp at h, ((Below.refl _ _).alloc (Nat.le_refl _) _).alloc (by simp) _⟩
  · rw [h1] at hlk
    simp only [if_true, Option.getD_some, Option.isSome_some] at hlk
    clear hi ha h1
    obtain ⟨fi, di, dA, dn, dc, eA, en, ec, ve⟩ := v
    cases di
    · have HD : Hid (M.dirS xs t = (8, nd0)) := M.dir_file hf hcx.2.1.symm
      clear hf hcx
      go_enter Try.func60, Try.ntmps60
      go_wp2
      exact bodyPost_ret (v := .tuple #[NV.val ⟨fi, false, dA, dn, dc, eA, en, ec, ve⟩, .int .i64 8]) (by simp [results, Try.results60, go_sem]) rfl ⟨⟨fi, false, dA, dn, dc, eA, en, ec, ve⟩, by rw [HD.out], fun h => by rw [HD.out] at h; simp at h, ((Below.refl _ _).alloc (Nat.le_refl _) _).alloc (by simp) _⟩
    · have HD : Hid (M.dirS xs t = (0, x)) := M.dir_yes hf hcx.2.1.symm
      have HC : Hid (Cont w ⟨fi, true, dA, dn, dc, eA, en, ec, ve⟩ x) := hcx
      clear hf hcx
      go_enter Try.func60, Try.ntmps60
      go_wp2
      exact bodyPost_ret (v := .tuple #[NV.val ⟨fi, true, dA, dn, dc, eA, en, ec, ve⟩, .int .i64 0]) (by simp [results, Try.results60, go_sem]) rfl ⟨⟨fi, true, dA, dn, dc, eA, en, ec, ve⟩, by rw [HD.out], fun _ => by rw [HD.out]; exact HC.out.below (Nat.le_refl _) (((Below.refl _ _).alloc (Nat.le_refl _) _).alloc (by simp) _), ((Below.refl _ _).alloc (Nat.le_refl _) _).alloc (by simp) _⟩

set_option maxHeartbeats 1000000 in
theorem refRoom_any (v : NV) (x : M.Nd) (s : ByteArray) (w : World) (hc : Cont w v x) (hs : Small x) (hl : s.size ≤ maxLen) :
    Calls Try.prog 61 #[v.val, .string s] w fun e w' => e = .returned (.int .i64 (M.freeS x s)) ∧ Below w.heap.size w w' := by
  have HT : Hid (Cont w v x ∧ Small x ∧ s.size ≤ maxLen) := ⟨hc, hs, hl⟩
  have HW : Hid (Below w.heap.size w (w.alloc (.cells #[.int .i64 v.fid, .bool v.dir, .slice v.dA v.dn v.dc, .slice v.eA v.en v.ec, .int .i64 v.ver] 26)) ∧ Box (w.alloc (.cells #[.int .i64 v.fid, .bool v.dir, .slice v.dA v.dn v.dc, .slice v.eA v.en v.ec, .int .i64 v.ver] 26)) w.heap.size v) := ⟨(Below.refl _ _).alloc (Nat.le_refl _) _, Box.new w v⟩
  clear hc hs hl
  go_enter Try.func61, Try.ntmps61
  go_wp2_with (fail)
  refine (refEntry_any v x s _ (HT.out.1.below (Nat.le_refl _) HW.out.1) HT.out.2.1).mono ?_
  rintro e w1 ⟨rfl, hb1⟩
  have HB : Hid (Below w.heap.size w w1 ∧ Box w1 w.heap.size v) := ⟨HW.out.1.trans (hb1.mono (by simp)), HW.out.2.below hb1 (by simp)⟩
  have HEN : Hid (v.en = x.ents.length) := HT.out.1.2.2.2.2.1
  obtain ⟨b, hbe⟩ : ∃ b : Bool, (M.look x.ents s).isSome = b := ⟨_, rfl⟩
  have HU : Hid (M.freeS x s = if b || !M.nameB s.data.toList then 7 else if 6 ≤ x.ents.length then 5 else 0) := by show _ = _; unfold M.freeS; rw [hbe]
  rw [hbe]
  generalize ((M.look x.ents s).map (·.2)).getD 0 = f
  clear hb1 HW hbe
  obtain ⟨z0, z1, z2, z3, z4, zf, zz⟩ := HB.out.2.facts
  cases b
  · cases hnb : M.nameB s.data.toList
    · have HV : Hid ((7 : Int) = M.freeS x s) := by show _ = _; rw [HU.out, hnb]; rfl
      go_wp2_with (go_at_call 77; refine (refName_any s _ HT.out.2.2).mono ?_; rintro e w2 ⟨rfl, hw⟩; rw [hw, hnb]; clear hw)
      go_ret
      exact ⟨ret_int HV.out, HB.out.1⟩
    · by_cases h6 : 6 ≤ v.en
      · have HV : Hid ((5 : Int) = M.freeS x s) := by show _ = _; rw [HU.out, hnb, ← HEN.out, if_neg (by simp), if_pos h6]
        have h6' : (6 : Int) ≤ (v.en : Int) := by omega
        go_wp2_with (go_at_call 77; refine (refName_any s _ HT.out.2.2).mono ?_; rintro e w2 ⟨rfl, hw⟩; rw [hw, hnb]; clear hw)
        go_ret
        exact ⟨ret_int HV.out, HB.out.1⟩
      · have HV : Hid ((0 : Int) = M.freeS x s) := by show _ = _; rw [HU.out, hnb, ← HEN.out, if_neg (by simp), if_neg h6]
        have h6' : ¬ (6 : Int) ≤ (v.en : Int) := by omega
        go_wp2_with (go_at_call 77; refine (refName_any s _ HT.out.2.2).mono ?_; rintro e w2 ⟨rfl, hw⟩; rw [hw, hnb]; clear hw)
        go_ret
        exact ⟨ret_int HV.out, HB.out.1⟩
  · have HV : Hid ((7 : Int) = M.freeS x s) := by show _ = _; rw [HU.out]; rfl
    go_wp2_with (fail)
    go_ret
    exact ⟨ret_int HV.out, HB.out.1⟩

theorem refVer_any (v : NV) (p : Nat) (ver : Int) (w : World) (hp : w.cell? ⟨p, 0, none⟩ = some (.int .i64 ver)) :
    Calls Try.prog 59 #[v.val, .pointer (some ⟨p, 0, none⟩)] w fun e w' => e = .returned (NV.val ⟨v.fid, v.dir, v.dA, v.dn, v.dc, v.eA, v.en, v.ec, ver⟩) ∧ Below w.heap.size w w' := by
  have hpl : p < w.heap.size := World.block_lt_of_cell? w _ hp
  go_enter Try.func59, Try.ntmps59
  go_wp2
  exact bodyPost_ret (v := NV.val ⟨v.fid, v.dir, v.dA, v.dn, v.dc, v.eA, v.en, v.ec, ver⟩) (by simp [results, Try.results59, go_sem]) rfl ⟨rfl, ((Below.refl _ _).alloc (Nat.le_refl _) _).alloc (by simp) _⟩
end Go.Proofs.Ytlegjdlmcphhlaa
/-
  A MAP IS GONE THROUGH; the reference's With and Without.
-/
namespace Go.Proofs.Ytlegjdlmcphhlaa
open Go.RowKit
open Go.ChangeMaps (setBlock)

/-- block r goes through the map at bm; all that was there in w0 is there -/
structure It (w0 : World) (r bm : Nat) (es : Array MapEntry) (clock : Nat) (seen : Array Nat) (wr : World) : Prop where
  it : ∃ c0, wr.heap[r]? = some (.mapIter (some bm) clock seen c0) ∧ clock ≤ c0
  at_ : w0.heap[bm]? = some (.map es clock)
  far : w0.heap.size ≤ r
  bel : Below w0.heap.size w0 wr
theorem It.below {w0 : World} {r bm : Nat} {es : Array MapEntry} {clock : Nat} {seen : Array Nat} {wr w' : World} (h : It w0 r bm es clock seen wr) (hb : Below wr.heap.size wr w') : It w0 r bm es clock seen w' := by
  obtain ⟨⟨c0, h1, h2⟩, h3, h4, h5⟩ := h
  exact ⟨⟨c0, by rw [hb.block r (lt_of_block h1)]; exact h1, h2⟩, h3, h4, h5.trans (hb.mono h5.size)⟩
theorem It.set {w0 : World} {r bm : Nat} {es : Array MapEntry} {clock : Nat} {seen : Array Nat} {wr : World} (h : It w0 r bm es clock seen wr) {b : Nat} (hb : w0.heap.size ≤ b) (hne : r ≠ b) (o : Obj) : It w0 r bm es clock seen (setBlock wr b o) := by
  obtain ⟨⟨c0, h1, h2⟩, h3, h4, h5⟩ := h
  exact ⟨⟨c0, by rw [setBlock_other hne]; exact h1, h2⟩, h3, h4, setBlock_below h5 hb o⟩
theorem It.seen {w0 : World} {r bm : Nat} {es : Array MapEntry} {clock : Nat} {seen : Array Nat} {wr : World} (h : It w0 r bm es clock seen wr) : wr.iterSeen r = seen := by
  obtain ⟨⟨c0, h1, _⟩, _⟩ := h
  simp [World.iterSeen, h1]

/-- the worlds behind 'next' -/
theorem It.next {w0 : World} {r bm : Nat} {es : Array MapEntry} {clock : Nat} {seen : Array Nat} {wr : World} (h : It w0 r bm es clock seen wr) (hn : (es.toList.map (·.born)).Nodup) (hc : ∀ e ∈ es.toList, e.born < clock) (ty : TypeId) :
    ((leftOf es seen).size = 0 ∧ (Instr.next (.pointer (some ⟨r, 0, none⟩)) false ty).run Try.prog wr = .ok (.tuple #[.bool false]) wr) ∨
    ∃ e ∈ (leftOf es seen).toList, ∃ W : World, (Instr.next (.pointer (some ⟨r, 0, none⟩)) false ty).run Try.prog wr = .ok (.tuple #[.bool true, e.key, e.val]) W ∧
      (Instr.entry (.pointer (some ⟨r, 0, none⟩))).run Try.prog W = .ok (.tuple #[e.key, e.val]) W ∧ It w0 r bm es clock (seen.push e.born) W ∧ W.heap.size = wr.heap.size ∧ ∀ c : Nat, c ≠ r → W.heap[c]? = wr.heap[c]? := by
  obtain ⟨⟨c0, h1, h2⟩, h3, h4, h5⟩ := h
  have hbm : bm < w0.heap.size := lt_of_block h3
  have hb : wr.heap[bm]? = some (.map es clock) := by rw [h5.block bm hbm]; exact h3
  rcases run_next_at (P := Try.prog) wr ty r bm clock c0 seen es clock h1 hb hc h2 with h | ⟨e, he, w1, hw1, hrun⟩
  · exact .inl h
  · right
    have hr1 : w1.heap[r]? = some (.mapIter (some bm) clock seen c0) := by rcases hw1 with rfl | rfl <;> exact h1
    have hsz : w1.heap.size = wr.heap.size := by rcases hw1 with rfl | rfl <;> rfl
    have hh : ∀ c : Nat, w1.heap[c]? = wr.heap[c]? := by rcases hw1 with rfl | rfl <;> exact fun _ => rfl
    have hb1 : Below w0.heap.size w0 w1 := by rcases hw1 with rfl | rfl; exact h5; exact h5.drew
    have hW : (setBlock w1 r (.mapIter (some bm) clock (seen.push e.born) clock)).heap[r]? = some (.mapIter (some bm) clock (seen.push e.born) clock) := setBlock_at hr1
    refine ⟨e, he, _, hrun, run_entry_at _ r bm clock seen es clock e hW (by rw [setBlock_other (by omega), hh]; exact hb) (mem_left he).1 hn, ⟨⟨clock, hW, Nat.le_refl _⟩, h3, h4, setBlock_below hb1 h4 _⟩, by rw [setBlock_size]; exact hsz, fun c hc => by rw [setBlock_other hc]; exact hh c⟩

/-- of what has been seen, and is asked for, g tells -/
def Seen (p : Int → Bool) (es : Array MapEntry) (seen : Array Nat) (g : Int → Option Value) : Prop :=
  ∀ k v, g k = some v ↔ ∃ e ∈ es.toList, seen.contains e.born = true ∧ e.key = .int .i64 k ∧ e.val = v ∧ p k = true
theorem seen_none (p : Int → Bool) (es : Array MapEntry) : Seen p es #[] (fun _ => none) := by
  intro k v
  constructor
  · intro h; cases h
  · rintro ⟨e, _, h, _⟩; simp at h
theorem key_one {L : List MapEntry} (hp : L.Pairwise fun a b => a.key ≠ b.key) {a b : MapEntry} (ha : a ∈ L) (hb : b ∈ L) (h : a.key = b.key) : a = b := by
  obtain ⟨i, hi, rfl⟩ := List.mem_iff_getElem.1 ha
  obtain ⟨j, hj, rfl⟩ := List.mem_iff_getElem.1 hb
  rw [List.pairwise_iff_getElem] at hp
  rcases Nat.lt_trichotomy i j with h1 | h1 | h1
  · exact absurd h (hp i j hi hj h1)
  · subst h1; rfl
  · exact absurd h.symm (hp j i hj hi h1)
theorem seen_step {p : Int → Bool} {es : Array MapEntry} {seen : Array Nat} {g f : Int → Option Value} {e : MapEntry} {k : Int} (h : Seen p es seen g) (hh : Holds es.toList f) (hn : (es.toList.map (·.born)).Nodup)
    (he : e ∈ es.toList) (hk : e.key = .int .i64 k) (hp : p k = true) : Seen p es (seen.push e.born) (updF g k e.val) := by
  intro q v
  unfold updF
  by_cases hq : q = k
  · rw [if_pos hq]
    subst hq
    constructor
    · intro h1
      injection h1 with h1
      exact ⟨e, he, by rw [contains_push]; simp, hk, h1, hp⟩
    · rintro ⟨x, hx, _, hxk, hxv, _⟩
      have := key_one hh.one hx he (by rw [hxk, hk])
      rw [← hxv, this]
  · rw [if_neg hq, h q v]
    constructor
    · rintro ⟨x, hx, hs, hr⟩
      exact ⟨x, hx, by rw [contains_push, hs]; rfl, hr⟩
    · rintro ⟨x, hx, hs, hxk, hr⟩
      refine ⟨x, hx, ?_, hxk, hr⟩
      rw [contains_push, Bool.or_eq_true] at hs
      rcases hs with hs | hs
      · exact hs
      · have hxe := born_inj hn hx he (by simpa using hs)
        subst hxe
        rw [hk] at hxk
        injection hxk with _ hxk
        exact absurd hxk.symm hq
theorem seen_skip {p : Int → Bool} {es : Array MapEntry} {seen : Array Nat} {g : Int → Option Value} {e : MapEntry} {k : Int} (h : Seen p es seen g) (hn : (es.toList.map (·.born)).Nodup)
    (he : e ∈ es.toList) (hk : e.key = .int .i64 k) (hp : p k = false) : Seen p es (seen.push e.born) g := by
  intro q v
  rw [h q v]
  constructor
  · rintro ⟨x, hx, hs, hr⟩
    exact ⟨x, hx, by rw [contains_push, hs]; rfl, hr⟩
  · rintro ⟨x, hx, hs, hxk, hxv, hpq⟩
    refine ⟨x, hx, ?_, hxk, hxv, hpq⟩
    rw [contains_push, Bool.or_eq_true] at hs
    rcases hs with hs | hs
    · exact hs
    · have hxe := born_inj hn hx he (by simpa using hs)
      subst hxe
      rw [hk] at hxk
      injection hxk with _ hxk
      subst hxk
      rw [hp] at hpq
      cases hpq
theorem seen_end {p : Int → Bool} {es : Array MapEntry} {seen : Array Nat} {g f : Int → Option Value} (h : Seen p es seen g) (hh : Holds es.toList f) (h0 : (leftOf es seen).size = 0) (k : Int) : g k = if p k then f k else none := by
  have hall := all_seen es seen h0
  cases hg : g k with
  | some v =>
    obtain ⟨e, he, _, hk, hv, hp⟩ := (h k v).1 hg
    rw [hp, if_pos rfl]
    obtain ⟨q, hq, hf⟩ := hh.key e he
    rw [hk] at hq
    injection hq with _ hq
    subst hq
    rw [hf, hv]
  | none =>
    cases hp : p k with
    | false => rfl
    | true =>
      rw [if_pos rfl]
      cases hf : f k with
      | none => rfl
      | some v =>
        obtain ⟨e, he, hk, hv⟩ := hh.all k v hf
        have := (h k v).2 ⟨e, he, hall e he, hk, hv, hp⟩
        rw [hg] at this
        cases this

/-- the map's copy, so far -/
def RI (w0 : World) (bm : Nat) (es : Array MapEntry) (clock : Nat) (p : Int → Bool) (seen : Array Nat) (wr : World) : Prop :=
  It w0 (w0.heap.size + 1) bm es clock seen wr ∧ ∃ g, IMap wr w0.heap.size g ∧ Seen p es seen g
theorem RI.start {w0 : World} {bm : Nat} {es : Array MapEntry} {clock : Nat} (p : Int → Bool) (hb : w0.heap[bm]? = some (.map es clock)) : RI w0 bm es clock p #[] ((w0.alloc (.map #[] 0)).alloc (.mapIter (some bm) clock #[] clock)) := by
  have h1 : ((w0.alloc (.map #[] 0)).alloc (.mapIter (some bm) clock #[] clock)).heap[w0.heap.size + 1]? = some (.mapIter (some bm) clock #[] clock) := by
    have := heap_alloc_new (w0.alloc (.map #[] 0)) (.mapIter (some bm) clock #[] clock)
    simpa using this
  refine ⟨⟨⟨clock, h1, Nat.le_refl _⟩, hb, by omega, ((Below.refl _ _).alloc (Nat.le_refl _) _).alloc (by simp) _⟩, fun _ => none, ?_, seen_none p es⟩
  exact (IMap.new w0).below (Nat.le_refl _) ((Below.refl _ _).alloc (Nat.le_refl _) _)
/-- what a round of the copy finds -/
theorem RI.round {w0 : World} {bm : Nat} {es : Array MapEntry} {clock : Nat} {p : Int → Bool} {seen : Array Nat} {wr : World} {f : Int → Option Value} {xs : List M.Nd} (h : RI w0 bm es clock p seen wr) (hh : Holds es.toList f) (hn : (es.toList.map (·.born)).Nodup) (hc : ∀ e ∈ es.toList, e.born < clock) (ha : Agree w0 f xs) (ty : TypeId) :
    ((leftOf es seen).size = 0 ∧ (Instr.next (.pointer (some ⟨w0.heap.size + 1, 0, none⟩)) false ty).run Try.prog wr = .ok (.tuple #[.bool false]) wr) ∨
    ∃ (b : Nat) (v : NV) (k : Int) (W : World), (leftOf es (seen.push b)).size < (leftOf es seen).size ∧ (Instr.next (.pointer (some ⟨w0.heap.size + 1, 0, none⟩)) false ty).run Try.prog wr = .ok (.tuple #[.bool true, .int .i64 k, v.val]) W ∧
      (Instr.entry (.pointer (some ⟨w0.heap.size + 1, 0, none⟩))).run Try.prog W = .ok (.tuple #[.int .i64 k, v.val]) W ∧
      (p k = false → RI w0 bm es clock p (seen.push b) (W.alloc (.cells #[.int .i64 v.fid, .bool v.dir, .slice v.dA v.dn v.dc, .slice v.eA v.en v.ec, .int .i64 v.ver] 26))) ∧
      (p k = true → ∃ o : Obj, (Instr.mapUpdate 30 (.map (some w0.heap.size)) (.int .i64 k) v.val).run Try.prog (W.alloc (.cells #[.int .i64 v.fid, .bool v.dir, .slice v.dA v.dn v.dc, .slice v.eA v.en v.ec, .int .i64 v.ver] 26)) = .ok () (setBlock (W.alloc (.cells #[.int .i64 v.fid, .bool v.dir, .slice v.dA v.dn v.dc, .slice v.eA v.en v.ec, .int .i64 v.ver] 26)) w0.heap.size o) ∧ RI w0 bm es clock p (seen.push b) (setBlock (W.alloc (.cells #[.int .i64 v.fid, .bool v.dir, .slice v.dA v.dn v.dc, .slice v.eA v.en v.ec, .int .i64 v.ver] 26)) w0.heap.size o)) := by
  obtain ⟨hit, g, hg, hs⟩ := h
  rcases hit.next hn hc ty with h1 | ⟨e, he, W, h1, h2, h3, h4, h5⟩
  · exact .inl h1
  · right
    obtain ⟨hem, _⟩ := mem_left he
    obtain ⟨k, hk, hf⟩ := hh.key e hem
    rcases ha k with ⟨h6, _⟩ | ⟨v, x, h6, _, _⟩
    · rw [h6] at hf; cases hf
    · rw [h6] at hf
      injection hf with hf
      have hgW : IMap W w0.heap.size g := hg.same (h5 _ (by omega))
      have hwa : Below W.heap.size W (W.alloc (.cells #[.int .i64 v.fid, .bool v.dir, .slice v.dA v.dn v.dc, .slice v.eA v.en v.ec, .int .i64 v.ver] 26)) := (Below.refl _ _).alloc (Nat.le_refl _) _
      refine ⟨e.born, v, k, W, left_shrinks es seen e he, by rw [h1, hk, hf], by rw [h2, hk, hf], fun hp => ?_, fun hp => ?_⟩
      · exact ⟨h3.below hwa, g, hgW.below (Nat.le_refl _) hwa, seen_skip hs hn hem hk hp⟩
      · obtain ⟨o, hr, hi⟩ := run_update_map 30 26 Try.underlying30 (hgW.below (Nat.le_refl _) hwa) k v.val
        refine ⟨o, hr, (h3.below hwa).set (Nat.le_refl _) (by omega) o, _, hi, ?_⟩
        have := seen_step hs hh hn hem hk hp
        rw [← hf] at this
        exact this

theorem find_putN (xs : List M.Nd) (x : M.Nd) (k : Int) : M.find (M.putN xs x) k = if k = x.fid then some x else M.find xs k := by
  by_cases hk : k = x.fid
  · rw [if_pos hk, hk]; exact findN_put xs x
  · rw [if_neg hk]; exact findN_other xs x k hk

set_option maxHeartbeats 2000000 in
theorem with_any (bm : Nat) (xs : List M.Nd) (v : NV) (x : M.Nd) (w : World) (ht : TMap w bm xs) (hc : Cont w v x) :
    Calls Try.prog 13 #[.map (some bm), v.val] w fun e w' => ∃ b, e = .returned (.map (some b)) ∧ TMap w' b (M.putN xs x) ∧ Below w.heap.size w w' := by
  obtain ⟨f, ⟨es, clock, hb, hh, hn, hcl⟩, ha⟩ := ht
  have hwa : Below w.heap.size w (w.alloc (.cells #[.int .i64 v.fid, .bool v.dir, .slice v.dA v.dn v.dc, .slice v.eA v.en v.ec, .int .i64 v.ver] 26)) := (Below.refl _ _).alloc (Nat.le_refl _) _
  have hbm : bm < w.heap.size := lt_of_block hb
  have H0 : Hid ((w.alloc (.cells #[.int .i64 v.fid, .bool v.dir, .slice v.dA v.dn v.dc, .slice v.eA v.en v.ec, .int .i64 v.ver] 26)).heap[bm]? = some (.map es clock) ∧ Box (w.alloc (.cells #[.int .i64 v.fid, .bool v.dir, .slice v.dA v.dn v.dc, .slice v.eA v.en v.ec, .int .i64 v.ver] 26)) w.heap.size v ∧ Cont (w.alloc (.cells #[.int .i64 v.fid, .bool v.dir, .slice v.dA v.dn v.dc, .slice v.eA v.en v.ec, .int .i64 v.ver] 26)) v x ∧ Agree (w.alloc (.cells #[.int .i64 v.fid, .bool v.dir, .slice v.dA v.dn v.dc, .slice v.eA v.en v.ec, .int .i64 v.ver] 26)) f xs ∧ Below w.heap.size w (w.alloc (.cells #[.int .i64 v.fid, .bool v.dir, .slice v.dA v.dn v.dc, .slice v.eA v.en v.ec, .int .i64 v.ver] 26))) :=
    ⟨by rw [hwa.block bm hbm]; exact hb, Box.new w v, hc.below (Nat.le_refl _) hwa, ha.below (Nat.le_refl _) hwa, hwa⟩
  have HH : Hid (Holds es.toList f ∧ (es.toList.map (·.born)).Nodup ∧ ∀ e ∈ es.toList, e.born < clock) := ⟨hh, hn, hcl⟩
  have hrg := run_range_map (P := Try.prog) ((w.alloc (.cells #[.int .i64 v.fid, .bool v.dir, .slice v.dA v.dn v.dc, .slice v.eA v.en v.ec, .int .i64 v.ver] 26)).alloc (.map #[] 0)) 30 3 26 bm es clock Try.underlying30 (by rw [Below.heap_alloc _ _ _ (lt_of_block H0.out.1)]; exact H0.out.1)
  have hmm := @run_makeMap Try.prog
  clear hb hh hn hcl ha hc hwa
  go_enter Try.func13, Try.ntmps13
  go_wp2
  have hsz : (w.alloc (.cells #[.int .i64 v.fid, .bool v.dir, .slice v.dA v.dn v.dc, .slice v.eA v.en v.ec, .int .i64 v.ver] 26)).heap.size = w.heap.size + 1 := by simp
  generalize w.alloc (.cells #[.int .i64 v.fid, .bool v.dir, .slice v.dA v.dn v.dc, .slice v.eA v.en v.ec, .int .i64 v.ver] 26) = W0 at H0 hrg hsz ⊢
  have HSZ : Hid (W0.heap.size = w.heap.size + 1) := hsz
  clear hrg hsz
  go_loopw [] (fun wr => ∃ seen, RI W0 bm es clock (fun _ => true) seen wr) (fun wr => (leftOf es (wr.iterSeen (w.heap.size + 1 + 1))).size)
  case atStart => exact ⟨#[], RI.start _ H0.out.1⟩
  case round =>
    obtain ⟨seen, hri⟩ := hrel
    have HRI : Hid (RI W0 bm es clock (fun _ => true) seen wr) := hri
    have hse := hri.1.seen
    have hrd := hri.round HH.out.1 HH.out.2.1 HH.out.2.2 H0.out.2.2.2.1 0
    rw [HSZ.out] at hrd hse
    rcases hrd with ⟨h0, hnx⟩ | ⟨b, ve, k, W, hlt, hnx, hen, _, hup⟩
    · obtain ⟨hit, g, hg, hs⟩ := HRI.out
      have hge : g = f := by funext q; have := seen_end hs HH.out.1 h0 q; simpa using this
      rw [hge] at hg
      rw [HSZ.out] at hg
      obtain ⟨o, hu, him⟩ := run_update_map 30 26 Try.underlying30 hg v.fid v.val
      have hbl : Below w.heap.size w (setBlock wr (w.heap.size + 1) o) := setBlock_below (H0.out.2.2.2.2.trans (hit.bel.mono (by rw [HSZ.out]; omega))) (by omega) o
      have hb0 : Below W0.heap.size W0 (setBlock wr (w.heap.size + 1) o) := setBlock_below hit.bel (by rw [HSZ.out]; omega) o
      have HF : Hid (TMap (setBlock wr (w.heap.size + 1) o) (w.heap.size + 1) (M.putN xs x) ∧ Below w.heap.size w (setBlock wr (w.heap.size + 1) o)) :=
        ⟨⟨_, him, (agree_upd H0.out.2.2.2.1 H0.out.2.2.1 (find_putN xs x)).below (Nat.le_refl _) hb0⟩, hbl⟩
      obtain ⟨p0, p1, p2, p3, p4, pf, pz⟩ := (H0.out.2.1.below hit.bel (by rw [HSZ.out]; omega)).facts
      clear hit hs hge hg him hbl hb0 hse h0 hri
      go_wp2
      go_ret
      exact ⟨_, rfl, HF.out.1, HF.out.2⟩
    · obtain ⟨o, hu, hri2⟩ := hup rfl
      have HR2 : Hid (RI W0 bm es clock (fun _ => true) (seen.push b) (setBlock (W.alloc (.cells #[.int .i64 ve.fid, .bool ve.dir, .slice ve.dA ve.dn ve.dc, .slice ve.eA ve.en ve.ec, .int .i64 ve.ver] 26)) (w.heap.size + 1) o)) := hri2
      have hse2 := hri2.1.seen
      rw [HSZ.out] at hse2
      have HM : Hid (_ ∧ _ ∧ _) := ⟨hlt, hse, hse2⟩
      clear hup hri hri2 hlt hse hse2
      go_wp2
      go_roundw
      case rel => exact ⟨_, HR2.out⟩
      case measure => rw [HM.out.2.2, HM.out.2.1]; exact HM.out.1

theorem find_dropN (xs : List M.Nd) (t k : Int) : M.find (M.dropN xs t) k = if k = t then none else M.find xs k := by
  by_cases hk : k = t
  · rw [if_pos hk, hk]; exact findN_drop xs t
  · rw [if_neg hk]
    unfold M.find M.dropN
    rw [List.find?_filter]
    congr 1
    funext y
    by_cases hy : y.fid = k
    · simp [hy, hk]
    · simp [hy]

set_option maxHeartbeats 2000000 in
theorem without_any (bm : Nat) (xs : List M.Nd) (t : Int) (w : World) (ht : TMap w bm xs) :
    Calls Try.prog 16 #[.map (some bm), .int .i64 t] w fun e w' => ∃ b, e = .returned (.map (some b)) ∧ TMap w' b (M.dropN xs t) ∧ Below w.heap.size w w' := by
  obtain ⟨f, ⟨es, clock, hb, hh, hn, hcl⟩, ha⟩ := ht
  have H0 : Hid (w.heap[bm]? = some (.map es clock) ∧ Agree w f xs) := ⟨hb, ha⟩
  have HH : Hid (Holds es.toList f ∧ (es.toList.map (·.born)).Nodup ∧ ∀ e ∈ es.toList, e.born < clock) := ⟨hh, hn, hcl⟩
  have hrg := run_range_map (P := Try.prog) (w.alloc (.map #[] 0)) 30 3 26 bm es clock Try.underlying30 (by rw [Below.heap_alloc _ _ _ (lt_of_block hb)]; exact hb)
  have hmm := @run_makeMap Try.prog
  clear hb hh hn hcl ha
  go_enter Try.func16, Try.ntmps16
  go_wp2
  clear hrg
  go_loopw [] (fun wr => ∃ seen, RI w bm es clock (fun k => !decide (k = t)) seen wr) (fun wr => (leftOf es (wr.iterSeen (w.heap.size + 1))).size)
  case atStart => exact ⟨#[], RI.start _ H0.out.1⟩
  case round =>
    obtain ⟨seen, hri⟩ := hrel
    have HRI : Hid (RI w bm es clock (fun k => !decide (k = t)) seen wr) := hri
    have hse := hri.1.seen
    have hrd := hri.round HH.out.1 HH.out.2.1 HH.out.2.2 H0.out.2 0
    rcases hrd with ⟨h0, hnx⟩ | ⟨b, ve, k, W, hlt, hnx, hen, hno, hup⟩
    · obtain ⟨hit, g, hg, hs⟩ := HRI.out
      have HF : Hid (TMap wr w.heap.size (M.dropN xs t) ∧ Below w.heap.size w wr) := by
        refine ⟨⟨g, hg, fun q => ?_⟩, hit.bel⟩
        rw [seen_end hs HH.out.1 h0 q, find_dropN]
        by_cases hq : q = t
        · simp [hq]
        · have := (H0.out.2.below (Nat.le_refl _) hit.bel) q
          simpa [hq] using this
      clear hit hs hg hse h0 hri
      go_wp2
      go_ret
      exact ⟨_, rfl, HF.out.1, HF.out.2⟩
    · by_cases hkt : k = t
      · have hri2 := hno (by simp [hkt])
        have HR2 : Hid (RI w bm es clock (fun k => !decide (k = t)) (seen.push b) (W.alloc (.cells #[.int .i64 ve.fid, .bool ve.dir, .slice ve.dA ve.dn ve.dc, .slice ve.eA ve.en ve.ec, .int .i64 ve.ver] 26))) := hri2
        have hse2 := hri2.1.seen
        have HM : Hid (_ ∧ _ ∧ _) := ⟨hlt, hse, hse2⟩
        have q1 : (k == t) = true := by simp [hkt]
        have q2 : (k != t) = false := by simp [hkt]
        clear hup hno hri hri2 hlt hse hse2 hkt
        go_wp2
        go_roundw
        case rel => exact ⟨_, HR2.out⟩
        case measure => rw [HM.out.2.2, HM.out.2.1]; exact HM.out.1
      · obtain ⟨o, hu, hri2⟩ := hup (by simp [hkt])
        have HR2 : Hid (RI w bm es clock (fun k => !decide (k = t)) (seen.push b) (setBlock (W.alloc (.cells #[.int .i64 ve.fid, .bool ve.dir, .slice ve.dA ve.dn ve.dc, .slice ve.eA ve.en ve.ec, .int .i64 ve.ver] 26)) w.heap.size o)) := hri2
        have hse2 := hri2.1.seen
        have HM : Hid (_ ∧ _ ∧ _) := ⟨hlt, hse, hse2⟩
        have q1 : (k == t) = false := by simp [hkt]
        have q2 : (k != t) = true := by simp [hkt]
        clear hup hno hri hri2 hlt hse hse2 hkt
        go_wp2
        go_roundw
        case rel => exact ⟨_, HR2.out⟩
        case measure => rw [HM.out.2.2, HM.out.2.1]; exact HM.out.1
end Go.Proofs.Ytlegjdlmcphhlaa
/-
  THE REFERENCE's Leave AND Enter: lists of one's own, one entry behind the other.
-/
namespace Go.Proofs.Ytlegjdlmcphhlaa
open Go.RowKit

/-- a list of one's own since w0 -/
def Keep (w0 : World) (es : List (ByteArray × Int)) (A : Option Addr) (m c : Nat) (wr : World) : Prop :=
  wr.ownsRow w0.heap.size 72 2 (.slice A m c) m (es.flatMap entCells) ∧ Below w0.heap.size w0 wr
theorem Keep.start (w0 : World) : Keep w0 [] none 0 0 w0 := ⟨World.ownsRow_nil _ _ _ _, Below.refl _ _⟩
theorem Keep.alloc {w0 : World} {es : List (ByteArray × Int)} {A : Option Addr} {m c : Nat} {wr : World} (h : Keep w0 es A m c wr) (o : Obj) : Keep w0 es A m c (wr.alloc o) :=
  ⟨own_below h.1 ((Below.refl _ _).alloc (Nat.le_refl _) o) (Nat.le_refl _), h.2.alloc h.2.size o⟩
theorem Keep.drew {w0 : World} {es : List (ByteArray × Int)} {A : Option Addr} {m c : Nat} {wr : World} (h : Keep w0 es A m c wr) : Keep w0 es A m c wr.drew :=
  ⟨own_below h.1 ((Below.refl _ _).drew) (Nat.le_refl _), h.2.drew⟩
theorem Keep.app {w0 : World} {es : List (ByteArray × Int)} {e : ByteArray × Int} {A A' : Option Addr} {m c c' : Nat} {W w1 : World} (h : Keep w0 es A m c W) (hg : W.grownBy w1 (Value.slice A m c).ownBlock)
    (ho : w1.ownsRow w0.heap.size 72 2 (.slice A' (m + 1) c') (m + 1) (es.flatMap entCells ++ [e].flatMap entCells)) : Keep w0 (es ++ [e]) A' (m + 1) c' w1 := by
  refine ⟨by rw [List.flatMap_append]; exact ho, h.2.grown hg h.2.size fun k hk => (h.1.lt k hk).1⟩
theorem Keep.len {w0 : World} {es : List (ByteArray × Int)} {A : Option Addr} {m c : Nat} {wr : World} (h : Keep w0 es A m c wr) : m = es.length := own_len ent_len (by decide) h.1

theorem row_new2 (w : World) (o : Obj) (e : ByteArray × Int) : Row 2 entCells ((w.alloc o).alloc (.cells #[.string e.1, .int .i64 e.2] 72)) (some ⟨w.heap.size + 1, 0, none⟩) 1 [e] := by
  have := row_of_box2 (Box2.new (w.alloc o) e)
  simpa using this
theorem row_new1 (w : World) (e : ByteArray × Int) : Row 2 entCells (w.alloc (.cells #[.string e.1, .int .i64 e.2] 72)) (some ⟨w.heap.size, 0, none⟩) 1 [e] := row_of_box2 (Box2.new w e)

theorem dropE_snoc (es : List (ByteArray × Int)) (e : ByteArray × Int) (s : ByteArray) : M.dropE (es ++ [e]) s = if e.1 = s then M.dropE es s else M.dropE es s ++ [e] := by
  unfold M.dropE
  rw [List.filter_append]
  by_cases h : e.1 = s <;> simp [h]

set_option maxHeartbeats 2000000 in
theorem refLeave_own (v : NV) (x : M.Nd) (s : ByteArray) (w : World) (hc : Cont w v x) (hs : Small x) :
    Calls Try.prog 29 #[v.val, .string s] w fun e w' => ∃ (A : Option Addr) (m c : Nat), e = .returned (NV.val ⟨v.fid, v.dir, v.dA, v.dn, v.dc, A, m, c, v.ver⟩) ∧ w'.ownsRow w.heap.size 72 2 (.slice A m c) m ((M.dropE x.ents s).flatMap entCells) ∧ Below w.heap.size w w' := by
  have hB0 : ∀ W : World, W = (w.alloc (.cells #[.int .i64 v.fid, .bool v.dir, .slice v.dA v.dn v.dc, .slice v.eA v.en v.ec, .int .i64 v.ver] 26)).alloc (.cells #[.int .i64 0, .bool false, .slice none 0 0, .slice none 0 0, .int .i64 0] 26) → Box W w.heap.size v ∧ Box W (w.heap.size + 1) NV.zero ∧ W.heap.size = w.heap.size + 2 ∧ Below w.heap.size w W := by
    rintro W rfl
    exact ⟨(Box.new w v).alloc _, by have := Box.new0 (w.alloc (.cells #[.int .i64 v.fid, .bool v.dir, .slice v.dA v.dn v.dc, .slice v.eA v.en v.ec, .int .i64 v.ver] 26)); simpa using this, by simp, ((Below.refl _ _).alloc (Nat.le_refl _) _).alloc (by simp) _⟩
  have HB0 : Hid _ := hB0
  have HC : Hid (Cont w v x ∧ Small x) := ⟨hc, hs⟩
  have hen : v.en * 24 ≤ 140737488355328 := by have := hc.2.2.2.2.1; have := hs.2; omega
  have HL : Hid (v.en = x.ents.length) := hc.2.2.2.2.1
  obtain ⟨i58, hi58, hz58, hs58, hb58⟩ := info_parts info58
  clear hB0 hc hs
  go_enter Try.func29, Try.ntmps29
  go_wp2
  obtain ⟨q0, q1, q2, q3⟩ := HB0.out _ rfl
  generalize (w.alloc (.cells #[.int .i64 v.fid, .bool v.dir, .slice v.dA v.dn v.dc, .slice v.eA v.en v.ec, .int .i64 v.ver] 26)).alloc (.cells #[.int .i64 0, .bool false, .slice none 0 0, .slice none 0 0, .int .i64 0] 26) = W0 at q0 q1 q2 q3 ⊢
  have H0 : Hid (Box W0 w.heap.size v ∧ Box W0 (w.heap.size + 1) NV.zero ∧ Below w.heap.size w W0 ∧ W0.heap.size = w.heap.size + 2) := ⟨q0, q1, q3, q2⟩
  clear q0 q1 q2 q3 HB0
  go_loopw [5, 11] (fun l i wr => ∃ (k m c : Nat) (A : Option Addr), k ≤ v.en ∧ i = .int .i64 k ∧ l = .slice A m c ∧ m ≤ k ∧ Keep W0 (M.dropE (x.ents.take k) s) A m c wr) (fun _ i _ => v.en - (intOf i).toNat)
  case atStart => exact ⟨0, 0, 0, none, Nat.zero_le _, rfl, rfl, Nat.le_refl _, by rw [List.take_zero]; exact Keep.start W0⟩
  case round =>
    obtain ⟨k, m, c, A, hk, rfl, rfl, hmk, hkp⟩ := hrel
    have HK : Hid (Keep W0 (M.dropE (x.ents.take k) s) A m c wr) := hkp
    have HBX : Hid (Box wr w.heap.size v ∧ Box wr (w.heap.size + 1) NV.zero ∧ Below w.heap.size w wr) := ⟨H0.out.1.below hkp.2 (by rw [H0.out.2.2.2]; omega), H0.out.2.1.below hkp.2 (by rw [H0.out.2.2.2]; omega), H0.out.2.2.1.trans (hkp.2.mono (by rw [H0.out.2.2.2]; omega))⟩
    clear hkp
    obtain ⟨p0, p1, p2, p3, p4, pf, pz⟩ := HBX.out.1.facts
    obtain ⟨z0, z1, z2, z3, z4, zf, zz⟩ := HBX.out.2.1.facts
    by_cases hlt : k < v.en
    · obtain ⟨g, o, ⟨nm, fd⟩, ha, _, hak, a0, a1⟩ := Ents.at (HC.out.1.2.2.2.2.below (Nat.le_refl _) HBX.out.2.2) hlt
      have HA : Hid (x.ents[k]? = some (nm, fd)) := hak
      dsimp only at a0 a1
      have hkn : (k : Int) < (v.en : Int) := by omega
      have hk0 : (0 : Int) ≤ (k : Int) := by omega
      clear hak p0 p1 p2 p3 p4 z0 z1 z2 z3 z4
      by_cases hse : nm = s
      · have q : (nm.toList == s.toList) = true := by rw [raw_eq]; exact decide_eq_true hse
        have r : (nm.toList != s.toList) = false := by rw [bne, q]; rfl
        have HSE : Hid (nm = s) := hse
        clear hse
        go_wp2
        go_roundw
        case rel => exact ⟨k + 1, m, c, A, by omega, by go_num, rfl, by omega, by rw [take_step HA.out, dropE_snoc, if_pos HSE.out]; exact HK.out.alloc _⟩
        case measure => simp [intOf]; omega
      · have q : (nm.toList == s.toList) = false := by rw [raw_eq]; exact decide_eq_false hse
        have r : (nm.toList != s.toList) = true := by rw [bne, q]; rfl
        have HSE : Hid (nm ≠ s) := hse
        clear hse
        go_wp2_with (at_builtin; refine wpList_append_row _ (by rfl) (.tmp 19) (.tmp 21) 24 (by rfl) W0.heap.size 72 i58 (.agg #[.string ByteArray.empty, .int .i64 0]) 24 Try.underlying24 hi58 hz58 hs58 hb58 rfl (by decide) _ m _ (by rfl) ((HK.out.alloc _).alloc _).1 _ 1 1 [(nm, fd)] (by rfl) (row_new2 wr _ (nm, fd)) ent_len ent_one (by unfold maxLen; omega) (by omega) ((HK.out.alloc _).alloc _).2.size ?_; intro v1 w1 hown1 hg1; obtain ⟨A1, c1, rfl, hA1, hA2⟩ := own_form hown1; have HK1 : Hid (Keep W0 (M.dropE (x.ents.take k) s ++ [(nm, fd)]) A1 (m + 1) c1 w1) := ((HK.out.alloc _).alloc _).app hg1 hown1; clear hown1 hg1 ha)
        go_roundw
        case rel => exact ⟨k + 1, m + 1, c1, A1, by omega, by go_num, rfl, by omega, by rw [take_step HA.out, dropE_snoc, if_neg HSE.out]; exact HK1.out⟩
        case measure => simp [intOf]; omega
    · have HN : Hid (x.ents.take k = x.ents) := by have := HL.out; show _ = _; exact List.take_of_length_le (by omega)
      go_wp2
      have hkk := HK.out
      rw [HN.out] at hkk
      have hbr := put5_below (HBX.out.2.2.setCell (p := ⟨w.heap.size, 3, none⟩) (Nat.le_refl _) (.slice A m c)) (s := w.heap.size + 1) (by omega) 0 ⟨v.fid, v.dir, v.dA, v.dn, v.dc, A, m, c, v.ver⟩
      have hoe := put5_own (ownsRow_setCell_below hkk.1 (a := ⟨w.heap.size, 3, none⟩) (by show w.heap.size < _; rw [H0.out.2.2.2]; omega) (.slice A m c)) (s := w.heap.size + 1) (by rw [H0.out.2.2.2]; omega) 0 ⟨v.fid, v.dir, v.dA, v.dn, v.dc, A, m, c, v.ver⟩
      exact bodyPost_ret (v := NV.val ⟨v.fid, v.dir, v.dA, v.dn, v.dc, A, m, c, v.ver⟩) (by simp [results, Try.results29, go_sem, z0, z1, z2, z3, z4]) rfl ⟨A, m, c, rfl, own_mono hoe (by rw [H0.out.2.2.2]; omega), hbr⟩

theorem refLeave_any (v : NV) (x : M.Nd) (s : ByteArray) (w : World) (hc : Cont w v x) (hs : Small x) :
    Calls Try.prog 29 #[v.val, .string s] w fun e w' => ∃ v' : NV, e = .returned v'.val ∧ Cont w' v' (withE x (M.dropE x.ents s)) ∧ Below w.heap.size w w' := by
  refine (refLeave_own v x s w hc hs).mono ?_
  rintro e w' ⟨A, m, c, rfl, ho, hb⟩
  exact ⟨_, rfl, ⟨hc.1, hc.2.1, hc.2.2.1, hc.2.2.2.1.below (Nat.le_refl _) hb, Row.ofOwn ent_len (by decide) ho⟩, hb⟩
end Go.Proofs.Ytlegjdlmcphhlaa
