/- TEXTS LAID TOGETHER: Maps, Of, Ckeepo, Ask, Kbas, Kpt, Kof, Krw, Kmath, Kca -/
import Derived.Test.YtjpdoblmdchmkadPart4
import Derived.Maps.RangeRun
import Derived.Deep.CutRange
import Derived.Test.YtjpdoblmdchmkadPart1
import Derived.Test.YtjpdoblmdchmkadPart2
/-
  MAPS KEYED BY A NUMBER: what a map's block holds, as a function; it is made, asked, written.
-/
namespace Go.Proofs.Ytjpdoblmdchmkad
open Go.RowKit
open Go.ChangeMaps (setBlock)

/-- the entries es hold f -/
structure Holds (es : List MapEntry) (f : Int → Option Value) : Prop where
  key : ∀ e ∈ es, ∃ k, e.key = .int .i64 k ∧ f k = some e.val
  all : ∀ k v, f k = some v → ∃ e ∈ es, e.key = .int .i64 k ∧ e.val = v
  one : es.Pairwise fun a b => a.key ≠ b.key
/-- block b is a map that holds f -/
def IMap (w : World) (b : Nat) (f : Int → Option Value) : Prop :=
  ∃ (es : Array MapEntry) (clock : Nat), w.heap[b]? = some (.map es clock) ∧ Holds es.toList f ∧ (es.toList.map (·.born)).Nodup ∧ ∀ e ∈ es.toList, e.born < clock
theorem IMap.lt {w : World} {b : Nat} {f : Int → Option Value} (h : IMap w b f) : b < w.heap.size := by
  obtain ⟨es, c, hb, _⟩ := h
  exact lt_of_block hb
theorem IMap.same {w w' : World} {b : Nat} {f : Int → Option Value} (h : IMap w b f) (hb : w'.heap[b]? = w.heap[b]?) : IMap w' b f := by
  obtain ⟨es, c, h1, h2⟩ := h
  exact ⟨es, c, by rw [hb]; exact h1, h2⟩
theorem IMap.below {B : Nat} {w w' : World} {b : Nat} {f : Int → Option Value} (h : IMap w b f) (hB : w.heap.size ≤ B) (hb : Below B w w') : IMap w' b f :=
  h.same (hb.block b (by have := h.lt; omega))
theorem IMap.new (w : World) : IMap (w.alloc (.map #[] 0)) w.heap.size (fun _ => none) :=
  ⟨#[], 0, heap_alloc_new w _, ⟨(by intro e he; simp at he), (by intro k v h; cases h), (by simp)⟩, (by simp), (by intro e he; simp at he)⟩

def intKey : Value → Option Int
  | .int .i64 k => some k
  | _ => none
theorem intKey_iff {v : Value} {k : Int} : intKey v = some k ↔ v = .int .i64 k := by
  constructor
  · intro h
    unfold intKey at h
    split at h
    · injection h with h; rw [h]
    · cases h
  · intro h; rw [h]; rfl
/-- the place of a key -/
def posK (k : Int) : List MapEntry → Nat → Option (Nat × Value)
  | [], _ => none
  | e :: es, i => if intKey e.key = some k then some (i, e.val) else posK k es (i + 1)
theorem findNow_pos {f : Int → Option Value} (k : Int) : ∀ (es : List MapEntry) (i : Nat), (∀ e ∈ es, ∃ k, e.key = .int .i64 k ∧ f k = some e.val) → Instr.findNow (.int .i64) (.int .i64 k) es i = some (posK k es i)
  | [], i, _ => rfl
  | e :: es, i, h => by
    obtain ⟨q, hq, _⟩ := h e (List.mem_cons_self ..)
    have ih := findNow_pos k es (i + 1) (fun e he => h e (List.mem_cons_of_mem _ he))
    simp only [Instr.findNow, posK, hq, Instr.sameNow, if_true, intKey, Option.some.injEq]
    by_cases hk : k = q
    · subst hk; simp
    · have h1 : (k == q) = false := by simp [hk]
      rw [h1]
      simp only
      rw [ih, if_neg (fun h => hk h.symm)]
theorem pos_none {k : Int} : ∀ {es : List MapEntry} {i : Nat}, posK k es i = none → ∀ e ∈ es, e.key ≠ .int .i64 k
  | [], _, _, e, he => by cases he
  | a :: es, i, h, e, he => by
    simp only [posK] at h
    by_cases hk : intKey a.key = some k
    · rw [if_pos hk] at h; cases h
    · rw [if_neg hk] at h
      rcases List.mem_cons.1 he with h1 | h1
      · subst h1; exact fun h2 => hk (intKey_iff.2 h2)
      · exact pos_none h e h1
theorem pos_some {k : Int} {j : Nat} {v : Value} : ∀ {es : List MapEntry} {i : Nat}, posK k es i = some (j, v) → i ≤ j ∧ ∃ e, es[j - i]? = some e ∧ e.key = .int .i64 k ∧ e.val = v
  | [], _, h => by cases h
  | a :: es, i, h => by
    simp only [posK] at h
    by_cases hk : intKey a.key = some k
    · rw [if_pos hk] at h
      simp only [Option.some.injEq, Prod.mk.injEq] at h
      obtain ⟨rfl, h2⟩ := h
      exact ⟨Nat.le_refl _, a, by simp, intKey_iff.1 hk, h2⟩
    · rw [if_neg hk] at h
      obtain ⟨h1, e, h2, h3⟩ := pos_some h
      refine ⟨by omega, e, ?_, h3⟩
      rw [show j - i = (j - (i + 1)) + 1 by omega, List.getElem?_cons_succ]
      exact h2
theorem modify_map {k : Int} {j : Nat} {g : MapEntry → MapEntry} {L : List MapEntry} {e0 : MapEntry} (h0 : L[j]? = some e0) (hk : e0.key = .int .i64 k) (hp : L.Pairwise fun a b => a.key ≠ b.key) :
    L.modify j g = L.map (fun e => if intKey e.key = some k then g e else e) := by
  apply List.ext_getElem?
  intro i
  rw [List.getElem?_modify, List.getElem?_map]
  cases hi : L[i]? with
  | none => rfl
  | some e =>
    show some (if j = i then g e else e) = some (if intKey e.key = some k then g e else e)
    by_cases hij : j = i
    · subst hij
      rw [h0] at hi
      injection hi with hi
      subst hi
      rw [if_pos rfl, if_pos (intKey_iff.2 hk)]
    · rw [if_neg hij, if_neg]
      · intro hc
        have hc := intKey_iff.1 hc
        obtain ⟨hj1, hj2⟩ := List.getElem?_eq_some_iff.1 h0
        obtain ⟨hi1, hi2⟩ := List.getElem?_eq_some_iff.1 hi
        rw [List.pairwise_iff_getElem] at hp
        rcases Nat.lt_or_gt_of_ne hij with h | h
        · exact hp j i hj1 hi1 h (by rw [hj2, hi2, hk, hc])
        · exact hp i j hi1 hj1 h (by rw [hj2, hi2, hk, hc])
theorem holds_pos {es : List MapEntry} {f : Int → Option Value} (h : Holds es f) (k : Int) : (posK k es 0).map (·.2) = f k := by
  cases hp : posK k es 0 with
  | none =>
    cases hf : f k with
    | none => rfl
    | some v =>
      obtain ⟨e, he, hk, _⟩ := h.all k v hf
      exact absurd hk (pos_none hp e he)
  | some q =>
    obtain ⟨j, v⟩ := q
    obtain ⟨_, e, he, hk, hv⟩ := pos_some hp
    obtain ⟨k', hk', hf⟩ := h.key e (List.mem_of_getElem? he)
    rw [hk] at hk'
    injection hk' with _ hk'
    subst hk'
    rw [hf, ← hv]
    rfl

theorem under3 : Try.prog.underlying 3 = some (.int .i64) := by kernel_rfl
theorem check3 (empty : Bool) (k : Int) (w : World) : (Instr.checkKey empty 10000 3 (.int .i64 k)).run Try.prog w = .ok () w := by
  unfold Instr.checkKey
  simp [run_underlying under3]
theorem findKey3 {es : List MapEntry} {f : Int → Option Value} (h : Holds es f) (k : Int) (w : World) : (Instr.findKey 3 (.int .i64 k) es).run Try.prog w = .ok (posK k es 0) w := by
  unfold Instr.findKey
  simp [run_underlying under3, findNow_pos k es 0 h.key]

theorem run_lookup_map (t e : TypeId) (ht : Try.prog.underlying t = some (.map 3 e)) {z : Value} {w : World} (hz : (zeroValue e).run Try.prog w = .ok z w) {b : Nat} {f : Int → Option Value} (h : IMap w b f) (k : Int) (ok : Bool) :
    (Instr.lookup t (.map (some b)) (.int .i64 k) ok).run Try.prog w = .ok (if ok then .tuple #[(f k).getD z, .bool (f k).isSome] else (f k).getD z) w := by
  obtain ⟨es, c, hb, hh, _⟩ := h
  unfold Instr.lookup
  simp only [run_underlying ht, Sem.run_bind, Result.andThen_ok, MapKept.run_getObj_map hb, Sem.run_pure, check3, findKey3 hh]
  rw [← holds_pos hh k]
  cases posK k es.toList 0 with
  | none => simp [hz]
  | some q => obtain ⟨j, v⟩ := q; simp

/-- f, but v at k -/
def updF (f : Int → Option Value) (k : Int) (v : Value) : Int → Option Value := fun q => if q = k then some v else f q

theorem setBlock_at {w : World} {b : Nat} {o o' : Obj} (h : w.heap[b]? = some o) : (setBlock w b o').heap[b]? = some o' := by
  unfold setBlock
  have := lt_of_block h
  simp [this]
theorem setBlock_other {w : World} {b c : Nat} {o : Obj} (h : c ≠ b) : (setBlock w b o).heap[c]? = w.heap[c]? := by
  unfold setBlock
  simp [Ne.symm h]
theorem setBlock_size {w : World} {b : Nat} {o : Obj} : (setBlock w b o).heap.size = w.heap.size := by unfold setBlock; simp
theorem setBlock_below {B : Nat} {a w : World} {b : Nat} (h : Below B a w) (hb : B ≤ b) (o : Obj) : Below B a (setBlock w b o) :=
  h.trans ⟨rfl, rfl, rfl, by rw [setBlock_size]; exact Nat.le_refl _, fun k hk => setBlock_other (by omega)⟩
theorem run_setObj_map {w : World} {r : Nat} {es : Array MapEntry} {c : Nat} (hr : w.heap[r]? = some (.map es c)) (o' : Obj) : (setObj r o').run Try.prog w = .ok () (setBlock w r o') := by
  simp [setObj, Sem.run, hr, setBlock]

theorem run_update_map (t e : TypeId) (ht : Try.prog.underlying t = some (.map 3 e)) {w : World} {b : Nat} {f : Int → Option Value} (h : IMap w b f) (k : Int) (v : Value) :
    ∃ o : Obj, (Instr.mapUpdate t (.map (some b)) (.int .i64 k) v).run Try.prog w = .ok () (setBlock w b o) ∧ IMap (setBlock w b o) b (updF f k v) := by
  obtain ⟨es, c, hb, hh, hn, hc⟩ := h
  unfold Instr.mapUpdate
  simp only [run_underlying ht, Sem.run_bind, Result.andThen_ok, MapKept.run_getObj_map hb, check3, findKey3 hh]
  cases hp : posK k es.toList 0 with
  | none =>
    refine ⟨_, run_setObj_map hb _, _, _, setBlock_at hb, ?_, ?_, ?_⟩
    · have hno := pos_none hp
      refine ⟨fun x hx => ?_, fun q u hq => ?_, ?_⟩
      · simp only [Array.toList_push, List.mem_append, List.mem_singleton] at hx
        rcases hx with hx | hx
        · obtain ⟨q, h1, h2⟩ := hh.key x hx
          refine ⟨q, h1, ?_⟩
          unfold updF
          rw [if_neg (by intro e; subst e; exact hno x hx h1)]
          exact h2
        · subst hx; exact ⟨k, rfl, by simp [updF]⟩
      · unfold updF at hq
        simp only [Array.toList_push, List.mem_append, List.mem_singleton]
        by_cases hqk : q = k
        · rw [if_pos hqk] at hq
          injection hq with hq
          exact ⟨_, .inr rfl, by rw [hqk], hq⟩
        · rw [if_neg hqk] at hq
          obtain ⟨x, hx, h1, h2⟩ := hh.all q u hq
          exact ⟨x, .inl hx, h1, h2⟩
      · simp only [Array.toList_push]
        rw [List.pairwise_append]
        refine ⟨hh.one, List.pairwise_singleton _ _, fun a ha b' hb' => ?_⟩
        rw [List.mem_singleton.1 hb']
        exact hno a ha
    · simp only [Array.toList_push, List.map_append, List.map_cons, List.map_nil]
      rw [List.nodup_append]
      refine ⟨hn, by simp, fun a ha b' hb' => ?_⟩
      obtain ⟨x, hx, rfl⟩ := List.mem_map.1 ha
      rw [List.mem_singleton.1 hb']
      exact Nat.ne_of_lt (hc x hx)
    · intro x hx
      simp only [Array.toList_push, List.mem_append, List.mem_singleton] at hx
      rcases hx with hx | hx
      · have := hc x hx; omega
      · subst hx; exact Nat.lt_succ_self _
  | some q =>
    obtain ⟨j, u⟩ := q
    obtain ⟨_, e0, he0, hk0, _⟩ := pos_some hp
    rw [Nat.sub_zero] at he0
    have hej : es[j]? = some e0 := by rw [← Array.getElem?_toList]; exact he0
    have hks : (Instr.keyThatStays (((es[j]?).map (·.key)).getD (.int .i64 k)) (.int .i64 k)).run Try.prog w = .ok (.int .i64 k) w := by
      rw [hej]
      simp [Instr.keyThatStays, hk0, Instr.sameBits]
    simp only [hks, Sem.run_bind, Result.andThen_ok]
    refine ⟨_, run_setObj_map hb _, _, _, setBlock_at hb, ?_, ?_, ?_⟩
    all_goals rw [Array.toList_modify, modify_map he0 hk0 hh.one]
    · refine ⟨fun x hx => ?_, fun q u hq => ?_, ?_⟩
      · obtain ⟨y, hy, rfl⟩ := List.mem_map.1 hx
        by_cases hyk : intKey y.key = some k
        · rw [if_pos hyk]; exact ⟨k, rfl, by simp [updF]⟩
        · rw [if_neg hyk]
          obtain ⟨q, h1, h2⟩ := hh.key y hy
          refine ⟨q, h1, ?_⟩
          unfold updF
          rw [if_neg (by intro e; subst e; exact hyk (intKey_iff.2 h1))]
          exact h2
      · unfold updF at hq
        by_cases hqk : q = k
        · rw [if_pos hqk] at hq
          injection hq with hq
          refine ⟨_, List.mem_map.2 ⟨e0, List.mem_of_getElem? he0, rfl⟩, ?_, ?_⟩
          · rw [if_pos (intKey_iff.2 hk0), hqk]
          · rw [if_pos (intKey_iff.2 hk0)]; exact hq
        · rw [if_neg hqk] at hq
          obtain ⟨x, hx, h1, h2⟩ := hh.all q u hq
          have hxk : ¬ intKey x.key = some k := by rw [h1]; simp [intKey, hqk]
          refine ⟨_, List.mem_map.2 ⟨x, hx, rfl⟩, ?_, ?_⟩
          · rw [if_neg hxk]; exact h1
          · rw [if_neg hxk]; exact h2
      · rw [List.pairwise_map]
        have hkey : ∀ e : MapEntry, (if intKey e.key = some k then ({ e with key := .int .i64 k, val := v } : MapEntry) else e).key = e.key := by
          intro e
          by_cases h : intKey e.key = some k
          · rw [if_pos h]; exact (intKey_iff.1 h).symm
          · rw [if_neg h]
        refine hh.one.imp fun h => ?_
        rw [hkey, hkey]
        exact h
    · rw [List.map_map]
      have : ((fun e : MapEntry => e.born) ∘ fun e : MapEntry => if intKey e.key = some k then ({ e with key := .int .i64 k, val := v } : MapEntry) else e) = fun e => e.born := by
        funext e
        show (if intKey e.key = some k then ({ e with key := .int .i64 k, val := v } : MapEntry) else e).born = e.born
        split <;> rfl
      rw [this]
      exact hn
    · intro x hx
      obtain ⟨y, hy, rfl⟩ := List.mem_map.1 hx
      have := hc y hy
      split <;> exact this
end Go.Proofs.Ytjpdoblmdchmkad
/-
  TREES AS MAPS: the reference's Of.
-/
namespace Go.Proofs.Ytjpdoblmdchmkad
open Go.RowKit
open Go.ChangeMaps (setBlock)

/-- the map's function tells what the tree has -/
def Agree (w : World) (f : Int → Option Value) (xs : List M.Nd) : Prop :=
  ∀ k, (f k = none ∧ M.find xs k = none) ∨ ∃ (v : NV) (x : M.Nd), f k = some v.val ∧ M.find xs k = some x ∧ Cont w v x
theorem Agree.below {B : Nat} {w w' : World} {f : Int → Option Value} {xs : List M.Nd} (h : Agree w f xs) (hB : w.heap.size ≤ B) (hb : Below B w w') : Agree w' f xs := fun k =>
  (h k).imp id fun ⟨v, x, h1, h2, h3⟩ => ⟨v, x, h1, h2, h3.below hB hb⟩
theorem agree_nil (w : World) : Agree w (fun _ => none) [] := fun _ => .inl ⟨rfl, rfl⟩
def TMap (w : World) (b : Nat) (xs : List M.Nd) : Prop := ∃ f, IMap w b f ∧ Agree w f xs
theorem TMap.below {B : Nat} {w w' : World} {b : Nat} {xs : List M.Nd} (h : TMap w b xs) (hB : w.heap.size ≤ B) (hb : Below B w w') : TMap w' b xs := by
  obtain ⟨f, h1, h2⟩ := h
  exact ⟨f, h1.below hB hb, h2.below hB hb⟩
theorem find_fid {xs : List M.Nd} {k : Int} {x : M.Nd} (h : M.find xs k = some x) : x.fid = k := by
  unfold M.find at h
  have := List.find?_some h
  simpa using this
theorem find_snoc {xs : List M.Nd} {x : M.Nd} (hr : M.RsN (xs ++ [x])) (k : Int) : M.find (xs ++ [x]) k = if k = x.fid then some x else M.find xs k := by
  have hno : M.find xs x.fid = none := by
    unfold M.find
    rw [List.find?_eq_none]
    intro y hy
    have hp : M.Rs M.ltI ((xs ++ [x]).map (·.fid)) := hr
    unfold M.Rs at hp
    rw [List.map_append, List.pairwise_append] at hp
    have := hp.2.2 y.fid (List.mem_map.2 ⟨y, hy, rfl⟩) x.fid (by simp)
    simp [M.ltI] at this
    simp
    omega
  unfold M.find at hno ⊢
  rw [List.find?_append]
  by_cases hk : k = x.fid
  · subst hk
    rw [hno, if_pos rfl]
    simp
  · rw [if_neg hk]
    have : ([x].find? fun x => decide (x.fid = k)) = none := by simp [Ne.symm hk]
    rw [this]
    simp
theorem agree_upd {w : World} {f : Int → Option Value} {xs ys : List M.Nd} {v : NV} {x : M.Nd} (h : Agree w f xs) (hc : Cont w v x) (hf : ∀ k, M.find ys k = if k = x.fid then some x else M.find xs k) : Agree w (updF f v.fid v.val) ys := by
  intro k
  rw [hf k]
  unfold updF
  rw [hc.1]
  by_cases hk : k = x.fid
  · rw [if_pos hk, if_pos hk]; exact .inr ⟨v, x, rfl, rfl, hc⟩
  · rw [if_neg hk, if_neg hk]; exact h k

/-- so far -/
def OfInv (w : World) (b : Nat) (xs : List M.Nd) (wr : World) : Prop := (∃ f, IMap wr b f ∧ Agree w f xs) ∧ Below w.heap.size w wr
theorem of_step {w : World} {b : Nat} {xs ys : List M.Nd} {v : NV} {x : M.Nd} {wr : World} (h : OfInv w b xs wr) (hwb : w.heap.size ≤ b) (hc : Cont w v x) (hf : ∀ k, M.find ys k = if k = x.fid then some x else M.find xs k) :
    ∃ o : Obj, (Instr.mapUpdate 31 (.map (some b)) (.int .i64 v.fid) v.val).run Try.prog wr = .ok () (setBlock wr b o) ∧ OfInv w b ys (setBlock wr b o) := by
  obtain ⟨⟨f, hi, ha⟩, hb⟩ := h
  obtain ⟨o, hrun, him⟩ := run_update_map 31 41 Try.underlying31 hi v.fid v.val
  exact ⟨o, hrun, ⟨_, him, agree_upd ha hc hf⟩, setBlock_below hb hwb o⟩
theorem OfInv.alloc {w : World} {b : Nat} {xs : List M.Nd} {wr : World} (h : OfInv w b xs wr) (o : Obj) : OfInv w b xs (wr.alloc o) := by
  obtain ⟨⟨f, hi, ha⟩, hb⟩ := h
  exact ⟨⟨f, hi.below (Nat.le_refl _) ((Below.refl _ _).alloc (Nat.le_refl _) o), ha⟩, hb.alloc hb.size o⟩
theorem OfInv.tmap {w : World} {b : Nat} {xs : List M.Nd} {wr : World} (h : OfInv w b xs wr) : TMap wr b xs := by
  obtain ⟨⟨f, hi, ha⟩, hb⟩ := h
  exact ⟨f, hi, ha.below (Nat.le_refl _) hb⟩
theorem rs_takeN {xs : List M.Nd} (k : Nat) (h : M.RsN xs) : M.RsN (xs.take k) := M.rs_sub h ((List.take_sublist k xs).map _)

set_option maxHeartbeats 2000000 in
theorem of_any (A : Option Addr) (n c : Nat) (vs : List NV) (xs : List M.Nd) (w : World) (ht : Tree w A n vs xs) (hr : M.RsN xs) (hn : n * 72 ≤ 140737488355328) :
    Calls Try.prog 11 #[.slice A n c] w fun e w' => ∃ b, e = .returned (.map (some b)) ∧ TMap w' b xs ∧ Below w.heap.size w w' := by
  have HT : Hid (Tree w A n vs xs ∧ M.RsN xs) := ⟨ht, hr⟩
  have HL : Hid (n = xs.length) := by show n = _; rw [ht.1.1, ht.2.1]
  have hmm := @run_makeMap Try.prog
  have H0 : Hid (OfInv w w.heap.size [] (w.alloc (.map #[] 0))) := ⟨⟨_, IMap.new w, agree_nil w⟩, (Below.refl _ _).alloc (Nat.le_refl _) _⟩
  clear ht hr
  go_enter Try.func11, Try.ntmps11
  go_wp2
  go_loopw [9] (fun i wr => ∃ k : Nat, k ≤ n ∧ i = .int .i64 k ∧ OfInv w w.heap.size (xs.take k) wr) (fun i _ => n - (intOf i).toNat)
  case atStart => exact ⟨0, Nat.zero_le _, rfl, H0.out⟩
  case round =>
    obtain ⟨k, hk, rfl, hinv⟩ := hrel
    have HI : Hid (OfInv w w.heap.size (xs.take k) wr) := hinv
    have hb := hinv.2
    clear hinv
    by_cases hlt : k < n
    · have hxr := HT.out.1.below (Nat.le_refl _) hb
      obtain ⟨b, o, v, hA, _, hvk, a0, a1, a2, a3, a4⟩ := hxr.1.at hlt
      obtain ⟨x, hxk, hcx⟩ := HT.out.1.2.at hvk
      have HX : Hid (Cont w v x ∧ xs[k]? = some x) := ⟨hcx, hxk⟩
      have HF : Hid (∀ q, M.find (xs.take (k + 1)) q = if q = x.fid then some x else M.find (xs.take k) q) := by
        intro q
        have h1 := rs_takeN (k + 1) HT.out.2
        rw [take_step hxk] at h1 ⊢
        exact find_snoc h1 q
      obtain ⟨ob, hrun, hinv2⟩ := of_step (HI.out.alloc (.cells #[.int .i64 v.fid, .bool v.dir, .slice v.dA v.dn v.dc, .slice v.eA v.en v.ec, .int .i64 v.ver] 41)) (Nat.le_refl _) hcx HF.out
      have HI2 : Hid (OfInv w w.heap.size (xs.take (k + 1)) (setBlock (wr.alloc (.cells #[.int .i64 v.fid, .bool v.dir, .slice v.dA v.dn v.dc, .slice v.eA v.en v.ec, .int .i64 v.ver] 41)) w.heap.size ob)) := hinv2
      have hkn : (k : Int) < (n : Int) := by omega
      have hk0 : (0 : Int) ≤ (k : Int) := by omega
      subst hA
      clear hxr hvk hxk hcx hinv2
      go_wp2
      go_roundw
      case rel => exact ⟨k + 1, by omega, by go_num, HI2.out⟩
      case measure => simp [intOf]; omega
    · have HN : Hid (xs.take k = xs) := by have := HL.out; show _ = _; exact List.take_of_length_le (by omega)
      go_wp2
      go_ret
      have h1 := HI.out
      rw [HN.out] at h1
      exact ⟨_, rfl, h1.tmap, hb⟩
end Go.Proofs.Ytjpdoblmdchmkad
/-
  WHAT STAYS: blocks of cells of one type, while others are written.
-/
namespace Go.Proofs.Ytjpdoblmdchmkad
open Go.RowKit
open Go.ChangeMaps (setBlock)

/-- blocks of cells of that type are as they were -/
def KeepE (e : TypeId) (w w' : World) : Prop := ∀ (g : Nat) (cur : Array Value), w.heap[g]? = some (.cells cur e (0, 0)) → w'.heap[g]? = some (.cells cur e (0, 0))
theorem KeepE.refl (e : TypeId) (w : World) : KeepE e w w := fun _ _ h => h
theorem KeepE.trans {e : TypeId} {a b c : World} (h : KeepE e a b) (k : KeepE e b c) : KeepE e a c := fun g cur hg => k g cur (h g cur hg)
theorem KeepE.below {e : TypeId} {C : Nat} {w w' : World} (hb : Below C w w') (hC : w.heap.size ≤ C) : KeepE e w w' := fun g cur hg => by rw [hb.block g (by have := lt_of_block hg; omega)]; exact hg
theorem KeepE.alloc (e : TypeId) (w : World) (o : Obj) : KeepE e w (w.alloc o) := KeepE.below ((Below.refl _ _).alloc (Nat.le_refl _) o) (Nat.le_refl _)
theorem KeepE.setBlock {e : TypeId} {w : World} {b : Nat} {f : Int → Option Value} (h : IMap w b f) (o : Obj) : KeepE e w (setBlock w b o) := fun g cur hg => by
  obtain ⟨es, c, hb, _⟩ := h
  rw [setBlock_other (fun e => by rw [e, hb] at hg; cases hg)]
  exact hg
theorem KeepE.setCell {e t : TypeId} {w : World} {s : Nat} {cs : Array Value} {fz : Nat × Nat} (h : w.heap[s]? = some (.cells cs t fz)) (ht : t ≠ e) (o : Nat) (u : Value) : KeepE e w (w.setCell ⟨s, o, none⟩ u) := fun g cur hg => by
  rw [Below.heap_setCell _ _ _ _ (fun k => by subst k; rw [h] at hg; injection hg with hg; injection hg with _ hg _; exact ht hg)]
  exact hg
theorem KeepE.grown {w w' : World} {e e' : TypeId} {B' k' : Nat} {v' : Value} {n' : Nat} {xs' : List Value} (h' : w.ownsRow B' e' k' v' n' xs') (hne : e ≠ e') (hg : w.grownBy w' v'.ownBlock) : KeepE e w w' := fun g cur hgc => by
  rw [hg.block g (lt_of_block hgc) (fun k => ?_)]
  · exact hgc
  · rcases h'.2 with ⟨rfl, _⟩ | ⟨g', cap, cur', rfl, _, hh, _⟩
    · cases k
    · cases k
      rw [hh] at hgc
      injection hgc with hgc
      injection hgc with _ hgc _
      exact hne hgc.symm
theorem own_keep {w w' : World} {B : Nat} {e : TypeId} {k : Nat} {v : Value} {n : Nat} {xs : List Value} (h : w.ownsRow B e k v n xs) (hk : KeepE e w w') : w'.ownsRow B e k v n xs := by
  refine ⟨h.1, ?_⟩
  rcases h.2 with h2 | ⟨g, cap, cur, e1, h1, hg, r⟩
  · exact .inl h2
  · exact .inr ⟨g, cap, cur, e1, h1, hk g cur hg, r⟩
theorem OwnN.keep {w w' : World} {B : Nat} {v : NV} {x : M.Nd} (h : OwnN w B v x) (h5 : KeepE 5 w w') (hE : KeepE 81 w w') : OwnN w' B v x :=
  ⟨h.1, h.2.1, h.2.2.1, own_keep h.2.2.2.1 h5, own_keep h.2.2.2.2 hE⟩
theorem OwnT.keep {w w' : World} {B : Nat} {A : Option Addr} {n c : Nat} {vs : List NV} {xs : List M.Nd} (h : OwnT w B A n c vs xs) (hN : KeepE 41 w w') (h5 : KeepE 5 w w') (hE : KeepE 81 w w') : OwnT w' B A n c vs xs :=
  ⟨own_keep h.1 hN, h.2.imp fun _ _ h => h.keep h5 hE⟩
/-- all types but one's own -/
def KeepO (t : TypeId) (w w' : World) : Prop := ∀ e, e ≠ t → KeepE e w w'
theorem KeepO.trans {t : TypeId} {a b c : World} (h : KeepO t a b) (k : KeepO t b c) : KeepO t a c := fun e he => (h e he).trans (k e he)
theorem KeepO.below {t : TypeId} {C : Nat} {w w' : World} (hb : Below C w w') (hC : w.heap.size ≤ C) : KeepO t w w' := fun _ _ => KeepE.below hb hC
theorem KeepO.setBlock {t : TypeId} {w : World} {b : Nat} {f : Int → Option Value} (h : IMap w b f) (o : Obj) : KeepO t w (setBlock w b o) := fun _ _ => KeepE.setBlock h o
theorem KeepO.setCell {t : TypeId} {w : World} {s : Nat} {cs : Array Value} {fz : Nat × Nat} (h : w.heap[s]? = some (.cells cs t fz)) (o : Nat) (u : Value) : KeepO t w (w.setCell ⟨s, o, none⟩ u) := fun _ he => KeepE.setCell h (fun k => he k.symm) o u
theorem IMap.setCell {w : World} {b s : Nat} {f : Int → Option Value} {cs : Array Value} {t : TypeId} {fz : Nat × Nat} (h : IMap w b f) (hs : w.heap[s]? = some (.cells cs t fz)) (o : Nat) (u : Value) : IMap (w.setCell ⟨s, o, none⟩ u) b f := by
  refine h.same (Below.heap_setCell _ _ _ _ (fun k => ?_))
  obtain ⟨es, c, hb, _⟩ := h
  subst k
  rw [hs] at hb
  cases hb
theorem IMap.setBlock {w : World} {b s : Nat} {f : Int → Option Value} (h : IMap w b f) (hs : b ≠ s) (o : Obj) : IMap (setBlock w s o) b f := h.same (setBlock_other hs)
theorem IMap.grown {w w' : World} {b : Nat} {f : Int → Option Value} {e' : TypeId} {B' k' : Nat} {v' : Value} {n' : Nat} {xs' : List Value} (h : IMap w b f) (h' : w.ownsRow B' e' k' v' n' xs') (hg : w.grownBy w' v'.ownBlock) : IMap w' b f := by
  refine h.same (hg.block b h.lt (fun k => ?_))
  obtain ⟨es, c, hb, _⟩ := h
  rcases h'.2 with ⟨rfl, _⟩ | ⟨g', cap, cur', rfl, _, hh, _⟩
  · cases k
  · cases k
    rw [hh] at hb
    cases hb
end Go.Proofs.Ytjpdoblmdchmkad
/-
  A TREE AS A MAP, asked.
-/
namespace Go.Proofs.Ytjpdoblmdchmkad
open Go.RowKit

theorem zero26 (w : World) : (zeroValue 41).run Try.prog w = .ok NV.zero.val w := by
  obtain ⟨i26, hi26, hz26, hs26, hb26⟩ := info_parts info26
  simp [zeroValue, typeInfo, hi26, hz26, NV.zero]
theorem IMap.ask {w : World} {bm : Nat} {xs : List M.Nd} (h : TMap w bm xs) (k : Int) :
    (M.find xs k = none ∧ ∀ ok : Bool, (Instr.lookup 31 (.map (some bm)) (.int .i64 k) ok).run Try.prog w = .ok (if ok then .tuple #[NV.zero.val, .bool false] else NV.zero.val) w) ∨
    ∃ (v : NV) (x : M.Nd), M.find xs k = some x ∧ Cont w v x ∧ ∀ ok : Bool, (Instr.lookup 31 (.map (some bm)) (.int .i64 k) ok).run Try.prog w = .ok (if ok then .tuple #[v.val, .bool true] else v.val) w := by
  obtain ⟨f, hi, ha⟩ := h
  rcases ha k with ⟨h1, h2⟩ | ⟨v, x, h1, h2, h3⟩
  · refine .inl ⟨h2, fun ok => ?_⟩
    rw [run_lookup_map 31 41 Try.underlying31 (zero26 w) hi k ok, h1]
    rfl
  · refine .inr ⟨v, x, h2, h3, fun ok => ?_⟩
    rw [run_lookup_map 31 41 Try.underlying31 (zero26 w) hi k ok, h1]
    rfl

end Go.Proofs.Ytjpdoblmdchmkad
/-
  NODES WHOSE LISTS STAY: each lies in memory that was there at the start, or in a block of bytes, or of entries; so it stays while others are written.
-/
namespace Go.Proofs.Ytjpdoblmdchmkad
open Go.RowKit
open Go.ChangeMaps (setBlock)

/-- where the memory ends that was there at the start -/
structure BaseN where
  n : Nat
def kbase [Inhabited BaseN] : Nat := (default : BaseN).n
section
variable [Inhabited BaseN]
/-- a list lies there, or in a block of its type -/
def Lies (w : World) (A : Option Addr) (n : Nat) (e : TypeId) : Prop := n = 0 ∨ ∃ b o, A = some ⟨b, o, none⟩ ∧ b < w.heap.size ∧ (b < kbase ∨ ∃ cur, w.heap[b]? = some (.cells cur e (0, 0)))
theorem Lies.keep {w w' : World} {A : Option Addr} {n : Nat} {e : TypeId} (h : Lies w A n e) (hs : w.heap.size ≤ w'.heap.size) (hk : KeepE e w w') : Lies w' A n e := by
  rcases h with h | ⟨b, o, e1, hb, h⟩
  · exact .inl h
  · refine .inr ⟨b, o, e1, by omega, h.imp id fun ⟨cur, h⟩ => ⟨cur, hk b cur h⟩⟩
theorem Lies.below {B : Nat} {w w' : World} {A : Option Addr} {n : Nat} {e : TypeId} (h : Lies w A n e) (hB : w.heap.size ≤ B) (hb : Below B w w') : Lies w' A n e := h.keep hb.size (.below hb hB)
theorem Lies.none (w : World) (A : Option Addr) (e : TypeId) : Lies w A 0 e := .inl rfl
theorem Lies.own {w : World} {B : Nat} {e : TypeId} {k : Nat} {A : Option Addr} {n c : Nat} {xs : List Value} (h : w.ownsRow B e k (.slice A n c) n xs) : Lies w A n e := by
  rcases h.2 with ⟨h1, h2⟩ | ⟨g, cap, cur, e1, h1, hg, _⟩
  · exact .inl h2
  · cases e1
    exact .inr ⟨g, 0, rfl, lt_of_block hg, .inr ⟨cur, hg⟩⟩
theorem Lies.old {α : Type} {k : Nat} {cs : α → List Value} {w : World} {A : Option Addr} {n : Nat} {vs : List α} (h : Row k cs w A n vs) (hk : w.heap.size ≤ kbase) (e : TypeId) : Lies w A n e := by
  rcases h.2 with h1 | ⟨b, o, e1, hb, _⟩
  · left; rw [h.1, h1]; rfl
  · exact .inr ⟨b, o, e1, hb, .inl (by omega)⟩
theorem Row.keep {α : Type} {k : Nat} {cs : α → List Value} {w w' : World} {A : Option Addr} {n : Nat} {vs : List α} {e : TypeId} (h : Row k cs w A n vs) (hl : Lies w A n e) (hb : Below kbase w w') (hk : KeepE e w w') : Row k cs w' A n vs := by
  refine ⟨h.1, ?_⟩
  rcases h.2 with h1 | ⟨b, o, e1, hlt, hc⟩
  · exact .inl h1
  · rcases hl with h0 | ⟨b', o', e2, _, h3⟩
    · left; exact List.eq_nil_of_length_eq_zero (by rw [← h.1]; exact h0)
    · rw [e1] at e2
      cases e2
      have hh : w'.heap[b]? = w.heap[b]? := by
        rcases h3 with h3 | ⟨cur, h3⟩
        · exact hb.block b h3
        · rw [h3]; exact hk b cur h3
      refine .inr ⟨b, o, e1, by have := hb.size; omega, fun j v hv i c hi => ?_⟩
      have := hc j v hv i c hi
      unfold World.cell? at this ⊢
      rw [hh]
      exact this
/-- a node, and where its lists lie -/
def ContK (w : World) (v : NV) (x : M.Nd) : Prop := Cont w v x ∧ Lies w v.dA v.dn 5 ∧ Lies w v.eA v.en 81
theorem ContK.below {B : Nat} {w w' : World} {v : NV} {x : M.Nd} (h : ContK w v x) (hB : w.heap.size ≤ B) (hb : Below B w w') : ContK w' v x := ⟨h.1.below hB hb, h.2.1.below hB hb, h.2.2.below hB hb⟩
theorem ContK.keep {w w' : World} {v : NV} {x : M.Nd} (h : ContK w v x) (hb : Below kbase w w') (h5 : KeepE 5 w w') (hE : KeepE 81 w w') : ContK w' v x :=
  ⟨⟨h.1.1, h.1.2.1, h.1.2.2.1, h.1.2.2.2.1.keep h.2.1 hb h5, h.1.2.2.2.2.keep h.2.2 hb hE⟩, h.2.1.keep hb.size h5, h.2.2.keep hb.size hE⟩
theorem ContK.old {w : World} {v : NV} {x : M.Nd} (h : Cont w v x) (hk : w.heap.size ≤ kbase) : ContK w v x := ⟨h, .old h.2.2.2.1 hk 5, .old h.2.2.2.2 hk 81⟩
def AgreeK (w : World) (f : Int → Option Value) (xs : List M.Nd) : Prop :=
  ∀ k, (f k = none ∧ M.find xs k = none) ∨ ∃ (v : NV) (x : M.Nd), f k = some v.val ∧ M.find xs k = some x ∧ ContK w v x
theorem AgreeK.below {B : Nat} {w w' : World} {f : Int → Option Value} {xs : List M.Nd} (h : AgreeK w f xs) (hB : w.heap.size ≤ B) (hb : Below B w w') : AgreeK w' f xs := fun k =>
  (h k).imp id fun ⟨v, x, h1, h2, h3⟩ => ⟨v, x, h1, h2, h3.below hB hb⟩
theorem AgreeK.weak {w : World} {f : Int → Option Value} {xs : List M.Nd} (h : AgreeK w f xs) : Agree w f xs := fun k =>
  (h k).imp id fun ⟨v, x, h1, h2, h3⟩ => ⟨v, x, h1, h2, h3.1⟩
def TMapK (w : World) (b : Nat) (xs : List M.Nd) : Prop := ∃ f, IMap w b f ∧ AgreeK w f xs
theorem TMapK.below {B : Nat} {w w' : World} {b : Nat} {xs : List M.Nd} (h : TMapK w b xs) (hB : w.heap.size ≤ B) (hb : Below B w w') : TMapK w' b xs := by
  obtain ⟨f, h1, h2⟩ := h
  exact ⟨f, h1.below hB hb, h2.below hB hb⟩
theorem TMapK.weak {w : World} {b : Nat} {xs : List M.Nd} (h : TMapK w b xs) : TMap w b xs := by
  obtain ⟨f, h1, h2⟩ := h
  exact ⟨f, h1, h2.weak⟩
/-- it stays while neither it, nor bytes, nor entries are written -/
theorem TMapK.keep {w w' : World} {b : Nat} {xs : List M.Nd} (h : TMapK w b xs) (hm : w'.heap[b]? = w.heap[b]?) (hb : Below kbase w w') (h5 : KeepE 5 w w') (hE : KeepE 81 w w') : TMapK w' b xs := by
  obtain ⟨f, h1, h2⟩ := h
  exact ⟨f, h1.same hm, fun k => (h2 k).imp id fun ⟨v, x, e1, e2, e3⟩ => ⟨v, x, e1, e2, e3.keep hb h5 hE⟩⟩
theorem TMapK.old {w : World} {b : Nat} {xs : List M.Nd} {w0 : World} (h : TMap w b xs) (hx : ∀ f, IMap w b f → Agree w f xs → AgreeK w0 f xs) (hw : w = w0) : TMapK w b xs := by
  subst hw
  obtain ⟨f, h1, h2⟩ := h
  exact ⟨f, h1, hx f h1 h2⟩
theorem agreeK_upd {w : World} {f : Int → Option Value} {xs ys : List M.Nd} {v : NV} {x : M.Nd} (h : AgreeK w f xs) (hc : ContK w v x) (hf : ∀ k, M.find ys k = if k = x.fid then some x else M.find xs k) : AgreeK w (updF f v.fid v.val) ys := by
  intro k
  rw [hf k]
  unfold updF
  rw [hc.1.1]
  by_cases hk : k = x.fid
  · rw [if_pos hk, if_pos hk]; exact .inr ⟨v, x, rfl, rfl, hc⟩
  · rw [if_neg hk, if_neg hk]; exact h k
theorem IMap.askK {w : World} {bm : Nat} {xs : List M.Nd} (h : TMapK w bm xs) (k : Int) :
    (M.find xs k = none ∧ ∀ ok : Bool, (Instr.lookup 31 (.map (some bm)) (.int .i64 k) ok).run Try.prog w = .ok (if ok then .tuple #[NV.zero.val, .bool false] else NV.zero.val) w) ∨
    ∃ (v : NV) (x : M.Nd), M.find xs k = some x ∧ ContK w v x ∧ ∀ ok : Bool, (Instr.lookup 31 (.map (some bm)) (.int .i64 k) ok).run Try.prog w = .ok (if ok then .tuple #[v.val, .bool true] else v.val) w := by
  obtain ⟨f, hi, ha⟩ := h
  rcases ha k with ⟨h1, h2⟩ | ⟨v, x, h1, h2, h3⟩
  · refine .inl ⟨h2, fun ok => ?_⟩
    rw [run_lookup_map 31 41 Try.underlying31 (zero26 w) hi k ok, h1]
    rfl
  · refine .inr ⟨v, x, h2, h3, fun ok => ?_⟩
    rw [run_lookup_map 31 41 Try.underlying31 (zero26 w) hi k ok, h1]
    rfl
end
end Go.Proofs.Ytjpdoblmdchmkad
/-
  NODES THAT ARE KEPT, in memory.
-/
namespace Go.Proofs.Ytjpdoblmdchmkad
open Go.RowKit
open Go.ChangeMaps (setBlock)

namespace M
/-- a node that is kept -/
structure Kp where
  node : Nd
  dirty : Bool
  worth : Int
  last : Int
end M
theorem infoK : (Try.prog.info? 63).map (fun i => (i.zero, i.size, i.bytes)) = some (some (.agg #[.int .i64 0, .bool false, .slice none 0 0, .slice none 0 0, .int .i64 0, .bool false, .int .i64 0, .int .i64 0]), 8, 96) := by kernel_rfl
structure KV where
  n : NV
  dirty : Bool
  worth : Int
  last : Int
def KV.cells (v : KV) : List Value := [.int .i64 v.n.fid, .bool v.n.dir, .slice v.n.dA v.n.dn v.n.dc, .slice v.n.eA v.n.en v.n.ec, .int .i64 v.n.ver, .bool v.dirty, .int .i64 v.worth, .int .i64 v.last]
@[reducible] def KV.val (v : KV) : Value := .agg #[.int .i64 v.n.fid, .bool v.n.dir, .slice v.n.dA v.n.dn v.n.dc, .slice v.n.eA v.n.en v.n.ec, .int .i64 v.n.ver, .bool v.dirty, .int .i64 v.worth, .int .i64 v.last]
@[reducible] def KV.obj (v : KV) : Obj := .cells #[.int .i64 v.n.fid, .bool v.n.dir, .slice v.n.dA v.n.dn v.n.dc, .slice v.n.eA v.n.en v.n.ec, .int .i64 v.n.ver, .bool v.dirty, .int .i64 v.worth, .int .i64 v.last] 63
def KV.zero : KV := ⟨NV.zero, false, 0, 0⟩
theorem kept_len (v : KV) : v.cells.length = 8 := rfl
theorem kept_one (v : KV) : ∀ u ∈ v.cells, u.oneCell' = true := by intro u hu; simp [KV.cells] at hu; rcases hu with rfl | rfl | rfl | rfl | rfl | rfl | rfl | rfl <;> rfl
def BoxK (w : World) (g : Nat) (v : KV) : Prop := w.heap[g]? = some (.cells #[.int .i64 v.n.fid, .bool v.n.dir, .slice v.n.dA v.n.dn v.n.dc, .slice v.n.eA v.n.en v.n.ec, .int .i64 v.n.ver, .bool v.dirty, .int .i64 v.worth, .int .i64 v.last] 63 (0, 0))
section
variable {w w' : World} {g B : Nat} {v : KV}
theorem BoxK.facts (h : BoxK w g v) : w.cell? ⟨g, 0, none⟩ = some (.int .i64 v.n.fid) ∧ w.cell? ⟨g, 1, none⟩ = some (.bool v.n.dir) ∧ w.cell? ⟨g, 2, none⟩ = some (.slice v.n.dA v.n.dn v.n.dc) ∧ w.cell? ⟨g, 3, none⟩ = some (.slice v.n.eA v.n.en v.n.ec) ∧ w.cell? ⟨g, 4, none⟩ = some (.int .i64 v.n.ver) ∧
    w.cell? ⟨g, 5, none⟩ = some (.bool v.dirty) ∧ w.cell? ⟨g, 6, none⟩ = some (.int .i64 v.worth) ∧ w.cell? ⟨g, 7, none⟩ = some (.int .i64 v.last) ∧ (∀ o, w.frozen? ⟨g, o, none⟩ = false) ∧ g < w.heap.size := by
  unfold BoxK at h
  refine ⟨by simp [World.cell?, h], by simp [World.cell?, h], by simp [World.cell?, h], by simp [World.cell?, h], by simp [World.cell?, h], by simp [World.cell?, h], by simp [World.cell?, h], by simp [World.cell?, h], fun o => by simp [World.frozen?, h], lt_of_block h⟩
theorem BoxK.below (h : BoxK w g v) (hb : Below B w w') (hs : g < B) : BoxK w' g v := by
  unfold BoxK at h ⊢; rw [hb.block g hs]; exact h
theorem BoxK.alloc (h : BoxK w g v) (o : Obj) : BoxK (w.alloc o) g v := by
  unfold BoxK at h ⊢; rw [Below.heap_alloc w o g (lt_of_block h)]; exact h
theorem boxK_one (w : World) (v : KV) : ∀ W, W = w.alloc (.cells #[.int .i64 v.n.fid, .bool v.n.dir, .slice v.n.dA v.n.dn v.n.dc, .slice v.n.eA v.n.en v.n.ec, .int .i64 v.n.ver, .bool v.dirty, .int .i64 v.worth, .int .i64 v.last] 63) → Below w.heap.size w W ∧ BoxK W w.heap.size v ∧ W.heap.size = w.heap.size + 1 := by
  rintro W rfl
  exact ⟨(Below.refl _ _).alloc (Nat.le_refl _) _, heap_alloc_new w _, by simp⟩
theorem rowK_box (h : BoxK w g v) : Row 8 KV.cells w (some ⟨g, 0, none⟩) 1 [v] := by
  refine ⟨rfl, .inr ⟨g, 0, rfl, lt_of_block h, fun j u hv i c hi => ?_⟩⟩
  obtain ⟨b0, b1, b2, b3, b4, b5, b6, b7, bf, bz⟩ := h.facts
  cases j with
  | succ j => cases hv
  | zero =>
    cases hv
    match i, hi with
    | 0, hi => cases hi; exact b0
    | 1, hi => cases hi; exact b1
    | 2, hi => cases hi; exact b2
    | 3, hi => cases hi; exact b3
    | 4, hi => cases hi; exact b4
    | 5, hi => cases hi; exact b5
    | 6, hi => cases hi; exact b6
    | 7, hi => cases hi; exact b7
    | i + 8, hi => cases hi
end
abbrev Kepts := Row 8 KV.cells
theorem Kepts.at {w : World} {A : Option Addr} {n : Nat} {vs : List KV} (h : Kepts w A n vs) {j : Nat} (hj : j < n) :
    ∃ b o v, A = some ⟨b, o, none⟩ ∧ b < w.heap.size ∧ vs[j]? = some v ∧ w.cell? ⟨b, o + j * 8, none⟩ = some (.int .i64 v.n.fid) ∧ w.cell? ⟨b, o + j * 8 + 1, none⟩ = some (.bool v.n.dir) ∧ w.cell? ⟨b, o + j * 8 + 2, none⟩ = some (.slice v.n.dA v.n.dn v.n.dc) ∧
      w.cell? ⟨b, o + j * 8 + 3, none⟩ = some (.slice v.n.eA v.n.en v.n.ec) ∧ w.cell? ⟨b, o + j * 8 + 4, none⟩ = some (.int .i64 v.n.ver) ∧ w.cell? ⟨b, o + j * 8 + 5, none⟩ = some (.bool v.dirty) ∧ w.cell? ⟨b, o + j * 8 + 6, none⟩ = some (.int .i64 v.worth) ∧ w.cell? ⟨b, o + j * 8 + 7, none⟩ = some (.int .i64 v.last) := by
  obtain ⟨b, o, v, e, hlt, hv, hc⟩ := Row.at h hj
  exact ⟨b, o, v, e, hlt, hv, hc 0 _ rfl, hc 1 _ rfl, hc 2 _ rfl, hc 3 _ rfl, hc 4 _ rfl, hc 5 _ rfl, hc 6 _ rfl, hc 7 _ rfl⟩
theorem snoc_belowK {w W w2 : World} {B : Nat} {A : Option Addr} {m c : Nat} {L : List Value} (hb : Below B w W) (hB : B ≤ w.heap.size) (ho : W.ownsRow B 63 8 (.slice A m c) m L) (hg : W.grownBy w2 (Value.slice A m c).ownBlock) : Below B w w2 :=
  Below.grown hb hg (Nat.le_trans hB hb.size) (fun k hk => (ho.lt k hk).1)
variable [Inhabited BaseN]
/-- the value v is what is kept, its lists where they stay -/
def ContKp (w : World) (v : KV) (x : M.Kp) : Prop := ContK w v.n x.node ∧ v.dirty = x.dirty ∧ v.worth = x.worth ∧ v.last = x.last
theorem ContKp.below {B : Nat} {w w' : World} {v : KV} {x : M.Kp} (h : ContKp w v x) (hB : w.heap.size ≤ B) (hb : Below B w w') : ContKp w' v x := ⟨h.1.below hB hb, h.2⟩
theorem ContKp.keep {w w' : World} {v : KV} {x : M.Kp} (h : ContKp w v x) (hb : Below kbase w w') (h5 : KeepE 5 w w') (hE : KeepE 81 w w') : ContKp w' v x := ⟨h.1.keep hb h5 hE, h.2⟩
/-- a cache that came in -/
def KeptK (w : World) (A : Option Addr) (n : Nat) (vs : List KV) (xs : List M.Kp) : Prop := Kepts w A n vs ∧ Lies w A n 63 ∧ All2 (ContKp w) vs xs
theorem KeptK.below {B : Nat} {w w' : World} {A : Option Addr} {n : Nat} {vs : List KV} {xs : List M.Kp} (h : KeptK w A n vs xs) (hB : w.heap.size ≤ B) (hb : Below B w w') : KeptK w' A n vs xs :=
  ⟨h.1.below hB hb, h.2.1.below hB hb, h.2.2.imp fun _ _ h => h.below hB hb⟩
theorem KeptK.len {w : World} {A : Option Addr} {n : Nat} {vs : List KV} {xs : List M.Kp} (h : KeptK w A n vs xs) : n = xs.length := by rw [h.1.1, h.2.2.1]
/-- a cache of one's own: its list is new -/
def OwnK (w : World) (B : Nat) (A : Option Addr) (n c : Nat) (vs : List KV) (xs : List M.Kp) : Prop := w.ownsRow B 63 8 (.slice A n c) n (vs.flatMap KV.cells) ∧ All2 (ContKp w) vs xs
theorem OwnK.kept {w : World} {B : Nat} {A : Option Addr} {n c : Nat} {vs : List KV} {xs : List M.Kp} (h : OwnK w B A n c vs xs) : KeptK w A n vs xs :=
  ⟨Row.ofOwn kept_len (by decide) h.1, .own h.1, h.2⟩
theorem OwnK.below {B C : Nat} {w w' : World} {A : Option Addr} {n c : Nat} {vs : List KV} {xs : List M.Kp} (h : OwnK w B A n c vs xs) (hC : w.heap.size ≤ C) (hb : Below C w w') : OwnK w' B A n c vs xs :=
  ⟨own_below h.1 hb hC, h.2.imp fun _ _ h => h.below hC hb⟩
theorem OwnK.mono {B B' : Nat} {w : World} {A : Option Addr} {n c : Nat} {vs : List KV} {xs : List M.Kp} (h : OwnK w B A n c vs xs) (hB : B' ≤ B) : OwnK w B' A n c vs xs := ⟨own_mono h.1 hB, h.2⟩
theorem OwnK.nil (w : World) (B : Nat) : OwnK w B none 0 0 [] [] := ⟨World.ownsRow_nil _ _ _ _, All2.nil⟩
theorem ContKp.grown {w w' : World} {B : Nat} {A : Option Addr} {n c : Nat} {L : List Value} {v : KV} {x : M.Kp} (h : ContKp w v x) (hB : kbase ≤ B) (hk : kbase ≤ w.heap.size) (ho : w.ownsRow B 63 8 (.slice A n c) n L) (hg : w.grownBy w' (Value.slice A n c).ownBlock) : ContKp w' v x :=
  h.keep (Below.grown (Below.refl _ _) hg hk (fun k hk => Nat.le_trans hB (ho.lt k hk).1)) (.grown ho (by decide) hg) (.grown ho (by decide) hg)
/-- one more is behind -/
theorem OwnK.snoc {w w' : World} {B : Nat} {A : Option Addr} {n c : Nat} {A' : Option Addr} {n' c' : Nat} {vs : List KV} {xs : List M.Kp} {r : KV} {x : M.Kp} (h : OwnK w B A n c vs xs) (hB : kbase ≤ B) (hk : kbase ≤ w.heap.size) (hr : ContKp w r x) (ho : w'.ownsRow B 63 8 (.slice A' n' c') n' (vs.flatMap KV.cells ++ r.cells)) (hg : w.grownBy w' (Value.slice A n c).ownBlock) : OwnK w' B A' n' c' (vs ++ [r]) (xs ++ [x]) := by
  refine ⟨?_, All2.append (h.2.imp fun _ _ k => k.grown hB hk h.1 hg) (All2.one (hr.grown hB hk h.1 hg))⟩
  rw [List.flatMap_append]
  simpa using ho
end Go.Proofs.Ytjpdoblmdchmkad
/-
  TREES WHOSE LISTS STAY: Of.
-/
namespace Go.Proofs.Ytjpdoblmdchmkad
open Go.RowKit
open Go.ChangeMaps (setBlock)
variable [Inhabited BaseN]

/-- a tree that came in, its lists where they stay -/
def TreeK (w : World) (A : Option Addr) (n : Nat) (vs : List NV) (xs : List M.Nd) : Prop := Nodes w A n vs ∧ All2 (ContK w) vs xs
theorem TreeK.below {B : Nat} {w w' : World} {A : Option Addr} {n : Nat} {vs : List NV} {xs : List M.Nd} (h : TreeK w A n vs xs) (hB : w.heap.size ≤ B) (hb : Below B w w') : TreeK w' A n vs xs :=
  ⟨h.1.below hB hb, h.2.imp fun _ _ h => h.below hB hb⟩
theorem TreeK.old {w : World} {A : Option Addr} {n : Nat} {vs : List NV} {xs : List M.Nd} (h : Tree w A n vs xs) (hk : w.heap.size ≤ kbase) : TreeK w A n vs xs := ⟨h.1, h.2.imp fun _ _ h => .old h hk⟩
theorem agreeK_nil (w : World) : AgreeK w (fun _ => none) [] := fun _ => .inl ⟨rfl, rfl⟩
/-- so far -/
def OfInvK (w : World) (b : Nat) (xs : List M.Nd) (wr : World) : Prop := (∃ f, IMap wr b f ∧ AgreeK w f xs) ∧ Below w.heap.size w wr
theorem of_stepK {w : World} {b : Nat} {xs ys : List M.Nd} {v : NV} {x : M.Nd} {wr : World} (h : OfInvK w b xs wr) (hwb : w.heap.size ≤ b) (hc : ContK w v x) (hf : ∀ k, M.find ys k = if k = x.fid then some x else M.find xs k) :
    ∃ o : Obj, (Instr.mapUpdate 31 (.map (some b)) (.int .i64 v.fid) v.val).run Try.prog wr = .ok () (setBlock wr b o) ∧ OfInvK w b ys (setBlock wr b o) := by
  obtain ⟨⟨f, hi, ha⟩, hb⟩ := h
  obtain ⟨o, hrun, him⟩ := run_update_map 31 41 Try.underlying31 hi v.fid v.val
  exact ⟨o, hrun, ⟨_, him, agreeK_upd ha hc hf⟩, setBlock_below hb hwb o⟩
theorem OfInvK.alloc {w : World} {b : Nat} {xs : List M.Nd} {wr : World} (h : OfInvK w b xs wr) (o : Obj) : OfInvK w b xs (wr.alloc o) := by
  obtain ⟨⟨f, hi, ha⟩, hb⟩ := h
  exact ⟨⟨f, hi.below (Nat.le_refl _) ((Below.refl _ _).alloc (Nat.le_refl _) o), ha⟩, hb.alloc hb.size o⟩
theorem OfInvK.tmap {w : World} {b : Nat} {xs : List M.Nd} {wr : World} (h : OfInvK w b xs wr) : TMapK wr b xs := by
  obtain ⟨⟨f, hi, ha⟩, hb⟩ := h
  exact ⟨f, hi, ha.below (Nat.le_refl _) hb⟩
set_option maxHeartbeats 2000000 in
theorem ofK_any (A : Option Addr) (n c : Nat) (vs : List NV) (xs : List M.Nd) (w : World) (ht : TreeK w A n vs xs) (hr : M.RsN xs) (hn : n * 72 ≤ 140737488355328) :
    Calls Try.prog 11 #[.slice A n c] w fun e w' => ∃ b, e = .returned (.map (some b)) ∧ TMapK w' b xs ∧ Below w.heap.size w w' := by
  have HT : Hid (TreeK w A n vs xs ∧ M.RsN xs) := ⟨ht, hr⟩
  have HL : Hid (n = xs.length) := by show n = _; rw [ht.1.1, ht.2.1]
  have hmm := @run_makeMap Try.prog
  have H0 : Hid (OfInvK w w.heap.size [] (w.alloc (.map #[] 0))) := ⟨⟨_, IMap.new w, agreeK_nil w⟩, (Below.refl _ _).alloc (Nat.le_refl _) _⟩
  clear ht hr
  go_enter Try.func11, Try.ntmps11
  go_wp2
  go_loopw [9] (fun i wr => ∃ k : Nat, k ≤ n ∧ i = .int .i64 k ∧ OfInvK w w.heap.size (xs.take k) wr) (fun i _ => n - (intOf i).toNat)
  case atStart => exact ⟨0, Nat.zero_le _, rfl, H0.out⟩
  case round =>
    obtain ⟨k, hk, rfl, hinv⟩ := hrel
    have HI : Hid (OfInvK w w.heap.size (xs.take k) wr) := hinv
    have hb := hinv.2
    clear hinv
    by_cases hlt : k < n
    · have hxr := HT.out.1.below (Nat.le_refl _) hb
      obtain ⟨b, o, v, hA, _, hvk, a0, a1, a2, a3, a4⟩ := hxr.1.at hlt
      obtain ⟨x, hxk, hcx⟩ := HT.out.1.2.at hvk
      have HX : Hid (ContK w v x ∧ xs[k]? = some x) := ⟨hcx, hxk⟩
      have HF : Hid (∀ q, M.find (xs.take (k + 1)) q = if q = x.fid then some x else M.find (xs.take k) q) := by
        intro q
        have h1 := rs_takeN (k + 1) HT.out.2
        rw [take_step hxk] at h1 ⊢
        exact find_snoc h1 q
      obtain ⟨ob, hrun, hinv2⟩ := of_stepK (HI.out.alloc (.cells #[.int .i64 v.fid, .bool v.dir, .slice v.dA v.dn v.dc, .slice v.eA v.en v.ec, .int .i64 v.ver] 41)) (Nat.le_refl _) hcx HF.out
      have HI2 : Hid (OfInvK w w.heap.size (xs.take (k + 1)) (setBlock (wr.alloc (.cells #[.int .i64 v.fid, .bool v.dir, .slice v.dA v.dn v.dc, .slice v.eA v.en v.ec, .int .i64 v.ver] 41)) w.heap.size ob)) := hinv2
      have hkn : (k : Int) < (n : Int) := by omega
      have hk0 : (0 : Int) ≤ (k : Int) := by omega
      subst hA
      clear hxr hvk hxk hcx hinv2
      go_wp2
      go_roundw
      case rel => exact ⟨k + 1, by omega, by go_num, HI2.out⟩
      case measure => simp [intOf]; omega
    · have HN : Hid (xs.take k = xs) := by have := HL.out; show _ = _; exact List.take_of_length_le (by omega)
      go_wp2
      go_ret
      have h1 := HI.out
      rw [HN.out] at h1
      exact ⟨_, rfl, h1.tmap, hb⟩
end Go.Proofs.Ytjpdoblmdchmkad
/-
  THE REFERENCE's caches: Worse, Fresh, Kept.
-/
namespace Go.Proofs.Ytjpdoblmdchmkad
open Go.RowKit
open Go.ChangeMaps (setBlock)

def worseV (a b : KV) : Bool := if a.worth = b.worth then (if a.last = b.last then decide (a.n.fid < b.n.fid) else decide (a.last < b.last)) else decide (a.worth < b.worth)
def M.worseS (a b : M.Kp) : Bool := if a.worth = b.worth then (if a.last = b.last then decide (a.node.fid < b.node.fid) else decide (a.last < b.last)) else decide (a.worth < b.worth)
theorem two_boxesK (w : World) (a b : KV) : ∀ W, W = (w.alloc (.cells #[.int .i64 a.n.fid, .bool a.n.dir, .slice a.n.dA a.n.dn a.n.dc, .slice a.n.eA a.n.en a.n.ec, .int .i64 a.n.ver, .bool a.dirty, .int .i64 a.worth, .int .i64 a.last] 63)).alloc (.cells #[.int .i64 b.n.fid, .bool b.n.dir, .slice b.n.dA b.n.dn b.n.dc, .slice b.n.eA b.n.en b.n.ec, .int .i64 b.n.ver, .bool b.dirty, .int .i64 b.worth, .int .i64 b.last] 63) → Below w.heap.size w W := by
  rintro W rfl
  exact ((Below.refl _ _).alloc (Nat.le_refl _) _).alloc (by simp) _
set_option maxHeartbeats 1000000 in
theorem refWorse_any (a b : KV) (w : World) : Calls Try.prog 30 #[a.val, b.val] w fun e w' => e = .returned (.bool (worseV a b)) ∧ Below w.heap.size w w' := by
  have HW : Hid _ := two_boxesK w a b
  by_cases h1 : a.worth = b.worth
  · have d1 : (a.worth != b.worth) = false := by simp [h1]
    by_cases h2 : a.last = b.last
    · have d2 : (a.last != b.last) = false := by simp [h2]
      have HR : Hid (worseV a b = decide (a.n.fid < b.n.fid)) := by show _ = _; unfold worseV; rw [if_pos h1, if_pos h2]
      clear h1 h2
      go_enter Try.func30, Try.ntmps30
      go_wp2
      go_ret
      exact ⟨ret_bool HR.out.symm, HW.out _ rfl⟩
    · have d2 : (a.last != b.last) = true := by simp [h2]
      have HR : Hid (worseV a b = decide (a.last < b.last)) := by show _ = _; unfold worseV; rw [if_pos h1, if_neg h2]
      clear h1 h2
      go_enter Try.func30, Try.ntmps30
      go_wp2
      go_ret
      exact ⟨ret_bool HR.out.symm, HW.out _ rfl⟩
  · have d1 : (a.worth != b.worth) = true := by simp [h1]
    have HR : Hid (worseV a b = decide (a.worth < b.worth)) := by show _ = _; unfold worseV; rw [if_neg h1]
    clear h1
    go_enter Try.func30, Try.ntmps30
    go_wp2
    go_ret
    exact ⟨ret_bool HR.out.symm, HW.out _ rfl⟩

namespace M
/-- what is dirty, or of the version that is there -/
def freshB (ts : List Nd) (x : Kp) : Bool := x.dirty || match find ts x.node.fid with
  | none => false
  | some y => decide (y.ver = x.node.ver)
/-- the nodes, by their fids -/
def keptT (xs : List Kp) : List Nd := xs.foldl (fun t k => putN t k.node) []
theorem keptT_snoc (xs : List Kp) (x : Kp) : keptT (xs ++ [x]) = putN (keptT xs) x.node := by unfold keptT; rw [List.foldl_append]; rfl
end M
variable [Inhabited BaseN]
theorem worseV_is {w : World} {a b : KV} {x y : M.Kp} (ha : ContKp w a x) (hb : ContKp w b y) : worseV a b = M.worseS x y := by
  unfold worseV M.worseS
  rw [ha.2.2.1, ha.2.2.2, ha.1.1.1, hb.2.2.1, hb.2.2.2, hb.1.1.1]

set_option maxRecDepth 8000 in
set_option maxHeartbeats 4000000 in
theorem refFresh_any (A : Option Addr) (n c bm : Nat) (vs : List KV) (xs : List M.Kp) (ts : List M.Nd) (w : World) (ht : KeptK w A n vs xs) (hm : TMapK w bm ts) (hk : kbase ≤ w.heap.size) (hn : (n + 1) * 96 ≤ 140737488355328) :
    Calls Try.prog 29 #[.slice A n c, .map (some bm)] w fun e w' => ∃ (B : Option Addr) (m d : Nat) (us : List KV), e = .returned (.slice B m d) ∧ OwnK w' w.heap.size B m d us (xs.filter (M.freshB ts)) ∧ Below w.heap.size w w' := by
  have HT : Hid (KeptK w A n vs xs ∧ TMapK w bm ts ∧ kbase ≤ w.heap.size) := ⟨ht, hm, hk⟩
  have HLN : Hid (n = xs.length) := ht.len
  obtain ⟨iK, hiK, hzK, hsK, hbK⟩ := info_parts infoK
  have H0 : Hid (OwnK w w.heap.size none 0 0 [] [] ∧ Below w.heap.size w w) := ⟨OwnK.nil _ _, Below.refl _ _⟩
  clear ht hm hk
  go_enter Try.func29, Try.ntmps29
  go_wp2_with (fail)
  go_loopw [5, 12] (fun u i W => ∃ (k : Nat) (V : Option Addr) (m d : Nat) (us : List KV), k ≤ n ∧ m ≤ k ∧ i = .int .i64 k ∧ u = .slice V m d ∧ Hid (OwnK W w.heap.size V m d us ((xs.take k).filter (M.freshB ts)) ∧ Below w.heap.size w W)) (fun _ i _ => n - (intOf i).toNat)
  case atStart => exact ⟨0, none, 0, 0, [], Nat.zero_le _, Nat.le_refl _, rfl, rfl, H0⟩
  case round =>
    obtain ⟨k, V, m, d, us, hk, hmk, rfl, rfl, HK⟩ := hrel
    rename World => wr
    by_cases hlt : k < n
    · have htr := HT.out.1.below (Nat.le_refl _) HK.out.2
      obtain ⟨g, o, v, rfl, hgb, hvk, c0, c1, c2, c3, c4, c5, c6, c7⟩ := htr.1.at hlt
      obtain ⟨x, hx, hcx⟩ := htr.2.2.at hvk
      have HX : Hid (xs[k]? = some x ∧ ContKp wr v x) := ⟨hx, hcx⟩
      have HWA : Hid _ := boxK_one wr v
      have HKN : Hid (m + 1 ≤ maxLen ∧ (m + 1) * 96 ≤ 140737488355328 ∧ ∀ W : World, Below wr.heap.size wr W → ∀ W', Below W.heap.size W W' → w.heap.size ≤ W'.heap.size) := by
        refine ⟨by unfold maxLen; omega, Nat.le_trans (Nat.mul_le_mul_right 96 (by omega)) hn, fun W h W' h' => ?_⟩
        exact Nat.le_trans HK.out.2.size (Nat.le_trans h.size h'.size)
      clear htr hvk hx hcx hgb
      go_upto_region 5 with (fail)
      obtain ⟨w3, hw3⟩ : ∃ W, W = wr.alloc (.cells #[.int .i64 v.n.fid, .bool v.n.dir, .slice v.n.dA v.n.dn v.n.dc, .slice v.n.eA v.n.en v.n.ec, .int .i64 v.n.ver, .bool v.dirty, .int .i64 v.worth, .int .i64 v.last] 63) := ⟨_, rfl⟩
      have H3 : Hid (Below wr.heap.size wr w3 ∧ BoxK w3 wr.heap.size v) := by
        obtain ⟨q1, q2, q3⟩ := HWA.out _ hw3
        exact ⟨q1, q2⟩
      rw [← hw3]
      clear hw3 HWA c0 c1 c2 c3 c4 c5 c6 c7
      obtain ⟨z0, z1, z2, z3, z4, z5, z6, z7, zf, zz⟩ := H3.out.2.facts
      have HDI : Hid (v.dirty = x.dirty ∧ v.n.fid = x.node.fid ∧ v.n.ver = x.node.ver) := ⟨HX.out.2.2.1, HX.out.2.1.1.1, HX.out.2.1.1.2.2.1⟩
      go_cut [8, 9] from 16 to 23 (fun u t W => ∃ (y : NV) (bb : Bool), u = .pointer (some ⟨w3.heap.size, 0, none⟩) ∧ t = .bool bb ∧ Hid (Box W w3.heap.size y ∧ M.freshB ts x = (v.dirty || (bb && decide (y.ver = v.n.ver))) ∧ Below wr.heap.size wr W ∧ BoxK W wr.heap.size v))
      case first =>
        have HBX : Hid (∀ y : NV, ∀ W, W = w3.alloc (.cells #[.int .i64 y.fid, .bool y.dir, .slice y.dA y.dn y.dc, .slice y.eA y.en y.ec, .int .i64 y.ver] 41) → Box W w3.heap.size y ∧ (Below wr.heap.size wr W ∧ BoxK W wr.heap.size v)) := by
          rintro y W rfl
          exact ⟨Box.new w3 y, H3.out.1.alloc H3.out.1.size _, H3.out.2.alloc _⟩
        rcases IMap.askK (HT.out.2.1.below (Nat.le_refl _) (HK.out.2.trans (H3.out.1.mono HK.out.2.size))) v.n.fid with ⟨hno, hl⟩ | ⟨y, z, hyes, hcy, hl⟩
        · have hl2 := hl true
          simp only [if_true] at hl2
          have HR : Hid (M.freshB ts x = (v.dirty || (false && decide (NV.zero.ver = v.n.ver)))) := by
            show _ = _
            unfold M.freshB
            rw [← HDI.out.2.1, hno, ← HDI.out.1]; rfl
          have HY : Hid _ := HBX.out NV.zero
          clear hno hl
          go_wp2_with (fail)
          go_meet
          case rel => exact ⟨NV.zero, false, rfl, rfl, (HY.out _ rfl).1, HR.out, (HY.out _ rfl).2⟩
        · have hl2 := hl true
          simp only [if_true] at hl2
          have HR : Hid (M.freshB ts x = (v.dirty || (true && decide (y.ver = v.n.ver)))) := by
            show _ = _
            unfold M.freshB
            rw [← HDI.out.2.1, hyes, ← HDI.out.1, HDI.out.2.2, hcy.1.2.2.1]; rfl
          have HY : Hid _ := HBX.out y
          clear hyes hl hcy
          go_wp2_with (fail)
          go_meet
          case rel => exact ⟨y, true, rfl, rfl, (HY.out _ rfl).1, HR.out, (HY.out _ rfl).2⟩
      obtain ⟨y, bb, rfl, rfl, H3b⟩ := hcut
      rename World => w3b
      clear z0 z1 z2 z3 z4 z5 z6 z7 zf zz
      generalize w3.heap.size = nb at H3b ⊢
      obtain ⟨z0, z1, z2, z3, z4, z5, z6, z7, zf, zz⟩ := H3b.out.2.2.2.facts
      obtain ⟨y0, y1, y2, y3, y4, yf, yz⟩ := H3b.out.1.facts
      go_upto_region 6 with (fail)
      go_cut [36] from 24 to 36 (fun t W => t = .bool (M.freshB ts x) ∧ Hid (Below wr.heap.size wr W ∧ BoxK W wr.heap.size v))
      case first =>
        obtain ⟨db, hdb⟩ : ∃ b, v.dirty = b := ⟨_, rfl⟩
        rw [hdb] at z5
        have HR : Hid (M.freshB ts x = (db || (bb && decide (y.ver = v.n.ver)))) := by show _ = _; rw [H3b.out.2.1, hdb]
        clear hdb
        cases db
        · cases bb
          · go_wp2_with (fail)
            go_meet
            case rel => exact ⟨congrArg Value.bool (by rw [HR.out]; rfl), H3b.out.2.2⟩
          · by_cases he : y.ver = v.n.ver
            · have d1 : (y.ver == v.n.ver) = true := by simp [he]
              have HR2 : Hid (M.freshB ts x = true) := by show _ = _; rw [HR.out]; simp [he]
              clear he
              go_wp2_with (fail)
              go_meet
              case rel => exact ⟨congrArg Value.bool HR2.out.symm, H3b.out.2.2⟩
            · have d1 : (y.ver == v.n.ver) = false := by simp [he]
              have HR2 : Hid (M.freshB ts x = false) := by show _ = _; rw [HR.out]; simp [he]
              clear he
              go_wp2_with (fail)
              go_meet
              case rel => exact ⟨congrArg Value.bool HR2.out.symm, H3b.out.2.2⟩
        · go_wp2_with (fail)
          go_meet
          case rel => exact ⟨congrArg Value.bool (by rw [HR.out]; rfl), H3b.out.2.2⟩
      obtain ⟨rfl, H4⟩ := hcut
      rename World => w4
      clear z0 z1 z2 z3 z4 z5 z6 z7 zf zz y0 y1 y2 y3 y4 yf yz H3 H3b
      obtain ⟨z0, z1, z2, z3, z4, z5, z6, z7, zf, zz⟩ := H4.out.2.facts
      have HTK : Hid ((xs.take (k + 1)).filter (M.freshB ts) = (xs.take k).filter (M.freshB ts) ++ if M.freshB ts x then [x] else []) := by
        show _ = _
        rw [take_step HX.out.1, List.filter_append]
        congr 1
        rw [List.filter_cons]
        rfl
      cases hfb : M.freshB ts x
      · have H5 : Hid (OwnK w4 w.heap.size V m d us ((xs.take (k + 1)).filter (M.freshB ts)) ∧ Below w.heap.size w w4) := by
          rw [HTK.out, hfb]
          refine ⟨?_, HK.out.2.trans (H4.out.1.mono HK.out.2.size)⟩
          have h := HK.out.1.below (Nat.le_refl _) H4.out.1
          simpa using h
        clear hfb HTK
        go_wp2_with (fail)
        go_roundw
        case rel => exact ⟨k + 1, V, m, d, us, by omega, by omega, by go_num, rfl, H5⟩
        case measure => simp [intOf]; omega
      · have HFB : Hid (M.freshB ts x = true) := hfb
        have HWB : Hid _ := boxK_one w4 v
        clear hfb
        go_wp2_with (at_builtin; refine wpList_append_row _ (by rfl) (.tmp 37) (.tmp 39) 61 (by rfl) w.heap.size 63 iK _ 96 Try.underlying61 hiK hzK hsK hbK rfl (by decide) _ m _ (by rfl) (own_below (own_below HK.out.1.1 H4.out.1 (Nat.le_refl _)) (HWB.out _ rfl).1 (Nat.le_refl _)) (some ⟨w4.heap.size, 0, none⟩) 1 1 [v] (by rfl) (rowK_box (HWB.out _ rfl).2.1) kept_len kept_one HKN.out.1 HKN.out.2.1 (HKN.out.2.2 _ H4.out.1 _ (HWB.out _ rfl).1) ?_; intro v5 w5 hown5 hg5; obtain ⟨V5, d5, rfl, _, _⟩ := own_form hown5; have HR : Hid (OwnK w5 w.heap.size V5 (m + 1) d5 (us ++ [v]) ((xs.take (k + 1)).filter (M.freshB ts)) ∧ Below w.heap.size w w5) := ⟨(by rw [HTK.out, HFB.out]; exact OwnK.snoc ((HK.out.1.below (Nat.le_refl _) H4.out.1).below (Nat.le_refl _) (HWB.out _ rfl).1) HT.out.2.2 (Nat.le_trans HT.out.2.2 (HKN.out.2.2 _ H4.out.1 _ (HWB.out _ rfl).1)) ((HX.out.2.below (Nat.le_refl _) H4.out.1).below (Nat.le_refl _) (HWB.out _ rfl).1) (by simpa using hown5) hg5), snoc_belowK (HK.out.2.trans ((H4.out.1.trans ((HWB.out _ rfl).1.mono H4.out.1.size)).mono HK.out.2.size)) (Nat.le_refl _) (own_below (own_below HK.out.1.1 H4.out.1 (Nat.le_refl _)) (HWB.out _ rfl).1 (Nat.le_refl _)) hg5⟩; clear hown5 hg5)
        go_roundw
        case rel => exact ⟨k + 1, V5, m + 1, d5, _, by omega, by omega, by go_num, rfl, HR⟩
        case measure => simp [intOf]; omega
    · have HE : Hid (OwnK wr w.heap.size V m d us (xs.filter (M.freshB ts)) ∧ Below w.heap.size w wr) := by
        have h := HK.out
        rw [List.take_of_length_le (by rw [← HLN.out]; omega)] at h
        exact h
      clear HK H0
      go_wp2_with (fail)
      go_ret
      exact ⟨V, m, d, us, rfl, HE.out⟩
end Go.Proofs.Ytjpdoblmdchmkad
/-
  PLAIN MATHEMATICS of chapter 8: what is kept.
-/
namespace Go.Proofs.Ytjpdoblmdchmkad
namespace M
def hasK (xs : List Kp) (f : Int) : Bool := xs.any fun x => decide (x.node.fid = f)
/-- in another one's place -/
def mixK (x k : Kp) : Kp := ⟨k.node, k.dirty, if k.worth < x.worth then x.worth else k.worth, k.last⟩
def repK : List Kp → Kp → List Kp
  | [], _ => []
  | x :: xs, k => if x.node.fid = k.node.fid then mixK x k :: xs else x :: repK xs k
/-- so far: the list, and whether it was there -/
def stepK (k : Kp) (s : List Kp × Bool) (x : Kp) : List Kp × Bool := if (decide (x.node.fid = k.node.fid) && !s.2) = true then (s.1 ++ [mixK x k], true) else (s.1 ++ [x], s.2)
theorem fold_true (k : Kp) : ∀ (xs a : List Kp), xs.foldl (stepK k) (a, true) = (a ++ xs, true)
  | [], a => by simp
  | x :: xs, a => by
    rw [List.foldl_cons]
    have e : stepK k (a, true) x = (a ++ [x], true) := by unfold stepK; simp
    rw [e, fold_true k xs, List.append_assoc]
    rfl
theorem fold_false (k : Kp) : ∀ (xs a : List Kp), xs.foldl (stepK k) (a, false) = (a ++ repK xs k, hasK xs k.node.fid)
  | [], a => by simp [repK, hasK]
  | x :: xs, a => by
    rw [List.foldl_cons]
    by_cases h : x.node.fid = k.node.fid
    · have e : stepK k (a, false) x = (a ++ [mixK x k], true) := by unfold stepK; simp [h]
      rw [e, fold_true, repK, if_pos h, List.append_assoc]
      unfold hasK
      simp [h]
    · have e : stepK k (a, false) x = (a ++ [x], false) := by unfold stepK; simp [h]
      rw [e, fold_false k xs, repK, if_neg h, List.append_assoc]
      unfold hasK
      simp [h]
theorem rep_not : ∀ (xs : List Kp) (k : Kp), hasK xs k.node.fid = false → repK xs k = xs
  | [], _, _ => rfl
  | x :: xs, k, h => by
    unfold hasK at h
    rw [List.any_cons, Bool.or_eq_false_iff] at h
    have h1 : ¬ x.node.fid = k.node.fid := by simpa using h.1
    rw [repK, if_neg h1, rep_not xs k h.2]
theorem fold_len (k : Kp) : ∀ (xs a : List Kp) (b : Bool), (xs.foldl (stepK k) (a, b)).1.length = a.length + xs.length
  | [], a, b => by simp
  | x :: xs, a, b => by
    rw [List.foldl_cons, List.length_cons]
    unfold stepK
    split
    · rw [show ((a ++ [mixK x k], true) : List Kp × Bool) = (a ++ [mixK x k], true) from rfl]
      have := fold_len k xs (a ++ [mixK x k]) true
      unfold stepK at this
      rw [this, List.length_append, List.length_singleton]; omega
    · have := fold_len k xs (a ++ [x]) b
      unfold stepK at this
      rw [this, List.length_append, List.length_singleton]; omega
/-- it may go -/
def freeK (x : Kp) : Bool := !x.dirty && !decide (x.node.fid = 0)
def ahead (xs : List Kp) (x : Kp) : Option Nat → Bool
  | none => true
  | some j => match xs[j]? with
    | none => true
    | some y => worseS x y
/-- the worst of the first ones -/
def worstS (xs : List Kp) : Nat → Option Nat
  | 0 => none
  | k + 1 => match xs[k]? with
    | none => worstS xs k
    | some x => if (freeK x && ahead xs x (worstS xs k)) = true then some k else worstS xs k
theorem worst_lt (xs : List Kp) : ∀ (k i : Nat), worstS xs k = some i → i < k ∧ i < xs.length
  | 0, _, h => by cases h
  | k + 1, i, h => by
    unfold worstS at h
    cases hx : xs[k]? with
    | none =>
      rw [hx] at h
      have := worst_lt xs k i h
      omega
    | some x =>
      rw [hx] at h
      simp only at h
      split at h
      · cases h
        exact ⟨Nat.lt_succ_self _, (List.getElem?_eq_some_iff.1 hx).1⟩
      · have := worst_lt xs k i h
        omega
theorem worst_step {xs : List Kp} {k : Nat} {x : Kp} (h : xs[k]? = some x) : worstS xs (k + 1) = if (freeK x && ahead xs x (worstS xs k)) = true then some k else worstS xs k := by
  rw [worstS, h]
def shrinkS (xs : List Kp) (room : Int) : Option (List Kp) :=
  if room ≤ (xs.length : Int) then
    match _hw : worstS xs xs.length with
    | none => none
    | some i => shrinkS (xs.eraseIdx i) room
  else some xs
termination_by xs.length
decreasing_by
  have := (worst_lt xs _ _ _hw).2
  rw [List.length_eraseIdx_of_lt this]
  omega
theorem shrink_end {xs : List Kp} {room : Int} (h : ¬ room ≤ (xs.length : Int)) : shrinkS xs room = some xs := by rw [shrinkS, if_neg h]
theorem shrink_none {xs : List Kp} {room : Int} (h : room ≤ (xs.length : Int)) (hw : worstS xs xs.length = none) : shrinkS xs room = none := by
  rw [shrinkS, if_pos h]
  split
  · rfl
  · rename_i h2; rw [hw] at h2; cases h2
theorem shrink_some {xs : List Kp} {room : Int} {i : Nat} (h : room ≤ (xs.length : Int)) (hw : worstS xs xs.length = some i) : shrinkS xs room = shrinkS (xs.eraseIdx i) room := by
  conv => lhs; rw [shrinkS, if_pos h]
  split
  · rename_i h2; rw [hw] at h2; cases h2
  · rename_i j h2; rw [hw] at h2; cases h2; rfl
def keepS (xs : List Kp) (room : Int) (k : Kp) : Int × List Kp :=
  if hasK xs k.node.fid = true then (0, repK xs k) else match shrinkS xs room with
    | none => (5, [])
    | some ys => (0, ys ++ [k])
end M
end Go.Proofs.Ytjpdoblmdchmkad
/-
  PACKAGE cache, in memory: what is kept, and copies of one's own.
-/
namespace Go.Proofs.Ytjpdoblmdchmkad
open Go.RowKit

section
variable {w w' : World} {B C : Nat} {v : KV} {x : M.Kp} {A : Option Addr} {n c : Nat} {vs : List KV} {xs : List M.Kp}
/-- the value v is what is kept -/
def ContC (w : World) (v : KV) (x : M.Kp) : Prop := Cont w v.n x.node ∧ v.dirty = x.dirty ∧ v.worth = x.worth ∧ v.last = x.last
theorem ContC.below (h : ContC w v x) (hB : w.heap.size ≤ B) (hb : Below B w w') : ContC w' v x := ⟨h.1.below hB hb, h.2⟩
/-- a cache, wherever it lies -/
def TreeC (w : World) (A : Option Addr) (n : Nat) (vs : List KV) (xs : List M.Kp) : Prop := Kepts w A n vs ∧ All2 (ContC w) vs xs
theorem TreeC.below (h : TreeC w A n vs xs) (hB : w.heap.size ≤ B) (hb : Below B w w') : TreeC w' A n vs xs := ⟨h.1.below hB hb, h.2.imp fun _ _ h => h.below hB hb⟩
theorem TreeC.len (h : TreeC w A n vs xs) : n = xs.length := by rw [h.1.1, h.2.1]
/-- its lists are the call's own -/
def OwnKp (w : World) (B : Nat) (v : KV) (x : M.Kp) : Prop := OwnN w B v.n x.node ∧ v.dirty = x.dirty ∧ v.worth = x.worth ∧ v.last = x.last
theorem OwnKp.cont (h : OwnKp w B v x) : ContC w v x := ⟨h.1.cont, h.2⟩
theorem OwnKp.below (h : OwnKp w B v x) (hC : w.heap.size ≤ C) (hb : Below C w w') : OwnKp w' B v x := ⟨h.1.below hC hb, h.2⟩
theorem OwnKp.mono (h : OwnKp w C v x) (hB : B ≤ C) : OwnKp w B v x := ⟨h.1.mono hB, h.2⟩
/-- a cache of one's own -/
def OwnC (w : World) (B : Nat) (A : Option Addr) (n c : Nat) (vs : List KV) (xs : List M.Kp) : Prop := w.ownsRow B 63 8 (.slice A n c) n (vs.flatMap KV.cells) ∧ All2 (OwnKp w B) vs xs
theorem OwnC.tree (h : OwnC w B A n c vs xs) : TreeC w A n vs xs := ⟨Row.ofOwn kept_len (by decide) h.1, h.2.imp fun _ _ h => h.cont⟩
theorem OwnC.below (h : OwnC w B A n c vs xs) (hC : w.heap.size ≤ C) (hb : Below C w w') : OwnC w' B A n c vs xs := ⟨own_below h.1 hb hC, h.2.imp fun _ _ h => h.below hC hb⟩
theorem OwnC.mono (h : OwnC w C A n c vs xs) (hB : B ≤ C) : OwnC w B A n c vs xs := ⟨own_mono h.1 hB, h.2.imp fun _ _ h => h.mono hB⟩
theorem OwnC.nil (w : World) (B : Nat) : OwnC w B none 0 0 [] [] := ⟨World.ownsRow_nil _ _ _ _, All2.nil⟩
theorem OwnC.len (h : OwnC w B A n c vs xs) : n = xs.length := h.tree.len
theorem OwnKp.grown {v' : Value} {n' : Nat} {L : List Value} (h : OwnKp w C v x) (h' : w.ownsRow B 63 8 v' n' L) (hg : w.grownBy w' v'.ownBlock) : OwnKp w' C v x :=
  ⟨⟨h.1.1, h.1.2.1, h.1.2.2.1, own_grown h.1.2.2.2.1 h' (by decide) hg, own_grown h.1.2.2.2.2 h' (by decide) hg⟩, h.2⟩
theorem OwnC.snoc {A' : Option Addr} {n' c' : Nat} {r : KV} {x : M.Kp} (h : OwnC w B A n c vs xs) (hr : OwnKp w B r x) (ho : w'.ownsRow B 63 8 (.slice A' n' c') n' (vs.flatMap KV.cells ++ r.cells)) (hg : w.grownBy w' (Value.slice A n c).ownBlock) : OwnC w' B A' n' c' (vs ++ [r]) (xs ++ [x]) := by
  refine ⟨?_, All2.append (h.2.imp fun _ _ k => k.grown h.1 hg) (All2.one (hr.grown h.1 hg))⟩
  rw [List.flatMap_append]
  simpa using ho
theorem KeptK.weak [Inhabited BaseN] (h : KeptK w A n vs xs) : TreeC w A n vs xs := ⟨h.1, h.2.2.imp fun _ _ h => ⟨h.1.1, h.2⟩⟩
/-- what is one's own lies where nothing else does -/
theorem OwnC.keptK [Inhabited BaseN] (h : OwnC w B A n c vs xs) : KeptK w A n vs xs :=
  ⟨h.tree.1, .own h.1, h.2.imp fun _ _ k => ⟨⟨k.1.cont, .own k.1.2.2.2.1, .own k.1.2.2.2.2⟩, k.2⟩⟩
theorem KeptK.old [Inhabited BaseN] (h : TreeC w A n vs xs) (hk : w.heap.size ≤ kbase) : KeptK w A n vs xs := ⟨h.1, .old h.1 hk _, h.2.imp fun _ _ k => ⟨.old k.1 hk, k.2⟩⟩
end
/-- an index, or -1 -/
def idxC : Option Nat → Int
  | none => -1
  | some k => k
theorem idxC_none {xs : List M.Kp} {p : M.Kp → Bool} (h : ∀ x ∈ xs, p x = false) : idxC (xs.findIdx? p) = -1 := by
  rw [List.findIdx?_eq_none_iff.2 (fun x hx => by simpa using h x hx)]; rfl
theorem idxC_at {xs : List M.Kp} {p : M.Kp → Bool} {k : Nat} {x : M.Kp} (h : ∀ x ∈ xs.take k, p x = false) (hx : xs[k]? = some x) (hp : p x = true) : idxC (xs.findIdx? p) = (k : Int) := by
  obtain ⟨hk, he⟩ := List.getElem?_eq_some_iff.1 hx
  have : xs.findIdx? p = some k := by
    rw [List.findIdx?_eq_some_iff_getElem]
    refine ⟨hk, by rw [he]; exact hp, fun j hj => ?_⟩
    have hjl : j < xs.length := by omega
    have := h xs[j] (List.mem_of_getElem? (i := j) (by rw [List.getElem?_take, if_pos hj]; exact List.getElem?_eq_getElem hjl))
    rw [this]; simp
  rw [this]; rfl
/-- where it is kept -/
def M.placeK (xs : List M.Kp) (f : Int) : Option Nat := xs.findIdx? fun x => decide (x.node.fid = f)
theorem place_has (xs : List M.Kp) (f : Int) : M.hasK xs f = decide (0 ≤ idxC (M.placeK xs f)) := by
  unfold M.hasK M.placeK
  cases h : xs.findIdx? fun x => decide (x.node.fid = f) with
  | none =>
    rw [List.findIdx?_eq_none_iff] at h
    rw [List.any_eq_false.2 (fun x hx => by rw [h x hx]; decide)]
    simp [idxC]
  | some k =>
    obtain ⟨hk, hp, _⟩ := List.findIdx?_eq_some_iff_getElem.1 h
    have ha : (xs.any fun x => decide (x.node.fid = f)) = true := List.any_eq_true.2 ⟨xs[k], List.getElem_mem hk, hp⟩
    rw [ha]
    simp [idxC]
end Go.Proofs.Ytjpdoblmdchmkad
