/-
  A QUEUE OF NUMBERS in one's own memory: appended at its end, cut at its front.
-/
import Derived.Test.YtlegjdlmcphhlabAsk
namespace Go.Proofs.Ytlegjdlmcphhlab
open Go.RowKit
open Go.ChangeMaps (setBlock)

theorem cell_new1 (w : World) (g : Nat) (v : Value) (t : TypeId) (hg : g = w.heap.size) : ∀ j x, [v][j]? = some x → (w.alloc (.cells #[v] t)).cell? ((⟨g, 0, none⟩ : Addr).add j) = some x := by
  subst hg
  intro j x hj
  cases j with
  | succ j => cases hj
  | zero =>
    cases hj
    simp [Addr.add_lit]
/-- from off on in block g lie the numbers l, with room for c -/
def Que (w : World) (B g off c : Nat) (l : List Int) : Prop :=
  B ≤ g ∧ l.length ≤ c ∧ c ≤ maxLen ∧ ∃ cur : Array Value, w.heap[g]? = some (.cells cur 3 (0, 0)) ∧ off + c ≤ cur.size ∧ ∀ (j : Nat) f, l[j]? = some f → cur[off + j]? = some (.int .i64 f)
theorem Que.lt {w : World} {B g off c : Nat} {l : List Int} (h : Que w B g off c l) : g < w.heap.size := by
  obtain ⟨_, _, _, cur, hg, _⟩ := h
  exact lt_of_block hg
theorem Que.cell {w : World} {B g off c : Nat} {l : List Int} (h : Que w B g off c l) {j : Nat} {f : Int} (hj : l[j]? = some f) : w.cell? ⟨g, off + j, none⟩ = some (.int .i64 f) := by
  obtain ⟨_, _, _, cur, hg, _, hc⟩ := h
  have := hc j f hj
  simp [World.cell?, hg, this]
theorem Que.same {w w' : World} {B g off c : Nat} {l : List Int} (h : Que w B g off c l) (hb : w'.heap[g]? = w.heap[g]?) : Que w' B g off c l := by
  obtain ⟨h1, h2, h3, cur, hg, h4⟩ := h
  exact ⟨h1, h2, h3, cur, by rw [hb]; exact hg, h4⟩
theorem Que.alloc {w : World} {B g off c : Nat} {l : List Int} (h : Que w B g off c l) (o : Obj) : Que (w.alloc o) B g off c l := h.same (Below.heap_alloc w o g h.lt)
theorem Que.setBlock {w : World} {B g off c : Nat} {l : List Int} (h : Que w B g off c l) {b : Nat} (hb : g ≠ b) (o : Obj) : Que (setBlock w b o) B g off c l := h.same (setBlock_other hb)
theorem Que.tail1 {w : World} {B g off : Nat} {f : Int} {l : List Int} (h : Que w B g off 1 (f :: l)) : Que w B g off 0 l := by
  obtain ⟨h1, h2, h3, cur, hg, h4, h5⟩ := h
  have hl : l = [] := List.eq_nil_of_length_eq_zero (by have h : l.length + 1 ≤ 1 := h2; omega)
  subst hl
  exact ⟨h1, by simp, by unfold maxLen; omega, cur, hg, by omega, fun j f hj => by cases hj⟩
theorem Que.tail {w : World} {B g off c : Nat} {f : Int} {l : List Int} (h : Que w B g off c (f :: l)) : Que w B g (off + 1) (c - 1) l := by
  obtain ⟨h1, h2, h3, cur, hg, h4, h5⟩ := h
  simp at h2
  refine ⟨h1, by omega, by omega, cur, hg, by omega, fun j f hj => ?_⟩
  have := h5 (j + 1) f hj
  rw [show off + (j + 1) = off + 1 + j by omega] at this
  exact this
theorem que_new (w : World) (B : Nat) (f : Int) (hB : B ≤ w.heap.size) : Que (w.alloc (.cells #[.int .i64 f] 3)) B w.heap.size 0 1 [f] :=
  ⟨hB, by simp, by unfold maxLen; omega, #[.int .i64 f], heap_alloc_new w _, by simp, fun j q hj => by
    cases j with
    | succ j => cases hj
    | zero => cases hj; rfl⟩

section
variable {P : Program} (w : World)
theorem run_append_que (B : Nat) (t ty : TypeId) (i : TypeInfo) (ht : P.underlying t = some (.slice 3)) (hi : P.info? 3 = some i) (hz : i.zero = some (.int .i64 0)) (hsize : i.size = 1) (hby : i.bytes = 8)
    (g off c : Nat) (l : List Int) (hq : Que w B g off c l) (a : Addr) (k : Nat) (f : Int) (hnews : ∀ j u, [Value.int .i64 f][j]? = some u → w.cell? (a.add j) = some u)
    (hbytes : (l.length + 1) * 8 ≤ 140737488355328) (hB : B ≤ w.heap.size) :
    ∃ g' off' c' w', (Builtin.append_ #[t, t] ty #[.slice (some ⟨g, off, none⟩) l.length c, .slice (some a) 1 k]).run P w = .ok (.slice (some ⟨g', off', none⟩) (l.length + 1) c') w' ∧ Que w' B g' off' c' (l ++ [f]) ∧ w.grownBy w' (some g) := by
  obtain ⟨h1, h2, h3, cur, hg, h4, h5⟩ := hq
  by_cases hroom : l.length + 1 ≤ c
  · have hf := run_firstCells_some (P := P) w i.size 1 a 1 k [Value.int .i64 f] (by rw [hsize]; rfl) hnews
    have hst := run_storeCells_at P g (off + l.length) 3 [Value.int .i64 f] 0 cur w hg (by simp; omega) (fun u hu => by simp at hu; subst hu; rfl)
    simp only [Nat.add_zero] at hst
    refine ⟨g, off, c, w.setRow g (cur.toList.take (off + l.length) ++ [Value.int .i64 f] ++ cur.toList.drop (off + l.length + 1)).toArray, ?_, ⟨h1, by simp; omega, h3, _, setRow_heap w g cur _ 3 _ hg, ?_, ?_⟩, ⟨rfl, rfl, rfl, by simp, fun k _ hk => setRow_other w g k _ (fun e => hk (by simp [e]))⟩⟩
    · rw [hsize] at hf
      simp [Builtin.append_, run_underlying ht, sizeOf, typeInfo, hi, hsize, Builtin.lenOf, hroom, hf, Addr.add_lit, hst]
    · simp only [List.size_toArray, List.length_append, List.length_take, List.length_drop, Array.length_toList, List.length_singleton]
      omega
    · intro j q hj
      have hsz : cur.toList.length = cur.size := Array.length_toList
      have hcl : (cur.toList.take (off + l.length)).length = off + l.length := by rw [List.length_take, hsz]; omega
      rw [List.getElem?_toArray]
      rcases Nat.lt_or_ge j l.length with hjl | hjl
      · rw [List.getElem?_append_left hjl] at hj
        rw [List.append_assoc, List.getElem?_append_left (by rw [hcl]; omega), List.getElem?_take, if_pos (by omega), Array.getElem?_toList]
        exact h5 j q hj
      · rw [List.getElem?_append_right hjl] at hj
        have hj0 : j = l.length := by
          rcases Nat.eq_or_lt_of_le hjl with e | e
          · exact e.symm
          · rw [List.getElem?_eq_none (by simp; omega)] at hj; cases hj
        subst hj0
        rw [Nat.sub_self] at hj
        cases hj
        rw [List.append_assoc, List.getElem?_append_right (by rw [hcl]; omega), hcl, Nat.sub_self]
        rfl
  · have holds : ∀ j u, (l.map fun f => Value.int .i64 f)[j]? = some u → w.cell? ((⟨g, off, none⟩ : Addr).add j) = some u := by
      intro j u hj
      rw [List.getElem?_map] at hj
      cases hlj : l[j]? with
      | none => rw [hlj] at hj; cases hj
      | some q =>
        rw [hlj] at hj
        cases hj
        rw [Addr.add_lit]
        simp [World.cell?, hg, h5 j q hlj]
    have hr := run_append_grow (P := P) w t ty 3 i (.int .i64 0) ht hi hz ⟨g, off, none⟩ l.length c (l.map fun f => Value.int .i64 f) (by rw [hsize]; simp) holds a 1 k [.int .i64 f] (by rw [hsize]; rfl) hnews (by omega) (by omega) (growslice_fits (by omega) (by rw [hby]; exact hbytes))
    have hge := grownCap_ge w (l.length + 1) c 3
    have hcm : grownCap w (l.length + 1) c 3 ≤ maxLen := grownCap_le_maxLen w (l.length + 1) c 3 (by unfold maxLen; omega)
    refine ⟨_, _, _, _, hr, ⟨by simpa using hB, by simp; omega, hcm, _, heap_alloc_new w.drew _, ?_, ?_⟩, ⟨rfl, rfl, rfl, by simp, fun k hk _ => Below.heap_alloc w.drew _ k hk⟩⟩
    · simp only [Array.size_append, List.size_toArray, List.length_map, List.length_singleton, size_zeroCells]
      show 0 + _ ≤ _ + _ * (Value.cells (.int .i64 0)).size
      rw [show (Value.cells (.int .i64 0)).size = 1 from rfl]
      omega
    · intro j q hj
      rw [Nat.zero_add]
      have hjl : j < l.length + 1 := by
        have := (List.getElem?_eq_some_iff.1 hj).1
        simpa using this
      rw [Array.getElem?_append_left (by simp; omega)]
      have e : ((l.map fun f => Value.int .i64 f).toArray ++ [Value.int .i64 f].toArray) = ((l ++ [f]).map fun f => Value.int .i64 f).toArray := by simp
      rw [e, List.getElem?_toArray, List.getElem?_map, hj]
      rfl
theorem wpList_append_que {ops : Array Oper} {rest : List Oper} {o : Oper} {a : Act} {Q : Exit → Act → World → Prop} (hgd : o.guard = none) (s x : Operand) (t : TypeId)
    (ho : o.op = .call { callee := .builtin .append, args := #[s, x], argTypes := #[t, t] })
    (B : Nat) (i : TypeInfo) (ht : P.underlying t = some (.slice 3)) (hi : P.info? 3 = some i) (hz : i.zero = some (.int .i64 0)) (hsize : i.size = 1) (hby : i.bytes = 8)
    (g off c n : Nat) (l : List Int) (hn : n = l.length) (hs : a.eval s = .slice (some ⟨g, off, none⟩) n c) (hq : Que w B g off c l) (ad : Addr) (k : Nat) (f : Int) (hx : a.eval x = .slice (some ad) 1 k) (hnews : ∀ j u, [Value.int .i64 f][j]? = some u → w.cell? (ad.add j) = some u)
    (hbytes : (l.length + 1) * 8 ≤ 140737488355328) (hB : B ≤ w.heap.size)
    (h : ∀ g' off' c' w', Que w' B g' off' c' (l ++ [f]) → w.grownBy w' (some g) → wpList P ops Q rest (a.put o.dst (.slice (some ⟨g', off', none⟩) (n + 1) c')) w') : wpList P ops Q (o :: rest) a w := by
  subst hn
  refine wpList_plain hgd fun K hK => ?_
  obtain ⟨g', off', c', w', hr, h2, h3⟩ := run_append_que (P := P) w B t o.type i ht hi hz hsize hby g off c l hq ad k f hnews hbytes hB
  unfold Oper.wp execOp
  simp only [ho, resolve, invoke, builtin, Sem.run_bind, Sem.run_pure, Result.andThen_ok, List.map_toArray, List.map_cons, List.map_nil, hs, hx, hr]
  exact hK _ _ (h g' off' c' w' h2 h3)
end

/-- which were had -/
def hadF (H : List Int) : Int → Option Value := fun q => if q ∈ H then some (.bool true) else none
theorem hadF_add (H : List Int) (q : Int) : updF (hadF H) q (.bool true) = hadF (H ++ [q]) := by
  funext k
  unfold updF hadF
  by_cases h : k = q
  · subst h; simp
  · simp [h]
theorem hadF_ask (H : List Int) (q : Int) : (hadF H q).getD (.bool false) = .bool (decide (q ∈ H)) := by
  unfold hadF
  by_cases h : q ∈ H <;> simp [h]
end Go.Proofs.Ytlegjdlmcphhlab
