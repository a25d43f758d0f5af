/- TEXTS LAID TOGETHER: Laws, Del, Leave, Ins, Put, Readb, Same, Walk, Ref, Rises -/
import Derived.Test.YtjpdoblmdchmkaePart1
import Derived.Lib.AppendZerosOnto
import Derived.Lib.Overlaps
import Derived.Deep.RegionLaw
import Derived.Deep.RegionWith
/-
  LAWS OF NO PROGRAM: clear and copy on rows whose elements have several cells.
-/
namespace Go.Proofs.Ytjpdoblmdchmkae
open Go.RowKit

section
variable {P : Program} {k : Nat}
theorem zero_one {zc : Array Value} (h : ∀ u ∈ zc.toList, u.oneCell' = true) (hs : 0 < zc.size) (m : Nat) : ∀ u ∈ (Builtin.zeroCells zc m).toList, u.oneCell' = true := by
  intro u hu
  simp [Builtin.zeroCells] at hu
  obtain ⟨j, _, rfl⟩ := hu
  have hj : j % zc.size < zc.size := Nat.mod_lt _ hs
  rw [getElem!_pos zc (j % zc.size) hj]
  exact h _ (by simp)

theorem run_clear_row (w : World) (t ty e : TypeId) (i : TypeInfo) (z : Value) (ht : P.underlying t = some (.slice e)) (hi : P.info? e = some i) (hz : i.zero = some z) (hzs : z.cells.size = k) (k0 : 0 < k)
    (h1 : ∀ u ∈ z.cells.toList, u.oneCell' = true) (g off m c' : Nat) (hm : 0 < m) (cur : Array Value) (hg : w.heap[g]? = some (.cells cur e (0, 0))) (hfit : off + m * k ≤ cur.size) :
    (Builtin.clear_ #[t] ty #[.slice (some ⟨g, off, none⟩) m c']).run P w = .ok (.tuple #[]) (w.setRow g (cur.toList.take off ++ (Builtin.zeroCells z.cells m).toList ++ cur.toList.drop (off + m * k)).toArray) := by
  have hl : (Builtin.zeroCells z.cells m).toList.length = m * k := by rw [Array.length_toList, size_zeroCells, hzs]
  have hst := run_storeCells_at P g off e (Builtin.zeroCells z.cells m).toList 0 cur w hg (by rw [hl]; simpa using hfit) (zero_one h1 (by omega) m)
  rw [hl] at hst
  simp only [Nat.add_zero] at hst
  obtain ⟨m, rfl⟩ : ∃ m', m = m' + 1 := ⟨m - 1, by omega⟩
  simp [Builtin.clear_, run_underlying ht, zeroValue, typeInfo, hi, hz, hst]

theorem wpList_clear_own (w : World) {ops : Array Oper} {rest : List Oper} {o : Oper} {a : Act} {Q : Exit → Act → World → Prop} (hgd : o.guard = none) (x : Operand) (t : TypeId)
    (ho : o.op = .call { callee := .builtin .clear, args := #[x], argTypes := #[t] }) (B : Nat) (e : TypeId) (i : TypeInfo) (z : Value) (ht : P.underlying t = some (.slice e)) (hi : P.info? e = some i) (hz : i.zero = some z)
    (hzs : z.cells.size = k) (k0 : 0 < k) (h1 : ∀ u ∈ z.cells.toList, u.oneCell' = true) (g n c : Nat) (xs : List Value) (hown : w.ownsRow B e k (.slice (some ⟨g, 0, none⟩) n c) n xs)
    (off m c' q : Nat) (hx : a.eval x = .slice (some ⟨g, off, none⟩) m c') (hoff : off = q * k) (hm : 0 < m) (hq : q + m = n)
    (h : ∀ w', w'.ownsRow B e k (.slice (some ⟨g, 0, none⟩) q c) q (xs.take (q * k)) → w.grownBy w' (some g) → wpList P ops Q rest (a.put o.dst (.tuple #[])) w') : wpList P ops Q (o :: rest) a w := by
  rcases hown.2 with ⟨h', _⟩ | ⟨g', cap, cur, h', hb, hg, hnc, hcm, hcs, htake⟩
  · simp at h'
  · simp only [Value.slice.injEq, Option.some.injEq, Addr.mk.injEq, and_true, true_and] at h'
    obtain ⟨rfl, rfl⟩ := h'
    have hqm : q * k + m * k ≤ c * k := by rw [← Nat.add_mul]; exact Nat.mul_le_mul_right _ (by omega)
    have hr := run_clear_row (P := P) w t o.type e i z ht hi hz hzs k0 h1 g off m c' hm cur hg (by rw [hcs, hoff]; exact hqm)
    refine wpList_plain hgd fun K hK => ?_
    unfold Oper.wp
    simp [execOp, ho, resolve, invoke, builtin, hx, hr, Result.andThen]
    have hl : (Builtin.zeroCells z.cells m).toList.length = m * k := by rw [Array.length_toList, size_zeroCells, hzs]
    have hle : q * k ≤ cur.toList.length := by rw [Array.length_toList, hcs]; omega
    have hxs : xs.take (q * k) = cur.toList.take (q * k) := by
      rw [← htake, List.take_take]
      congr 1
      have : q * k ≤ n * k := Nat.mul_le_mul_right _ (by omega)
      omega
    refine hK _ _ (h _ ⟨?_, .inr ⟨g, c, _, rfl, hb, setRow_heap w g cur _ e _ hg, by omega, hcm, ?_, ?_⟩⟩ ⟨rfl, rfl, rfl, by simp, fun j _ hj => setRow_other w g j _ (fun e => hj (by simp [e]))⟩)
    · rw [List.length_take, hown.1]
      have : q * k ≤ n * k := Nat.mul_le_mul_right _ (by omega)
      omega
    · simp only [List.size_toArray, List.length_append, List.length_take, List.length_drop, hl, hoff, Array.length_toList]
      omega
    · rw [hxs, hoff]
      show List.take (q * k) (List.take (q * k) cur.toList ++ ((Builtin.zeroCells z.cells m).toList ++ List.drop (q * k + m * k) cur.toList)) = _
      rw [List.take_append_of_le_length (by rw [List.length_take]; omega), List.take_take, Nat.min_self]

/-- copy: as many elements as the shorter one has, into a row of one's own -/
theorem run_copy_k (w : World) (dT sT ty elem : TypeId) (g off dLen dCap : Nat) (ad : Addr) (sLen sCap : Nat) (cur : Array Value) (t : TypeId) (cs : List Value)
    (hu : P.underlying dT = some (.slice elem)) (hs : (P.info? elem).map (·.size) = some k) (hg : w.heap[g]? = some (.cells cur t (0, 0))) (hn : cs.length = Nat.min sLen dLen * k)
    (hsrc : ∀ j v, cs[j]? = some v → w.cell? (ad.add j) = some v) (hfit : off + cs.length ≤ cur.size) (h1 : ∀ v ∈ cs, v.oneCell' = true) :
    (Builtin.copy_ #[dT, sT] ty #[.slice (some ⟨g, off, none⟩) dLen dCap, .slice (some ad) sLen sCap]).run P w =
      .ok (goInt (Nat.min sLen dLen)) (w.setRow g (cur.toList.take off ++ cs ++ cur.toList.drop (off + cs.length)).toArray) := by
  have hl := run_loadCells_list (P := P) w ad cs hsrc
  have hst := run_storeCells_at P g off t cs 0 cur w hg (by simpa using hfit) h1
  cases hq : P.info? elem with
  | none => simp [hq] at hs
  | some i =>
    have hi : i.size = k := by simpa [hq] using hs
    simp [Builtin.copy_, run_underlying hu, Builtin.lenOf, Builtin.firstCells, sizeOf, typeInfo, hq, hi, ← hn, hl, hst]

/-- the same, in terms of what is owned -/
theorem run_copy_own {w : World} {B : Nat} {e : TypeId} {g n c : Nat} {L : List Value} (hown : w.ownsRow B e k (.slice (some ⟨g, 0, none⟩) n c) n L) (dT sT ty : TypeId) (hu : P.underlying dT = some (.slice e)) (hs : (P.info? e).map (·.size) = some k)
    (off q dLen dCap : Nat) (hoff : off = q * k) (hq : q + dLen ≤ n) (ad : Addr) (sLen sCap r : Nat) (hr : Nat.min sLen dLen = r) (news : List Value) (hn : news.length = r * k)
    (hsrc : ∀ j v, news[j]? = some v → w.cell? (ad.add j) = some v) (h1 : ∀ v ∈ news, v.oneCell' = true) :
    ∃ w', (Builtin.copy_ #[dT, sT] ty #[.slice (some ⟨g, off, none⟩) dLen dCap, .slice (some ad) sLen sCap]).run P w = .ok (goInt r) w' ∧ w'.ownsRow B e k (.slice (some ⟨g, 0, none⟩) n c) n (L.take off ++ (news ++ L.drop (off + news.length))) ∧ w.grownBy w' (some g) := by
  rcases hown.2 with ⟨h', _⟩ | ⟨g', cap, cur, h', hb, hg, hnc, hcm, hcs, htake⟩
  · simp at h'
  · simp only [Value.slice.injEq, Option.some.injEq, Addr.mk.injEq, and_true, true_and] at h'
    obtain ⟨rfl, rfl⟩ := h'
    have hrd : r ≤ dLen := by rw [← hr]; exact Nat.min_le_right _ _
    have hqr : q * k + r * k ≤ n * k := by rw [← Nat.add_mul]; exact Nat.mul_le_mul_right _ (by omega)
    have hnk : n * k ≤ c * k := Nat.mul_le_mul_right _ hnc
    have hrun := run_copy_k (P := P) (k := k) w dT sT ty e g off dLen dCap ad sLen sCap cur e news hu hs hg (by rw [hn, hr]) hsrc (by rw [hcs, hoff, hn]; omega) h1
    rw [hr] at hrun
    refine ⟨_, hrun, ⟨?_, .inr ⟨g, c, _, rfl, hb, setRow_heap w g cur _ e _ hg, hnc, hcm, ?_, ?_⟩⟩, ⟨rfl, rfl, rfl, by simp, fun j _ hj => setRow_other w g j _ (fun e => hj (by simp [e]))⟩⟩
    · simp only [List.length_append, List.length_take, List.length_drop, hown.1, hn, hoff]
      omega
    · simp only [List.size_toArray, List.length_append, List.length_take, List.length_drop, hn, hoff, Array.length_toList, hcs]
      omega
    · show List.take (n * k) (List.take off cur.toList ++ news ++ List.drop (off + news.length) cur.toList) = _
      rw [← htake]
      have hl1 : (List.take off cur.toList ++ news).length = off + news.length := by
        rw [List.length_append, List.length_take, Array.length_toList, hcs, hoff]; omega
      have e1 : n * k = (List.take off cur.toList ++ news).length + (n * k - (off + news.length)) := by rw [hl1, hoff, hn]; omega
      rw [List.take_take, List.drop_take]
      have e2 : min off (n * k) = off := by rw [hoff]; omega
      rw [e2]
      conv => lhs; rw [e1]
      rw [List.take_length_add_append, List.append_assoc]

theorem wpList_copy_cells {w : World} {ops : Array Oper} {rest : List Oper} {o : Oper} {a : Act} {Q : Exit → Act → World → Prop} (hgd : o.guard = none) (d s : Operand) (dT : TypeId)
    (ho : o.op = .call { callee := .builtin .copy, args := #[d, s], argTypes := #[dT, dT] }) {B : Nat} {e : TypeId} {g n c : Nat} {L : List Value} (hown : w.ownsRow B e k (.slice (some ⟨g, 0, none⟩) n c) n L) (hu : P.underlying dT = some (.slice e)) (hs : (P.info? e).map (·.size) = some k)
    (off q dLen dCap : Nat) (hd : a.eval d = .slice (some ⟨g, off, none⟩) dLen dCap) (hoff : off = q * k) (hq : q + dLen ≤ n) (ad : Addr) (sLen sCap r : Nat) (hx : a.eval s = .slice (some ad) sLen sCap) (hr : Nat.min sLen dLen = r) (news : List Value) (hn : news.length = r * k)
    (hsrc : ∀ j v, news[j]? = some v → w.cell? (ad.add j) = some v) (h1 : ∀ v ∈ news, v.oneCell' = true)
    (h : ∀ w', w'.ownsRow B e k (.slice (some ⟨g, 0, none⟩) n c) n (L.take off ++ (news ++ L.drop (off + news.length))) → w.grownBy w' (some g) → wpList P ops Q rest (a.put o.dst (goInt r)) w') : wpList P ops Q (o :: rest) a w := by
  obtain ⟨w', hrun, h2, h3⟩ := run_copy_own (P := P) hown dT dT o.type hu hs off q dLen dCap hoff hq ad sLen sCap r hr news hn hsrc h1
  refine wpList_plain hgd fun K hK => ?_
  unfold Oper.wp
  simp [execOp, ho, resolve, invoke, builtin, hd, hx, hrun, Result.andThen]
  exact hK _ _ (h w' h2 h3)
theorem step_copy_cells {w : World} {ops : Array Oper} {o : Oper} {a : Act} {K : Act → World → Prop} {Q : Exit → Act → World → Prop} {E : Prop} (hgd : o.guard = none) (d s : Operand) (dT : TypeId)
    (ho : o.op = .call { callee := .builtin .copy, args := #[d, s], argTypes := #[dT, dT] }) {B : Nat} {e : TypeId} {g n c : Nat} {L : List Value} (hown : w.ownsRow B e k (.slice (some ⟨g, 0, none⟩) n c) n L) (hu : P.underlying dT = some (.slice e)) (hs : (P.info? e).map (·.size) = some k)
    (off q dLen dCap : Nat) (hd : a.eval d = .slice (some ⟨g, off, none⟩) dLen dCap) (hoff : off = q * k) (hq : q + dLen ≤ n) (ad : Addr) (sLen sCap r : Nat) (hx : a.eval s = .slice (some ad) sLen sCap) (hr : Nat.min sLen dLen = r) (news : List Value) (hn : news.length = r * k)
    (hsrc : ∀ j v, news[j]? = some v → w.cell? (ad.add j) = some v) (h1 : ∀ v ∈ news, v.oneCell' = true)
    (h : ∀ w', w'.ownsRow B e k (.slice (some ⟨g, 0, none⟩) n c) n (L.take off ++ (news ++ L.drop (off + news.length))) → w.grownBy w' (some g) → K (a.put o.dst (goInt r)) w') :
    if Region.wanted o (yielded ops a.tmps) = true then Oper.wp P o a w K Q else E := by
  have hw : Region.wanted o (yielded ops a.tmps) = true := by simp [Region.wanted, hgd]
  rw [if_pos hw]
  obtain ⟨w', hrun, h2, h3⟩ := run_copy_own (P := P) hown dT dT o.type hu hs off q dLen dCap hoff hq ad sLen sCap r hr news hn hsrc h1
  unfold Oper.wp
  simp [execOp, ho, resolve, invoke, builtin, hd, hx, hrun, Result.andThen]
  exact h w' h2 h3

/-- append(s[:i], make(S, m)...), where that does not fit: a row of one's own -/
theorem wpList_append_zeros {w : World} {ops : Array Oper} {rest : List Oper} {o : Oper} {a : Act} {Q : Exit → Act → World → Prop} (hgd : o.guard = none) (s x : Operand) (t tn : TypeId)
    (ho : o.op = .call { callee := .builtin .append, args := #[s, x], argTypes := #[t, tn] }) {B : Nat} {e : TypeId} {g n c : Nat} {L : List Value} (hown : w.ownsRow B e k (.slice (some ⟨g, 0, none⟩) n c) n L) (i0 : TypeInfo) (z : Value) (bytes : Nat)
    (ht : P.underlying t = some (.slice e)) (htn : P.underlying tn = some (.int .i64)) (hi : P.info? e = some i0) (hz : i0.zero = some z) (hsize : i0.size = k) (hby : i0.bytes = bytes) (hzs : z.cells.size = k) (k0 : 0 < k)
    (i m : Nat) (Z : Int) (hs : a.eval s = .slice (some ⟨g, 0, none⟩) i c) (hx : a.eval x = .int .i64 Z) (hZ : Z = (m : Int)) (hin : i ≤ n) (hm : 0 < m) (hc : c < i + m) (hbytes : (i + m) * bytes ≤ 140737488355328) (h63 : i + m ≤ maxLen) (hbase : B ≤ w.heap.size)
    (h : ∀ c' w', w'.ownsRow B e k (.slice (some ⟨w.heap.size, 0, none⟩) (i + m) c') (i + m) (L.take (i * k) ++ (Builtin.zeroCells z.cells m).toList) → w.grownBy w' none → i + m ≤ c' → c' ≤ maxLen → wpList P ops Q rest (a.put o.dst (.slice (some ⟨w.heap.size, 0, none⟩) (i + m) c')) w') : wpList P ops Q (o :: rest) a w := by
  have hik : i * k ≤ n * k := Nat.mul_le_mul_right _ hin
  have hLl : (L.take (i * k)).length = i * k := by rw [List.length_take, hown.1]; omega
  have hold : (Builtin.firstCells i0.size i (.slice (some ⟨g, 0, none⟩) i c)).run P w.drew = .ok (L.take (i * k)).toArray w.drew := by
    rw [hsize]
    exact run_firstCells_some w.drew k i ⟨g, 0, none⟩ i c (L.take (i * k)) hLl (fun j v hj => by
      rw [List.getElem?_take] at hj
      split at hj
      · exact hown.cells (g := g) rfl j v hj
      · cases hj)
  have hmb : m * bytes ≤ 140737488355328 := Nat.le_trans (Nat.mul_le_mul_right _ (by omega)) hbytes
  have hr := Lib.run_append_grow_zeros w t tn o.type e i0 z .i64 .i64 ht htn hi hz (some ⟨g, 0, none⟩) i c (L.take (i * k)) hold m hm (by omega) hc (by unfold maxLen at h63; omega) (by rw [hby]; omega) (by rw [hby]; exact growslice_fits hc hbytes)
  subst hZ
  refine Lib.wpList_append_run w hgd s x t tn ho _ _ hs hx _ _ hr ?_
  refine h _ _ ⟨?_, .inr ⟨w.heap.size, _, _, rfl, hbase, heap_alloc_new w.drew _, grownCap_ge w (i + m) c e, grownCap_le_maxLen w (i + m) c e h63, ?_, ?_⟩⟩ ⟨rfl, rfl, rfl, by simp, fun j hj _ => Below.heap_alloc w.drew _ j hj⟩ (grownCap_ge w (i + m) c e) (grownCap_le_maxLen w (i + m) c e h63)
  · rw [List.length_append, hLl, Array.length_toList, size_zeroCells, hzs, Nat.add_mul]
  · simp only [Array.size_append, List.size_toArray, size_zeroCells, hzs, hLl, ← Nat.add_mul]
    have := grownCap_ge w (i + m) c e
    congr 1
    omega
  · simp only [Array.toList_append]
    have e1 : (i + m) * k = (L.take (i * k) ++ (Builtin.zeroCells z.cells m).toList).length := by rw [List.length_append, hLl, Array.length_toList, size_zeroCells, hzs, Nat.add_mul]
    rw [e1]
    exact List.take_left
/-- s[:n+1], where there is room -/
theorem own_reslice {w : World} {B : Nat} {e : TypeId} {g n c : Nat} {L : List Value} (hown : w.ownsRow B e k (.slice (some ⟨g, 0, none⟩) n c) n L) (hc : n + 1 ≤ c) : ∃ J : List Value, J.length = k ∧ w.ownsRow B e k (.slice (some ⟨g, 0, none⟩) (n + 1) c) (n + 1) (L ++ J) := by
  rcases hown.2 with ⟨h', _⟩ | ⟨g', cap, cur, h', hb, hg, hnc, hcm, hcs, htake⟩
  · simp at h'
  · simp only [Value.slice.injEq, Option.some.injEq, Addr.mk.injEq, and_true, true_and] at h'
    obtain ⟨rfl, rfl⟩ := h'
    have hck : (n + 1) * k ≤ c * k := Nat.mul_le_mul_right _ hc
    have hnk : (n + 1) * k = n * k + k := by rw [Nat.add_mul]; omega
    refine ⟨(cur.toList.drop (n * k)).take k, ?_, ?_, .inr ⟨g, c, cur, rfl, hb, hg, hc, hcm, hcs, ?_⟩⟩
    · rw [List.length_take, List.length_drop, Array.length_toList, hcs]; omega
    · rw [List.length_append, hown.1, List.length_take, List.length_drop, Array.length_toList, hcs]; omega
    · rw [← htake, hnk, List.take_add]
theorem row_sub {α : Type} {cs : α → List Value} {w : World} {b o n : Nat} {vs : List α} (h : Row k cs w (some ⟨b, o, none⟩) n vs) (i : Nat) : Row k cs w (some ⟨b, o + i * k, none⟩) (n - i) (vs.drop i) := by
  refine ⟨by rw [List.length_drop, h.1], ?_⟩
  rcases h.2 with h' | ⟨b', o', e, hlt, hc⟩
  · subst h'; exact .inl (by simp)
  · cases e
    refine .inr ⟨b, o + i * k, rfl, hlt, fun j v hv t u hu => ?_⟩
    rw [List.getElem?_drop] at hv
    have := hc (i + j) v hv t u hu
    rw [Nat.add_mul] at this
    rw [← this]
    congr 2
    omega
end
end Go.Proofs.Ytjpdoblmdchmkae
/-
  DeleteFunc, and what it calls: on a row of one's own, in place: Drop, Leave.
-/
namespace Go.Proofs.Ytjpdoblmdchmkae
open Go.RowKit

/-- where the first one is, of which p holds; else -1 -/
def IdxIs {α : Type} (p : α → Bool) (xs : List α) (r : Int) : Prop := (r = -1 ∧ ∀ x ∈ xs, p x = false) ∨ ∃ i : Nat, r = i ∧ i < xs.length ∧ (∀ k x, k < i → xs[k]? = some x → p x = false) ∧ ∀ x, xs[i]? = some x → p x = true
theorem idx_end {α : Type} {p : α → Bool} {xs : List α} {k : Nat} (hk : xs.length ≤ k) (h : ∀ j x, j < k → xs[j]? = some x → p x = false) : IdxIs p xs (-1) := by
  refine .inl ⟨rfl, fun x hx => ?_⟩
  obtain ⟨j, hj⟩ := List.getElem?_of_mem hx
  have : j < xs.length := by
    rcases Nat.lt_or_ge j xs.length with h1 | h1
    · exact h1
    · rw [List.getElem?_eq_none h1] at hj; cases hj
  exact h j x (by omega) hj

theorem own_some {w : World} {B : Nat} {e : TypeId} {k : Nat} {A : Option Addr} {n c : Nat} {xs : List Value} (h : w.ownsRow B e k (.slice A n c) n xs) (hn : 0 < n) : ∃ g, A = some ⟨g, 0, none⟩ ∧ B ≤ g ∧ g < w.heap.size := by
  rcases h.2 with ⟨_, h0⟩ | ⟨g, cap, cur, h', hb, hg, _⟩
  · omega
  · simp only [Value.slice.injEq, true_and] at h'
    exact ⟨g, h'.1, hb, lt_of_block hg⟩
theorem below_grown {w w' : World} (h : Below w.heap.size w w') (row : Option Nat) : w.grownBy w' row := ⟨h.os, h.tape, h.output, h.size, fun k hk _ => h.block k hk⟩
section
variable {α : Type} {cs : α → List Value} {k : Nat}
theorem fm_take (hk : ∀ v, (cs v).length = k) : ∀ (vs : List α) (i : Nat), (vs.flatMap cs).take (i * k) = (vs.take i).flatMap cs
  | [], i => by simp
  | v :: vs, 0 => by simp
  | v :: vs, i + 1 => by
    rw [List.take_succ_cons, List.flatMap_cons, List.flatMap_cons, ← fm_take hk vs i]
    have e1 : (i + 1) * k = (cs v).length + i * k := by rw [hk, Nat.add_mul]; omega
    rw [e1, List.take_length_add_append]
theorem fm_drop (hk : ∀ v, (cs v).length = k) : ∀ (vs : List α) (i : Nat), (vs.flatMap cs).drop (i * k) = (vs.drop i).flatMap cs
  | [], i => by simp
  | v :: vs, 0 => by simp
  | v :: vs, i + 1 => by
    rw [List.drop_succ_cons, List.flatMap_cons, ← fm_drop hk vs i]
    have e1 : (i + 1) * k = (cs v).length + i * k := by rw [hk, Nat.add_mul]; omega
    rw [e1, List.drop_length_add_append]

/-- what DeleteFunc has done so far: i are kept, of j that were looked at -/
def Del (cs : α → List Value) (k : Nat) (e : TypeId) (p : α → Bool) (w : World) (B g n c : Nat) (xs : List α) (i j : Nat) (wr : World) : Prop :=
  ∃ us : List α, us.length = n ∧ wr.ownsRow B e k (.slice (some ⟨g, 0, none⟩) n c) n (us.flatMap cs) ∧ us.take i = (xs.take j).filter (fun x => !p x) ∧ us.drop j = xs.drop j ∧ i < j ∧ j ≤ n ∧ w.grownBy wr (some g)
theorem del_start {e : TypeId} {p : α → Bool} {w w1 : World} {B g n c : Nat} {xs : List α} {i : Nat} (hn : n = xs.length) (ho : w.ownsRow B e k (.slice (some ⟨g, 0, none⟩) n c) n (xs.flatMap cs)) (hb : Below w.heap.size w w1)
    (hi : i < xs.length) (h1 : ∀ k x, k < i → xs[k]? = some x → p x = false) (h2 : ∀ x, xs[i]? = some x → p x = true) : Del cs k e p w B g n c xs i (i + 1) w1 := by
  refine ⟨xs, hn.symm, own_below ho hb (Nat.le_refl _), ?_, rfl, by omega, by omega, below_grown hb _⟩
  rw [take_step (List.getElem?_eq_getElem hi), List.filter_append]
  have e2 : [xs[i]].filter (fun x => !p x) = [] := by simp [h2 _ (List.getElem?_eq_getElem hi)]
  rw [e2, List.append_nil]
  symm
  rw [List.filter_eq_self]
  intro x hx
  obtain ⟨j, hj⟩ := List.getElem?_of_mem hx
  rw [List.getElem?_take] at hj
  split at hj
  · simp [h1 j x ‹_› hj]
  · cases hj
theorem del_at {xs : List α} {j : Nat} {us : List α} {x : α} (hl : us.drop j = xs.drop j) (hx : us[j]? = some x) : xs[j]? = some x := by
  have := congrArg (fun l => l[0]?) hl
  simp only [List.getElem?_drop, Nat.add_zero] at this
  rw [← this]; exact hx
theorem del_drop {e : TypeId} {p : α → Bool} {w wr w1 : World} {B g n c : Nat} {xs : List α} {i j : Nat} (h : Del cs k e p w B g n c xs i j wr) (hj : j < n) (hb : Below wr.heap.size wr w1) {x : α} (hx : xs[j]? = some x) (hp : p x = true) :
    Del cs k e p w B g n c xs i (j + 1) w1 := by
  obtain ⟨us, h1, h2, h3, h4, h5, h6, h7⟩ := h
  refine ⟨us, h1, own_below h2 hb (Nat.le_refl _), ?_, ?_, by omega, hj, grown_trans h7 (below_grown hb _)⟩
  · rw [take_step hx, List.filter_append, h3]; simp [hp]
  · rw [← List.drop_drop, ← List.drop_drop, h4]
theorem del_keep {e : TypeId} {p : α → Bool} {w wr w1 w2 : World} {B g n c : Nat} {xs : List α} {i j : Nat} {us : List α} {x : α} (h1 : us.length = n) (h3 : us.take i = (xs.take j).filter (fun x => !p x)) (h4 : us.drop j = xs.drop j) (h5 : i < j) (hj : j < n)
    (h7 : w.grownBy wr (some g)) (hb : Below wr.heap.size wr w1) (hx : xs[j]? = some x) (hp : p x = false) (ho : w2.ownsRow B e k (.slice (some ⟨g, 0, none⟩) n c) n ((us.set i x).flatMap cs)) (hg : w1.grownBy w2 (some g)) :
    Del cs k e p w B g n c xs (i + 1) (j + 1) w2 := by
  refine ⟨us.set i x, by rw [List.length_set]; exact h1, ho, ?_, ?_, by omega, hj, grown_trans (grown_trans h7 (below_grown hb _)) hg⟩
  · rw [take_step hx, List.filter_append, ← h3]
    have e1 : [x].filter (fun x => !p x) = [x] := by simp [hp]
    rw [e1, List.take_add_one, List.take_set_of_le (by omega), List.getElem?_set_self (by omega)]
    rfl
  · rw [List.drop_set_of_lt (by omega), ← List.drop_drop, ← List.drop_drop, h4]
theorem del_end {p : α → Bool} {n : Nat} {xs us : List α} {i : Nat} (hn : n = xs.length) (h3 : us.take i = (xs.take n).filter (fun x => !p x)) : us.take i = xs.filter (fun x => !p x) := by
  rw [h3, hn, List.take_length]
end

/-- an entry is stored -/
abbrev put2 (w : World) (s o : Nat) (v : ByteArray × Int) : World := (w.setCell ⟨s, o, none⟩ (.string v.1)).setCell ⟨s, o + 1, none⟩ (.int .i64 v.2)
theorem set2 (L : List Value) (o : Nat) (a b : Value) (h : o + 2 ≤ L.length) : (L.set o a).set (o + 1) b = L.take o ++ ([a, b] ++ L.drop (o + 2)) := by
  apply List.ext_getElem?
  intro j
  by_cases h1 : j < o
  · rw [List.getElem?_append_left (by simp; omega), List.getElem?_take, if_pos h1, List.getElem?_set_ne (by omega), List.getElem?_set_ne (by omega)]
  · rw [List.getElem?_append_right (by simp; omega)]
    have e1 : (L.take o).length = o := by simp; omega
    rw [e1]
    by_cases h2 : j < o + 2
    · rw [List.getElem?_append_left (by simp; omega)]
      obtain ⟨i, rfl⟩ : ∃ i, j = o + i := ⟨j - o, by omega⟩
      have hi : i = 0 ∨ i = 1 := by omega
      have e2 : o + i - o = i := by omega
      rw [e2]
      rcases hi with rfl | rfl <;> simp [List.getElem?_set] <;> omega
    · rw [List.getElem?_append_right (by simp; omega), List.getElem?_drop, List.getElem?_set_ne (by omega), List.getElem?_set_ne (by omega)]
      congr 1
      simp; omega
theorem own_put2 {w : World} {B g n c : Nat} {us : List (ByteArray × Int)} (h : w.ownsRow B 49 2 (.slice (some ⟨g, 0, none⟩) n c) n (us.flatMap entCells)) (j : Nat) (hj : j < n) (v : ByteArray × Int) :
    (put2 w g (j * 2) v).ownsRow B 49 2 (.slice (some ⟨g, 0, none⟩) n c) n ((us.set j v).flatMap entCells) ∧ w.grownBy (put2 w g (j * 2) v) (some g) := by
  have hl := own_len ent_len (by decide) h
  have s0 := h.stored (j * 2) (.string v.1)
  have s1 := s0.1.stored (j * 2 + 1) (.int .i64 v.2)
  refine ⟨?_, grown_trans s0.2 s1.2⟩
  rw [fm_set ent_len us j v (by omega)]
  have := s1.1
  rw [set2 _ _ _ _ (by rw [fm_len ent_len]; omega)] at this
  exact this

theorem zc58 : (Value.cells (.agg #[.string ByteArray.empty, .int .i64 0])).size = 2 := rfl
theorem zc26 : (Value.cells (.agg #[.int .i64 0, .bool false, .slice none 0 0, .slice none 0 0, .int .i64 0])).size = 5 := rfl
theorem zo58 : ∀ u ∈ (Value.cells (.agg #[.string ByteArray.empty, .int .i64 0])).toList, u.oneCell' = true := by
  intro u hu; simp [Value.cells] at hu; rcases hu with rfl | rfl <;> rfl
theorem zo26 : ∀ u ∈ (Value.cells (.agg #[.int .i64 0, .bool false, .slice none 0 0, .slice none 0 0, .int .i64 0])).toList, u.oneCell' = true := by
  intro u hu; simp [Value.cells] at hu; rcases hu with rfl | rfl | rfl | rfl | rfl <;> rfl
/-- an entry in a block of its own -/
def Box2 (w : World) (s : Nat) (v : ByteArray × Int) : Prop := w.heap[s]? = some (.cells #[.string v.1, .int .i64 v.2] 49 (0, 0))
theorem Box2.facts {w : World} {s : Nat} {v : ByteArray × Int} (h : Box2 w s v) : w.cell? ⟨s, 0, none⟩ = some (.string v.1) ∧ w.cell? ⟨s, 1, none⟩ = some (.int .i64 v.2) ∧ (∀ o, w.frozen? ⟨s, o, none⟩ = false) ∧ s < w.heap.size := by
  unfold Box2 at h
  refine ⟨by simp [World.cell?, h], by simp [World.cell?, h], fun o => by simp [World.frozen?, h], lt_of_block h⟩
theorem Box2.below {w w' : World} {s B : Nat} {v : ByteArray × Int} (h : Box2 w s v) (hb : Below B w w') (hs : s < B) : Box2 w' s v := by
  unfold Box2; rw [hb.block s hs]; exact h
theorem Box2.new (w : World) (v : ByteArray × Int) : Box2 (w.alloc (.cells #[.string v.1, .int .i64 v.2] 49)) w.heap.size v := heap_alloc_new w _
abbrev Box5 := Box
theorem Box5.new (w : World) (v : NV) : Box5 (w.alloc (.cells #[.int .i64 v.fid, .bool v.dir, .slice v.dA v.dn v.dc, .slice v.eA v.en v.ec, .int .i64 v.ver] 34)) w.heap.size v := heap_alloc_new w _

end Go.Proofs.Ytjpdoblmdchmkae
/-
  Leave and Drop.
-/
namespace Go.Proofs.Ytjpdoblmdchmkae
open Go.RowKit

theorem Box.grown {w w' : World} {s : Nat} {v : NV} {row : Option Nat} (h : Box w s v) (hg : w.grownBy w' row) (hr : some s ≠ row) : Box w' s v := by
  unfold Box; rw [hg.block s (lt_of_block h) hr]; exact h
theorem own_ge {w : World} {B : Nat} {e : TypeId} {k : Nat} {v : Value} {n : Nat} {xs : List Value} (h : w.ownsRow B e k v n xs) {s : Nat} (hs : s < B) : v.ownBlock ≠ some s := by
  intro e
  have := (h.lt s e).1
  omega
theorem grown_below2 {w w' : World} {row : Option Nat} {B : Nat} {w0 : World} (h : Below B w0 w) (hg : w.grownBy w' row) (hB : B ≤ w.heap.size) (hr : ∀ k, row = some k → B ≤ k) : Below B w0 w' := Below.grown h hg hB hr

theorem new_one (w : World) (v : Value) (t : TypeId) : (w.alloc (.cells #[v] t)).cell? ⟨w.heap.size, 0, none⟩ = some v := cell_of_one (heap_alloc_new w _)
theorem alloc_cell {w : World} {a : Addr} {v : Value} (h : w.cell? a = some v) (o : Obj) : (w.alloc o).cell? a = some v := by
  rw [World.cell?_of_block (w := w) (Below.heap_alloc w o _ (World.block_lt_of_cell? w _ h))]; exact h
theorem put5_cell {w : World} {a : Addr} {s : Nat} (h : a.block ≠ s) (o : Nat) (v : NV) : (put5 w s o v).cell? a = w.cell? a := by
  unfold put5
  rw [World.cell?_of_block (Below.heap_setCell _ _ _ _ h), World.cell?_of_block (Below.heap_setCell _ _ _ _ h), World.cell?_of_block (Below.heap_setCell _ _ _ _ h), World.cell?_of_block (Below.heap_setCell _ _ _ _ h), World.cell?_of_block (Below.heap_setCell _ _ _ _ h)]

/-- what is kept of two lists, pair by pair -/
theorem All2.filter {α β : Type} {R : α → β → Prop} (p : α → Bool) (q : β → Bool) : ∀ {vs : List α} {xs : List β}, All2 R vs xs → (∀ v x, R v x → p v = q x) → All2 R (vs.filter p) (xs.filter q)
  | [], [], h, _ => h
  | [], _ :: _, h, _ => by have := h.1; simp at this
  | _ :: _, [], h, _ => by have := h.1; simp at this
  | v :: vs, x :: xs, h, hpq => by
    have h0 : R v x := h.2 0 v x rfl rfl
    have ht : All2 R vs xs := ⟨by simpa using h.1, fun j a b ha hb => h.2 (j + 1) a b ha hb⟩
    have ih := All2.filter p q ht hpq
    rw [List.filter_cons, List.filter_cons, hpq v x h0]
    split
    · exact All2.cons h0 ih
    · exact ih

end Go.Proofs.Ytjpdoblmdchmkae
/-
  slices.Insert of one element, on a row of one's own.
-/
namespace Go.Proofs.Ytjpdoblmdchmkae
open Go.RowKit

theorem grown_any {w w' : World} {row : Option Nat} (h : w.grownBy w' none) : w.grownBy w' row := ⟨h.os, h.tape, h.output, h.size, fun k hk _ => h.block k hk (by simp)⟩
theorem grown_new {w w1 w2 : World} {row : Option Nat} {s : Nat} (h : w.grownBy w1 row) (h2 : w1.grownBy w2 (some s)) (hs : w.heap.size ≤ s) : w.grownBy w2 row :=
  ⟨h2.os.trans h.os, h2.tape.trans h.tape, h2.output.trans h.output, Nat.le_trans h.size h2.size, fun k hk hr => (h2.block k (Nat.lt_of_lt_of_le hk h.size) (by simp only [ne_eq, Option.some.injEq]; omega)).trans (h.block k hk hr)⟩
theorem Box2.grownO {w w' : World} {s : Nat} {v : ByteArray × Int} {row : Option Nat} (h : Box2 w s v) (hg : w.grownBy w' row) (hr : some s ≠ row) : Box2 w' s v := by
  unfold Box2; rw [hg.block s (lt_of_block h) hr]; exact h
theorem Box5.grownO {w w' : World} {s : Nat} {v : NV} {row : Option Nat} (h : Box5 w s v) (hg : w.grownBy w' row) (hr : some s ≠ row) : Box5 w' s v := Box.grown h hg hr
theorem ins_grow (k i n : Nat) (X Z y D : List Value) (hX : X.length = n * k) (hZ : Z.length = (n + 1 - i) * k) (hy : y.length = k) (hD : D.length = (n - i) * k) (hin : i < n) :
    ((X.take (i * k) ++ Z).take (i * k) ++ (y ++ (X.take (i * k) ++ Z).drop (i * k + y.length))).take ((i + 1) * k) ++ (D ++ ((X.take (i * k) ++ Z).take (i * k) ++ (y ++ (X.take (i * k) ++ Z).drop (i * k + y.length))).drop ((i + 1) * k + D.length)) = X.take (i * k) ++ (y ++ D) := by
  have h1 : i * k ≤ n * k := Nat.mul_le_mul_right _ (by omega)
  have hP : (X.take (i * k)).length = i * k := by rw [List.length_take, hX]; omega
  have e1 : (X.take (i * k) ++ Z).take (i * k) = X.take (i * k) := by conv => lhs; arg 1; rw [← hP]
                                                                      rw [List.take_left]
  have e2 : (i + 1) * k = (X.take (i * k) ++ y).length := by rw [List.length_append, hP, hy, Nat.add_mul]; omega
  have e4 : ∀ R : List Value, (X.take (i * k) ++ (y ++ R)).take ((i + 1) * k) = X.take (i * k) ++ y := fun R => by rw [← List.append_assoc, e2, List.take_left]
  have e5 : ∀ (R : List Value) (d : Nat), (X.take (i * k) ++ (y ++ R)).drop ((i + 1) * k + d) = R.drop d := fun R d => by rw [← List.append_assoc, e2, List.drop_length_add_append]
  have e3 : ((X.take (i * k) ++ Z).drop (i * k + k)).drop D.length = [] := by
    rw [List.drop_drop]
    apply List.drop_of_length_le
    rw [List.length_append, hP, hZ, hD]
    have : (n + 1 - i) * k = (n - i) * k + k := by rw [show n + 1 - i = (n - i) + 1 by omega, Nat.add_mul]; omega
    omega
  rw [e1, e4, e5, hy, e3, List.append_nil, List.append_assoc]
theorem ins_room (k i n : Nat) (X J y D : List Value) (hX : X.length = n * k) (hJ : J.length = k) (hy : y.length = k) (hD : D.length = (n - i) * k) (hin : i < n) :
    ((X ++ J).take ((i + 1) * k) ++ (D ++ (X ++ J).drop ((i + 1) * k + D.length))).take (i * k) ++ (y ++ ((X ++ J).take ((i + 1) * k) ++ (D ++ (X ++ J).drop ((i + 1) * k + D.length))).drop (i * k + y.length)) = X.take (i * k) ++ (y ++ D) := by
  have h1 : (i + 1) * k ≤ n * k := Nat.mul_le_mul_right _ (by omega)
  have h2 : (i + 1) * k = i * k + k := by rw [Nat.add_mul]; omega
  have h3 : (i + 1) * k + (n - i) * k = n * k + k := by rw [← Nat.add_mul, show i + 1 + (n - i) = n + 1 by omega, Nat.add_mul]; omega
  have e0 : (X ++ J).drop ((i + 1) * k + D.length) = [] := by
    apply List.drop_of_length_le
    rw [List.length_append, hX, hJ, hD]; omega
  have hT : ((X ++ J).take ((i + 1) * k)).length = (i + 1) * k := by rw [List.length_take, List.length_append, hX]; omega
  have e1 : ((X ++ J).take ((i + 1) * k) ++ D).take (i * k) = X.take (i * k) := by
    rw [List.take_append_of_le_length (by omega), List.take_take, Nat.min_eq_left (by omega), List.take_append_of_le_length (by omega)]
  have e2 : ((X ++ J).take ((i + 1) * k) ++ D).drop (i * k + y.length) = D := by
    rw [hy, ← h2]
    conv => lhs; arg 1; rw [← hT]
    rw [List.drop_left]
  rw [e0, List.append_nil, e1, e2]

theorem row_of_box2 {w : World} {s : Nat} {v : (ByteArray × Int)} (h : Box2 w s v) : Row 2 entCells w (some ⟨s, 0, none⟩) 1 [v] := by
  obtain ⟨b0, b1, bf, bz⟩ := h.facts
  refine ⟨rfl, .inr ⟨s, 0, rfl, bz, fun j u hu i c hc => ?_⟩⟩
  cases j with
  | succ j => cases hu
  | zero =>
    cases hu
    match i, hc with
    | 0, hc => cases hc; exact b0
    | 1, hc => cases hc; exact b1
    | i + 2, hc => simp [entCells] at hc

theorem box_src2 {w : World} {s : Nat} {v : (ByteArray × Int)} (h : Box2 w s v) : ∀ j u, (entCells v)[j]? = some u → w.cell? ((⟨s, 0, none⟩ : Addr).add j) = some u := by
  intro j u hu
  have h1 := row_of_box2 h
  rcases h1.2 with h' | ⟨b, o, e, _, hc⟩
  · cases h'
  · cases e
    have := hc 0 v rfl j u hu
    rw [Addr.add_lit]
    simpa using this
theorem own_src2 {w : World} {B g n c : Nat} {xs : List (ByteArray × Int)} (h : w.ownsRow B 49 2 (.slice (some ⟨g, 0, none⟩) n c) n (xs.flatMap entCells)) (i : Nat) : ∀ j u, ((xs.drop i).flatMap entCells)[j]? = some u → w.cell? ((⟨g, i * 2, none⟩ : Addr).add j) = some u := by
  intro j u hu
  rw [← fm_drop ent_len, List.getElem?_drop] at hu
  have := h.cells (g := g) rfl _ u hu
  rw [Addr.add_lit] at this ⊢
  simpa using this
theorem fm_ins2 (xs : List (ByteArray × Int)) (i : Nat) (x : (ByteArray × Int)) : (xs.take i ++ x :: xs.drop i).flatMap entCells = (xs.flatMap entCells).take (i * 2) ++ (entCells x ++ (xs.drop i).flatMap entCells) := by
  rw [List.flatMap_append, List.flatMap_cons, fm_take ent_len]
theorem own_cells2 (xs : List (ByteArray × Int)) : ∀ u ∈ xs.flatMap entCells, u.oneCell' = true := by
  intro u hu
  obtain ⟨v, _, hv⟩ := List.mem_flatMap.1 hu
  exact ent_one v u hv

theorem row_of_box5 {w : World} {s : Nat} {v : NV} (h : Box5 w s v) : Row 5 NV.cells w (some ⟨s, 0, none⟩) 1 [v] := by
  obtain ⟨b0, b1, b2, b3, b4, bf, bz⟩ := h.facts
  refine ⟨rfl, .inr ⟨s, 0, rfl, bz, fun j u hu i c hc => ?_⟩⟩
  cases j with
  | succ j => cases hu
  | zero =>
    cases hu
    match i, hc with
    | 0, hc => cases hc; exact b0
    | 1, hc => cases hc; exact b1
    | 2, hc => cases hc; exact b2
    | 3, hc => cases hc; exact b3
    | 4, hc => cases hc; exact b4
    | i + 5, hc => simp [NV.cells] at hc

theorem box_src5 {w : World} {s : Nat} {v : NV} (h : Box5 w s v) : ∀ j u, (NV.cells v)[j]? = some u → w.cell? ((⟨s, 0, none⟩ : Addr).add j) = some u := by
  intro j u hu
  have h1 := row_of_box5 h
  rcases h1.2 with h' | ⟨b, o, e, _, hc⟩
  · cases h'
  · cases e
    have := hc 0 v rfl j u hu
    rw [Addr.add_lit]
    simpa using this
theorem own_src5 {w : World} {B g n c : Nat} {xs : List NV} (h : w.ownsRow B 34 5 (.slice (some ⟨g, 0, none⟩) n c) n (xs.flatMap NV.cells)) (i : Nat) : ∀ j u, ((xs.drop i).flatMap NV.cells)[j]? = some u → w.cell? ((⟨g, i * 5, none⟩ : Addr).add j) = some u := by
  intro j u hu
  rw [← fm_drop nod_len, List.getElem?_drop] at hu
  have := h.cells (g := g) rfl _ u hu
  rw [Addr.add_lit] at this ⊢
  simpa using this
theorem fm_ins5 (xs : List NV) (i : Nat) (x : NV) : (xs.take i ++ x :: xs.drop i).flatMap NV.cells = (xs.flatMap NV.cells).take (i * 5) ++ (NV.cells x ++ (xs.drop i).flatMap NV.cells) := by
  rw [List.flatMap_append, List.flatMap_cons, fm_take nod_len]
theorem own_cells5 (xs : List NV) : ∀ u ∈ xs.flatMap NV.cells, u.oneCell' = true := by
  intro u hu
  obtain ⟨v, _, hv⟩ := List.mem_flatMap.1 hu
  exact nod_one v u hv

end Go.Proofs.Ytjpdoblmdchmkae
/-
  set, Put, Enter.
-/
namespace Go.Proofs.Ytjpdoblmdchmkae
open Go.RowKit

/-- x at i: in the place of what stands there, if that is its own, else ahead of it -/
def setAt {α : Type} (own : Bool) (i : Nat) (x : α) (xs : List α) : List α := if own then xs.set i x else xs.take i ++ x :: xs.drop i

/-- a node, with these entries -/
def withE (x : M.Nd) (es : List (ByteArray × Int)) : M.Nd := { x with ents := es }
theorem setAt_putE {es : List (ByteArray × Int)} {t : ByteArray} {f : Int} {i : Nat} {b : Bool} (hr : M.RsE es) (hm : M.Mid M.ltB (es.map (·.1)) t i i) (hb : b = decide ((es.map (·.1))[i]? = some t)) : setAt b i (t, f) es = M.putE es (t, f) := by
  unfold setAt M.putE M.put
  have hlow := M.mid_low (·.1) es t hr hm
  cases b
  · have hne := of_decide_eq_false hb.symm
    have hhigh := M.mid_high (·.1) es t M.ordB hr hm hne
    simp only [hlow, hhigh]
    rfl
  · have he := of_decide_eq_true hb.symm
    have hhigh := M.mid_high_at (·.1) es t M.ordB hr hm he
    simp only [hlow, hhigh]
    have hi : i < es.length := by
      rcases Nat.lt_or_ge i (es.map (·.1)).length with h1 | h1
      · simpa using h1
      · rw [List.getElem?_eq_none h1] at he; cases he
    rw [if_pos trivial, List.set_eq_take_append_cons_drop, if_pos hi]
theorem setAt_putN {us : List NV} {xs : List M.Nd} {w : World} {B : Nat} {v : NV} {x : M.Nd} {i : Nat} {b : Bool} (ha : All2 (OwnN w B) us xs) (hv : OwnN w B v x) (hr : M.RsN xs) (hm : M.Mid M.ltI (xs.map (·.fid)) x.fid i i) (hb : b = decide ((xs.map (·.fid))[i]? = some x.fid)) : All2 (OwnN w B) (setAt b i v us) (M.putN xs x) := by
  unfold setAt M.putN M.put
  have hlow := M.mid_low (·.fid) xs x.fid hr hm
  cases b
  · have hne := of_decide_eq_false hb.symm
    have hhigh := M.mid_high (·.fid) xs x.fid M.ordI hr hm hne
    simp only [hlow, hhigh]
    exact All2.append (ha.take i) (All2.cons hv (ha.drop i))
  · have he := of_decide_eq_true hb.symm
    have hhigh := M.mid_high_at (·.fid) xs x.fid M.ordI hr hm he
    simp only [hlow, hhigh]
    have hi : i < us.length := by
      rw [ha.1]
      rcases Nat.lt_or_ge i (xs.map (·.fid)).length with h1 | h1
      · simpa using h1
      · rw [List.getElem?_eq_none h1] at he; cases he
    rw [if_pos trivial, List.set_eq_take_append_cons_drop, if_pos hi]
    exact All2.append (ha.take i) (All2.cons hv (ha.drop (i + 1)))

theorem setAt_len {α : Type} (b : Bool) (i : Nat) (x : α) (xs : List α) : (setAt b i x xs).length ≤ xs.length + 1 := by
  unfold setAt
  split
  · rw [List.length_set]; omega
  · rw [List.length_append, List.length_cons, List.length_take, List.length_drop]; omega
theorem setAt_mem {α : Type} {b : Bool} {i : Nat} {x y : α} {xs : List α} (h : y ∈ setAt b i x xs) : y = x ∨ y ∈ xs := by
  unfold setAt at h
  split at h
  · rcases List.mem_or_eq_of_mem_set h with h | h
    · exact .inr h
    · exact .inl h
  · rcases List.mem_append.1 h with h | h
    · exact .inr (List.mem_of_mem_take h)
    · rcases List.mem_cons.1 h with h | h
      · exact .inl h
      · exact .inr (List.mem_of_mem_drop h)
theorem setAt_all2 {α β : Type} {R : α → β → Prop} {us : List α} {xs : List β} {v : α} {x : β} (ha : All2 R us xs) (hv : R v x) (b : Bool) (i : Nat) (hi : b = true → i < us.length) : All2 R (setAt b i v us) (setAt b i x xs) := by
  unfold setAt
  cases b
  · simp only [Bool.false_eq_true, if_false]
    exact All2.append (ha.take i) (All2.cons hv (ha.drop i))
  · simp only [if_true]
    rw [List.set_eq_take_append_cons_drop, if_pos (hi rfl), List.set_eq_take_append_cons_drop, if_pos (by rw [← ha.1]; exact hi rfl)]
    exact All2.append (ha.take i) (All2.cons hv (ha.drop (i + 1)))
theorem setAt_putN' {xs : List M.Nd} {x : M.Nd} {i : Nat} {b : Bool} (hr : M.RsN xs) (hm : M.Mid M.ltI (xs.map (·.fid)) x.fid i i) (hb : b = decide ((xs.map (·.fid))[i]? = some x.fid)) : setAt b i x xs = M.putN xs x := by
  unfold setAt M.putN M.put
  have hlow := M.mid_low (·.fid) xs x.fid hr hm
  cases b
  · have hne := of_decide_eq_false hb.symm
    have hhigh := M.mid_high (·.fid) xs x.fid M.ordI hr hm hne
    simp only [hlow, hhigh]
    rfl
  · have he := of_decide_eq_true hb.symm
    have hhigh := M.mid_high_at (·.fid) xs x.fid M.ordI hr hm he
    simp only [hlow, hhigh]
    have hi : i < xs.length := by
      rcases Nat.lt_or_ge i (xs.map (·.fid)).length with h1 | h1
      · simpa using h1
      · rw [List.getElem?_eq_none h1] at he; cases he
    rw [if_pos trivial, List.set_eq_take_append_cons_drop, if_pos hi]
/-- what comes of a name that is entered; of a list that rises: in its place -/
def Entered (es : List (ByteArray × Int)) (s : ByteArray) (f : Int) (es' : List (ByteArray × Int)) : Prop := es'.length ≤ es.length + 1 ∧ (M.RsE es → es' = M.putE es (s, f))
/-- what comes of a node that is put -/
def Putted (xs : List M.Nd) (x : M.Nd) (ys : List M.Nd) : Prop := (∀ y ∈ ys, y = x ∨ y ∈ xs) ∧ (M.RsN xs → ys = M.putN xs x)

end Go.Proofs.Ytjpdoblmdchmkae
/-
  EQUAL BYTES, EQUAL ENTRIES: bytes.Equal, slices.Equal.
-/
namespace Go.Proofs.Ytjpdoblmdchmkae
open Go.RowKit

end Go.Proofs.Ytjpdoblmdchmkae
/-
  Same: trees alike in all but their versions.
-/
namespace Go.Proofs.Ytjpdoblmdchmkae
open Go.RowKit

end Go.Proofs.Ytjpdoblmdchmkae
/-
  New, step, Walk.
-/
namespace Go.Proofs.Ytjpdoblmdchmkae
open Go.RowKit

namespace M
def stepS (xs : List Nd) (a : Int) (s : ByteArray) : Int × Int :=
  match find xs a with
  | none => (0, 12)
  | some x => if x.dir then (match look x.ents s with
    | none => (0, 6)
    | some e => (e.2, 0)) else (0, 8)
def walkS (xs : List Nd) : Int → List ByteArray → Int × Int
  | a, [] => (a, 0)
  | a, s :: l => if (stepS xs a s).2 = 0 then walkS xs (stepS xs a s).1 l else (0, (stepS xs a s).2)
theorem step_none {xs : List Nd} {a : Int} {s : ByteArray} (h : find xs a = none) : stepS xs a s = (0, 12) := by unfold stepS; rw [h]
theorem step_file {xs : List Nd} {a : Int} {s : ByteArray} {x : Nd} (h : find xs a = some x) (hd : x.dir = false) : stepS xs a s = (0, 8) := by unfold stepS; rw [h]; simp [hd]
theorem step_no {xs : List Nd} {a : Int} {s : ByteArray} {x : Nd} (h : find xs a = some x) (hd : x.dir = true) (hl : look x.ents s = none) : stepS xs a s = (0, 6) := by unfold stepS; rw [h]; simp [hd, hl]
theorem step_yes {xs : List Nd} {a : Int} {s : ByteArray} {x : Nd} {e : ByteArray × Int} (h : find xs a = some x) (hd : x.dir = true) (hl : look x.ents s = some e) : stepS xs a s = (e.2, 0) := by unfold stepS; rw [h]; simp [hd, hl]
end M


theorem Strs.at {w : World} {A : Option Addr} {n : Nat} {vs : List ByteArray} (h : Strs w A n vs) {j : Nat} (hj : j < n) :
    ∃ b o v, A = some ⟨b, o, none⟩ ∧ b < w.heap.size ∧ vs[j]? = some v ∧ w.cell? ⟨b, o + j, none⟩ = some (.string v) := by
  obtain ⟨b, o, v, e, hlt, hv, hc⟩ := Row.at h hj
  exact ⟨b, o, v, e, hlt, hv, by have := hc 0 _ rfl; simpa using this⟩

/-- the root alone -/
def root0 : List M.Nd := [⟨0, true, [], [], 0⟩]
end Go.Proofs.Ytjpdoblmdchmkae
/-
  THE REFERENCE's SameNode, Same, Rises.
-/
namespace Go.Proofs.Ytjpdoblmdchmkae
open Go.RowKit

/-- the same, and of the same version, if that is asked -/
def sameNd (vb : Bool) (x y : M.Nd) : Bool := alike x y && (!vb || decide (x.ver = y.ver))
theorem same_self (vb : Bool) (x : M.Nd) : sameNd vb x x = true := by simp [sameNd, alike]

/-- two boxes -/
theorem two_boxes (w : World) (v u : NV) (W : World) (hW : W = (w.alloc (.cells #[.int .i64 v.fid, .bool v.dir, .slice v.dA v.dn v.dc, .slice v.eA v.en v.ec, .int .i64 v.ver] 34)).alloc (.cells #[.int .i64 u.fid, .bool u.dir, .slice u.dA u.dn u.dc, .slice u.eA u.en u.ec, .int .i64 u.ver] 34)) :
    Box W w.heap.size v ∧ Box W (w.heap.size + 1) u ∧ Below w.heap.size w W := by
  subst hW
  refine ⟨(Box.new w v).alloc _, ?_, ((Below.refl _ _).alloc (Nat.le_refl _) _).alloc (by simp) _⟩
  have := Box.new (w.alloc (.cells #[.int .i64 v.fid, .bool v.dir, .slice v.dA v.dn v.dc, .slice v.eA v.en v.ec, .int .i64 v.ver] 34)) u
  simpa using this

end Go.Proofs.Ytjpdoblmdchmkae
/-
  THE REFERENCE's Rises.
-/
namespace Go.Proofs.Ytjpdoblmdchmkae
open Go.RowKit

namespace M
theorem rs_snoc {K : Type} {lt : K → K → Bool} (o : Ordr lt) (l : List K) (y x : K) (h : Rs lt (l ++ [y])) (hy : lt y x = true) : Rs lt (l ++ [y] ++ [x]) := by
  unfold Rs at *
  rw [List.pairwise_append]
  refine ⟨h, List.pairwise_singleton _ _, fun a ha b hb => ?_⟩
  rw [List.mem_singleton.1 hb]
  rcases List.mem_append.1 ha with h1 | h1
  · exact o.tra _ _ _ ((List.pairwise_append.1 h).2.2 a h1 y (List.mem_singleton.2 rfl)) hy
  · rw [List.mem_singleton.1 h1]; exact hy
theorem rs_one {K : Type} {lt : K → K → Bool} (x : K) : Rs lt [x] := List.pairwise_singleton _ _
theorem rs_step {K : Type} {lt : K → K → Bool} (o : Ordr lt) {l : List K} {j : Nat} {y x : K} (hy : l[j]? = some y) (hx : l[j + 1]? = some x) (h : Rs lt (l.take (j + 1))) (hlt : lt y x = true) : Rs lt (l.take (j + 1 + 1)) := by
  have e1 : l.take (j + 1) = l.take j ++ [y] := by rw [List.take_add_one, hy]; rfl
  have e2 : l.take (j + 1 + 1) = l.take (j + 1) ++ [x] := by rw [List.take_add_one, hx]; rfl
  rw [e2, e1]
  rw [e1] at h
  exact rs_snoc o _ y x h hlt
theorem rs_no {K : Type} {lt : K → K → Bool} {l : List K} {j : Nat} {y x : K} (hy : l[j]? = some y) (hx : l[j + 1]? = some x) (hlt : lt y x = false) : ¬ Rs lt l := by
  intro h
  rw [rs_at h (Nat.lt_succ_self j) hy hx] at hlt; cases hlt
theorem rs_first {K : Type} {lt : K → K → Bool} {l : List K} {x : K} (hx : l[0]? = some x) : Rs lt (l.take 1) := by
  have : l.take 1 = [x] := by
    cases l with
    | nil => cases hx
    | cons a l => cases hx; rfl
  rw [this]; exact rs_one x
end M
open Classical in
noncomputable def riseB (xs : List M.Nd) : Bool := decide (M.Rise xs)
theorem riseB_yes {xs : List M.Nd} (h : M.Rise xs) : riseB xs = true := by unfold riseB; simp [h]
theorem riseB_no {xs : List M.Nd} (h : ¬ M.Rise xs) : riseB xs = false := by unfold riseB; simp [h]
theorem riseB_iff {xs : List M.Nd} : riseB xs = true ↔ M.Rise xs := by unfold riseB; simp

theorem rise_next {xs : List M.Nd} {k : Nat} {x : M.Nd} (hx : xs[k]? = some x) (h : M.Rise (xs.take k)) (hn : M.RsN (xs.take (k + 1))) (he : M.RsE x.ents) : M.Rise (xs.take (k + 1)) := by
  refine ⟨hn, fun y hy => ?_⟩
  rw [take_step hx] at hy
  rcases List.mem_append.1 hy with h1 | h1
  · exact h.2 y h1
  · rw [List.mem_singleton.1 h1]; exact he

set_option maxHeartbeats 4000000 in
theorem rises_any (A : Option Addr) (n c : Nat) (vs : List NV) (xs : List M.Nd) (w : World) (ht : Tree w A n vs xs) (hn : n * 72 ≤ 140737488355328) (hs : ∀ x ∈ xs, Small x) :
    Calls Try.prog 6 #[.slice A n c] w fun e w' => e = .returned (.bool (riseB xs)) ∧ Below w.heap.size w w' := by
  have HT : Hid (Tree w A n vs xs ∧ ∀ x ∈ xs, Small x) := ⟨ht, hs⟩
  clear ht hs
  go_enter Try.func6, Try.ntmps6
  go_wp2
  go_loopw [8] (fun i wr => ∃ k : Nat, k ≤ n ∧ i = .int .i64 k ∧ M.Rise (xs.take k) ∧ Below w.heap.size w wr) (fun i _ => n - (intOf i).toNat)
  case atStart => exact ⟨0, Nat.zero_le _, rfl, ⟨List.Pairwise.nil, fun x hx => by simp at hx⟩, Below.refl _ _⟩
  case round =>
    obtain ⟨k, hk, rfl, hrise, hbw⟩ := hrel
    rename World => w5
    have HRI : Hid (M.Rise (xs.take k)) := hrise
    clear hrise
    by_cases hlt : k < n
    · have htr := HT.out.1.below (Nat.le_refl _) hbw
      obtain ⟨gb, o, v, rfl, hgbl, hvk, c0, c1, c2, c3, c4⟩ := htr.1.at hlt
      obtain ⟨x, hx, hcx⟩ := htr.2.at hvk
      have HX : Hid (xs[k]? = some x ∧ Small x ∧ Cont w v x ∧ vs[k]? = some v) := ⟨hx, HT.out.2 x (List.mem_of_getElem? hx), HT.out.1.2.2 k v x hvk hx, hvk⟩
      have hen : v.en ≤ 140737488355328 := by have := HX.out.2.1.2; have := HX.out.2.2.1.2.2.2.2.1; omega
      have hsz := hbw.size
      have HBX : Hid (Box (w5.alloc (.cells #[.int .i64 v.fid, .bool v.dir, .slice v.dA v.dn v.dc, .slice v.eA v.en v.ec, .int .i64 v.ver] 34)) w5.heap.size v) := Box.new w5 v
      have HTR : Hid (Tree w5 (some ⟨gb, o, none⟩) n vs xs) := htr
      clear hvk hx hcx htr
      by_cases hk0 : k ≤ 0
      case' pos =>
        have HRN : Hid (M.RsN (xs.take (k + 1))) := by
          show M.Rs M.ltI ((xs.take (k + 1)).map _)
          rw [List.map_take, show k + 1 = 1 by omega]
          have := HX.out.1
          rw [show k = 0 by omega] at this
          exact M.rs_first (M.at_key this)
        have hd2 : decide (0 < k) = false := by rw [decide_eq_false_iff_not]; omega
        go_wp2
        go_quiet (fail)
        go_wp2
        clear hd2
      case' neg =>
        obtain ⟨j, hj⟩ : ∃ j, k = j + 1 := ⟨k - 1, by omega⟩
        have hkj : (k : Int) - 1 = (j : Int) := by omega
        have hj0 : (0 : Int) ≤ (j : Int) := by omega
        have hjn : (j : Int) < (n : Int) := by omega
        have HJ : Hid (k = j + 1) := hj
        have hd2 : decide (0 < k) = true := by rw [decide_eq_true_eq]; omega
        obtain ⟨gb', o', u, hA', _, huk, d0, d1, d2, d3, d4⟩ := HTR.out.1.at (j := j) (by omega)
        cases hA'
        have HU : Hid (vs[j]? = some u) := huk
        have HUX : Hid (∃ y, xs[j]? = some y ∧ y.fid = u.fid) := by
          obtain ⟨y, hy, hcy⟩ := HTR.out.2.at huk
          exact ⟨y, hy, hcy.1.symm⟩
        have hvx : v.fid = x.fid := HX.out.2.2.1.1
        have HVX : Hid (v.fid = x.fid) := hvx
        clear hj huk hvx
        by_cases hf : u.fid < v.fid
        case' neg =>
          have hg2 : decide (v.fid ≤ u.fid) = true := by rw [decide_eq_true_eq]; omega
          have HNR : Hid (¬ M.Rise xs) := by
            intro hR
            obtain ⟨y, hy, hyu⟩ := HUX.out
            have hxk := HX.out.1
            rw [HJ.out] at hxk
            refine M.rs_no (M.at_key (f := fun x : M.Nd => x.fid) hy) (M.at_key hxk) ?_ hR.1
            show M.ltI y.fid x.fid = false
            rw [hyu, ← HVX.out]
            unfold M.ltI
            rw [decide_eq_false_iff_not]; exact hf
          clear hf
          go_wp2
          go_quiet (fail)
          go_wp2
          go_ret
          exact ⟨ret_bool (riseB_no HNR.out).symm, below_drewN (hbw.alloc hsz _) _⟩
        case' pos =>
          have hg2 : decide (v.fid ≤ u.fid) = false := by rw [decide_eq_false_iff_not]; omega
          have HRN : Hid (M.RsN (xs.take (k + 1))) := by
            obtain ⟨y, hy, hyu⟩ := HUX.out
            have hxk := HX.out.1
            have h1 := HRI.out.1
            rw [HJ.out] at hxk h1 ⊢
            show M.Rs M.ltI ((xs.take (j + 1 + 1)).map _)
            rw [List.map_take]
            refine M.rs_step M.ordI (M.at_key (f := fun x : M.Nd => x.fid) hy) (M.at_key hxk) ?_ ?_
            · rw [← List.map_take]; exact h1
            · show M.ltI y.fid x.fid = true
              rw [hyu, ← HVX.out]
              unfold M.ltI
              rw [decide_eq_true_eq]; exact hf
          clear hf
          go_wp2
          go_quiet (fail)
          go_wp2
          clear hg2 hd2 hkj hj0 hjn d0 d1 d2 d3 d4 HU HUX HVX HJ
      all_goals
        clear c0 c1 c2 c3 c4
        go_loopw [29] (fun i wr => ∃ q : Nat, q ≤ v.en ∧ i = .int .i64 q ∧ M.RsE (x.ents.take q) ∧ Box wr w5.heap.size v ∧ Below w.heap.size w wr) (fun i _ => v.en - (intOf i).toNat)
        case atStart => exact ⟨0, Nat.zero_le _, rfl, List.Pairwise.nil, HBX.out, below_drewN (hbw.alloc hsz _) _⟩
        case round =>
          obtain ⟨q, hq, rfl, hre, hbx, hbq⟩ := hrel
          have HRE : Hid (M.RsE (x.ents.take q)) := hre
          have HBQ : Hid (Box wr w5.heap.size v) := hbx
          obtain ⟨p0, p1, p2, p3, p4, pf, pz⟩ := hbx.facts
          clear hre hbx p0 p1 p2 p4
          by_cases hqe : q < v.en
          · obtain ⟨g1, o1, a, ha, _, hak, a0, a1⟩ := Ents.at (HX.out.2.2.1.2.2.2.2.below (Nat.le_refl _) hbq) hqe
            rw [ha] at p3
            have HA : Hid (x.ents[q]? = some a) := hak
            by_cases hq0 : q ≤ 0
            · have HNX : Hid (M.RsE (x.ents.take (q + 1))) := by
                show M.Rs M.ltB ((x.ents.take (q + 1)).map _)
                rw [List.map_take, show q + 1 = 1 by omega]
                rw [show q = 0 by omega] at hak
                exact M.rs_first (M.at_key hak)
              clear hak ha
              have hd2 : decide (0 < q) = false := by rw [decide_eq_false_iff_not]; omega
              go_wp2
              go_quiet (fail)
              go_wp2
              go_roundw
              case rel => exact ⟨q + 1, by omega, by go_num, HNX.out, HBQ.out, below_drewN hbq _⟩
              case measure => simp [intOf]; omega
            · obtain ⟨p, hp⟩ : ∃ p, q = p + 1 := ⟨q - 1, by omega⟩
              have hqp : (q : Int) - 1 = (p : Int) := by omega
              have hp0 : (0 : Int) ≤ (p : Int) := by omega
              have hpn : (p : Int) < (v.en : Int) := by omega
              have hqn : (q : Int) < (v.en : Int) := by omega
              have hq00 : (0 : Int) ≤ (q : Int) := by omega
              have HP : Hid (q = p + 1) := hp
              have hd2 : decide (0 < q) = true := by rw [decide_eq_true_eq]; omega
              obtain ⟨g2, o2, b, hb, _, hbk, b0, b1⟩ := Ents.at (HX.out.2.2.1.2.2.2.2.below (Nat.le_refl _) hbq) (show p < v.en by omega)
              rw [ha] at hb
              cases hb
              have HB : Hid (x.ents[p]? = some b) := hbk
              clear hak ha hbk hp
              cases hl : M.ltB b.1 a.1
              · have hbl : Op.bytesLess b.1.toList a.1.toList = false := hl
                have HNR : Hid (¬ M.Rise xs) := by
                  intro hR
                  have h1 := HA.out
                  rw [HP.out] at h1
                  exact M.rs_no (M.at_key (f := fun e : ByteArray × Int => e.1) HB.out) (M.at_key h1) hl (hR.2 x (List.mem_of_getElem? HX.out.1))
                clear hl
                go_wp2
                go_quiet (fail)
                go_wp2
                go_ret
                exact ⟨ret_bool (riseB_no HNR.out).symm, below_drewN hbq _⟩
              · have hbl : Op.bytesLess b.1.toList a.1.toList = true := hl
                have HNX : Hid (M.RsE (x.ents.take (q + 1))) := by
                  have h1 := HA.out
                  have h2 := HRE.out
                  rw [HP.out] at h1 h2 ⊢
                  show M.Rs M.ltB ((x.ents.take (p + 1 + 1)).map _)
                  rw [List.map_take]
                  refine M.rs_step M.ordB (M.at_key (f := fun e : ByteArray × Int => e.1) HB.out) (M.at_key h1) ?_ hl
                  rw [← List.map_take]; exact h2
                clear hl
                go_wp2
                go_quiet (fail)
                go_wp2
                go_roundw
                case rel => exact ⟨q + 1, by omega, by go_num, HNX.out, HBQ.out, below_drewN hbq _⟩
                case measure => simp [intOf]; omega
          · have HRX : Hid (M.RsE x.ents) := by
              have h1 := HRE.out
              rw [List.take_of_length_le (by have := HX.out.2.2.1.2.2.2.2.1; omega)] at h1
              exact h1
            go_wp2
            go_roundw
            case rel => exact ⟨k + 1, by omega, by go_num, rise_next HX.out.1 HRI.out HRN.out HRX.out, hbq⟩
            case measure => simp [intOf]; omega
    · have HN : Hid (xs.take k = xs) := by show _ = _; rw [List.take_of_length_le (by rw [← HT.out.1.2.1, ← HT.out.1.1.1]; omega)]
      go_wp2
      go_ret
      exact ⟨ret_bool (riseB_yes (by rw [← HN.out]; exact HRI.out)).symm, hbw⟩
end Go.Proofs.Ytjpdoblmdchmkae
