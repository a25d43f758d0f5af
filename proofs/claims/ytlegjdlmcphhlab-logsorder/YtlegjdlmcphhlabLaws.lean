/-
  LAWS OF NO PROGRAM: clear and copy on rows whose elements have several cells.
-/
import Derived.Test.YtlegjdlmcphhlabOwn
import Derived.Lib.AppendZerosOnto
import Derived.Lib.Overlaps
import Derived.Deep.RegionLaw
namespace Go.Proofs.Ytlegjdlmcphhlab
open Go.RowKit

section
variable {P : Program} {k : Nat}
theorem zero_one {zc : Array Value} (h : ∀ u ∈ zc.toList, u.oneCell' = true) (hs : 0 < zc.size) (m : Nat) : ∀ u ∈ (Builtin.zeroCells zc m).toList, u.oneCell' = true := by
  intro u hu
  simp [Builtin.zeroCells] at hu
  obtain ⟨j, _, rfl⟩ := hu
  have hj : j % zc.size < zc.size := Nat.mod_lt _ hs
  rw [getElem!_pos zc (j % zc.size) hj]
  exact h _ (by simp)

theorem run_clear_row (w : World) (t ty e : TypeId) (i : TypeInfo) (z : Value) (ht : P.underlying t = some (.slice e)) (hi : P.info? e = some i) (hz : i.zero = some z) (hzs : z.cells.size = k) (k0 : 0 < k)
    (h1 : ∀ u ∈ z.cells.toList, u.oneCell' = true) (g off m c' : Nat) (hm : 0 < m) (cur : Array Value) (hg : w.heap[g]? = some (.cells cur e (0, 0))) (hfit : off + m * k ≤ cur.size) :
    (Builtin.clear_ #[t] ty #[.slice (some ⟨g, off, none⟩) m c']).run P w = .ok (.tuple #[]) (w.setRow g (cur.toList.take off ++ (Builtin.zeroCells z.cells m).toList ++ cur.toList.drop (off + m * k)).toArray) := by
  have hl : (Builtin.zeroCells z.cells m).toList.length = m * k := by rw [Array.length_toList, size_zeroCells, hzs]
  have hst := run_storeCells_at P g off e (Builtin.zeroCells z.cells m).toList 0 cur w hg (by rw [hl]; simpa using hfit) (zero_one h1 (by omega) m)
  rw [hl] at hst
  simp only [Nat.add_zero] at hst
  obtain ⟨m, rfl⟩ : ∃ m', m = m' + 1 := ⟨m - 1, by omega⟩
  simp [Builtin.clear_, run_underlying ht, zeroValue, typeInfo, hi, hz, hst]

theorem wpList_clear_own (w : World) {ops : Array Oper} {rest : List Oper} {o : Oper} {a : Act} {Q : Exit → Act → World → Prop} (hgd : o.guard = none) (x : Operand) (t : TypeId)
    (ho : o.op = .call { callee := .builtin .clear, args := #[x], argTypes := #[t] }) (B : Nat) (e : TypeId) (i : TypeInfo) (z : Value) (ht : P.underlying t = some (.slice e)) (hi : P.info? e = some i) (hz : i.zero = some z)
    (hzs : z.cells.size = k) (k0 : 0 < k) (h1 : ∀ u ∈ z.cells.toList, u.oneCell' = true) (g n c : Nat) (xs : List Value) (hown : w.ownsRow B e k (.slice (some ⟨g, 0, none⟩) n c) n xs)
    (off m c' q : Nat) (hx : a.eval x = .slice (some ⟨g, off, none⟩) m c') (hoff : off = q * k) (hm : 0 < m) (hq : q + m = n)
    (h : ∀ w', w'.ownsRow B e k (.slice (some ⟨g, 0, none⟩) q c) q (xs.take (q * k)) → w.grownBy w' (some g) → wpList P ops Q rest (a.put o.dst (.tuple #[])) w') : wpList P ops Q (o :: rest) a w := by
  rcases hown.2 with ⟨h', _⟩ | ⟨g', cap, cur, h', hb, hg, hnc, hcm, hcs, htake⟩
  · simp at h'
  · simp only [Value.slice.injEq, Option.some.injEq, Addr.mk.injEq, and_true, true_and] at h'
    obtain ⟨rfl, rfl⟩ := h'
    have hqm : q * k + m * k ≤ c * k := by rw [← Nat.add_mul]; exact Nat.mul_le_mul_right _ (by omega)
    have hr := run_clear_row (P := P) w t o.type e i z ht hi hz hzs k0 h1 g off m c' hm cur hg (by rw [hcs, hoff]; exact hqm)
    refine wpList_plain hgd fun K hK => ?_
    unfold Oper.wp
    simp [execOp, ho, resolve, invoke, builtin, hx, hr, Result.andThen]
    have hl : (Builtin.zeroCells z.cells m).toList.length = m * k := by rw [Array.length_toList, size_zeroCells, hzs]
    have hle : q * k ≤ cur.toList.length := by rw [Array.length_toList, hcs]; omega
    have hxs : xs.take (q * k) = cur.toList.take (q * k) := by
      rw [← htake, List.take_take]
      congr 1
      have : q * k ≤ n * k := Nat.mul_le_mul_right _ (by omega)
      omega
    refine hK _ _ (h _ ⟨?_, .inr ⟨g, c, _, rfl, hb, setRow_heap w g cur _ e _ hg, by omega, hcm, ?_, ?_⟩⟩ ⟨rfl, rfl, rfl, by simp, fun j _ hj => setRow_other w g j _ (fun e => hj (by simp [e]))⟩)
    · rw [List.length_take, hown.1]
      have : q * k ≤ n * k := Nat.mul_le_mul_right _ (by omega)
      omega
    · simp only [List.size_toArray, List.length_append, List.length_take, List.length_drop, hl, hoff, Array.length_toList]
      omega
    · rw [hxs, hoff]
      show List.take (q * k) (List.take (q * k) cur.toList ++ ((Builtin.zeroCells z.cells m).toList ++ List.drop (q * k + m * k) cur.toList)) = _
      rw [List.take_append_of_le_length (by rw [List.length_take]; omega), List.take_take, Nat.min_self]

/-- copy: as many elements as the shorter one has, into a row of one's own -/
theorem run_copy_k (w : World) (dT sT ty elem : TypeId) (g off dLen dCap : Nat) (ad : Addr) (sLen sCap : Nat) (cur : Array Value) (t : TypeId) (cs : List Value)
    (hu : P.underlying dT = some (.slice elem)) (hs : (P.info? elem).map (·.size) = some k) (hg : w.heap[g]? = some (.cells cur t (0, 0))) (hn : cs.length = Nat.min sLen dLen * k)
    (hsrc : ∀ j v, cs[j]? = some v → w.cell? (ad.add j) = some v) (hfit : off + cs.length ≤ cur.size) (h1 : ∀ v ∈ cs, v.oneCell' = true) :
    (Builtin.copy_ #[dT, sT] ty #[.slice (some ⟨g, off, none⟩) dLen dCap, .slice (some ad) sLen sCap]).run P w =
      .ok (goInt (Nat.min sLen dLen)) (w.setRow g (cur.toList.take off ++ cs ++ cur.toList.drop (off + cs.length)).toArray) := by
  have hl := run_loadCells_list (P := P) w ad cs hsrc
  have hst := run_storeCells_at P g off t cs 0 cur w hg (by simpa using hfit) h1
  cases hq : P.info? elem with
  | none => simp [hq] at hs
  | some i =>
    have hi : i.size = k := by simpa [hq] using hs
    simp [Builtin.copy_, run_underlying hu, Builtin.lenOf, Builtin.firstCells, sizeOf, typeInfo, hq, hi, ← hn, hl, hst]

/-- the same, in terms of what is owned -/
theorem run_copy_own {w : World} {B : Nat} {e : TypeId} {g n c : Nat} {L : List Value} (hown : w.ownsRow B e k (.slice (some ⟨g, 0, none⟩) n c) n L) (dT sT ty : TypeId) (hu : P.underlying dT = some (.slice e)) (hs : (P.info? e).map (·.size) = some k)
    (off q dLen dCap : Nat) (hoff : off = q * k) (hq : q + dLen ≤ n) (ad : Addr) (sLen sCap r : Nat) (hr : Nat.min sLen dLen = r) (news : List Value) (hn : news.length = r * k)
    (hsrc : ∀ j v, news[j]? = some v → w.cell? (ad.add j) = some v) (h1 : ∀ v ∈ news, v.oneCell' = true) :
    ∃ w', (Builtin.copy_ #[dT, sT] ty #[.slice (some ⟨g, off, none⟩) dLen dCap, .slice (some ad) sLen sCap]).run P w = .ok (goInt r) w' ∧ w'.ownsRow B e k (.slice (some ⟨g, 0, none⟩) n c) n (L.take off ++ (news ++ L.drop (off + news.length))) ∧ w.grownBy w' (some g) := by
  rcases hown.2 with ⟨h', _⟩ | ⟨g', cap, cur, h', hb, hg, hnc, hcm, hcs, htake⟩
  · simp at h'
  · simp only [Value.slice.injEq, Option.some.injEq, Addr.mk.injEq, and_true, true_and] at h'
    obtain ⟨rfl, rfl⟩ := h'
    have hrd : r ≤ dLen := by rw [← hr]; exact Nat.min_le_right _ _
    have hqr : q * k + r * k ≤ n * k := by rw [← Nat.add_mul]; exact Nat.mul_le_mul_right _ (by omega)
    have hnk : n * k ≤ c * k := Nat.mul_le_mul_right _ hnc
    have hrun := run_copy_k (P := P) (k := k) w dT sT ty e g off dLen dCap ad sLen sCap cur e news hu hs hg (by rw [hn, hr]) hsrc (by rw [hcs, hoff, hn]; omega) h1
    rw [hr] at hrun
    refine ⟨_, hrun, ⟨?_, .inr ⟨g, c, _, rfl, hb, setRow_heap w g cur _ e _ hg, hnc, hcm, ?_, ?_⟩⟩, ⟨rfl, rfl, rfl, by simp, fun j _ hj => setRow_other w g j _ (fun e => hj (by simp [e]))⟩⟩
    · simp only [List.length_append, List.length_take, List.length_drop, hown.1, hn, hoff]
      omega
    · simp only [List.size_toArray, List.length_append, List.length_take, List.length_drop, hn, hoff, Array.length_toList, hcs]
      omega
    · show List.take (n * k) (List.take off cur.toList ++ news ++ List.drop (off + news.length) cur.toList) = _
      rw [← htake]
      have hl1 : (List.take off cur.toList ++ news).length = off + news.length := by
        rw [List.length_append, List.length_take, Array.length_toList, hcs, hoff]; omega
      have e1 : n * k = (List.take off cur.toList ++ news).length + (n * k - (off + news.length)) := by rw [hl1, hoff, hn]; omega
      rw [List.take_take, List.drop_take]
      have e2 : min off (n * k) = off := by rw [hoff]; omega
      rw [e2]
      conv => lhs; rw [e1]
      rw [List.take_length_add_append, List.append_assoc]

theorem wpList_copy_cells {w : World} {ops : Array Oper} {rest : List Oper} {o : Oper} {a : Act} {Q : Exit → Act → World → Prop} (hgd : o.guard = none) (d s : Operand) (dT : TypeId)
    (ho : o.op = .call { callee := .builtin .copy, args := #[d, s], argTypes := #[dT, dT] }) {B : Nat} {e : TypeId} {g n c : Nat} {L : List Value} (hown : w.ownsRow B e k (.slice (some ⟨g, 0, none⟩) n c) n L) (hu : P.underlying dT = some (.slice e)) (hs : (P.info? e).map (·.size) = some k)
    (off q dLen dCap : Nat) (hd : a.eval d = .slice (some ⟨g, off, none⟩) dLen dCap) (hoff : off = q * k) (hq : q + dLen ≤ n) (ad : Addr) (sLen sCap r : Nat) (hx : a.eval s = .slice (some ad) sLen sCap) (hr : Nat.min sLen dLen = r) (news : List Value) (hn : news.length = r * k)
    (hsrc : ∀ j v, news[j]? = some v → w.cell? (ad.add j) = some v) (h1 : ∀ v ∈ news, v.oneCell' = true)
    (h : ∀ w', w'.ownsRow B e k (.slice (some ⟨g, 0, none⟩) n c) n (L.take off ++ (news ++ L.drop (off + news.length))) → w.grownBy w' (some g) → wpList P ops Q rest (a.put o.dst (goInt r)) w') : wpList P ops Q (o :: rest) a w := by
  obtain ⟨w', hrun, h2, h3⟩ := run_copy_own (P := P) hown dT dT o.type hu hs off q dLen dCap hoff hq ad sLen sCap r hr news hn hsrc h1
  refine wpList_plain hgd fun K hK => ?_
  unfold Oper.wp
  simp [execOp, ho, resolve, invoke, builtin, hd, hx, hrun, Result.andThen]
  exact hK _ _ (h w' h2 h3)
theorem step_copy_cells {w : World} {ops : Array Oper} {o : Oper} {a : Act} {K : Act → World → Prop} {Q : Exit → Act → World → Prop} {E : Prop} (hgd : o.guard = none) (d s : Operand) (dT : TypeId)
    (ho : o.op = .call { callee := .builtin .copy, args := #[d, s], argTypes := #[dT, dT] }) {B : Nat} {e : TypeId} {g n c : Nat} {L : List Value} (hown : w.ownsRow B e k (.slice (some ⟨g, 0, none⟩) n c) n L) (hu : P.underlying dT = some (.slice e)) (hs : (P.info? e).map (·.size) = some k)
    (off q dLen dCap : Nat) (hd : a.eval d = .slice (some ⟨g, off, none⟩) dLen dCap) (hoff : off = q * k) (hq : q + dLen ≤ n) (ad : Addr) (sLen sCap r : Nat) (hx : a.eval s = .slice (some ad) sLen sCap) (hr : Nat.min sLen dLen = r) (news : List Value) (hn : news.length = r * k)
    (hsrc : ∀ j v, news[j]? = some v → w.cell? (ad.add j) = some v) (h1 : ∀ v ∈ news, v.oneCell' = true)
    (h : ∀ w', w'.ownsRow B e k (.slice (some ⟨g, 0, none⟩) n c) n (L.take off ++ (news ++ L.drop (off + news.length))) → w.grownBy w' (some g) → K (a.put o.dst (goInt r)) w') :
    if Region.wanted o (yielded ops a.tmps) = true then Oper.wp P o a w K Q else E := by
  have hw : Region.wanted o (yielded ops a.tmps) = true := by simp [Region.wanted, hgd]
  rw [if_pos hw]
  obtain ⟨w', hrun, h2, h3⟩ := run_copy_own (P := P) hown dT dT o.type hu hs off q dLen dCap hoff hq ad sLen sCap r hr news hn hsrc h1
  unfold Oper.wp
  simp [execOp, ho, resolve, invoke, builtin, hd, hx, hrun, Result.andThen]
  exact h w' h2 h3

/-- append(s[:i], make(S, m)...), where that does not fit: a row of one's own -/
theorem wpList_append_zeros {w : World} {ops : Array Oper} {rest : List Oper} {o : Oper} {a : Act} {Q : Exit → Act → World → Prop} (hgd : o.guard = none) (s x : Operand) (t tn : TypeId)
    (ho : o.op = .call { callee := .builtin .append, args := #[s, x], argTypes := #[t, tn] }) {B : Nat} {e : TypeId} {g n c : Nat} {L : List Value} (hown : w.ownsRow B e k (.slice (some ⟨g, 0, none⟩) n c) n L) (i0 : TypeInfo) (z : Value) (bytes : Nat)
    (ht : P.underlying t = some (.slice e)) (htn : P.underlying tn = some (.int .i64)) (hi : P.info? e = some i0) (hz : i0.zero = some z) (hsize : i0.size = k) (hby : i0.bytes = bytes) (hzs : z.cells.size = k) (k0 : 0 < k)
    (i m : Nat) (Z : Int) (hs : a.eval s = .slice (some ⟨g, 0, none⟩) i c) (hx : a.eval x = .int .i64 Z) (hZ : Z = (m : Int)) (hin : i ≤ n) (hm : 0 < m) (hc : c < i + m) (hbytes : (i + m) * bytes ≤ 140737488355328) (h63 : i + m ≤ maxLen) (hbase : B ≤ w.heap.size)
    (h : ∀ c' w', w'.ownsRow B e k (.slice (some ⟨w.heap.size, 0, none⟩) (i + m) c') (i + m) (L.take (i * k) ++ (Builtin.zeroCells z.cells m).toList) → w.grownBy w' none → i + m ≤ c' → c' ≤ maxLen → wpList P ops Q rest (a.put o.dst (.slice (some ⟨w.heap.size, 0, none⟩) (i + m) c')) w') : wpList P ops Q (o :: rest) a w := by
  have hik : i * k ≤ n * k := Nat.mul_le_mul_right _ hin
  have hLl : (L.take (i * k)).length = i * k := by rw [List.length_take, hown.1]; omega
  have hold : (Builtin.firstCells i0.size i (.slice (some ⟨g, 0, none⟩) i c)).run P w.drew = .ok (L.take (i * k)).toArray w.drew := by
    rw [hsize]
    exact run_firstCells_some w.drew k i ⟨g, 0, none⟩ i c (L.take (i * k)) hLl (fun j v hj => by
      rw [List.getElem?_take] at hj
      split at hj
      · exact hown.cells (g := g) rfl j v hj
      · cases hj)
  have hmb : m * bytes ≤ 140737488355328 := Nat.le_trans (Nat.mul_le_mul_right _ (by omega)) hbytes
  have hr := Lib.run_append_grow_zeros w t tn o.type e i0 z .i64 .i64 ht htn hi hz (some ⟨g, 0, none⟩) i c (L.take (i * k)) hold m hm (by omega) hc (by unfold maxLen at h63; omega) (by rw [hby]; omega) (by rw [hby]; exact growslice_fits hc hbytes)
  subst hZ
  refine Lib.wpList_append_run w hgd s x t tn ho _ _ hs hx _ _ hr ?_
  refine h _ _ ⟨?_, .inr ⟨w.heap.size, _, _, rfl, hbase, heap_alloc_new w.drew _, grownCap_ge w (i + m) c e, grownCap_le_maxLen w (i + m) c e h63, ?_, ?_⟩⟩ ⟨rfl, rfl, rfl, by simp, fun j hj _ => Below.heap_alloc w.drew _ j hj⟩ (grownCap_ge w (i + m) c e) (grownCap_le_maxLen w (i + m) c e h63)
  · rw [List.length_append, hLl, Array.length_toList, size_zeroCells, hzs, Nat.add_mul]
  · simp only [Array.size_append, List.size_toArray, size_zeroCells, hzs, hLl, ← Nat.add_mul]
    have := grownCap_ge w (i + m) c e
    congr 1
    omega
  · simp only [Array.toList_append]
    have e1 : (i + m) * k = (L.take (i * k) ++ (Builtin.zeroCells z.cells m).toList).length := by rw [List.length_append, hLl, Array.length_toList, size_zeroCells, hzs, Nat.add_mul]
    rw [e1]
    exact List.take_left
/-- s[:n+1], where there is room -/
theorem own_reslice {w : World} {B : Nat} {e : TypeId} {g n c : Nat} {L : List Value} (hown : w.ownsRow B e k (.slice (some ⟨g, 0, none⟩) n c) n L) (hc : n + 1 ≤ c) : ∃ J : List Value, J.length = k ∧ w.ownsRow B e k (.slice (some ⟨g, 0, none⟩) (n + 1) c) (n + 1) (L ++ J) := by
  rcases hown.2 with ⟨h', _⟩ | ⟨g', cap, cur, h', hb, hg, hnc, hcm, hcs, htake⟩
  · simp at h'
  · simp only [Value.slice.injEq, Option.some.injEq, Addr.mk.injEq, and_true, true_and] at h'
    obtain ⟨rfl, rfl⟩ := h'
    have hck : (n + 1) * k ≤ c * k := Nat.mul_le_mul_right _ hc
    have hnk : (n + 1) * k = n * k + k := by rw [Nat.add_mul]; omega
    refine ⟨(cur.toList.drop (n * k)).take k, ?_, ?_, .inr ⟨g, c, cur, rfl, hb, hg, hc, hcm, hcs, ?_⟩⟩
    · rw [List.length_take, List.length_drop, Array.length_toList, hcs]; omega
    · rw [List.length_append, hown.1, List.length_take, List.length_drop, Array.length_toList, hcs]; omega
    · rw [← htake, hnk, List.take_add]
theorem row_sub {α : Type} {cs : α → List Value} {w : World} {b o n : Nat} {vs : List α} (h : Row k cs w (some ⟨b, o, none⟩) n vs) (i : Nat) : Row k cs w (some ⟨b, o + i * k, none⟩) (n - i) (vs.drop i) := by
  refine ⟨by rw [List.length_drop, h.1], ?_⟩
  rcases h.2 with h' | ⟨b', o', e, hlt, hc⟩
  · subst h'; exact .inl (by simp)
  · cases e
    refine .inr ⟨b, o + i * k, rfl, hlt, fun j v hv t u hu => ?_⟩
    rw [List.getElem?_drop] at hv
    have := hc (i + j) v hv t u hu
    rw [Nat.add_mul] at this
    rw [← this]
    congr 2
    omega
end
end Go.Proofs.Ytlegjdlmcphhlab
