/- TEXTS LAID TOGETHER: Of, Ask, Queue, Actg, Recv, Commonc, Cmath -/
import Derived.Test.YtcjobmbbikfnaadPart7
import Derived.Test.YtcjobmbbikfnaadPart6
/-
  TREES AS MAPS: the reference's Of.
-/
namespace Go.Proofs.Ytcjobmbbikfnaad
open Go.RowKit
open Go.ChangeMaps (setBlock)

/-- the map's function tells what the tree has -/
def Agree (w : World) (f : Int → Option Value) (xs : List M.Nd) : Prop :=
  ∀ k, (f k = none ∧ M.find xs k = none) ∨ ∃ (v : NV) (x : M.Nd), f k = some v.val ∧ M.find xs k = some x ∧ Cont w v x
theorem Agree.below {B : Nat} {w w' : World} {f : Int → Option Value} {xs : List M.Nd} (h : Agree w f xs) (hB : w.heap.size ≤ B) (hb : Below B w w') : Agree w' f xs := fun k =>
  (h k).imp id fun ⟨v, x, h1, h2, h3⟩ => ⟨v, x, h1, h2, h3.below hB hb⟩
theorem agree_nil (w : World) : Agree w (fun _ => none) [] := fun _ => .inl ⟨rfl, rfl⟩
def TMap (w : World) (b : Nat) (xs : List M.Nd) : Prop := ∃ f, IMap w b f ∧ Agree w f xs
theorem TMap.below {B : Nat} {w w' : World} {b : Nat} {xs : List M.Nd} (h : TMap w b xs) (hB : w.heap.size ≤ B) (hb : Below B w w') : TMap w' b xs := by
  obtain ⟨f, h1, h2⟩ := h
  exact ⟨f, h1.below hB hb, h2.below hB hb⟩
theorem find_fid {xs : List M.Nd} {k : Int} {x : M.Nd} (h : M.find xs k = some x) : x.fid = k := by
  unfold M.find at h
  have := List.find?_some h
  simpa using this
theorem find_snoc {xs : List M.Nd} {x : M.Nd} (hr : M.RsN (xs ++ [x])) (k : Int) : M.find (xs ++ [x]) k = if k = x.fid then some x else M.find xs k := by
  have hno : M.find xs x.fid = none := by
    unfold M.find
    rw [List.find?_eq_none]
    intro y hy
    have hp : M.Rs M.ltI ((xs ++ [x]).map (·.fid)) := hr
    unfold M.Rs at hp
    rw [List.map_append, List.pairwise_append] at hp
    have := hp.2.2 y.fid (List.mem_map.2 ⟨y, hy, rfl⟩) x.fid (by simp)
    simp [M.ltI] at this
    simp
    omega
  unfold M.find at hno ⊢
  rw [List.find?_append]
  by_cases hk : k = x.fid
  · subst hk
    rw [hno, if_pos rfl]
    simp
  · rw [if_neg hk]
    have : ([x].find? fun x => decide (x.fid = k)) = none := by simp [Ne.symm hk]
    rw [this]
    simp
theorem agree_upd {w : World} {f : Int → Option Value} {xs ys : List M.Nd} {v : NV} {x : M.Nd} (h : Agree w f xs) (hc : Cont w v x) (hf : ∀ k, M.find ys k = if k = x.fid then some x else M.find xs k) : Agree w (updF f v.fid v.val) ys := by
  intro k
  rw [hf k]
  unfold updF
  rw [hc.1]
  by_cases hk : k = x.fid
  · rw [if_pos hk, if_pos hk]; exact .inr ⟨v, x, rfl, rfl, hc⟩
  · rw [if_neg hk, if_neg hk]; exact h k

/-- so far -/
def OfInv (w : World) (b : Nat) (xs : List M.Nd) (wr : World) : Prop := (∃ f, IMap wr b f ∧ Agree w f xs) ∧ Below w.heap.size w wr
theorem of_step {w : World} {b : Nat} {xs ys : List M.Nd} {v : NV} {x : M.Nd} {wr : World} (h : OfInv w b xs wr) (hwb : w.heap.size ≤ b) (hc : Cont w v x) (hf : ∀ k, M.find ys k = if k = x.fid then some x else M.find xs k) :
    ∃ o : Obj, (Instr.mapUpdate 31 (.map (some b)) (.int .i64 v.fid) v.val).run Try.prog wr = .ok () (setBlock wr b o) ∧ OfInv w b ys (setBlock wr b o) := by
  obtain ⟨⟨f, hi, ha⟩, hb⟩ := h
  obtain ⟨o, hrun, him⟩ := run_update_map 31 41 Try.underlying31 hi v.fid v.val
  exact ⟨o, hrun, ⟨_, him, agree_upd ha hc hf⟩, setBlock_below hb hwb o⟩
theorem OfInv.alloc {w : World} {b : Nat} {xs : List M.Nd} {wr : World} (h : OfInv w b xs wr) (o : Obj) : OfInv w b xs (wr.alloc o) := by
  obtain ⟨⟨f, hi, ha⟩, hb⟩ := h
  exact ⟨⟨f, hi.below (Nat.le_refl _) ((Below.refl _ _).alloc (Nat.le_refl _) o), ha⟩, hb.alloc hb.size o⟩
theorem OfInv.tmap {w : World} {b : Nat} {xs : List M.Nd} {wr : World} (h : OfInv w b xs wr) : TMap wr b xs := by
  obtain ⟨⟨f, hi, ha⟩, hb⟩ := h
  exact ⟨f, hi, ha.below (Nat.le_refl _) hb⟩
theorem rs_takeN {xs : List M.Nd} (k : Nat) (h : M.RsN xs) : M.RsN (xs.take k) := M.rs_sub h ((List.take_sublist k xs).map _)

set_option maxHeartbeats 2000000 in
theorem of_any (A : Option Addr) (n c : Nat) (vs : List NV) (xs : List M.Nd) (w : World) (ht : Tree w A n vs xs) (hr : M.RsN xs) (hn : n * 72 ≤ 140737488355328) :
    Calls Try.prog 9 #[.slice A n c] w fun e w' => ∃ b, e = .returned (.map (some b)) ∧ TMap w' b xs ∧ Below w.heap.size w w' := by
  have HT : Hid (Tree w A n vs xs ∧ M.RsN xs) := ⟨ht, hr⟩
  have HL : Hid (n = xs.length) := by show n = _; rw [ht.1.1, ht.2.1]
  have hmm := @run_makeMap Try.prog
  have H0 : Hid (OfInv w w.heap.size [] (w.alloc (.map #[] 0))) := ⟨⟨_, IMap.new w, agree_nil w⟩, (Below.refl _ _).alloc (Nat.le_refl _) _⟩
  clear ht hr
  go_enter Try.func9, Try.ntmps9
  go_wp2
  go_loopw [9] (fun i wr => ∃ k : Nat, k ≤ n ∧ i = .int .i64 k ∧ OfInv w w.heap.size (xs.take k) wr) (fun i _ => n - (intOf i).toNat)
  case atStart => exact ⟨0, Nat.zero_le _, rfl, H0.out⟩
  case round =>
    obtain ⟨k, hk, rfl, hinv⟩ := hrel
    have HI : Hid (OfInv w w.heap.size (xs.take k) wr) := hinv
    have hb := hinv.2
    clear hinv
    by_cases hlt : k < n
    · have hxr := HT.out.1.below (Nat.le_refl _) hb
      obtain ⟨b, o, v, hA, _, hvk, a0, a1, a2, a3, a4⟩ := hxr.1.at hlt
      obtain ⟨x, hxk, hcx⟩ := HT.out.1.2.at hvk
      have HX : Hid (Cont w v x ∧ xs[k]? = some x) := ⟨hcx, hxk⟩
      have HF : Hid (∀ q, M.find (xs.take (k + 1)) q = if q = x.fid then some x else M.find (xs.take k) q) := by
        intro q
        have h1 := rs_takeN (k + 1) HT.out.2
        rw [take_step hxk] at h1 ⊢
        exact find_snoc h1 q
      obtain ⟨ob, hrun, hinv2⟩ := of_step (HI.out.alloc (.cells #[.int .i64 v.fid, .bool v.dir, .slice v.dA v.dn v.dc, .slice v.eA v.en v.ec, .int .i64 v.ver] 41)) (Nat.le_refl _) hcx HF.out
      have HI2 : Hid (OfInv w w.heap.size (xs.take (k + 1)) (setBlock (wr.alloc (.cells #[.int .i64 v.fid, .bool v.dir, .slice v.dA v.dn v.dc, .slice v.eA v.en v.ec, .int .i64 v.ver] 41)) w.heap.size ob)) := hinv2
      have hkn : (k : Int) < (n : Int) := by omega
      have hk0 : (0 : Int) ≤ (k : Int) := by omega
      subst hA
      clear hxr hvk hxk hcx hinv2
      go_wp2
      go_roundw
      case rel => exact ⟨k + 1, by omega, by go_num, HI2.out⟩
      case measure => simp [intOf]; omega
    · have HN : Hid (xs.take k = xs) := by have := HL.out; show _ = _; exact List.take_of_length_le (by omega)
      go_wp2
      go_ret
      have h1 := HI.out
      rw [HN.out] at h1
      exact ⟨_, rfl, h1.tmap, hb⟩
end Go.Proofs.Ytcjobmbbikfnaad
/-
  A TREE AS A MAP, asked.
-/
namespace Go.Proofs.Ytcjobmbbikfnaad
open Go.RowKit

theorem zero26 (w : World) : (zeroValue 41).run Try.prog w = .ok NV.zero.val w := by
  obtain ⟨i26, hi26, hz26, hs26, hb26⟩ := info_parts info26
  simp [zeroValue, typeInfo, hi26, hz26, NV.zero]
theorem IMap.ask {w : World} {bm : Nat} {xs : List M.Nd} (h : TMap w bm xs) (k : Int) :
    (M.find xs k = none ∧ ∀ ok : Bool, (Instr.lookup 31 (.map (some bm)) (.int .i64 k) ok).run Try.prog w = .ok (if ok then .tuple #[NV.zero.val, .bool false] else NV.zero.val) w) ∨
    ∃ (v : NV) (x : M.Nd), M.find xs k = some x ∧ Cont w v x ∧ ∀ ok : Bool, (Instr.lookup 31 (.map (some bm)) (.int .i64 k) ok).run Try.prog w = .ok (if ok then .tuple #[v.val, .bool true] else v.val) w := by
  obtain ⟨f, hi, ha⟩ := h
  rcases ha k with ⟨h1, h2⟩ | ⟨v, x, h1, h2, h3⟩
  · refine .inl ⟨h2, fun ok => ?_⟩
    rw [run_lookup_map 31 41 Try.underlying31 (zero26 w) hi k ok, h1]
    rfl
  · refine .inr ⟨v, x, h2, h3, fun ok => ?_⟩
    rw [run_lookup_map 31 41 Try.underlying31 (zero26 w) hi k ok, h1]
    rfl

end Go.Proofs.Ytcjobmbbikfnaad
/-
  A QUEUE OF NUMBERS in one's own memory: appended at its end, cut at its front.
-/
namespace Go.Proofs.Ytcjobmbbikfnaad
open Go.RowKit
open Go.ChangeMaps (setBlock)

theorem cell_new1 (w : World) (g : Nat) (v : Value) (t : TypeId) (hg : g = w.heap.size) : ∀ j x, [v][j]? = some x → (w.alloc (.cells #[v] t)).cell? ((⟨g, 0, none⟩ : Addr).add j) = some x := by
  subst hg
  intro j x hj
  cases j with
  | succ j => cases hj
  | zero =>
    cases hj
    simp [Addr.add_lit]
/-- from off on in block g lie the numbers l, with room for c -/
def Que (w : World) (B g off c : Nat) (l : List Int) : Prop :=
  B ≤ g ∧ l.length ≤ c ∧ c ≤ maxLen ∧ ∃ cur : Array Value, w.heap[g]? = some (.cells cur 3 (0, 0)) ∧ off + c ≤ cur.size ∧ ∀ (j : Nat) f, l[j]? = some f → cur[off + j]? = some (.int .i64 f)
theorem Que.lt {w : World} {B g off c : Nat} {l : List Int} (h : Que w B g off c l) : g < w.heap.size := by
  obtain ⟨_, _, _, cur, hg, _⟩ := h
  exact lt_of_block hg
theorem Que.cell {w : World} {B g off c : Nat} {l : List Int} (h : Que w B g off c l) {j : Nat} {f : Int} (hj : l[j]? = some f) : w.cell? ⟨g, off + j, none⟩ = some (.int .i64 f) := by
  obtain ⟨_, _, _, cur, hg, _, hc⟩ := h
  have := hc j f hj
  simp [World.cell?, hg, this]
theorem Que.same {w w' : World} {B g off c : Nat} {l : List Int} (h : Que w B g off c l) (hb : w'.heap[g]? = w.heap[g]?) : Que w' B g off c l := by
  obtain ⟨h1, h2, h3, cur, hg, h4⟩ := h
  exact ⟨h1, h2, h3, cur, by rw [hb]; exact hg, h4⟩
theorem Que.alloc {w : World} {B g off c : Nat} {l : List Int} (h : Que w B g off c l) (o : Obj) : Que (w.alloc o) B g off c l := h.same (Below.heap_alloc w o g h.lt)
theorem Que.setBlock {w : World} {B g off c : Nat} {l : List Int} (h : Que w B g off c l) {b : Nat} (hb : g ≠ b) (o : Obj) : Que (setBlock w b o) B g off c l := h.same (setBlock_other hb)
theorem Que.tail1 {w : World} {B g off : Nat} {f : Int} {l : List Int} (h : Que w B g off 1 (f :: l)) : Que w B g off 0 l := by
  obtain ⟨h1, h2, h3, cur, hg, h4, h5⟩ := h
  have hl : l = [] := List.eq_nil_of_length_eq_zero (by have h : l.length + 1 ≤ 1 := h2; omega)
  subst hl
  exact ⟨h1, by simp, by unfold maxLen; omega, cur, hg, by omega, fun j f hj => by cases hj⟩
theorem Que.tail {w : World} {B g off c : Nat} {f : Int} {l : List Int} (h : Que w B g off c (f :: l)) : Que w B g (off + 1) (c - 1) l := by
  obtain ⟨h1, h2, h3, cur, hg, h4, h5⟩ := h
  simp at h2
  refine ⟨h1, by omega, by omega, cur, hg, by omega, fun j f hj => ?_⟩
  have := h5 (j + 1) f hj
  rw [show off + (j + 1) = off + 1 + j by omega] at this
  exact this
theorem que_new (w : World) (B : Nat) (f : Int) (hB : B ≤ w.heap.size) : Que (w.alloc (.cells #[.int .i64 f] 3)) B w.heap.size 0 1 [f] :=
  ⟨hB, by simp, by unfold maxLen; omega, #[.int .i64 f], heap_alloc_new w _, by simp, fun j q hj => by
    cases j with
    | succ j => cases hj
    | zero => cases hj; rfl⟩

section
variable {P : Program} (w : World)
theorem run_append_que (B : Nat) (t ty : TypeId) (i : TypeInfo) (ht : P.underlying t = some (.slice 3)) (hi : P.info? 3 = some i) (hz : i.zero = some (.int .i64 0)) (hsize : i.size = 1) (hby : i.bytes = 8)
    (g off c : Nat) (l : List Int) (hq : Que w B g off c l) (a : Addr) (k : Nat) (f : Int) (hnews : ∀ j u, [Value.int .i64 f][j]? = some u → w.cell? (a.add j) = some u)
    (hbytes : (l.length + 1) * 8 ≤ 140737488355328) (hB : B ≤ w.heap.size) :
    ∃ g' off' c' w', (Builtin.append_ #[t, t] ty #[.slice (some ⟨g, off, none⟩) l.length c, .slice (some a) 1 k]).run P w = .ok (.slice (some ⟨g', off', none⟩) (l.length + 1) c') w' ∧ Que w' B g' off' c' (l ++ [f]) ∧ w.grownBy w' (some g) := by
  obtain ⟨h1, h2, h3, cur, hg, h4, h5⟩ := hq
  by_cases hroom : l.length + 1 ≤ c
  · have hf := run_firstCells_some (P := P) w i.size 1 a 1 k [Value.int .i64 f] (by rw [hsize]; rfl) hnews
    have hst := run_storeCells_at P g (off + l.length) 3 [Value.int .i64 f] 0 cur w hg (by simp; omega) (fun u hu => by simp at hu; subst hu; rfl)
    simp only [Nat.add_zero] at hst
    refine ⟨g, off, c, w.setRow g (cur.toList.take (off + l.length) ++ [Value.int .i64 f] ++ cur.toList.drop (off + l.length + 1)).toArray, ?_, ⟨h1, by simp; omega, h3, _, setRow_heap w g cur _ 3 _ hg, ?_, ?_⟩, ⟨rfl, rfl, rfl, by simp, fun k _ hk => setRow_other w g k _ (fun e => hk (by simp [e]))⟩⟩
    · rw [hsize] at hf
      simp [Builtin.append_, run_underlying ht, sizeOf, typeInfo, hi, hsize, Builtin.lenOf, hroom, hf, Addr.add_lit, hst]
    · simp only [List.size_toArray, List.length_append, List.length_take, List.length_drop, Array.length_toList, List.length_singleton]
      omega
    · intro j q hj
      have hsz : cur.toList.length = cur.size := Array.length_toList
      have hcl : (cur.toList.take (off + l.length)).length = off + l.length := by rw [List.length_take, hsz]; omega
      rw [List.getElem?_toArray]
      rcases Nat.lt_or_ge j l.length with hjl | hjl
      · rw [List.getElem?_append_left hjl] at hj
        rw [List.append_assoc, List.getElem?_append_left (by rw [hcl]; omega), List.getElem?_take, if_pos (by omega), Array.getElem?_toList]
        exact h5 j q hj
      · rw [List.getElem?_append_right hjl] at hj
        have hj0 : j = l.length := by
          rcases Nat.eq_or_lt_of_le hjl with e | e
          · exact e.symm
          · rw [List.getElem?_eq_none (by simp; omega)] at hj; cases hj
        subst hj0
        rw [Nat.sub_self] at hj
        cases hj
        rw [List.append_assoc, List.getElem?_append_right (by rw [hcl]; omega), hcl, Nat.sub_self]
        rfl
  · have holds : ∀ j u, (l.map fun f => Value.int .i64 f)[j]? = some u → w.cell? ((⟨g, off, none⟩ : Addr).add j) = some u := by
      intro j u hj
      rw [List.getElem?_map] at hj
      cases hlj : l[j]? with
      | none => rw [hlj] at hj; cases hj
      | some q =>
        rw [hlj] at hj
        cases hj
        rw [Addr.add_lit]
        simp [World.cell?, hg, h5 j q hlj]
    have hr := run_append_grow (P := P) w t ty 3 i (.int .i64 0) ht hi hz ⟨g, off, none⟩ l.length c (l.map fun f => Value.int .i64 f) (by rw [hsize]; simp) holds a 1 k [.int .i64 f] (by rw [hsize]; rfl) hnews (by omega) (by omega) (growslice_fits (by omega) (by rw [hby]; exact hbytes))
    have hge := grownCap_ge w (l.length + 1) c 3
    have hcm : grownCap w (l.length + 1) c 3 ≤ maxLen := grownCap_le_maxLen w (l.length + 1) c 3 (by unfold maxLen; omega)
    refine ⟨_, _, _, _, hr, ⟨by simpa using hB, by simp; omega, hcm, _, heap_alloc_new w.drew _, ?_, ?_⟩, ⟨rfl, rfl, rfl, by simp, fun k hk _ => Below.heap_alloc w.drew _ k hk⟩⟩
    · simp only [Array.size_append, List.size_toArray, List.length_map, List.length_singleton, size_zeroCells]
      show 0 + _ ≤ _ + _ * (Value.cells (.int .i64 0)).size
      rw [show (Value.cells (.int .i64 0)).size = 1 from rfl]
      omega
    · intro j q hj
      rw [Nat.zero_add]
      have hjl : j < l.length + 1 := by
        have := (List.getElem?_eq_some_iff.1 hj).1
        simpa using this
      rw [Array.getElem?_append_left (by simp; omega)]
      have e : ((l.map fun f => Value.int .i64 f).toArray ++ [Value.int .i64 f].toArray) = ((l ++ [f]).map fun f => Value.int .i64 f).toArray := by simp
      rw [e, List.getElem?_toArray, List.getElem?_map, hj]
      rfl
theorem wpList_append_que {ops : Array Oper} {rest : List Oper} {o : Oper} {a : Act} {Q : Exit → Act → World → Prop} (hgd : o.guard = none) (s x : Operand) (t : TypeId)
    (ho : o.op = .call { callee := .builtin .append, args := #[s, x], argTypes := #[t, t] })
    (B : Nat) (i : TypeInfo) (ht : P.underlying t = some (.slice 3)) (hi : P.info? 3 = some i) (hz : i.zero = some (.int .i64 0)) (hsize : i.size = 1) (hby : i.bytes = 8)
    (g off c n : Nat) (l : List Int) (hn : n = l.length) (hs : a.eval s = .slice (some ⟨g, off, none⟩) n c) (hq : Que w B g off c l) (ad : Addr) (k : Nat) (f : Int) (hx : a.eval x = .slice (some ad) 1 k) (hnews : ∀ j u, [Value.int .i64 f][j]? = some u → w.cell? (ad.add j) = some u)
    (hbytes : (l.length + 1) * 8 ≤ 140737488355328) (hB : B ≤ w.heap.size)
    (h : ∀ g' off' c' w', Que w' B g' off' c' (l ++ [f]) → w.grownBy w' (some g) → wpList P ops Q rest (a.put o.dst (.slice (some ⟨g', off', none⟩) (n + 1) c')) w') : wpList P ops Q (o :: rest) a w := by
  subst hn
  refine wpList_plain hgd fun K hK => ?_
  obtain ⟨g', off', c', w', hr, h2, h3⟩ := run_append_que (P := P) w B t o.type i ht hi hz hsize hby g off c l hq ad k f hnews hbytes hB
  unfold Oper.wp execOp
  simp only [ho, resolve, invoke, builtin, Sem.run_bind, Sem.run_pure, Result.andThen_ok, List.map_toArray, List.map_cons, List.map_nil, hs, hx, hr]
  exact hK _ _ (h g' off' c' w' h2 h3)
end

/-- which were had -/
def hadF (H : List Int) : Int → Option Value := fun q => if q ∈ H then some (.bool true) else none
theorem hadF_add (H : List Int) (q : Int) : updF (hadF H) q (.bool true) = hadF (H ++ [q]) := by
  funext k
  unfold updF hadF
  by_cases h : k = q
  · subst h; simp
  · simp [h]
theorem hadF_ask (H : List Int) (q : Int) : (hadF H q).getD (.bool false) = .bool (decide (q ∈ H)) := by
  unfold hadF
  by_cases h : q ∈ H <;> simp [h]
end Go.Proofs.Ytcjobmbbikfnaad
/-
  PACKAGE acts: Fids, Own; and the reference's Fids.
-/
namespace Go.Proofs.Ytcjobmbbikfnaad
open Go.RowKit

/-- what Fids answers -/
def FidsPost (w : World) (ac : M.Act) (e : Ending) (w' : World) : Prop :=
  ∃ (A : Option Addr) (c : Nat), e = .returned (.slice A (M.fidsS ac).length c) ∧ w'.ownsRow w.heap.size 3 1 (.slice A (M.fidsS ac).length c) (M.fidsS ac).length ((M.fidsS ac).map fun f => Value.int .i64 f) ∧ Below w.heap.size w w'
theorem fids_start (w : World) (a : AV) : ∀ W, W = (w.alloc (.cells #[.int .i64 a.kind, .int .i64 a.fid, .int .i64 a.dir, .string a.name, .int .i64 a.to, .string a.toName, .slice a.dA a.dn a.dc] 36)).alloc (.cells #[.int .i64 a.fid] 3) →
    Below w.heap.size w W ∧ BoxA W w.heap.size a ∧ W.ownsRow w.heap.size 3 1 (.slice (some ⟨w.heap.size + 1, 0, none⟩) 1 1) 1 [.int .i64 a.fid] ∧ W.heap.size = w.heap.size + 2 := by
  rintro W rfl
  refine ⟨((Below.refl _ _).alloc (Nat.le_refl _) _).alloc (by simp) _, (BoxA.new w a).alloc _, ?_, by simp⟩
  have h := World.ownsRow_lit (e := 3) (size := 1) (base := w.heap.size) (w.alloc (.cells #[.int .i64 a.kind, .int .i64 a.fid, .int .i64 a.dir, .string a.name, .int .i64 a.to, .string a.toName, .slice a.dA a.dn a.dc] 36)) #[.int .i64 a.fid] 1 (by simp) (by decide) rfl
  simpa using h
theorem fids_grow {w W w2 : World} {a : AV} {O : Obj} {g : Nat} {c : Nat} {B2 : Option Addr} {c2 : Nat} {L : List Value} (q1 : Below w.heap.size w W) (q2 : BoxA W w.heap.size a) (q4 : W.heap.size = w.heap.size + 2)
    (hg : (W.alloc O).grownBy w2 (Value.slice (some ⟨w.heap.size + 1, 0, none⟩) g c).ownBlock) (ho : w2.ownsRow w.heap.size 3 1 (.slice B2 2 c2) 2 L) : Below w.heap.size w w2 ∧ BoxA w2 w.heap.size a ∧ w2.ownsRow w.heap.size 3 1 (.slice B2 2 c2) 2 L := by
  have hk : ∀ k, (Value.slice (some ⟨w.heap.size + 1, 0, none⟩) g c).ownBlock = some k → k = w.heap.size + 1 := fun k hk => by simp [Value.ownBlock] at hk; exact hk.symm
  refine ⟨Below.grown (q1.alloc (by omega) O) hg (by simp; omega) (fun k h => by have := hk k h; omega), ?_, ho⟩
  unfold BoxA at q2 ⊢
  rw [hg.block w.heap.size (by simp; omega) (fun e => by have := hk _ e.symm; omega), Below.heap_alloc _ _ _ (by omega)]
  exact q2

set_option maxHeartbeats 1000000 in
theorem fids_any (a : AV) (ac : M.Act) (w : World) (ha : ContA w a ac) : Calls Try.prog 32 #[a.val] w (FidsPost w ac) := by
  obtain ⟨i0, hi, hz, hsz, hbz⟩ := info_parts info3
  have HW : Hid _ := fids_start w a
  have HK : Hid (a.kind = ac.kind ∧ a.fid = ac.fid ∧ a.dir = ac.dir ∧ a.to = ac.to) := ⟨ha.1, ha.2.1, ha.2.2.1, ha.2.2.2.2.1⟩
  clear ha
  by_cases h3 : a.kind = 3
  · have k3 : (a.kind == 3) = true := by simp [h3]
    have k3' : (a.kind != 3) = false := by simp [h3]
    have k5 : (a.kind == 5) = false := by simp [h3]
    have HS : Hid (M.fidsS ac = [a.fid]) := by show _ = _; unfold M.fidsS; rw [← HK.out.1, if_pos h3, if_neg (by rw [h3]; decide), HK.out.2.1]; rfl
    clear h3
    go_enter Try.func32, Try.ntmps32
    go_wp2_with (fail)
    go_ret
    obtain ⟨q1, q2, q3, q4⟩ := HW.out _ rfl
    exact ⟨_, 1, by rw [HS.out]; rfl, by rw [HS.out]; exact q3, q1⟩
  · have k3 : (a.kind == 3) = false := by simp [h3]
    have k3' : (a.kind != 3) = true := by simp [h3]
    by_cases h5 : a.kind = 5
    · have k5 : (a.kind == 5) = true := by simp [h5]
      have HS : Hid (M.fidsS ac = [a.fid, a.dir, a.to]) := by show _ = _; unfold M.fidsS; rw [← HK.out.1, if_neg h3, if_pos h5, HK.out.2.1, HK.out.2.2.1, HK.out.2.2.2]; rfl
      clear h3 h5
      go_enter Try.func32, Try.ntmps32
      go_wp2_with (first
        | (have HQ := HB2; clear HQ; at_builtin; refine wpList_append_own _ (by rfl) (.tmp 18) (.tmp 21) 46 (by rfl) w.heap.size 3 i0 (.int .i64 0) 1 8 Try.underlying46 hi hz hsz hbz rfl (by decide) _ 2 _ (by rfl) (HB2.out.2.2.alloc _) ⟨w2.heap.size, 0, none⟩ 1 1 [.int .i64 a.to] (by rfl) rfl (cell_new1 _ _ _ _ rfl) (fun u hu => by simp at hu; subst hu; rfl) (by unfold maxLen; omega) (by omega) (by simp; omega) ?_; intro v3 w3 hown3 hg3 _; obtain ⟨B3, c3, rfl, _, _⟩ := own_form hown3; have HP : Hid (FidsPost w ac (.returned (.slice B3 3 c3)) w3) := ⟨B3, c3, by rw [HS.out]; rfl, by rw [HS.out]; exact hown3, Below.grown (HB2.out.1.alloc (by omega) _) hg3 (by simp; omega) (fun k hk => by have := (HB2.out.2.2.lt k hk).1; omega)⟩; clear hown3 hg3)
        | (at_builtin; refine wpList_append_own _ (by rfl) (.tmp 10) (.tmp 13) 46 (by rfl) w.heap.size 3 i0 (.int .i64 0) 1 8 Try.underlying46 hi hz hsz hbz rfl (by decide) _ 1 _ (by rfl) ((HW.out _ rfl).2.2.1.alloc _) ⟨w.heap.size + 1 + 1, 0, none⟩ 1 1 [.int .i64 a.dir] (by rfl) rfl (cell_new1 _ _ _ _ (by simp)) (fun u hu => by simp at hu; subst hu; rfl) (by unfold maxLen; omega) (by omega) (by simp; omega) ?_; intro v2 w2 hown2 hg2 _; obtain ⟨B2, c2, rfl, _, _⟩ := own_form hown2; have HB2 : Hid (Below w.heap.size w w2 ∧ BoxA w2 w.heap.size a ∧ w2.ownsRow w.heap.size 3 1 (.slice B2 2 c2) 2 [.int .i64 a.fid, .int .i64 a.dir]) := fids_grow (HW.out _ rfl).1 (HW.out _ rfl).2.1 (HW.out _ rfl).2.2.2 hg2 hown2; clear hown2 hg2 HW; obtain ⟨a0, a1, a2, a3, a4, a5, a6, af, az⟩ := HB2.out.2.1.facts))
      go_ret
      exact HP.out
    · have k5 : (a.kind == 5) = false := by simp [h5]
      have HS : Hid (M.fidsS ac = [a.fid, a.dir]) := by show _ = _; unfold M.fidsS; rw [← HK.out.1, if_neg h3, if_neg h5, HK.out.2.1, HK.out.2.2.1]; rfl
      clear h3 h5
      go_enter Try.func32, Try.ntmps32
      go_wp2_with (at_builtin; refine wpList_append_own _ (by rfl) (.tmp 10) (.tmp 13) 46 (by rfl) w.heap.size 3 i0 (.int .i64 0) 1 8 Try.underlying46 hi hz hsz hbz rfl (by decide) _ 1 _ (by rfl) ((HW.out _ rfl).2.2.1.alloc _) ⟨w.heap.size + 1 + 1, 0, none⟩ 1 1 [.int .i64 a.dir] (by rfl) rfl (cell_new1 _ _ _ _ (by simp)) (fun u hu => by simp at hu; subst hu; rfl) (by unfold maxLen; omega) (by omega) (by simp; omega) ?_; intro v2 w2 hown2 hg2 _; obtain ⟨B2, c2, rfl, _, _⟩ := own_form hown2; have HB2 : Hid (Below w.heap.size w w2 ∧ BoxA w2 w.heap.size a ∧ w2.ownsRow w.heap.size 3 1 (.slice B2 2 c2) 2 [.int .i64 a.fid, .int .i64 a.dir]) := fids_grow (HW.out _ rfl).1 (HW.out _ rfl).2.1 (HW.out _ rfl).2.2.2 hg2 hown2; clear hown2 hg2 HW; obtain ⟨a0, a1, a2, a3, a4, a5, a6, af, az⟩ := HB2.out.2.1.facts)
      go_ret
      exact ⟨B2, c2, by rw [HS.out]; rfl, by rw [HS.out]; exact HB2.out.2.2, HB2.out.1⟩

set_option maxHeartbeats 1000000 in
theorem refFids_any (a : AV) (ac : M.Act) (w : World) (ha : ContA w a ac) : Calls Try.prog 10 #[a.val] w (FidsPost w ac) := by
  obtain ⟨i0, hi, hz, hsz, hbz⟩ := info_parts info3
  have HW : Hid _ := fids_start w a
  have HK : Hid (a.kind = ac.kind ∧ a.fid = ac.fid ∧ a.dir = ac.dir ∧ a.to = ac.to) := ⟨ha.1, ha.2.1, ha.2.2.1, ha.2.2.2.2.1⟩
  clear ha
  by_cases h3 : a.kind = 3
  · have k3 : (a.kind == 3) = true := by simp [h3]
    have k3' : (a.kind != 3) = false := by simp [h3]
    have k5 : (a.kind == 5) = false := by simp [h3]
    have HS : Hid (M.fidsS ac = [a.fid]) := by show _ = _; unfold M.fidsS; rw [← HK.out.1, if_pos h3, if_neg (by rw [h3]; decide), HK.out.2.1]; rfl
    clear h3
    go_enter Try.func10, Try.ntmps10
    go_wp2_with (fail)
    go_ret
    obtain ⟨q1, q2, q3, q4⟩ := HW.out _ rfl
    exact ⟨_, 1, by rw [HS.out]; rfl, by rw [HS.out]; exact q3, q1⟩
  · have k3 : (a.kind == 3) = false := by simp [h3]
    have k3' : (a.kind != 3) = true := by simp [h3]
    by_cases h5 : a.kind = 5
    · have k5 : (a.kind == 5) = true := by simp [h5]
      have HS : Hid (M.fidsS ac = [a.fid, a.dir, a.to]) := by show _ = _; unfold M.fidsS; rw [← HK.out.1, if_neg h3, if_pos h5, HK.out.2.1, HK.out.2.2.1, HK.out.2.2.2]; rfl
      clear h3 h5
      go_enter Try.func10, Try.ntmps10
      go_wp2_with (first
        | (have HQ := HB2; clear HQ; at_builtin; refine wpList_append_own _ (by rfl) (.tmp 18) (.tmp 21) 46 (by rfl) w.heap.size 3 i0 (.int .i64 0) 1 8 Try.underlying46 hi hz hsz hbz rfl (by decide) _ 2 _ (by rfl) (HB2.out.2.2.alloc _) ⟨w2.heap.size, 0, none⟩ 1 1 [.int .i64 a.to] (by rfl) rfl (cell_new1 _ _ _ _ rfl) (fun u hu => by simp at hu; subst hu; rfl) (by unfold maxLen; omega) (by omega) (by simp; omega) ?_; intro v3 w3 hown3 hg3 _; obtain ⟨B3, c3, rfl, _, _⟩ := own_form hown3; have HP : Hid (FidsPost w ac (.returned (.slice B3 3 c3)) w3) := ⟨B3, c3, by rw [HS.out]; rfl, by rw [HS.out]; exact hown3, Below.grown (HB2.out.1.alloc (by omega) _) hg3 (by simp; omega) (fun k hk => by have := (HB2.out.2.2.lt k hk).1; omega)⟩; clear hown3 hg3)
        | (at_builtin; refine wpList_append_own _ (by rfl) (.tmp 10) (.tmp 13) 46 (by rfl) w.heap.size 3 i0 (.int .i64 0) 1 8 Try.underlying46 hi hz hsz hbz rfl (by decide) _ 1 _ (by rfl) ((HW.out _ rfl).2.2.1.alloc _) ⟨w.heap.size + 1 + 1, 0, none⟩ 1 1 [.int .i64 a.dir] (by rfl) rfl (cell_new1 _ _ _ _ (by simp)) (fun u hu => by simp at hu; subst hu; rfl) (by unfold maxLen; omega) (by omega) (by simp; omega) ?_; intro v2 w2 hown2 hg2 _; obtain ⟨B2, c2, rfl, _, _⟩ := own_form hown2; have HB2 : Hid (Below w.heap.size w w2 ∧ BoxA w2 w.heap.size a ∧ w2.ownsRow w.heap.size 3 1 (.slice B2 2 c2) 2 [.int .i64 a.fid, .int .i64 a.dir]) := fids_grow (HW.out _ rfl).1 (HW.out _ rfl).2.1 (HW.out _ rfl).2.2.2 hg2 hown2; clear hown2 hg2 HW; obtain ⟨a0, a1, a2, a3, a4, a5, a6, af, az⟩ := HB2.out.2.1.facts))
      go_ret
      exact HP.out
    · have k5 : (a.kind == 5) = false := by simp [h5]
      have HS : Hid (M.fidsS ac = [a.fid, a.dir]) := by show _ = _; unfold M.fidsS; rw [← HK.out.1, if_neg h3, if_neg h5, HK.out.2.1, HK.out.2.2.1]; rfl
      clear h3 h5
      go_enter Try.func10, Try.ntmps10
      go_wp2_with (at_builtin; refine wpList_append_own _ (by rfl) (.tmp 10) (.tmp 13) 46 (by rfl) w.heap.size 3 i0 (.int .i64 0) 1 8 Try.underlying46 hi hz hsz hbz rfl (by decide) _ 1 _ (by rfl) ((HW.out _ rfl).2.2.1.alloc _) ⟨w.heap.size + 1 + 1, 0, none⟩ 1 1 [.int .i64 a.dir] (by rfl) rfl (cell_new1 _ _ _ _ (by simp)) (fun u hu => by simp at hu; subst hu; rfl) (by unfold maxLen; omega) (by omega) (by simp; omega) ?_; intro v2 w2 hown2 hg2 _; obtain ⟨B2, c2, rfl, _, _⟩ := own_form hown2; have HB2 : Hid (Below w.heap.size w w2 ∧ BoxA w2 w.heap.size a ∧ w2.ownsRow w.heap.size 3 1 (.slice B2 2 c2) 2 [.int .i64 a.fid, .int .i64 a.dir]) := fids_grow (HW.out _ rfl).1 (HW.out _ rfl).2.1 (HW.out _ rfl).2.2.2 hg2 hown2; clear hown2 hg2 HW; obtain ⟨a0, a1, a2, a3, a4, a5, a6, af, az⟩ := HB2.out.2.1.facts)
      go_ret
      exact ⟨B2, c2, by rw [HS.out]; rfl, by rw [HS.out]; exact HB2.out.2.2, HB2.out.1⟩

/-- an act whose bytes are the call's own -/
def OwnA (w : World) (B : Nat) (a : AV) (x : M.Act) : Prop := a.kind = x.kind ∧ a.fid = x.fid ∧ a.dir = x.dir ∧ a.name = x.name ∧ a.to = x.to ∧ a.toName = x.toName ∧ w.ownsRow B 5 1 (.slice a.dA a.dn a.dc) a.dn (x.data.flatMap byteCells1)
theorem OwnA.cont {w : World} {B : Nat} {a : AV} {x : M.Act} (h : OwnA w B a x) : ContA w a x := ⟨h.1, h.2.1, h.2.2.1, h.2.2.2.1, h.2.2.2.2.1, h.2.2.2.2.2.1, Row.ofOwn byt_len (by decide) h.2.2.2.2.2.2⟩
def AV.zero : AV := ⟨0, 0, 0, ⟨#[]⟩, 0, ⟨#[]⟩, none, 0, 0⟩
set_option maxHeartbeats 1000000 in
theorem ownAct_any (a : AV) (ac : M.Act) (w : World) (ha : ContA w a ac) (hs : ac.data.length ≤ 140737488355328) :
    Calls Try.prog 37 #[a.val] w fun e w' => ∃ a' : AV, e = .returned a'.val ∧ OwnA w' w.heap.size a' ac ∧ Below w.heap.size w w' := by
  obtain ⟨i5, hi5, hz5, hs5, hb5⟩ := info_parts info5
  have hdn := ha.2.2.2.2.2.2.1
  rw [← hdn] at hs
  have HA : Hid (ContA w a ac) := ha
  clear ha hdn
  have HB0 : Hid (∀ W : World, W = (w.alloc (.cells #[.int .i64 a.kind, .int .i64 a.fid, .int .i64 a.dir, .string a.name, .int .i64 a.to, .string a.toName, .slice a.dA a.dn a.dc] 36)).alloc (.cells #[.int .i64 0, .int .i64 0, .int .i64 0, .string ⟨#[]⟩, .int .i64 0, .string ⟨#[]⟩, .slice none 0 0] 36) → BoxA W w.heap.size a ∧ BoxA W (w.heap.size + 1) AV.zero ∧ W.heap.size = w.heap.size + 2 ∧ Below w.heap.size w W) := by
    rintro W rfl
    refine ⟨(BoxA.new w a).alloc _, ?_, by simp, ((Below.refl _ _).alloc (Nat.le_refl _) _).alloc (by simp) _⟩
    have h := heap_alloc_new (w.alloc (.cells #[.int .i64 a.kind, .int .i64 a.fid, .int .i64 a.dir, .string a.name, .int .i64 a.to, .string a.toName, .slice a.dA a.dn a.dc] 36)) (.cells #[.int .i64 0, .int .i64 0, .int .i64 0, .string ⟨#[]⟩, .int .i64 0, .string ⟨#[]⟩, .slice none 0 0] 36)
    unfold BoxA
    simpa [AV.zero] using h
  go_enter Try.func37, Try.ntmps37
  go_wp2_with (at_builtin; refine wpList_append_row _ (by rfl) (.const (.slice none 0 0)) (.tmp 4) 34 (by rfl) (w.heap.size + 2) 5 i5 (.int .u8 0) 1 Try.underlying34 hi5 hz5 hs5 hb5 rfl (by decide) _ 0 [] rfl (World.ownsRow_nil _ _ _ _) a.dA a.dn a.dc ac.data rfl (HA.out.2.2.2.2.2.2.below (Nat.le_refl _) (HB0.out _ rfl).2.2.2) byt_len byt_one (by unfold maxLen; omega) (by omega) (by simp) ?_; intro v1 w1 hown1 hg1; rw [Nat.zero_add, List.nil_append] at hown1; obtain ⟨A1, c1, rfl, hA1, hA2⟩ := own_form hown1; have hb1 := grown_below hg1; clear hg1; obtain ⟨q0, q1, q2, q3⟩ := HB0.out _ rfl; have hbw1 : Below w.heap.size w w1 := q3.trans (hb1.mono (by omega)); have HX1 : Hid (BoxA w1 w.heap.size a ∧ BoxA w1 (w.heap.size + 1) AV.zero ∧ w1.ownsRow (w.heap.size + 2) 5 1 (.slice A1 a.dn c1) a.dn (ac.data.flatMap byteCells1)) := ⟨q0.below hb1 (by omega), q1.below hb1 (by omega), hown1⟩; have hz1 := hb1.size; rw [q2] at hz1; clear hb1 q0 q1 q2 q3 hown1; obtain ⟨a0, a1, a2, a3, a4, a5, a6, af, az⟩ := HX1.out.1.facts; obtain ⟨z0, z1, z2, z3, z4, z5, z6, zf, zz⟩ := HX1.out.2.1.facts)
  have hbl : ∀ (W : World) (s o : Nat) (u : Value), Below w.heap.size w W → w.heap.size ≤ s → Below w.heap.size w (W.setCell ⟨s, o, none⟩ u) := fun W s o u h hs => h.setCell (p := ⟨s, o, none⟩) hs u
  have hol : ∀ (W : World) (s o : Nat) (u : Value), W.ownsRow (w.heap.size + 2) 5 1 (.slice A1 a.dn c1) a.dn (ac.data.flatMap byteCells1) → s < w.heap.size + 2 → (W.setCell ⟨s, o, none⟩ u).ownsRow (w.heap.size + 2) 5 1 (.slice A1 a.dn c1) a.dn (ac.data.flatMap byteCells1) := fun W s o u h hs => ownsRow_setCell_below h (a := ⟨s, o, none⟩) hs u
  refine bodyPost_ret (v := AV.val ⟨a.kind, a.fid, a.dir, a.name, a.to, a.toName, A1, a.dn, c1⟩) (by simp [results, Try.results37, go_sem, z0, z1, z2, z3, z4, z5, z6]) rfl ⟨⟨a.kind, a.fid, a.dir, a.name, a.to, a.toName, A1, a.dn, c1⟩, rfl, ⟨HA.out.1, HA.out.2.1, HA.out.2.2.1, HA.out.2.2.2.1, HA.out.2.2.2.2.1, HA.out.2.2.2.2.2.1, own_mono ?_ (Nat.le_add_right _ 2)⟩, ?_⟩
  · exact hol _ _ _ _ (hol _ _ _ _ (hol _ _ _ _ (hol _ _ _ _ (hol _ _ _ _ (hol _ _ _ _ (hol _ _ _ _ (hol _ _ _ _ HX1.out.2.2 (by omega)) (by omega)) (by omega)) (by omega)) (by omega)) (by omega)) (by omega)) (by omega)
  · exact hbl _ _ _ _ (hbl _ _ _ _ (hbl _ _ _ _ (hbl _ _ _ _ (hbl _ _ _ _ (hbl _ _ _ _ (hbl _ _ _ _ (hbl _ _ _ _ hbw1 (by omega)) (by omega)) (by omega)) (by omega)) (by omega)) (by omega)) (by omega)) (by omega)
end Go.Proofs.Ytcjobmbbikfnaad
/-
  RECORDS in memory, and lists of acts; acts.Makes.
-/
namespace Go.Proofs.Ytcjobmbbikfnaad
open Go.RowKit

theorem info48 : (Try.prog.info? 38).map (fun i => (i.zero, i.size, i.bytes)) = some (some (.agg #[.int .i64 0, .int .i64 0, .int .i64 0, .string ByteArray.empty, .int .i64 0, .string ByteArray.empty, .slice none 0 0, .int .i64 0, .int .i64 0]), 9, 104) := by kernel_rfl
/-- a record's value -/
structure RV where
  a : AV
  ver : Int
  id : Int
def RV.cells (r : RV) : List Value := [.int .i64 r.a.kind, .int .i64 r.a.fid, .int .i64 r.a.dir, .string r.a.name, .int .i64 r.a.to, .string r.a.toName, .slice r.a.dA r.a.dn r.a.dc, .int .i64 r.ver, .int .i64 r.id]
@[reducible] def RV.val (r : RV) : Value := .agg #[.int .i64 r.a.kind, .int .i64 r.a.fid, .int .i64 r.a.dir, .string r.a.name, .int .i64 r.a.to, .string r.a.toName, .slice r.a.dA r.a.dn r.a.dc, .int .i64 r.ver, .int .i64 r.id]
@[reducible] def RV.obj (r : RV) : Obj := .cells #[.int .i64 r.a.kind, .int .i64 r.a.fid, .int .i64 r.a.dir, .string r.a.name, .int .i64 r.a.to, .string r.a.toName, .slice r.a.dA r.a.dn r.a.dc, .int .i64 r.ver, .int .i64 r.id] 38
@[reducible] def AV.obj (a : AV) : Obj := .cells #[.int .i64 a.kind, .int .i64 a.fid, .int .i64 a.dir, .string a.name, .int .i64 a.to, .string a.toName, .slice a.dA a.dn a.dc] 36
theorem rec_len (x : RV) : x.cells.length = 9 := rfl
theorem rec_one (x : RV) : ∀ u ∈ x.cells, u.oneCell' = true := by intro u hu; simp [RV.cells] at hu; rcases hu with rfl | rfl | rfl | rfl | rfl | rfl | rfl | rfl | rfl <;> rfl
/-- the value r is the record x -/
def ContR (w : World) (r : RV) (x : M.Rec) : Prop := ContA w r.a x.act ∧ r.ver = x.ver ∧ r.id = x.id
theorem ContR.below {B : Nat} {w w' : World} {r : RV} {x : M.Rec} (h : ContR w r x) (hB : w.heap.size ≤ B) (hb : Below B w w') : ContR w' r x := ⟨h.1.below hB hb, h.2⟩
/-- nothing of it is too long -/
def SmallR (x : M.Rec) : Prop := x.act.name.size ≤ maxLen ∧ x.act.toName.size ≤ maxLen ∧ x.act.data.length ≤ 140737488355328
def BoxR (w : World) (s : Nat) (r : RV) : Prop := w.heap[s]? = some (.cells #[.int .i64 r.a.kind, .int .i64 r.a.fid, .int .i64 r.a.dir, .string r.a.name, .int .i64 r.a.to, .string r.a.toName, .slice r.a.dA r.a.dn r.a.dc, .int .i64 r.ver, .int .i64 r.id] 38 (0, 0))
theorem BoxR.facts {w : World} {s : Nat} {r : RV} (h : BoxR w s r) : w.cell? ⟨s, 0, none⟩ = some (.int .i64 r.a.kind) ∧ w.cell? ⟨s, 1, none⟩ = some (.int .i64 r.a.fid) ∧ w.cell? ⟨s, 2, none⟩ = some (.int .i64 r.a.dir) ∧ w.cell? ⟨s, 3, none⟩ = some (.string r.a.name) ∧
    w.cell? ⟨s, 4, none⟩ = some (.int .i64 r.a.to) ∧ w.cell? ⟨s, 5, none⟩ = some (.string r.a.toName) ∧ w.cell? ⟨s, 6, none⟩ = some (.slice r.a.dA r.a.dn r.a.dc) ∧ w.cell? ⟨s, 7, none⟩ = some (.int .i64 r.ver) ∧ w.cell? ⟨s, 8, none⟩ = some (.int .i64 r.id) ∧ (∀ o, w.frozen? ⟨s, o, none⟩ = false) ∧ s < w.heap.size := by
  unfold BoxR at h
  refine ⟨by simp [World.cell?, h], by simp [World.cell?, h], by simp [World.cell?, h], by simp [World.cell?, h], by simp [World.cell?, h], by simp [World.cell?, h], by simp [World.cell?, h], by simp [World.cell?, h], by simp [World.cell?, h], fun o => by simp [World.frozen?, h], lt_of_block h⟩
theorem BoxR.below {w w' : World} {s B : Nat} {r : RV} (h : BoxR w s r) (hb : Below B w w') (hs : s < B) : BoxR w' s r := by
  unfold BoxR at h ⊢; rw [hb.block s hs]; exact h
theorem BoxR.alloc {w : World} {s : Nat} {r : RV} (h : BoxR w s r) (o : Obj) : BoxR (w.alloc o) s r := by
  unfold BoxR at h ⊢; rw [Below.heap_alloc w o s (lt_of_block h)]; exact h
theorem BoxR.new (w : World) (r : RV) : BoxR (w.alloc r.obj) w.heap.size r := heap_alloc_new w _
abbrev Recs := Row 9 RV.cells
theorem Recs.at {w : World} {A : Option Addr} {n : Nat} {vs : List RV} (h : Recs w A n vs) {j : Nat} (hj : j < n) :
    ∃ b o v, A = some ⟨b, o, none⟩ ∧ b < w.heap.size ∧ vs[j]? = some v ∧ w.cell? ⟨b, o + j * 9, none⟩ = some (.int .i64 v.a.kind) ∧ w.cell? ⟨b, o + j * 9 + 1, none⟩ = some (.int .i64 v.a.fid) ∧
      w.cell? ⟨b, o + j * 9 + 2, none⟩ = some (.int .i64 v.a.dir) ∧ w.cell? ⟨b, o + j * 9 + 3, none⟩ = some (.string v.a.name) ∧ w.cell? ⟨b, o + j * 9 + 4, none⟩ = some (.int .i64 v.a.to) ∧ w.cell? ⟨b, o + j * 9 + 5, none⟩ = some (.string v.a.toName) ∧ w.cell? ⟨b, o + j * 9 + 6, none⟩ = some (.slice v.a.dA v.a.dn v.a.dc) ∧ w.cell? ⟨b, o + j * 9 + 7, none⟩ = some (.int .i64 v.ver) ∧ w.cell? ⟨b, o + j * 9 + 8, none⟩ = some (.int .i64 v.id) := by
  obtain ⟨b, o, v, e, hlt, hv, hc⟩ := Row.at h hj
  exact ⟨b, o, v, e, hlt, hv, hc 0 _ rfl, hc 1 _ rfl, hc 2 _ rfl, hc 3 _ rfl, hc 4 _ rfl, hc 5 _ rfl, hc 6 _ rfl, hc 7 _ rfl, hc 8 _ rfl⟩
/-- a log that came in; a log of one's own -/
def TreeR (w : World) (A : Option Addr) (n : Nat) (vs : List RV) (xs : List M.Rec) : Prop := Recs w A n vs ∧ All2 (ContR w) vs xs
theorem TreeR.below {B : Nat} {w w' : World} {A : Option Addr} {n : Nat} {vs : List RV} {xs : List M.Rec} (h : TreeR w A n vs xs) (hB : w.heap.size ≤ B) (hb : Below B w w') : TreeR w' A n vs xs :=
  ⟨h.1.below hB hb, h.2.imp fun _ _ h => h.below hB hb⟩
theorem TreeR.len {w : World} {A : Option Addr} {n : Nat} {vs : List RV} {xs : List M.Rec} (h : TreeR w A n vs xs) : n = xs.length := by rw [h.1.1, h.2.1]
theorem OwnA.below {B C : Nat} {w w' : World} {v : AV} {x : M.Act} (h : OwnA w B v x) (hC : w.heap.size ≤ C) (hb : Below C w w') : OwnA w' B v x :=
  ⟨h.1, h.2.1, h.2.2.1, h.2.2.2.1, h.2.2.2.2.1, h.2.2.2.2.2.1, own_below h.2.2.2.2.2.2 hb hC⟩
theorem OwnA.mono {B B' : Nat} {w : World} {v : AV} {x : M.Act} (h : OwnA w B v x) (hB : B' ≤ B) : OwnA w B' v x :=
  ⟨h.1, h.2.1, h.2.2.1, h.2.2.2.1, h.2.2.2.2.1, h.2.2.2.2.2.1, own_mono h.2.2.2.2.2.2 hB⟩
theorem OwnA.grown {w w' : World} {B B' : Nat} {v : AV} {x : M.Act} {e' : TypeId} {k' : Nat} {v' : Value} {n' : Nat} {xs' : List Value} (h : OwnA w B v x) (h' : w.ownsRow B' e' k' v' n' xs') (hne : 5 ≠ e') (hg : w.grownBy w' v'.ownBlock) : OwnA w' B v x :=
  ⟨h.1, h.2.1, h.2.2.1, h.2.2.2.1, h.2.2.2.2.1, h.2.2.2.2.2.1, own_grown h.2.2.2.2.2.2 h' hne hg⟩
def OwnR (w : World) (B : Nat) (r : RV) (x : M.Rec) : Prop := OwnA w B r.a x.act ∧ r.ver = x.ver ∧ r.id = x.id
theorem OwnR.cont {w : World} {B : Nat} {r : RV} {x : M.Rec} (h : OwnR w B r x) : ContR w r x := ⟨h.1.cont, h.2⟩
theorem OwnR.below {B C : Nat} {w w' : World} {v : RV} {x : M.Rec} (h : OwnR w B v x) (hC : w.heap.size ≤ C) (hb : Below C w w') : OwnR w' B v x := ⟨h.1.below hC hb, h.2⟩
theorem OwnR.mono {B B' : Nat} {w : World} {v : RV} {x : M.Rec} (h : OwnR w B v x) (hB : B' ≤ B) : OwnR w B' v x := ⟨h.1.mono hB, h.2⟩
def OwnL (w : World) (B : Nat) (A : Option Addr) (n c : Nat) (vs : List RV) (xs : List M.Rec) : Prop := w.ownsRow B 38 9 (.slice A n c) n (vs.flatMap RV.cells) ∧ All2 (OwnR w B) vs xs
theorem OwnL.tree {w : World} {B : Nat} {A : Option Addr} {n c : Nat} {vs : List RV} {xs : List M.Rec} (h : OwnL w B A n c vs xs) : TreeR w A n vs xs :=
  ⟨Row.ofOwn rec_len (by decide) h.1, h.2.imp fun _ _ h => h.cont⟩
theorem OwnL.below {B C : Nat} {w w' : World} {A : Option Addr} {n c : Nat} {vs : List RV} {xs : List M.Rec} (h : OwnL w B A n c vs xs) (hC : w.heap.size ≤ C) (hb : Below C w w') : OwnL w' B A n c vs xs :=
  ⟨own_below h.1 hb hC, h.2.imp fun _ _ h => h.below hC hb⟩
theorem OwnL.mono {B B' : Nat} {w : World} {A : Option Addr} {n c : Nat} {vs : List RV} {xs : List M.Rec} (h : OwnL w B A n c vs xs) (hB : B' ≤ B) : OwnL w B' A n c vs xs :=
  ⟨own_mono h.1 hB, h.2.imp fun _ _ h => h.mono hB⟩
theorem OwnL.nil (w : World) (B : Nat) : OwnL w B none 0 0 [] [] := ⟨World.ownsRow_nil _ _ _ _, All2.nil⟩
/-- one more is behind -/
theorem OwnL.snoc {w w' : World} {B : Nat} {A : Option Addr} {n c : Nat} {A' : Option Addr} {n' c' : Nat} {vs : List RV} {xs : List M.Rec} {r : RV} {x : M.Rec} (h : OwnL w B A n c vs xs) (hr : OwnR w B r x) (ho : w'.ownsRow B 38 9 (.slice A' n' c') n' (vs.flatMap RV.cells ++ r.cells)) (hg : w.grownBy w' (Value.slice A n c).ownBlock) : OwnL w' B A' n' c' (vs ++ [r]) (xs ++ [x]) := by
  refine ⟨?_, All2.append (h.2.imp fun _ _ k => ⟨k.1.grown h.1 (by decide) hg, k.2⟩) (All2.one ⟨hr.1.grown h.1 (by decide) hg, hr.2⟩)⟩
  rw [List.flatMap_append]
  simpa using ho

theorem fm_ints : ∀ fs : List Int, (fs.flatMap fun f : Int => [Value.int .i64 f]) = fs.map fun f => Value.int .i64 f
  | [] => rfl
  | f :: fs => by rw [List.flatMap_cons, fm_ints fs]; rfl
theorem making_any (a : AV) (w : World) : Calls Try.prog 23 #[a.val] w fun e w' => e = .returned (.bool (decide (a.kind = 1) || decide (a.kind = 2))) ∧ Below w.heap.size w w' := by
  have HW : Hid (Below w.heap.size w (w.alloc a.obj)) := (Below.refl _ _).alloc (Nat.le_refl _) _
  by_cases h1 : a.kind = 1
  · have k1 : (a.kind == 1) = true := by simp [h1]
    have HR : Hid ((decide (a.kind = 1) || decide (a.kind = 2)) = true) := by show _ = _; simp [h1]
    clear h1
    go_enter Try.func23, Try.ntmps23
    go_wp2
    go_ret
    exact ⟨ret_bool HR.out.symm, HW.out⟩
  · have k1 : (a.kind == 1) = false := by simp [h1]
    by_cases h2 : a.kind = 2
    · have k2 : (a.kind == 2) = true := by simp [h2]
      have HR : Hid ((decide (a.kind = 1) || decide (a.kind = 2)) = true) := by show _ = _; simp [h2]
      clear h1 h2
      go_enter Try.func23, Try.ntmps23
      go_wp2
      go_ret
      exact ⟨ret_bool HR.out.symm, HW.out⟩
    · have k2 : (a.kind == 2) = false := by simp [h2]
      have HR : Hid ((decide (a.kind = 1) || decide (a.kind = 2)) = false) := by show _ = _; simp [h1, h2]
      clear h1 h2
      go_enter Try.func23, Try.ntmps23
      go_wp2
      go_ret
      exact ⟨ret_bool HR.out.symm, HW.out⟩
theorem infoA : (Try.prog.info? 36).map (fun i => (i.zero, i.size, i.bytes)) = some (some (.agg #[.int .i64 0, .int .i64 0, .int .i64 0, .string ByteArray.empty, .int .i64 0, .string ByteArray.empty, .slice none 0 0]), 7, 88) := by kernel_rfl
theorem rowA_box {w : World} {s : Nat} {r : AV} (h : BoxA w s r) : Row 7 AV.cells w (some ⟨s, 0, none⟩) 1 [r] := by
  refine ⟨rfl, .inr ⟨s, 0, rfl, lt_of_block h, fun j v hv i c hi => ?_⟩⟩
  obtain ⟨b0, b1, b2, b3, b4, b5, b6, bf, bz⟩ := h.facts
  cases j with
  | succ j => cases hv
  | zero =>
    cases hv
    match i, hi with
    | 0, hi => cases hi; exact b0
    | 1, hi => cases hi; exact b1
    | 2, hi => cases hi; exact b2
    | 3, hi => cases hi; exact b3
    | 4, hi => cases hi; exact b4
    | 5, hi => cases hi; exact b5
    | 6, hi => cases hi; exact b6
    | i + 7, hi => cases hi
def OwnAs (w : World) (B : Nat) (A : Option Addr) (n c : Nat) (vs : List AV) (xs : List M.Act) : Prop := w.ownsRow B 36 7 (.slice A n c) n (vs.flatMap AV.cells) ∧ All2 (OwnA w B) vs xs
theorem OwnAs.tree {w : World} {B : Nat} {A : Option Addr} {n c : Nat} {vs : List AV} {xs : List M.Act} (h : OwnAs w B A n c vs xs) : TreeA w A n vs xs :=
  ⟨Row.ofOwn act_len (by decide) h.1, h.2.imp fun _ _ h => h.cont⟩
theorem OwnAs.below {B C : Nat} {w w' : World} {A : Option Addr} {n c : Nat} {vs : List AV} {xs : List M.Act} (h : OwnAs w B A n c vs xs) (hC : w.heap.size ≤ C) (hb : Below C w w') : OwnAs w' B A n c vs xs :=
  ⟨own_below h.1 hb hC, h.2.imp fun _ _ h => h.below hC hb⟩
theorem OwnAs.snoc {w w' : World} {B : Nat} {A : Option Addr} {n c : Nat} {A' : Option Addr} {n' c' : Nat} {vs : List AV} {xs : List M.Act} {r : AV} {x : M.Act} (h : OwnAs w B A n c vs xs) (hr : OwnA w B r x) (ho : w'.ownsRow B 36 7 (.slice A' n' c') n' (vs.flatMap AV.cells ++ r.cells)) (hg : w.grownBy w' (Value.slice A n c).ownBlock) : OwnAs w' B A' n' c' (vs ++ [r]) (xs ++ [x]) := by
  refine ⟨?_, All2.append (h.2.imp fun _ _ k => k.grown h.1 (by decide) hg) (All2.one (hr.grown h.1 (by decide) hg))⟩
  rw [List.flatMap_append]
  simpa using ho
theorem snoc_belowA {w W w2 : World} {A : Option Addr} {m c : Nat} {L : List Value} (hb : Below w.heap.size w W) (ho : W.ownsRow w.heap.size 36 7 (.slice A m c) m L) (hg : W.grownBy w2 (Value.slice A m c).ownBlock) : Below w.heap.size w w2 :=
  Below.grown hb hg hb.size (fun k hk => by
    rcases ho.2 with ⟨e, _⟩ | ⟨g, cap, cur, e, h1, _⟩
    · cases e; cases hk
    · cases e; cases hk; exact h1)
theorem actsLen {w : World} {B : Nat} {A : Option Addr} {n c : Nat} {vs : List AV} {xs : List M.Act} (h : OwnAs w B A n c vs xs) : n = xs.length := by rw [h.tree.1.1, h.2.1]

end Go.Proofs.Ytcjobmbbikfnaad
/-
  RECORDS AS THEY ARE READ.
-/
namespace Go.Proofs.Ytcjobmbbikfnaad
open Go.ChangeShapes Go.WideShapes Go.ChangeAt Go.RowKit Go.Deep

theorem cellsR : Try.prog.cellsOf 38 = 9 := by kernel_rfl
theorem bytesR : Try.prog.bytesOf 38 = 104 := by kernel_rfl
section
variable {H : Type} {enc : TypeId × Value → H}
instance : Inhabited RV := ⟨⟨default, 0, 0⟩⟩
instance : Inhabited M.Rec := ⟨⟨default, 0, 0⟩⟩
set_option maxRecDepth 8000 in
/-- a record that came in -/
theorem open_rec {W : World} {sp : Nat → Bool} {held : Bool} {fuel : Nat} {cs : List Value} {x : DataW H × List MemPlace} (h : DataW.trod enc Try.prog W 0 sp held fuel 38 cs = some x) :
    ∃ (v : RV) (y : M.Rec), cs = v.cells ∧ ContR W v y ∧ y.act.name.size ≤ maxLen ∧ y.act.toName.size ≤ maxLen ∧ (Sized 38 x.1 → y.act.data.length ≤ reachBytes) := by
  obtain ⟨ys, m, _, rfl, hl, hys, hf⟩ := DataW.trod_struct Try.underlying38 h
  rw [cellsR] at hl
  obtain ⟨c0, c1, c2, c3, c4, c5, c6, c7, c8, rfl⟩ : ∃ a b c d e f g i j, cs = [a, b, c, d, e, f, g, i, j] := by
    match cs, hl with
    | [a, b, c, d, e, f, g, i, j], _ => exact ⟨a, b, c, d, e, f, g, i, j, rfl⟩
  have f0 : DataW.trod enc Try.prog W 0 sp held m 36 (([c0, c1, c2, c3, c4, c5, c6, c7, c8].drop 0).take (Try.prog.cellsOf 36)) = ys[0]? := hf 0 _ rfl
  rw [cellsA] at f0
  change DataW.trod enc Try.prog W 0 sp held m 36 [c0, c1, c2, c3, c4, c5, c6] = ys[0]? at f0
  have f1 : DataW.trod enc Try.prog W 0 sp held m 3 (([c0, c1, c2, c3, c4, c5, c6, c7, c8].drop 7).take (Try.prog.cellsOf 3)) = ys[1]? := hf 1 _ rfl
  rw [cells3] at f1
  change DataW.trod enc Try.prog W 0 sp held m 3 [c7] = ys[1]? at f1
  have f2 : DataW.trod enc Try.prog W 0 sp held m 3 (([c0, c1, c2, c3, c4, c5, c6, c7, c8].drop 8).take (Try.prog.cellsOf 3)) = ys[2]? := hf 2 _ rfl
  rw [cells3] at f2
  change DataW.trod enc Try.prog W 0 sp held m 3 [c8] = ys[2]? at f2
  have hlen : ys.length = 3 := hys
  have g : ∀ k, k < 3 → ∃ y, ys[k]? = some y := fun k hk => ⟨_, List.getElem?_eq_getElem (by omega)⟩
  obtain ⟨y0, g0⟩ := g 0 (by omega)
  obtain ⟨y1, g1⟩ := g 1 (by omega)
  obtain ⟨y2, g2⟩ := g 2 (by omega)
  rw [g0] at f0
  rw [g1] at f1
  rw [g2] at f2
  obtain ⟨va, a, e0, hc, s1, s2, s3⟩ := open_act f0
  obtain ⟨z1, e1, _, _⟩ := DataW.trod_int Try.underlying3 f1
  obtain ⟨z2, e2, _, _⟩ := DataW.trod_int Try.underlying3 f2
  cases e1; cases e2
  refine ⟨⟨va, z1, z2⟩, ⟨a, z1, z2⟩, ?_, ⟨hc, rfl, rfl⟩, s1, s2, fun hsz => ?_⟩
  · simp only [AV.cells, List.cons.injEq, and_true] at e0
    obtain ⟨rfl, rfl, rfl, rfl, rfl, rfl, rfl⟩ := e0
    rfl
  · exact s3 (sized_field (H := H) (j := 0) Try.underlying38 hsz rfl (by rw [List.getElem?_map, g0]; rfl))
/-- a log that came in -/
theorem open_recs {W : World} {sp : Nat → Bool} {held : Bool} {fuel : Nat} {l : List Value} {x : DataW H × List MemPlace} (h : DataW.trod enc Try.prog W 0 sp held fuel 23 l = some x) :
    ∃ (A : Option Addr) (n c : Nat) (vs : List RV) (xs : List M.Rec), l = [.slice A n c] ∧ n ≤ c ∧ c ≤ maxLen ∧ TreeR W A n vs xs ∧ (Sized 23 x.1 → n * 104 ≤ reachBytes ∧ ∀ y ∈ xs, SmallA y.act) ∧ n ≤ Rows.uptoBulk x.1 := by
  obtain ⟨A, n, c, vs, xs, rfl, h1, h2, h3, h4, h5⟩ := open_rows RV.cells rec_len (by decide) Try.underlying23 cellsR (ContR W) (fun d y => y.act.name.size ≤ maxLen ∧ y.act.toName.size ≤ maxLen ∧ (Sized (H := H) 38 d → y.act.data.length ≤ reachBytes)) (fun h => by obtain ⟨v, y, e, hc, a1, a2, a3⟩ := open_rec h; exact ⟨v, y, e, hc, a1, a2, a3⟩) h
  have hnx : n = xs.length := by rw [h3.1, h4.1]
  refine ⟨A, n, c, vs, xs, rfl, h1, h2, ⟨h3, h4⟩, fun hs => ?_, ?_⟩
  · rcases h5 with ⟨_, h0⟩ | ⟨es, spare, he, hl, hS⟩
    · refine ⟨by rw [h0]; simp, fun y hy => ?_⟩
      rw [h0] at hnx
      rw [List.eq_nil_of_length_eq_zero hnx.symm] at hy
      cases hy
    · rw [he] at hs
      refine ⟨?_, fun y hy => ?_⟩
      · have := sized_len Try.underlying23 hs
        rw [bytesR] at this
        omega
      · obtain ⟨j, hj⟩ := List.getElem?_of_mem hy
        obtain ⟨d, hd, s1, s2, s3⟩ := hS j y hj
        exact smallA_of s1 s2 (s3 (sized_elem Try.underlying23 hs (List.mem_of_getElem? hd)))
  · rcases h5 with ⟨_, h0⟩ | ⟨es, spare, he, hl, hS⟩
    · omega
    · rw [he]
      have h6 := bulk_slice es spare
      have h7 := bulk_len es
      omega
theorem rec_val {v : Value} {x : RV} (h : v.cells.toList = x.cells) : v = x.val := by
  cases v <;> simp [Value.cells, RV.cells] at h
  rename_i xs
  rw [RV.val]
  congr 1
  apply Array.ext'
  exact h
end
end Go.Proofs.Ytcjobmbbikfnaad
/-
  PLAIN MATHEMATICS of chapter 6: whether records may still be done.
-/
namespace Go.Proofs.Ytcjobmbbikfnaad
namespace M
/-- how far the judging has come -/
structure St where
  tr : List Nd
  next : Int
  ver : Int
  done : List Act
  made : Int → Option Int
  tch : Int → Bool
  ref : Int → Bool
/-- a fid as it is here -/
def turnS (s : St) (a : Act) (f : Int) : Int := if makeB a && decide (f = a.fid) then s.next else (s.made f).getD f
def hereS (s : St) (a : Act) : Act := { a with fid := turnS s a a.fid, dir := turnS s a a.dir, to := if a.kind = 5 then turnS s a a.to else a.to }
def restS (s : St) (a : Act) : Bool := (fidsS a).any s.ref
def freshS (s : St) (f : Int) : Bool := decide (f < 0) && !(s.made f).isSome
def otherS (xs : List Nd) (f v : Int) : Bool := match find xs f with
  | none => true
  | some x => !decide (x.ver = v)
def staleS (s : St) (a : Act) (v : Int) : Bool := (decide (a.kind = 3) || decide (a.kind = 4)) && decide (0 ≤ v) && !s.tch a.fid && otherS s.tr a.fid v
noncomputable def tryS (s : St) (r : Rec) : Int × List Nd :=
  if restS s r.act = true then (14, [])
  else if (makeB r.act && !freshS s r.act.fid) = true then (2, [])
  else if staleS s (hereS s r.act) r.ver = true then (13, [])
  else applyS s.tr (hereS s r.act) s.ver
def updM (f : Int → Option Int) (k v : Int) : Int → Option Int := fun q => if q = k then some v else f q
def updB (f : Int → Bool) (ks : List Int) : Int → Bool := fun q => f q || decide (q ∈ ks)
/-- refused -/
def noS (s : St) (r : Rec) : St := { s with ref := updB s.ref [r.act.fid] }
/-- done -/
def yesS (s : St) (r : Rec) (ys : List Nd) : St :=
  { tr := ys, next := if makeB r.act then s.next + 1 else s.next, ver := s.ver + 1, done := s.done ++ [hereS s r.act],
    made := if makeB r.act then updM s.made r.act.fid (hereS s r.act).fid else s.made, tch := updB s.tch (fidsS (hereS s r.act)), ref := s.ref }
noncomputable def stepS (s : St) (r : Rec) : St := if (tryS s r).1 = 0 then yesS s r (tryS s r).2 else noS s r
/-- the verdict: what is wrong, and its fid -/
noncomputable def verdS (s : St) (r : Rec) : Int × Int := if (tryS s r).1 = 0 then (0, (hereS s r.act).fid) else ((tryS s r).1, 0)
noncomputable def judS : St → List Rec → St
  | s, [] => s
  | s, r :: l => judS (stepS s r) l
noncomputable def verS : St → List Rec → List (Int × Int)
  | _, [] => []
  | s, r :: l => verdS s r :: verS (stepS s r) l
def begS (xs : List Nd) (next ver : Int) : St := ⟨xs, next, ver, [], fun _ => none, fun _ => false, fun _ => false⟩

theorem jud_append : ∀ (l m : List Rec) (s : St), judS s (l ++ m) = judS (judS s l) m
  | [], _, _ => rfl
  | r :: l, m, s => jud_append l m (stepS s r)
theorem ver_append : ∀ (l m : List Rec) (s : St), verS s (l ++ m) = verS s l ++ verS (judS s l) m
  | [], _, _ => rfl
  | r :: l, m, s => by
    show verdS s r :: verS (stepS s r) (l ++ m) = _
    rw [ver_append l m (stepS s r)]
    rfl
theorem jud_snoc (l : List Rec) (r : Rec) (s : St) : judS s (l ++ [r]) = stepS (judS s l) r := jud_append l [r] s
theorem ver_snoc (l : List Rec) (r : Rec) (s : St) : verS s (l ++ [r]) = verS s l ++ [verdS (judS s l) r] := ver_append l [r] s
theorem ver_len : ∀ (l : List Rec) (s : St), (verS s l).length = l.length
  | [], _ => rfl
  | r :: l, s => by show (verS (stepS s r) l).length + 1 = _; rw [ver_len l]; rfl
theorem ver_at (s : St) (l : List Rec) {i : Nat} {r : Rec} (h : l[i]? = some r) : (verS s l)[i]? = some (verdS (judS s (l.take i)) r) := by
  obtain ⟨h1, h2⟩ := List.getElem?_eq_some_iff.1 h
  have e : l = l.take i ++ r :: l.drop (i + 1) := by rw [← h2, ← List.drop_eq_getElem_cons h1, List.take_append_drop]
  conv => lhs; rw [e]
  rw [ver_append, List.getElem?_append_right (by rw [ver_len, List.length_take]; omega), ver_len, List.length_take, Nat.min_eq_left (Nat.le_of_lt h1), Nat.sub_self]
  rfl
theorem verd_zero {s : St} {r : Rec} : (verdS s r).1 = 0 ↔ (tryS s r).1 = 0 := by
  unfold verdS
  by_cases h : (tryS s r).1 = 0
  · rw [if_pos h]; simp [h]
  · rw [if_neg h]
theorem step_yes {s : St} {r : Rec} (h : (tryS s r).1 = 0) : stepS s r = yesS s r (tryS s r).2 := by unfold stepS; rw [if_pos h]
theorem step_no {s : St} {r : Rec} (h : (tryS s r).1 ≠ 0) : stepS s r = noS s r := by unfold stepS; rw [if_neg h]
theorem verd_yes {s : St} {r : Rec} (h : (tryS s r).1 = 0) : verdS s r = (0, (hereS s r.act).fid) := by unfold verdS; rw [if_pos h]
theorem verd_no {s : St} {r : Rec} (h : (tryS s r).1 ≠ 0) : verdS s r = ((tryS s r).1, 0) := by unfold verdS; rw [if_neg h]
theorem try_ok {s : St} {r : Rec} (h : (tryS s r).1 = 0) : restS s r.act = false ∧ (makeB r.act = true → freshS s r.act.fid = true) ∧ staleS s (hereS s r.act) r.ver = false ∧ tryS s r = applyS s.tr (hereS s r.act) s.ver := by
  unfold tryS at h ⊢
  by_cases h1 : restS s r.act = true
  · rw [if_pos h1] at h; simp at h
  · rw [if_neg h1] at h ⊢
    by_cases h2 : (makeB r.act && !freshS s r.act.fid) = true
    · rw [if_pos h2] at h; simp at h
    · rw [if_neg h2] at h ⊢
      by_cases h3 : staleS s (hereS s r.act) r.ver = true
      · rw [if_pos h3] at h; simp at h
      · rw [if_neg h3]
        refine ⟨by simpa using h1, fun hm => ?_, by simpa using h3, rfl⟩
        rw [hm] at h2
        simpa using h2

/-- WHO RESTS ON WHAT WAS REFUSED -/
theorem ref_step {s : St} {f : Int} (h : s.ref f = true) (r : Rec) : (stepS s r).ref f = true := by
  unfold stepS
  split
  · exact h
  · show updB s.ref _ f = true
    unfold updB
    rw [h]
    rfl
theorem ref_stays : ∀ (l : List Rec) {s : St} {f : Int}, s.ref f = true → (judS s l).ref f = true
  | [], _, _, h => h
  | r :: l, _, _, h => ref_stays l (ref_step h r)
theorem rests_law (s : St) (l : List Rec) {i k : Nat} {a b : Rec} (hk : k < i) (ha : l[k]? = some a) (_ : l[i]? = some b) (hno : (verdS (judS s (l.take k)) a).1 ≠ 0) (hm : a.act.fid ∈ fidsS b.act) :
    (verdS (judS s (l.take i)) b).1 ≠ 0 := by
  have hr : (judS s (l.take (k + 1))).ref a.act.fid = true := by
    obtain ⟨h1, h2⟩ := List.getElem?_eq_some_iff.1 ha
    rw [List.take_succ_eq_append_getElem h1, h2, jud_snoc, step_no (fun h => hno (verd_zero.2 h))]
    simp [noS, updB]
  have e : l.take i = l.take (k + 1) ++ (l.drop (k + 1)).take (i - (k + 1)) := by
    conv => lhs; rw [show i = (k + 1) + (i - (k + 1)) by omega]
    rw [List.take_add]
  have hr2 : (judS s (l.take i)).ref a.act.fid = true := by
    rw [e, jud_append]
    exact ref_stays _ hr
  intro h0
  have h3 := (try_ok (verd_zero.1 h0)).1
  unfold restS at h3
  rw [List.any_eq_false] at h3
  exact h3 _ hm hr2

/-- who is not named stays -/
theorem other_stays {xs : List Nd} {b : Act} {v : Int} (h : (applyS xs b v).1 = 0) {f : Int} (hf : f ∉ fidsS b) : find (applyS xs b v).2 f = find xs f := by
  have hfid : f ≠ b.fid := fun e => hf (by rw [e]; exact List.mem_cons_self)
  rcases apply_cases h with ⟨hmk, h3, h5, e⟩ | ⟨h3, e⟩ | ⟨h4, e⟩ | ⟨h5, e⟩
  · rw [e] at h ⊢
    have hd : f ≠ b.dir := fun e => hf (by unfold fidsS; rw [if_neg h3, e]; simp)
    obtain ⟨h1, h2, h6, h7⟩ := bring_inv h
    rw [bring_ok h1 h2 h6 h7]
    obtain ⟨D, hD0, hD, _, hDf⟩ := dir_at h1
    rw [hD0, findN_if, if_neg hfid, findN_if, if_neg (by show f ≠ D.fid; rw [hDf]; exact hd)]
  · rw [e] at h ⊢
    obtain ⟨x, hx, _, _, e2⟩ := store_inv h
    rw [e2, findN_if, if_neg (by show f ≠ x.fid; rw [(find_mem hx).2]; exact hfid)]
  · rw [e] at h ⊢
    have hd : f ≠ b.dir := fun e => hf (by unfold fidsS; rw [if_neg (by omega), e]; simp)
    obtain ⟨h1, x, hx, he⟩ := remove_inv h
    obtain ⟨D, hD0, hD, _, hDf, _⟩ := hold_at h1
    rw [remove_ok h1 hx he, hD0, findD_if, if_neg hfid, findN_if, if_neg (by show f ≠ D.fid; rw [hDf]; exact hd)]
  · rw [e] at h ⊢
    have hd : f ≠ b.dir := fun e => hf (by unfold fidsS; rw [if_neg (by omega), e]; simp)
    have ht : f ≠ b.to := fun e => hf (by unfold fidsS; rw [if_neg (by omega), if_pos h5, e]; simp)
    obtain ⟨h1, h2, h3, h4, h6⟩ := rename_inv h
    rw [rename_ok h1 h2 h3 h4 h6]
    obtain ⟨D, hD0, hD, _, hDf, _⟩ := hold_at h1
    obtain ⟨T, hT0, hT, _, hTf⟩ := dir_at h2
    have e1 : (fromS xs b).fid = b.dir := by unfold fromS; rw [hD0]; exact hDf
    have e2 : (toS xs b).fid = b.to := by
      unfold toS
      by_cases e : b.to = b.dir
      · rw [if_pos e, e1, e]
      · rw [if_neg e, hT0]; exact hTf
    rw [findN_if, if_neg (by show f ≠ (toS xs b).fid; rw [e2]; exact ht), findN_if, if_neg (by show f ≠ (fromS xs b).fid; rw [e1]; exact hd)]
/-- what is made was not there -/
theorem made_new {xs : List Nd} {b : Act} {v : Int} (h : (applyS xs b v).1 = 0) (hm : makeB b = true) : find xs b.fid = none := by
  rcases apply_cases h with ⟨hmk, h3, h5, e⟩ | ⟨h3, e⟩ | ⟨h4, e⟩ | ⟨h5, e⟩
  · rw [e] at h
    obtain ⟨h1, h2, h6, h7⟩ := bring_inv h
    cases hx : find xs b.fid with
    | none => rfl
    | some x => exact absurd (.inr (by rw [hx]; rfl)) h6
  · unfold makeB at hm; rw [h3] at hm; simp at hm
  · unfold makeB at hm; rw [h4] at hm; simp at hm
  · unfold makeB at hm; rw [h5] at hm; simp at hm
theorem here_make (s : St) (a : Act) : makeB (hereS s a) = makeB a := rfl
theorem here_kind (s : St) (a : Act) : (hereS s a).kind = a.kind := rfl
theorem here_fid_make {s : St} {a : Act} (h : makeB a = true) : (hereS s a).fid = s.next := by
  show turnS s a a.fid = _
  unfold turnS
  rw [h]
  simp
theorem here_fids {s : St} {a : Act} {f : Int} (h : f ∈ fidsS (hereS s a)) : ∃ g ∈ fidsS a, f = turnS s a g := by
  unfold fidsS at h ⊢
  rw [here_kind] at h
  by_cases h3 : a.kind = 3
  · rw [if_pos h3, if_neg (by omega)] at h ⊢
    simp at h ⊢
    exact h
  · rw [if_neg h3] at h ⊢
    by_cases h5 : a.kind = 5
    · rw [if_pos h5] at h ⊢
      simp at h ⊢
      rcases h with h | h | h
      · exact .inl h
      · exact .inr (.inl h)
      · refine .inr (.inr ?_)
        rw [h]; show (if a.kind = 5 then turnS s a a.to else a.to) = _
        rw [if_pos h5]
    · rw [if_neg h5] at h ⊢
      simp at h ⊢
      exact h
/-- WHAT OTHERS CHANGED: what the log has not touched is as it was -/
structure Same0 (xs : List Nd) (T : Int → Prop) (s : St) : Prop where
  made : ∀ g, 0 ≤ g → s.made g = none
  keep : ∀ f x, 0 ≤ f → find xs f = some x → ¬ T f → find s.tr f = some x ∧ s.tch f = false ∧ ∀ g, s.made g ≠ some f
theorem same0_beg (xs : List Nd) (n v : Int) : Same0 xs (fun _ => False) (begS xs n v) := ⟨fun _ _ => rfl, fun _ _ _ h _ => ⟨h, rfl, fun _ => by intro h; cases h⟩⟩
theorem same0_step {xs : List Nd} {T : Int → Prop} {s : St} (h : Same0 xs T s) (r : Rec) : Same0 xs (fun f => T f ∨ f ∈ fidsS r.act) (stepS s r) := by
  by_cases h0 : (tryS s r).1 = 0
  · obtain ⟨_, hfr, _, e⟩ := try_ok h0
    rw [step_yes h0]
    rw [e] at h0
    constructor
    · intro g hg
      show (if makeB r.act then updM s.made r.act.fid (hereS s r.act).fid else s.made) g = none
      by_cases hm : makeB r.act = true
      · rw [if_pos hm]
        have := hfr hm
        unfold freshS at this
        simp at this
        unfold updM
        rw [if_neg (by omega)]
        exact h.made g hg
      · rw [if_neg hm]; exact h.made g hg
    · intro f x hf hx hT
      obtain ⟨k1, k2, k3⟩ := h.keep f x hf hx (fun h => hT (.inl h))
      have hnm : makeB r.act = true → s.next ≠ f := fun hm e => by
        have := made_new h0 (by rw [here_make]; exact hm)
        rw [here_fid_make hm, e, k1] at this
        cases this
      have hno : f ∉ fidsS (hereS s r.act) := by
        intro hin
        obtain ⟨g, hg, e⟩ := here_fids hin
        unfold turnS at e
        by_cases hc : (makeB r.act && decide (g = r.act.fid)) = true
        · rw [if_pos hc] at e
          simp at hc
          exact hnm hc.1 e.symm
        · rw [if_neg hc] at e
          cases hmd : s.made g with
          | none => rw [hmd] at e; exact hT (.inr (by rw [e]; exact hg))
          | some y => rw [hmd] at e; exact k3 g (by rw [hmd, e]; rfl)
      refine ⟨?_, ?_, ?_⟩
      · show find (tryS s r).2 f = _
        rw [e, other_stays h0 hno]
        exact k1
      · show updB s.tch _ f = false
        unfold updB
        rw [k2]
        simp [hno]
      · intro g
        show (if makeB r.act then updM s.made r.act.fid (hereS s r.act).fid else s.made) g ≠ some f
        by_cases hm : makeB r.act = true
        · rw [if_pos hm, here_fid_make hm]
          unfold updM
          by_cases hg : g = r.act.fid
          · rw [if_pos hg]; intro e; injection e with e; exact hnm hm e
          · rw [if_neg hg]; exact k3 g
        · rw [if_neg hm]; exact k3 g
  · rw [step_no h0]
    exact ⟨h.made, fun f x hf hx hT => h.keep f x hf hx (fun h => hT (.inl h))⟩
theorem stale_law {xs : List Nd} {T : Int → Prop} {s : St} (h : Same0 xs T s) {r : Rec} {x : Nd} (hf : 0 ≤ r.act.fid) (hx : find xs r.act.fid = some x) (hT : ¬ T r.act.fid) (hv : 0 ≤ r.ver) (hne : x.ver ≠ r.ver) (hk : r.act.kind = 3 ∨ r.act.kind = 4) :
    (verdS s r).1 ≠ 0 := by
  intro h0
  obtain ⟨_, _, hst, _⟩ := try_ok (verd_zero.1 h0)
  obtain ⟨k1, k2, k3⟩ := h.keep _ x hf hx hT
  have hm : makeB r.act = false := by unfold makeB; rcases hk with hk | hk <;> rw [hk] <;> rfl
  have e : (hereS s r.act).fid = r.act.fid := by
    show turnS s r.act r.act.fid = _
    unfold turnS
    rw [hm, h.made _ hf]
    rfl
  unfold staleS at hst
  rw [e, here_kind, k2] at hst
  unfold otherS at hst
  rw [k1] at hst
  rcases hk with hk | hk <;> rw [hk] at hst <;> simp [hv, hne] at hst

/-- WHAT IS SAID TO BE DONE: acts, one behind the other, of versions that rise -/
noncomputable def appsS : List Nd → List Act → Int → Option (List Nd)
  | xs, [], _ => some xs
  | xs, a :: l, v => if (applyS xs a v).1 = 0 then appsS (applyS xs a v).2 l (v + 1) else none
theorem apps_snoc : ∀ (l : List Act) (a : Act) (xs ys : List Nd) (v : Int), appsS xs l v = some ys → (applyS ys a (v + l.length)).1 = 0 → appsS xs (l ++ [a]) v = some (applyS ys a (v + l.length)).2
  | [], a, xs, ys, v, h, h0 => by
    injection h with h
    subst h
    simp at h0 ⊢
    unfold appsS
    rw [if_pos h0]
    rfl
  | b :: l, a, xs, ys, v, h, h0 => by
    rw [appsS] at h
    split at h
    · rename_i hb
      have e : v + ((b :: l).length : Int) = (v + 1) + (l.length : Int) := by rw [List.length_cons]; omega
      rw [e] at h0 ⊢
      rw [List.cons_append, appsS, if_pos hb]
      exact apps_snoc l a _ ys (v + 1) h h0
    · cases h
def madeN (l : List Act) : Nat := (l.filter makeB).length
def goodN (vs : List (Int × Int)) : Nat := (vs.filter fun v => decide (v.1 = 0)).length
structure Done (xs : List Nd) (n v : Int) (s : St) (vs : List (Int × Int)) : Prop where
  run : appsS xs s.done v = some s.tr
  ver : s.ver = v + s.done.length
  next : s.next = n + madeN s.done
  good : goodN vs = s.done.length
  fid : ∀ q ∈ vs, q.1 ≠ 0 → q.2 = 0
theorem done_beg (xs : List Nd) (n v : Int) : Done xs n v (begS xs n v) [] := ⟨rfl, by simp [begS], by simp [begS, madeN], rfl, by simp⟩
theorem done_step {xs : List Nd} {n v : Int} {s : St} {vs : List (Int × Int)} (h : Done xs n v s vs) (r : Rec) : Done xs n v (stepS s r) (vs ++ [verdS s r]) := by
  by_cases h0 : (tryS s r).1 = 0
  · obtain ⟨_, _, _, e⟩ := try_ok h0
    rw [step_yes h0, verd_yes h0]
    rw [e] at h0
    refine ⟨?_, ?_, ?_, ?_, ?_⟩
    · show appsS xs (s.done ++ [hereS s r.act]) v = some (tryS s r).2
      rw [h.ver] at h0
      rw [apps_snoc _ _ _ _ _ h.run h0, e, h.ver]
    · show s.ver + 1 = v + ((s.done ++ [hereS s r.act]).length : Int)
      rw [h.ver, List.length_append, List.length_singleton]; omega
    · show (if makeB r.act then s.next + 1 else s.next) = n + (madeN (s.done ++ [hereS s r.act]) : Int)
      unfold madeN
      rw [List.filter_append, List.length_append]
      have hn := h.next
      unfold madeN at hn
      by_cases hm : makeB r.act = true
      · rw [if_pos hm, List.filter_cons_of_pos (by rw [here_make]; exact hm)]
        simp
        omega
      · rw [if_neg hm, List.filter_cons_of_neg (by rw [here_make]; exact hm)]
        simp
        omega
    · unfold goodN
      rw [List.filter_append, List.length_append, List.filter_cons_of_pos (by rfl)]
      show _ = (s.done ++ [hereS s r.act]).length
      rw [List.length_append]
      have := h.good
      unfold goodN at this
      rw [this]
      rfl
    · intro q hq hne
      rcases List.mem_append.1 hq with hq | hq
      · exact h.fid q hq hne
      · rw [List.mem_singleton.1 hq] at hne; exact absurd rfl hne
  · rw [step_no h0, verd_no h0]
    refine ⟨h.run, h.ver, h.next, ?_, ?_⟩
    · unfold goodN
      rw [List.filter_append, List.filter_cons_of_neg (by simp [h0])]
      have := h.good
      unfold goodN at this
      rw [List.filter_nil, List.append_nil]
      exact this
    · intro q hq hne
      rcases List.mem_append.1 hq with hq | hq
      · exact h.fid q hq hne
      · rw [List.mem_singleton.1 hq]
theorem done_jud (xs : List Nd) (n v : Int) : ∀ (l : List Rec) {s : St} {vs : List (Int × Int)}, Done xs n v s vs → Done xs n v (judS s l) (vs ++ verS s l)
  | [], _, _, h => by simpa [verS, judS] using h
  | r :: l, s, vs, h => by
    have := done_jud xs n v l (done_step h r)
    rw [List.append_assoc] at this
    exact this
theorem done_all (xs : List Nd) (n v : Int) (l : List Rec) : Done xs n v (judS (begS xs n v) l) (verS (begS xs n v) l) := done_jud xs n v l (done_beg xs n v)
end M
open M
/-- a tree stays as it must be -/
theorem good_step {s : M.St} (h : Good s.tr) (r : Rec) : Good (stepS s r).tr := by
  by_cases h0 : (tryS s r).1 = 0
  · rw [step_yes h0]
    show Good (tryS s r).2
    rw [(try_ok h0).2.2.2]
    exact good_apply h _ _
  · rw [step_no h0]; exact h
theorem good_jud : ∀ (l : List Rec) {s : M.St}, Good s.tr → Good (judS s l).tr
  | [], _, h => h
  | r :: l, _, h => good_jud l (good_step h r)
/-- no number grows by more than one a record -/
structure Near (n v : Int) (k : Nat) (s : M.St) : Prop where
  nlo : n ≤ s.next
  nhi : s.next ≤ n + k
  vlo : v ≤ s.ver
  vhi : s.ver ≤ v + k
  len : s.done.length ≤ k
theorem near_step {n v : Int} {k : Nat} {s : M.St} (h : Near n v k s) (r : Rec) : Near n v (k + 1) (stepS s r) := by
  obtain ⟨h1, h2, h3, h4, h5⟩ := h
  by_cases h0 : (tryS s r).1 = 0
  · rw [step_yes h0]
    unfold yesS
    refine ⟨?_, ?_, ?_, ?_, ?_⟩ <;> simp only [List.length_append, List.length_singleton] <;> (try split) <;> omega
  · rw [step_no h0]
    exact ⟨h1, by show s.next ≤ _; omega, h3, by show s.ver ≤ _; omega, by show s.done.length ≤ _; omega⟩
theorem near_beg (xs : List Nd) (n v : Int) : Near n v 0 (begS xs n v) := ⟨Int.le_refl _, by simp [begS], Int.le_refl _, by simp [begS], Nat.le_refl _⟩
end Go.Proofs.Ytcjobmbbikfnaad
