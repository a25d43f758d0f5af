/-
  MEMORY OF ONE'S OWN: rows of elements of several cells; append from any row; what a node of one's own is.
-/
import Derived.Test.YtlegjdlmcphhlabSearch
namespace Go.Proofs.Ytlegjdlmcphhlab
open Go.RowKit

section
variable {α : Type} {cs : α → List Value} {k : Nat}
theorem fm_len (hk : ∀ v, (cs v).length = k) : ∀ vs : List α, (vs.flatMap cs).length = vs.length * k
  | [] => by simp
  | v :: vs => by rw [List.flatMap_cons, List.length_append, hk, fm_len hk vs, List.length_cons, Nat.add_mul]; omega
theorem fm_get (hk : ∀ v, (cs v).length = k) : ∀ (vs : List α) (j i : Nat) (v : α), vs[j]? = some v → i < k → (vs.flatMap cs)[j * k + i]? = (cs v)[i]?
  | [], j, i, v, h, _ => by cases h
  | u :: vs, 0, i, v, h, hi => by
    cases h
    rw [List.flatMap_cons, List.getElem?_append_left (by rw [hk]; omega), Nat.zero_mul, Nat.zero_add]
  | u :: vs, j + 1, i, v, h, hi => by
    rw [List.flatMap_cons, List.getElem?_append_right (by rw [hk, Nat.add_mul]; omega), hk, ← fm_get hk vs j i v h hi]
    congr 1
    rw [Nat.add_mul]; omega
theorem fm_inv (hk : ∀ v, (cs v).length = k) (vs : List α) (j : Nat) (u : Value) (h : (vs.flatMap cs)[j]? = some u) : ∃ v, vs[j / k]? = some v ∧ (cs v)[j % k]? = some u := by
  have hj : j < (vs.flatMap cs).length := by
    rcases Nat.lt_or_ge j (vs.flatMap cs).length with h1 | h1
    · exact h1
    · rw [List.getElem?_eq_none h1] at h; cases h
  rw [fm_len hk] at hj
  have hk0 : 0 < k := by
    rcases Nat.eq_zero_or_pos k with e | e
    · subst e; simp at hj
    · exact e
  have hq : j / k < vs.length := Nat.div_lt_of_lt_mul (by rw [Nat.mul_comm]; exact hj)
  have hv : vs[j / k]? = some vs[j / k] := List.getElem?_eq_getElem hq
  refine ⟨_, hv, ?_⟩
  rw [← fm_get hk vs (j / k) (j % k) _ hv (Nat.mod_lt _ hk0), Nat.div_add_mod' j k]
  exact h
theorem fm_set (hk : ∀ v, (cs v).length = k) : ∀ (vs : List α) (j : Nat) (v : α), j < vs.length → (vs.set j v).flatMap cs = (vs.flatMap cs).take (j * k) ++ (cs v ++ (vs.flatMap cs).drop (j * k + k))
  | [], j, v, h => by simp at h
  | u :: vs, 0, v, _ => by
    rw [List.set_cons_zero, List.flatMap_cons, List.flatMap_cons, Nat.zero_mul, Nat.zero_add, List.take_zero, List.nil_append, ← hk u, List.drop_left]
  | u :: vs, j + 1, v, h => by
    rw [List.set_cons_succ, List.flatMap_cons, List.flatMap_cons, fm_set hk vs j v (by simpa using h)]
    have e1 : (j + 1) * k = (cs u).length + j * k := by rw [hk, Nat.add_mul]; omega
    rw [e1, List.take_length_add_append, Nat.add_assoc, List.drop_length_add_append, List.append_assoc]

theorem own_form {w : World} {B : Nat} {e : TypeId} {v : Value} {n : Nat} {xs : List Value} (h : w.ownsRow B e k v n xs) : ∃ A c, v = .slice A n c ∧ n ≤ c ∧ c ≤ maxLen := by
  rcases h.2 with ⟨rfl, rfl⟩ | ⟨g, cap, cur, rfl, _, _, h1, h2, _⟩
  · exact ⟨none, 0, rfl, Nat.le_refl _, by decide⟩
  · exact ⟨_, _, rfl, h1, h2⟩
theorem own_len {w : World} {B : Nat} {e : TypeId} {v : Value} {n : Nat} {vs : List α} (hk : ∀ v, (cs v).length = k) (k0 : 0 < k) (h : w.ownsRow B e k v n (vs.flatMap cs)) : n = vs.length := by
  have := h.1
  rw [fm_len hk] at this
  exact (Nat.eq_of_mul_eq_mul_right k0 this).symm
theorem Row.ofOwn {w : World} {B : Nat} {e : TypeId} {A : Option Addr} {n c : Nat} {vs : List α} (hk : ∀ v, (cs v).length = k) (k0 : 0 < k) (h : w.ownsRow B e k (.slice A n c) n (vs.flatMap cs)) : Row k cs w A n vs := by
  refine ⟨own_len hk k0 h, ?_⟩
  rcases h.2 with ⟨h', rfl⟩ | ⟨g, cap, cur, h', hb, hg, hnc, hcm, hcs, htake⟩
  · left
    have := own_len hk k0 h
    exact List.eq_nil_of_length_eq_zero this.symm
  · right
    simp only [Value.slice.injEq, true_and] at h'
    obtain ⟨rfl, rfl⟩ := h'
    refine ⟨g, 0, rfl, (h.lt g rfl).2, fun j v hv i u hu => ?_⟩
    have hi : i < k := by
      rcases Nat.lt_or_ge i (cs v).length with h1 | h1
      · rwa [hk] at h1
      · rw [List.getElem?_eq_none h1] at hu; cases hu
    have hj : j < n := by
      rw [own_len hk k0 h]
      rcases Nat.lt_or_ge j vs.length with h1 | h1
      · exact h1
      · rw [List.getElem?_eq_none h1] at hv; cases hv
    rw [Nat.zero_add, h.cellAt (j * k + i) (by have : (j + 1) * k ≤ n * k := Nat.mul_le_mul_right _ hj; rw [Nat.add_mul] at this; omega), fm_get hk vs j i v hv hi]
    exact hu
theorem own_apart {w : World} {B B' : Nat} {e e' : TypeId} {k k' : Nat} {v v' : Value} {n n' : Nat} {xs xs' : List Value} (h : w.ownsRow B e k v n xs) (h' : w.ownsRow B' e' k' v' n' xs') (hne : e ≠ e') : v.ownBlock = none ∨ v.ownBlock ≠ v'.ownBlock := by
  rcases h.2 with ⟨rfl, _⟩ | ⟨g, cap, cur, rfl, _, hg, _⟩
  · exact .inl rfl
  · right
    rcases h'.2 with ⟨rfl, _⟩ | ⟨g', cap', cur', rfl, _, hg', _⟩
    · simp [Value.ownBlock]
    · simp only [Value.ownBlock, ne_eq, Option.some.injEq]
      rintro rfl
      rw [hg] at hg'
      simp at hg'
      exact hne hg'.2
theorem own_mono {w : World} {B B' : Nat} {e : TypeId} {v : Value} {n : Nat} {xs : List Value} (h : w.ownsRow B e k v n xs) (hB : B' ≤ B) : w.ownsRow B' e k v n xs := by
  refine ⟨h.1, h.2.imp id ?_⟩
  rintro ⟨g, cap, cur, e1, h1, r⟩
  exact ⟨g, cap, cur, e1, by omega, r⟩
theorem own_below {w w' : World} {B C : Nat} {e : TypeId} {v : Value} {n : Nat} {xs : List Value} (h : w.ownsRow B e k v n xs) (hb : Below C w w') (hC : w.heap.size ≤ C) : w'.ownsRow B e k v n xs := by
  refine ⟨h.1, ?_⟩
  rcases h.2 with h2 | ⟨g, cap, cur, e1, h1, hg, r⟩
  · exact .inl h2
  · exact .inr ⟨g, cap, cur, e1, h1, by rw [hb.block g (by have := lt_of_block hg; omega)]; exact hg, r⟩

/-- append onto a row of one's own, of whatever a row holds -/
theorem run_append_row {P : Program} (w : World) (B : Nat) (t ty e : TypeId) (i : TypeInfo) (z : Value) (bytes : Nat) (ht : P.underlying t = some (.slice e)) (hi : P.info? e = some i) (hz : i.zero = some z)
    (hsize : i.size = k) (hby : i.bytes = bytes) (hzs : z.cells.size = k) (hsz : 0 < k) (v : Value) (n : Nat) (xs : List Value) (hown : w.ownsRow B e k v n xs)
    (A : Option Addr) (m c : Nat) (vs : List α) (hrow : Row k cs w A m vs) (hk : ∀ v, (cs v).length = k) (h1 : ∀ v, ∀ u ∈ cs v, u.oneCell' = true)
    (h63 : n + m ≤ maxLen) (hbytes : (n + m) * bytes ≤ 140737488355328) (hbase : B ≤ w.heap.size) :
    ∃ v' w', (Builtin.append_ #[t, t] ty #[v, .slice A m c]).run P w = .ok v' w' ∧ w'.ownsRow B e k v' (n + m) (xs ++ vs.flatMap cs) ∧ w.grownBy w' v.ownBlock := by
  cases A with
  | none =>
    have hm : m = 0 := by
      rcases hrow.2 with h | ⟨b, o, h, _⟩
      · rw [hrow.1, h]; rfl
      · cases h
    have hvs : vs = [] := List.eq_nil_of_length_eq_zero (by rw [← hrow.1]; exact hm)
    subst hm hvs
    refine ⟨v, w, ?_, by simpa using hown, World.grownBy.refl _ _⟩
    rcases hown.2 with ⟨rfl, rfl⟩ | ⟨g, cap, cur, rfl, _, _, hnc, _⟩
    · simp [Builtin.append_, run_underlying ht, sizeOf, typeInfo, hi, Builtin.lenOf, Builtin.firstCells]
    · simp [Builtin.append_, run_underlying ht, sizeOf, typeInfo, hi, Builtin.lenOf, Builtin.firstCells, hnc, storeCells]
  | some a =>
    have hl : (vs.flatMap cs).length = m * k := by rw [fm_len hk, hrow.1]
    have hone : ∀ u ∈ vs.flatMap cs, u.oneCell' = true := by
      intro u hu
      obtain ⟨v, _, hv⟩ := List.mem_flatMap.1 hu
      exact h1 v u hv
    have hcell : ∀ j u, (vs.flatMap cs)[j]? = some u → w.cell? (a.add j) = some u := by
      intro j u hu
      rcases hrow.2 with h | ⟨b, o, h, hb, hc⟩
      · subst h; cases hu
      · cases h
        obtain ⟨v, hv, hv2⟩ := fm_inv hk vs j u hu
        have := hc _ v hv _ u hv2
        rw [Nat.add_assoc, Nat.div_add_mod'] at this
        rw [show (⟨b, o, none⟩ : Addr).add j = ⟨b, o + j, none⟩ from by simp [Addr.add]]; exact this
    obtain ⟨v', w', hr, h2, h3, _⟩ := run_append_own (P := P) w B t ty e i z k bytes ht hi hz hsize hby hzs hsz v n xs hown a m c _ hl hcell hone h63 hbytes hbase
    exact ⟨v', w', hr, h2, h3⟩

theorem wpList_append_row {P : Program} (w : World) {ops : Array Oper} {rest : List Oper} {o : Oper} {a : Act} {Q : Exit → Act → World → Prop} (hgd : o.guard = none) (s x : Operand) (t : TypeId)
    (ho : o.op = .call { callee := .builtin .append, args := #[s, x], argTypes := #[t, t] })
    (B : Nat) (e : TypeId) (i : TypeInfo) (z : Value) (bytes : Nat) (ht : P.underlying t = some (.slice e)) (hi : P.info? e = some i) (hz : i.zero = some z)
    (hsize : i.size = k) (hby : i.bytes = bytes) (hzs : z.cells.size = k) (hsz : 0 < k) (v : Value) (n : Nat) (xs : List Value) (hs : a.eval s = v) (hown : w.ownsRow B e k v n xs)
    (A : Option Addr) (m c : Nat) (vs : List α) (hx : a.eval x = .slice A m c) (hrow : Row k cs w A m vs) (hk : ∀ v, (cs v).length = k) (h1 : ∀ v, ∀ u ∈ cs v, u.oneCell' = true)
    (h63 : n + m ≤ maxLen) (hbytes : (n + m) * bytes ≤ 140737488355328) (hbase : B ≤ w.heap.size)
    (h : ∀ v' w', w'.ownsRow B e k v' (n + m) (xs ++ vs.flatMap cs) → w.grownBy w' v.ownBlock → wpList P ops Q rest (a.put o.dst v') w') : wpList P ops Q (o :: rest) a w := by
  obtain ⟨v', w', hr, h2, h3⟩ := run_append_row (P := P) w B t o.type e i z bytes ht hi hz hsize hby hzs hsz v n xs hown A m c vs hrow hk h1 h63 hbytes hbase
  refine wpList_plain hgd fun K hK => ?_
  unfold Oper.wp execOp
  simp only [ho, resolve, invoke, builtin, Sem.run_bind, Sem.run_pure, Result.andThen_ok, List.map_toArray, List.map_cons, List.map_nil, hs, hx, hr]
  exact hK _ _ (h v' w' h2 h3)
end

theorem grown_below {w w' : World} (hg : w.grownBy w' none) : Below w.heap.size w w' := ⟨hg.os, hg.tape, hg.output, hg.size, fun k hk => hg.block k hk (by simp)⟩
theorem bcell {W w1 : World} (hb : Below W.heap.size W w1) : (∀ b o, b < W.heap.size → w1.cell? ⟨b, o, none⟩ = W.cell? ⟨b, o, none⟩) ∧ (∀ b o, b < W.heap.size → w1.frozen? ⟨b, o, none⟩ = W.frozen? ⟨b, o, none⟩) :=
  ⟨fun b o h => hb.cell (p := ⟨b, o, none⟩) h, fun b o h => hb.frozen (p := ⟨b, o, none⟩) h⟩
theorem ent_len (x : ByteArray × Int) : (entCells x).length = 2 := rfl
theorem byt_len (x : UInt8) : (byteCells1 x).length = 1 := rfl
theorem nod_len (x : NV) : x.cells.length = 5 := rfl
theorem str_len (x : ByteArray) : (strCells x).length = 1 := rfl
theorem ent_one (x : ByteArray × Int) : ∀ u ∈ entCells x, u.oneCell' = true := by intro u hu; simp [entCells] at hu; rcases hu with rfl | rfl <;> rfl
theorem byt_one (x : UInt8) : ∀ u ∈ byteCells1 x, u.oneCell' = true := by intro u hu; simp [byteCells1] at hu; subst hu; rfl
theorem nod_one (x : NV) : ∀ u ∈ x.cells, u.oneCell' = true := by intro u hu; simp [NV.cells] at hu; rcases hu with rfl | rfl | rfl | rfl | rfl <;> rfl
theorem str_one (x : ByteArray) : ∀ u ∈ strCells x, u.oneCell' = true := by intro u hu; simp [strCells] at hu; subst hu; rfl

def NV.zero : NV := ⟨0, false, none, 0, 0, none, 0, 0, 0⟩
/-- a node in a block of its own -/
def Box (w : World) (s : Nat) (v : NV) : Prop := w.heap[s]? = some (.cells #[.int .i64 v.fid, .bool v.dir, .slice v.dA v.dn v.dc, .slice v.eA v.en v.ec, .int .i64 v.ver] 40 (0, 0))
theorem Box.facts {w : World} {s : Nat} {v : NV} (h : Box w s v) : w.cell? ⟨s, 0, none⟩ = some (.int .i64 v.fid) ∧ w.cell? ⟨s, 1, none⟩ = some (.bool v.dir) ∧ w.cell? ⟨s, 2, none⟩ = some (.slice v.dA v.dn v.dc) ∧
    w.cell? ⟨s, 3, none⟩ = some (.slice v.eA v.en v.ec) ∧ w.cell? ⟨s, 4, none⟩ = some (.int .i64 v.ver) ∧ (∀ o, w.frozen? ⟨s, o, none⟩ = false) ∧ s < w.heap.size := by
  unfold Box at h
  refine ⟨by simp [World.cell?, h], by simp [World.cell?, h], by simp [World.cell?, h], by simp [World.cell?, h], by simp [World.cell?, h], fun o => by simp [World.frozen?, h], lt_of_block h⟩
theorem Box.below {w w' : World} {s B : Nat} {v : NV} (h : Box w s v) (hb : Below B w w') (hs : s < B) : Box w' s v := by
  unfold Box; rw [hb.block s hs]; exact h
theorem Box.alloc {w : World} {s : Nat} {v : NV} (h : Box w s v) (o : Obj) : Box (w.alloc o) s v := by
  unfold Box; rw [Below.heap_alloc _ _ _ (lt_of_block h)]; exact h
theorem Box.new (w : World) (v : NV) : Box (w.alloc (.cells #[.int .i64 v.fid, .bool v.dir, .slice v.dA v.dn v.dc, .slice v.eA v.en v.ec, .int .i64 v.ver] 40)) w.heap.size v := heap_alloc_new w _
theorem Box.new0 (w : World) : Box (w.alloc (.cells #[.int .i64 0, .bool false, .slice none 0 0, .slice none 0 0, .int .i64 0] 40)) w.heap.size NV.zero := heap_alloc_new w _
theorem Box.set2 {w : World} {s : Nat} {v : NV} (h : Box w s v) (A : Option Addr) (n c : Nat) : Box (w.setCell ⟨s, 2, none⟩ (.slice A n c)) s ⟨v.fid, v.dir, A, n, c, v.eA, v.en, v.ec, v.ver⟩ := by
  unfold Box at h ⊢; rw [heap_setCell_same w s 2 _ 40 _ h]; rfl
theorem Box.set3 {w : World} {s : Nat} {v : NV} (h : Box w s v) (A : Option Addr) (n c : Nat) : Box (w.setCell ⟨s, 3, none⟩ (.slice A n c)) s ⟨v.fid, v.dir, v.dA, v.dn, v.dc, A, n, c, v.ver⟩ := by
  unfold Box at h ⊢; rw [heap_setCell_same w s 3 _ 40 _ h]; rfl
theorem Box.setOther {w : World} {s : Nat} {v : NV} (h : Box w s v) {a : Addr} (ha : s ≠ a.block) (u : Value) : Box (w.setCell a u) s v := by
  unfold Box; rw [Below.heap_setCell _ _ _ _ ha]; exact h
/-- a node is stored, cell by cell -/
abbrev put5 (w : World) (s o : Nat) (v : NV) : World :=
  ((((w.setCell ⟨s, o, none⟩ (.int .i64 v.fid)).setCell ⟨s, o + 1, none⟩ (.bool v.dir)).setCell ⟨s, o + 2, none⟩ (.slice v.dA v.dn v.dc)).setCell ⟨s, o + 3, none⟩ (.slice v.eA v.en v.ec)).setCell ⟨s, o + 4, none⟩ (.int .i64 v.ver)
theorem put5_below {B : Nat} {a w : World} (h : Below B a w) {s : Nat} (hs : B ≤ s) (o : Nat) (v : NV) : Below B a (put5 w s o v) :=
  ((((h.setCell (by exact hs) _).setCell (by exact hs) _).setCell (by exact hs) _).setCell (by exact hs) _).setCell (by exact hs) _
theorem put5_own {w : World} {B : Nat} {e : TypeId} {k : Nat} {v : Value} {n : Nat} {xs : List Value} (h : w.ownsRow B e k v n xs) {s : Nat} (hs : s < B) (o : Nat) (x : NV) : (put5 w s o x).ownsRow B e k v n xs :=
  ownsRow_setCell_below (ownsRow_setCell_below (ownsRow_setCell_below (ownsRow_setCell_below (ownsRow_setCell_below h (by exact hs) _) (by exact hs) _) (by exact hs) _) (by exact hs) _) (by exact hs) _
theorem put5_box {w : World} {s : Nat} {v : NV} (h : Box w s v) (x : NV) : Box (put5 w s 0 x) s x := by
  unfold Box at h ⊢
  have e0 := heap_setCell_same w s 0 _ 40 (.int .i64 x.fid) h
  have e1 := heap_setCell_same _ s 1 _ 40 (.bool x.dir) e0
  have e2 := heap_setCell_same _ s 2 _ 40 (.slice x.dA x.dn x.dc) e1
  have e3 := heap_setCell_same _ s 3 _ 40 (.slice x.eA x.en x.ec) e2
  have e4 := heap_setCell_same _ s 4 _ 40 (.int .i64 x.ver) e3
  exact e4
theorem put5_box_other {w : World} {s : Nat} {v : NV} (h : Box w s v) {t : Nat} (ht : s ≠ t) (o : Nat) (x : NV) : Box (put5 w t o x) s v :=
  ((((h.setOther (by exact ht) _).setOther (by exact ht) _).setOther (by exact ht) _).setOther (by exact ht) _).setOther (by exact ht) _

/-- the value v is the node x -/
def Cont (w : World) (v : NV) (x : M.Nd) : Prop := v.fid = x.fid ∧ v.dir = x.dir ∧ v.ver = x.ver ∧ Byts w v.dA v.dn x.data ∧ Ents w v.eA v.en x.ents
theorem Cont.below {B : Nat} {w w' : World} {v : NV} {x : M.Nd} (h : Cont w v x) (hB : w.heap.size ≤ B) (hb : Below B w w') : Cont w' v x :=
  ⟨h.1, h.2.1, h.2.2.1, h.2.2.2.1.below hB hb, h.2.2.2.2.below hB hb⟩
/-- its lists are the call's own -/
def OwnN (w : World) (B : Nat) (v : NV) (x : M.Nd) : Prop := v.fid = x.fid ∧ v.dir = x.dir ∧ v.ver = x.ver ∧ w.ownsRow B 5 1 (.slice v.dA v.dn v.dc) v.dn (x.data.flatMap byteCells1) ∧ w.ownsRow B 68 2 (.slice v.eA v.en v.ec) v.en (x.ents.flatMap entCells)
theorem OwnN.cont {w : World} {B : Nat} {v : NV} {x : M.Nd} (h : OwnN w B v x) : Cont w v x :=
  ⟨h.1, h.2.1, h.2.2.1, Row.ofOwn byt_len (by decide) h.2.2.2.1, Row.ofOwn ent_len (by decide) h.2.2.2.2⟩
theorem OwnN.below {B C : Nat} {w w' : World} {v : NV} {x : M.Nd} (h : OwnN w B v x) (hC : w.heap.size ≤ C) (hb : Below C w w') : OwnN w' B v x :=
  ⟨h.1, h.2.1, h.2.2.1, own_below h.2.2.2.1 hb hC, own_below h.2.2.2.2 hb hC⟩
theorem OwnN.mono {B B' : Nat} {w : World} {v : NV} {x : M.Nd} (h : OwnN w B v x) (hB : B' ≤ B) : OwnN w B' v x :=
  ⟨h.1, h.2.1, h.2.2.1, own_mono h.2.2.2.1 hB, own_mono h.2.2.2.2 hB⟩
/-- no list of it is too long -/
def Small (x : M.Nd) : Prop := x.data.length ≤ 140737488355328 ∧ x.ents.length * 24 ≤ 140737488355328

/-- pair by pair -/
def All2 {α β : Type} (R : α → β → Prop) (vs : List α) (xs : List β) : Prop := vs.length = xs.length ∧ ∀ (j : Nat) v x, vs[j]? = some v → xs[j]? = some x → R v x
theorem All2.imp {α β : Type} {R S : α → β → Prop} {vs : List α} {xs : List β} (h : All2 R vs xs) (f : ∀ v x, R v x → S v x) : All2 S vs xs := ⟨h.1, fun j v x hv hx => f v x (h.2 j v x hv hx)⟩
theorem All2.nil {α β : Type} {R : α → β → Prop} : All2 R [] [] := ⟨rfl, fun j v x hv => by cases hv⟩
theorem All2.cons {α β : Type} {R : α → β → Prop} {v : α} {x : β} {vs : List α} {xs : List β} (h0 : R v x) (h : All2 R vs xs) : All2 R (v :: vs) (x :: xs) :=
  ⟨by simp [h.1], fun j v' x' hv hx => by
    cases j with
    | zero => cases hv; cases hx; exact h0
    | succ j => exact h.2 j v' x' hv hx⟩
theorem All2.append {α β : Type} {R : α → β → Prop} {vs us : List α} {xs ys : List β} (h : All2 R vs xs) (h' : All2 R us ys) : All2 R (vs ++ us) (xs ++ ys) := by
  refine ⟨by simp [h.1, h'.1], fun j v x hv hx => ?_⟩
  rcases Nat.lt_or_ge j vs.length with h1 | h1
  · rw [List.getElem?_append_left h1] at hv
    rw [List.getElem?_append_left (by rw [← h.1]; exact h1)] at hx
    exact h.2 j v x hv hx
  · rw [List.getElem?_append_right h1] at hv
    rw [List.getElem?_append_right (by rw [← h.1]; exact h1), ← h.1] at hx
    exact h'.2 _ v x hv hx
theorem All2.one {α β : Type} {R : α → β → Prop} {v : α} {x : β} (h : R v x) : All2 R [v] [x] := All2.cons h All2.nil
theorem All2.take {α β : Type} {R : α → β → Prop} {vs : List α} {xs : List β} (h : All2 R vs xs) (k : Nat) : All2 R (vs.take k) (xs.take k) := by
  refine ⟨by simp [h.1], fun j v x hv hx => ?_⟩
  rw [List.getElem?_take] at hv hx
  split at hv
  · rename_i hk; rw [if_pos hk] at hx; exact h.2 j v x hv hx
  · cases hv
theorem All2.drop {α β : Type} {R : α → β → Prop} {vs : List α} {xs : List β} (h : All2 R vs xs) (k : Nat) : All2 R (vs.drop k) (xs.drop k) := by
  refine ⟨by simp [h.1], fun j v x hv hx => ?_⟩
  rw [List.getElem?_drop] at hv hx
  exact h.2 _ v x hv hx
theorem All2.at {α β : Type} {R : α → β → Prop} {vs : List α} {xs : List β} (h : All2 R vs xs) {j : Nat} {v : α} (hv : vs[j]? = some v) : ∃ x, xs[j]? = some x ∧ R v x := by
  have hj : j < vs.length := by
    rcases Nat.lt_or_ge j vs.length with h1 | h1
    · exact h1
    · rw [List.getElem?_eq_none h1] at hv; cases hv
  have hj' : j < xs.length := by rw [← h.1]; exact hj
  have hx : xs[j]? = some xs[j] := List.getElem?_eq_getElem hj'
  exact ⟨_, hx, h.2 j v _ hv hx⟩
theorem All2.map {α β γ : Type} {R : α → β → Prop} {vs : List α} {xs : List β} (h : All2 R vs xs) (f : α → γ) (g : β → γ) (hfg : ∀ v x, R v x → f v = g x) : vs.map f = xs.map g := by
  apply List.ext_getElem?
  intro j
  rw [List.getElem?_map, List.getElem?_map]
  cases hv : vs[j]? with
  | none =>
    have : xs[j]? = none := by
      rw [List.getElem?_eq_none_iff] at hv ⊢; rw [← h.1]; exact hv
    rw [this]; rfl
  | some v =>
    obtain ⟨x, hx, hr⟩ := h.at hv
    rw [hx]; simp [hfg v x hr]

/-- a tree that came in; a tree of one's own -/
def Tree (w : World) (A : Option Addr) (n : Nat) (vs : List NV) (xs : List M.Nd) : Prop := Nodes w A n vs ∧ All2 (Cont w) vs xs
def OwnT (w : World) (B : Nat) (A : Option Addr) (n c : Nat) (vs : List NV) (xs : List M.Nd) : Prop := w.ownsRow B 40 5 (.slice A n c) n (vs.flatMap NV.cells) ∧ All2 (OwnN w B) vs xs
theorem Tree.below {B : Nat} {w w' : World} {A : Option Addr} {n : Nat} {vs : List NV} {xs : List M.Nd} (h : Tree w A n vs xs) (hB : w.heap.size ≤ B) (hb : Below B w w') : Tree w' A n vs xs :=
  ⟨h.1.below hB hb, h.2.imp fun _ _ h => h.below hB hb⟩
theorem OwnT.tree {w : World} {B : Nat} {A : Option Addr} {n c : Nat} {vs : List NV} {xs : List M.Nd} (h : OwnT w B A n c vs xs) : Tree w A n vs xs :=
  ⟨Row.ofOwn nod_len (by decide) h.1, h.2.imp fun _ _ h => h.cont⟩
theorem OwnT.below {B C : Nat} {w w' : World} {A : Option Addr} {n c : Nat} {vs : List NV} {xs : List M.Nd} (h : OwnT w B A n c vs xs) (hC : w.heap.size ≤ C) (hb : Below C w w') : OwnT w' B A n c vs xs :=
  ⟨own_below h.1 hb hC, h.2.imp fun _ _ h => h.below hC hb⟩
theorem OwnT.mono {B B' : Nat} {w : World} {A : Option Addr} {n c : Nat} {vs : List NV} {xs : List M.Nd} (h : OwnT w B A n c vs xs) (hB : B' ≤ B) : OwnT w B' A n c vs xs :=
  ⟨own_mono h.1 hB, h.2.imp fun _ _ h => h.mono hB⟩
/-- what is no row of nodes stays while a row of nodes is written -/
theorem own_grown {w w' : World} {B B' : Nat} {e e' : TypeId} {k k' : Nat} {v v' : Value} {n n' : Nat} {xs xs' : List Value} (h : w.ownsRow B e k v n xs) (h' : w.ownsRow B' e' k' v' n' xs') (hne : e ≠ e') (hg : w.grownBy w' v'.ownBlock) : w'.ownsRow B e k v n xs :=
  h.kept hg (own_apart h h' hne)
theorem OwnN.grown26 {w w' : World} {B B' : Nat} {v : NV} {x : M.Nd} {k' : Nat} {v' : Value} {n' : Nat} {xs' : List Value} (h : OwnN w B v x) (h' : w.ownsRow B' 40 k' v' n' xs') (hg : w.grownBy w' v'.ownBlock) : OwnN w' B v x :=
  ⟨h.1, h.2.1, h.2.2.1, own_grown h.2.2.2.1 h' (by decide) hg, own_grown h.2.2.2.2 h' (by decide) hg⟩
theorem SmallT.len {xs : List M.Nd} {n : Nat} (h : n = xs.length) (hs : xs.length * 72 ≤ 140737488355328) : n * 72 ≤ 140737488355328 := by rw [h]; exact hs

theorem grown_trans {a b c : World} {row : Option Nat} (h : a.grownBy b row) (k : b.grownBy c row) : a.grownBy c row :=
  ⟨k.os.trans h.os, k.tape.trans h.tape, k.output.trans h.output, Nat.le_trans h.size k.size, fun j hj hr => (k.block j (Nat.lt_of_lt_of_le hj h.size) hr).trans (h.block j hj hr)⟩
theorem set5 (L : List Value) (o : Nat) (a b c d e : Value) (h : o + 5 ≤ L.length) : ((((L.set o a).set (o + 1) b).set (o + 2) c).set (o + 3) d).set (o + 4) e = L.take o ++ ([a, b, c, d, e] ++ L.drop (o + 5)) := by
  apply List.ext_getElem?
  intro j
  by_cases h1 : j < o
  · rw [List.getElem?_append_left (by simp; omega), List.getElem?_take, if_pos h1]
    rw [List.getElem?_set_ne (by omega), List.getElem?_set_ne (by omega), List.getElem?_set_ne (by omega), List.getElem?_set_ne (by omega), List.getElem?_set_ne (by omega)]
  · rw [List.getElem?_append_right (by simp; omega)]
    have e1 : (L.take o).length = o := by simp; omega
    rw [e1]
    by_cases h2 : j < o + 5
    · rw [List.getElem?_append_left (by simp; omega)]
      obtain ⟨i, rfl⟩ : ∃ i, j = o + i := ⟨j - o, by omega⟩
      have hi : i = 0 ∨ i = 1 ∨ i = 2 ∨ i = 3 ∨ i = 4 := by omega
      have e2 : o + i - o = i := by omega
      rw [e2]
      rcases hi with rfl | rfl | rfl | rfl | rfl <;> simp [List.getElem?_set] <;> omega
    · rw [List.getElem?_append_right (by simp; omega), List.getElem?_drop]
      rw [List.getElem?_set_ne (by omega), List.getElem?_set_ne (by omega), List.getElem?_set_ne (by omega), List.getElem?_set_ne (by omega), List.getElem?_set_ne (by omega)]
      congr 1
      simp; omega
theorem own_put5 {w : World} {B g n c : Nat} {us : List NV} (h : w.ownsRow B 40 5 (.slice (some ⟨g, 0, none⟩) n c) n (us.flatMap NV.cells)) (j : Nat) (hj : j < n) (v : NV) :
    (put5 w g (j * 5) v).ownsRow B 40 5 (.slice (some ⟨g, 0, none⟩) n c) n ((us.set j v).flatMap NV.cells) ∧ w.grownBy (put5 w g (j * 5) v) (some g) := by
  have hl := own_len nod_len (by decide) h
  have s0 := h.stored (j * 5) (.int .i64 v.fid)
  have s1 := s0.1.stored (j * 5 + 1) (.bool v.dir)
  have s2 := s1.1.stored (j * 5 + 2) (.slice v.dA v.dn v.dc)
  have s3 := s2.1.stored (j * 5 + 3) (.slice v.eA v.en v.ec)
  have s4 := s3.1.stored (j * 5 + 4) (.int .i64 v.ver)
  refine ⟨?_, grown_trans (grown_trans (grown_trans (grown_trans s0.2 s1.2) s2.2) s3.2) s4.2⟩
  rw [fm_set nod_len us j v (by omega)]
  have := s4.1
  rw [set5 _ _ _ _ _ _ _ (by rw [fm_len nod_len]; omega)] at this
  exact this
theorem made5 (n : Nat) : (madeCells (Value.cells (.agg #[.int .i64 0, .bool false, .slice none 0 0, .slice none 0 0, .int .i64 0])) (n * 5)).toList = (List.replicate n NV.zero).flatMap NV.cells := by
  apply List.ext_getElem?
  intro j
  by_cases hj : j < n * 5
  · have hq : j / 5 < n := by omega
    have := fm_get nod_len (List.replicate n NV.zero) (j / 5) (j % 5) NV.zero (by simp [hq]) (by omega)
    rw [Nat.div_add_mod'] at this
    rw [this]
    have hm : j % 5 = 0 ∨ j % 5 = 1 ∨ j % 5 = 2 ∨ j % 5 = 3 ∨ j % 5 = 4 := by omega
    simp [madeCells, hj, Value.cells]
    rcases hm with h | h | h | h | h <;> simp [h, NV.cells, NV.zero]
  · rw [List.getElem?_eq_none (by simp [size_madeCells]; omega), List.getElem?_eq_none (by rw [fm_len nod_len]; simp; omega)]
theorem own_at5 {w : World} {B g n c : Nat} {us : List NV} (h : w.ownsRow B 40 5 (.slice (some ⟨g, 0, none⟩) n c) n (us.flatMap NV.cells)) {j : Nat} (hj : j < n) :
    ∃ v : NV, us[j]? = some v ∧ w.cell? ⟨g, j * 5, none⟩ = some (.int .i64 v.fid) ∧ w.cell? ⟨g, j * 5 + 1, none⟩ = some (.bool v.dir) ∧
      w.cell? ⟨g, j * 5 + 2, none⟩ = some (.slice v.dA v.dn v.dc) ∧ w.cell? ⟨g, j * 5 + 3, none⟩ = some (.slice v.eA v.en v.ec) ∧ w.cell? ⟨g, j * 5 + 4, none⟩ = some (.int .i64 v.ver) ∧ (∀ o, w.frozen? ⟨g, o, none⟩ = false) ∧ g < w.heap.size := by
  obtain ⟨b, o, v, e, hlt, hv, c0, c1, c2, c3, c4⟩ := Nodes.at (Row.ofOwn nod_len (by decide) h) hj
  cases e
  simp only [Nat.zero_add] at c0 c1 c2 c3 c4
  exact ⟨v, hv, c0, c1, c2, c3, c4, fun o => h.frozenAt o, hlt⟩
theorem own_at2 {w : World} {B g n c : Nat} {us : List (ByteArray × Int)} (h : w.ownsRow B 68 2 (.slice (some ⟨g, 0, none⟩) n c) n (us.flatMap entCells)) {j : Nat} (hj : j < n) :
    ∃ v : ByteArray × Int, us[j]? = some v ∧ w.cell? ⟨g, j * 2, none⟩ = some (.string v.1) ∧ w.cell? ⟨g, j * 2 + 1, none⟩ = some (.int .i64 v.2) ∧ (∀ o, w.frozen? ⟨g, o, none⟩ = false) ∧ g < w.heap.size := by
  obtain ⟨b, o, v, e, hlt, hv, c0, c1⟩ := Ents.at (Row.ofOwn ent_len (by decide) h) hj
  cases e
  simp only [Nat.zero_add] at c0 c1
  exact ⟨v, hv, c0, c1, fun o => h.frozenAt o, hlt⟩
end Go.Proofs.Ytlegjdlmcphhlab
