/-
  RECORDS IN MEMORY, WITHOUT TREES: what the texts of chapters 2 to 4 have of rows, records, and of the reference that compares logs (kept by prune.py).
-/
import Derived.Test.YtckfodpkckmkbacDoorRows
import GoSem.Op.String
import Derived.Laws.Strings
import Derived.WalkKit
import Derived.WalkSpells
import Derived.WalkLawsBesides
import Derived.Deep.Draws
import Derived.Deep.QuietTactic
import Derived.BigQuiet
import Derived.Laws.StructEq
import Derived.Lib.AppendZerosOnto
import Derived.Lib.Overlaps
import Derived.Deep.RegionLaw
import Derived.Deep.RegionWith
import Derived.Deep.LoopGhost
import Derived.BigRegion
import Derived.Maps.RangeRun
import Derived.RegionTactic
import Derived.Deep.CutRange
namespace Go.Proofs.YtckfodpkckmkbacDoor
open Go.RowKit
namespace M
/-- an order by a test -/
structure Ordr {K : Type} (lt : K → K → Bool) : Prop where
  irr : ∀ a, lt a a = false
  tra : ∀ a b c, lt a b = true → lt b c = true → lt a c = true
  tri : ∀ a b, lt a b = false → lt b a = false → a = b

def ltB (a b : ByteArray) : Bool := Op.bytesLess a.toList b.toList
theorem toList_inj {a b : ByteArray} (h : a.toList = b.toList) : a = b := by
  rw [ByteArray.toList_eq, ByteArray.toList_eq] at h
  cases a; cases b
  exact congrArg ByteArray.mk (Array.toList_inj.1 h)
def ltI (a b : Int) : Bool := decide (a < b)
theorem ordI : Ordr ltI := ⟨fun a => by simp [ltI], fun a b c => by simp [ltI]; omega, fun a b => by simp [ltI]; omega⟩

section
variable {K : Type} (lt : K → K → Bool)
/-- they rise -/
def Rs (l : List K) : Prop := l.Pairwise fun a b => lt a b = true
variable {lt}
end
/-- a node, as the document has it -/
structure Nd where
  fid : Int
  dir : Bool
  data : List UInt8
  ents : List (ByteArray × Int)
  ver : Int

end M
theorem info5 : (Tryd.prog.info? 5).map (fun i => (i.zero, i.size, i.bytes)) = some (some (.int .u8 0), 1, 1) := by kernel_rfl

theorem ret_bool {a b : Bool} (h : a = b) : Ending.returned (.bool a) = .returned (.bool b) := by rw [h]
theorem ret_int {k : IntKind} {a b : Int} (h : a = b) : Ending.returned (.int k a) = .returned (.int k b) := by rw [h]

/-- a node's value -/
structure NV where
  fid : Int
  dir : Bool
  dA : Option Addr
  dn : Nat
  dc : Nat
  eA : Option Addr
  en : Nat
  ec : Nat
  ver : Int
def NV.cells (v : NV) : List Value := [.int .i64 v.fid, .bool v.dir, .slice v.dA v.dn v.dc, .slice v.eA v.en v.ec, .int .i64 v.ver]
@[reducible] def NV.val (v : NV) : Value := .agg #[.int .i64 v.fid, .bool v.dir, .slice v.dA v.dn v.dc, .slice v.eA v.en v.ec, .int .i64 v.ver]

/-- n elements of k cells each lie at A -/
def Row {α : Type} (k : Nat) (cs : α → List Value) (w : World) (A : Option Addr) (n : Nat) (vs : List α) : Prop :=
  n = vs.length ∧ (vs = [] ∨ ∃ b o, A = some ⟨b, o, none⟩ ∧ b < w.heap.size ∧ ∀ (j : Nat) v, vs[j]? = some v → ∀ (i : Nat) c, (cs v)[i]? = some c → w.cell? ⟨b, o + j * k + i, none⟩ = some c)
theorem Row.below {α : Type} {k : Nat} {cs : α → List Value} {B : Nat} {w w' : World} {A : Option Addr} {n : Nat} {vs : List α} (h : Row k cs w A n vs) (hB : w.heap.size ≤ B) (hb : Below B w w') : Row k cs w' A n vs := by
  obtain ⟨hn, h⟩ := h
  refine ⟨hn, h.imp id ?_⟩
  rintro ⟨b, o, e, hlt, hc⟩
  refine ⟨b, o, e, by have := hb.size; omega, fun j v hv i c hi => ?_⟩
  rw [hb.cell (p := ⟨b, o + j * k + i, none⟩) (by show b < B; omega)]
  exact hc j v hv i c hi
theorem Row.at {α : Type} {k : Nat} {cs : α → List Value} {w : World} {A : Option Addr} {n : Nat} {vs : List α} (h : Row k cs w A n vs) {j : Nat} (hj : j < n) :
    ∃ b o v, A = some ⟨b, o, none⟩ ∧ b < w.heap.size ∧ vs[j]? = some v ∧ ∀ (i : Nat) c, (cs v)[i]? = some c → w.cell? ⟨b, o + j * k + i, none⟩ = some c := by
  obtain ⟨hn, h⟩ := h
  rcases h with h | ⟨b, o, e, hlt, hc⟩
  · subst h; simp at hn; omega
  · have hx : vs[j]? = some vs[j] := List.getElem?_eq_getElem (by omega)
    exact ⟨b, o, _, e, hlt, hx, hc j _ hx⟩
abbrev Nodes := Row 5 NV.cells
theorem Nodes.at {w : World} {A : Option Addr} {n : Nat} {vs : List NV} (h : Nodes w A n vs) {j : Nat} (hj : j < n) :
    ∃ b o v, A = some ⟨b, o, none⟩ ∧ b < w.heap.size ∧ vs[j]? = some v ∧ w.cell? ⟨b, o + j * 5, none⟩ = some (.int .i64 v.fid) ∧ w.cell? ⟨b, o + j * 5 + 1, none⟩ = some (.bool v.dir) ∧
      w.cell? ⟨b, o + j * 5 + 2, none⟩ = some (.slice v.dA v.dn v.dc) ∧ w.cell? ⟨b, o + j * 5 + 3, none⟩ = some (.slice v.eA v.en v.ec) ∧ w.cell? ⟨b, o + j * 5 + 4, none⟩ = some (.int .i64 v.ver) := by
  obtain ⟨b, o, v, e, hlt, hv, hc⟩ := Row.at h hj
  exact ⟨b, o, v, e, hlt, hv, hc 0 _ rfl, hc 1 _ rfl, hc 2 _ rfl, hc 3 _ rfl, hc 4 _ rfl⟩

/-- an entry's value and cells; a byte's; a text's -/
def entCells (x : ByteArray × Int) : List Value := [.string x.1, .int .i64 x.2]
def byteCells1 (x : UInt8) : List Value := [.int .u8 (x.toNat : Int)]
def strCells (x : ByteArray) : List Value := [.string x]
abbrev Ents := Row 2 entCells
abbrev Byts := Row 1 byteCells1
theorem Ents.at {w : World} {A : Option Addr} {n : Nat} {vs : List (ByteArray × Int)} (h : Ents w A n vs) {j : Nat} (hj : j < n) :
    ∃ b o v, A = some ⟨b, o, none⟩ ∧ b < w.heap.size ∧ vs[j]? = some v ∧ w.cell? ⟨b, o + j * 2, none⟩ = some (.string v.1) ∧ w.cell? ⟨b, o + j * 2 + 1, none⟩ = some (.int .i64 v.2) := by
  obtain ⟨b, o, v, e, hlt, hv, hc⟩ := Row.at h hj
  exact ⟨b, o, v, e, hlt, hv, hc 0 _ rfl, hc 1 _ rfl⟩

theorem raw_yes (x : ByteArray) : (x.toList == x.toList) = true := beq_self_eq_true _
theorem raw_no {x y : ByteArray} (h : x ≠ y) : (x.toList == y.toList) = false := by
  rw [beq_eq_false_iff_ne]
  exact fun e => h (M.toList_inj e)
theorem raw_eq (x y : ByteArray) : (x.toList == y.toList) = decide (x = y) := by
  by_cases h : x = y
  · subst h; simp
  · rw [raw_no h]; simp [h]

section
variable {α : Type} {cs : α → List Value} {k : Nat}
theorem fm_len (hk : ∀ v, (cs v).length = k) : ∀ vs : List α, (vs.flatMap cs).length = vs.length * k
  | [] => by simp
  | v :: vs => by rw [List.flatMap_cons, List.length_append, hk, fm_len hk vs, List.length_cons, Nat.add_mul]; omega
theorem fm_get (hk : ∀ v, (cs v).length = k) : ∀ (vs : List α) (j i : Nat) (v : α), vs[j]? = some v → i < k → (vs.flatMap cs)[j * k + i]? = (cs v)[i]?
  | [], j, i, v, h, _ => by cases h
  | u :: vs, 0, i, v, h, hi => by
    cases h
    rw [List.flatMap_cons, List.getElem?_append_left (by rw [hk]; omega), Nat.zero_mul, Nat.zero_add]
  | u :: vs, j + 1, i, v, h, hi => by
    rw [List.flatMap_cons, List.getElem?_append_right (by rw [hk, Nat.add_mul]; omega), hk, ← fm_get hk vs j i v h hi]
    congr 1
    rw [Nat.add_mul]; omega
theorem fm_inv (hk : ∀ v, (cs v).length = k) (vs : List α) (j : Nat) (u : Value) (h : (vs.flatMap cs)[j]? = some u) : ∃ v, vs[j / k]? = some v ∧ (cs v)[j % k]? = some u := by
  have hj : j < (vs.flatMap cs).length := by
    rcases Nat.lt_or_ge j (vs.flatMap cs).length with h1 | h1
    · exact h1
    · rw [List.getElem?_eq_none h1] at h; cases h
  rw [fm_len hk] at hj
  have hk0 : 0 < k := by
    rcases Nat.eq_zero_or_pos k with e | e
    · subst e; simp at hj
    · exact e
  have hq : j / k < vs.length := Nat.div_lt_of_lt_mul (by rw [Nat.mul_comm]; exact hj)
  have hv : vs[j / k]? = some vs[j / k] := List.getElem?_eq_getElem hq
  refine ⟨_, hv, ?_⟩
  rw [← fm_get hk vs (j / k) (j % k) _ hv (Nat.mod_lt _ hk0), Nat.div_add_mod' j k]
  exact h
theorem own_form {w : World} {B : Nat} {e : TypeId} {v : Value} {n : Nat} {xs : List Value} (h : w.ownsRow B e k v n xs) : ∃ A c, v = .slice A n c ∧ n ≤ c ∧ c ≤ maxLen := by
  rcases h.2 with ⟨rfl, rfl⟩ | ⟨g, cap, cur, rfl, _, _, h1, h2, _⟩
  · exact ⟨none, 0, rfl, Nat.le_refl _, by decide⟩
  · exact ⟨_, _, rfl, h1, h2⟩
theorem own_len {w : World} {B : Nat} {e : TypeId} {v : Value} {n : Nat} {vs : List α} (hk : ∀ v, (cs v).length = k) (k0 : 0 < k) (h : w.ownsRow B e k v n (vs.flatMap cs)) : n = vs.length := by
  have := h.1
  rw [fm_len hk] at this
  exact (Nat.eq_of_mul_eq_mul_right k0 this).symm
theorem Row.ofOwn {w : World} {B : Nat} {e : TypeId} {A : Option Addr} {n c : Nat} {vs : List α} (hk : ∀ v, (cs v).length = k) (k0 : 0 < k) (h : w.ownsRow B e k (.slice A n c) n (vs.flatMap cs)) : Row k cs w A n vs := by
  refine ⟨own_len hk k0 h, ?_⟩
  rcases h.2 with ⟨h', rfl⟩ | ⟨g, cap, cur, h', hb, hg, hnc, hcm, hcs, htake⟩
  · left
    have := own_len hk k0 h
    exact List.eq_nil_of_length_eq_zero this.symm
  · right
    simp only [Value.slice.injEq, true_and] at h'
    obtain ⟨rfl, rfl⟩ := h'
    refine ⟨g, 0, rfl, (h.lt g rfl).2, fun j v hv i u hu => ?_⟩
    have hi : i < k := by
      rcases Nat.lt_or_ge i (cs v).length with h1 | h1
      · rwa [hk] at h1
      · rw [List.getElem?_eq_none h1] at hu; cases hu
    have hj : j < n := by
      rw [own_len hk k0 h]
      rcases Nat.lt_or_ge j vs.length with h1 | h1
      · exact h1
      · rw [List.getElem?_eq_none h1] at hv; cases hv
    rw [Nat.zero_add, h.cellAt (j * k + i) (by have : (j + 1) * k ≤ n * k := Nat.mul_le_mul_right _ hj; rw [Nat.add_mul] at this; omega), fm_get hk vs j i v hv hi]
    exact hu
theorem own_apart {w : World} {B B' : Nat} {e e' : TypeId} {k k' : Nat} {v v' : Value} {n n' : Nat} {xs xs' : List Value} (h : w.ownsRow B e k v n xs) (h' : w.ownsRow B' e' k' v' n' xs') (hne : e ≠ e') : v.ownBlock = none ∨ v.ownBlock ≠ v'.ownBlock := by
  rcases h.2 with ⟨rfl, _⟩ | ⟨g, cap, cur, rfl, _, hg, _⟩
  · exact .inl rfl
  · right
    rcases h'.2 with ⟨rfl, _⟩ | ⟨g', cap', cur', rfl, _, hg', _⟩
    · simp [Value.ownBlock]
    · simp only [Value.ownBlock, ne_eq, Option.some.injEq]
      rintro rfl
      rw [hg] at hg'
      simp at hg'
      exact hne hg'.2
theorem own_mono {w : World} {B B' : Nat} {e : TypeId} {v : Value} {n : Nat} {xs : List Value} (h : w.ownsRow B e k v n xs) (hB : B' ≤ B) : w.ownsRow B' e k v n xs := by
  refine ⟨h.1, h.2.imp id ?_⟩
  rintro ⟨g, cap, cur, e1, h1, r⟩
  exact ⟨g, cap, cur, e1, by omega, r⟩
theorem own_below {w w' : World} {B C : Nat} {e : TypeId} {v : Value} {n : Nat} {xs : List Value} (h : w.ownsRow B e k v n xs) (hb : Below C w w') (hC : w.heap.size ≤ C) : w'.ownsRow B e k v n xs := by
  refine ⟨h.1, ?_⟩
  rcases h.2 with h2 | ⟨g, cap, cur, e1, h1, hg, r⟩
  · exact .inl h2
  · exact .inr ⟨g, cap, cur, e1, h1, by rw [hb.block g (by have := lt_of_block hg; omega)]; exact hg, r⟩

/-- append onto a row of one's own, of whatever a row holds -/
theorem run_append_row {P : Program} (w : World) (B : Nat) (t ty e : TypeId) (i : TypeInfo) (z : Value) (bytes : Nat) (ht : P.underlying t = some (.slice e)) (hi : P.info? e = some i) (hz : i.zero = some z)
    (hsize : i.size = k) (hby : i.bytes = bytes) (hzs : z.cells.size = k) (hsz : 0 < k) (v : Value) (n : Nat) (xs : List Value) (hown : w.ownsRow B e k v n xs)
    (A : Option Addr) (m c : Nat) (vs : List α) (hrow : Row k cs w A m vs) (hk : ∀ v, (cs v).length = k) (h1 : ∀ v, ∀ u ∈ cs v, u.oneCell' = true)
    (h63 : n + m ≤ maxLen) (hbytes : (n + m) * bytes ≤ 140737488355328) (hbase : B ≤ w.heap.size) :
    ∃ v' w', (Builtin.append_ #[t, t] ty #[v, .slice A m c]).run P w = .ok v' w' ∧ w'.ownsRow B e k v' (n + m) (xs ++ vs.flatMap cs) ∧ w.grownBy w' v.ownBlock := by
  cases A with
  | none =>
    have hm : m = 0 := by
      rcases hrow.2 with h | ⟨b, o, h, _⟩
      · rw [hrow.1, h]; rfl
      · cases h
    have hvs : vs = [] := List.eq_nil_of_length_eq_zero (by rw [← hrow.1]; exact hm)
    subst hm hvs
    refine ⟨v, w, ?_, by simpa using hown, World.grownBy.refl _ _⟩
    rcases hown.2 with ⟨rfl, rfl⟩ | ⟨g, cap, cur, rfl, _, _, hnc, _⟩
    · simp [Builtin.append_, run_underlying ht, sizeOf, typeInfo, hi, Builtin.lenOf, Builtin.firstCells]
    · simp [Builtin.append_, run_underlying ht, sizeOf, typeInfo, hi, Builtin.lenOf, Builtin.firstCells, hnc, storeCells]
  | some a =>
    have hl : (vs.flatMap cs).length = m * k := by rw [fm_len hk, hrow.1]
    have hone : ∀ u ∈ vs.flatMap cs, u.oneCell' = true := by
      intro u hu
      obtain ⟨v, _, hv⟩ := List.mem_flatMap.1 hu
      exact h1 v u hv
    have hcell : ∀ j u, (vs.flatMap cs)[j]? = some u → w.cell? (a.add j) = some u := by
      intro j u hu
      rcases hrow.2 with h | ⟨b, o, h, hb, hc⟩
      · subst h; cases hu
      · cases h
        obtain ⟨v, hv, hv2⟩ := fm_inv hk vs j u hu
        have := hc _ v hv _ u hv2
        rw [Nat.add_assoc, Nat.div_add_mod'] at this
        rw [show (⟨b, o, none⟩ : Addr).add j = ⟨b, o + j, none⟩ from by simp [Addr.add]]; exact this
    obtain ⟨v', w', hr, h2, h3, _⟩ := run_append_own (P := P) w B t ty e i z k bytes ht hi hz hsize hby hzs hsz v n xs hown a m c _ hl hcell hone h63 hbytes hbase
    exact ⟨v', w', hr, h2, h3⟩

theorem wpList_append_row {P : Program} (w : World) {ops : Array Oper} {rest : List Oper} {o : Oper} {a : Act} {Q : Exit → Act → World → Prop} (hgd : o.guard = none) (s x : Operand) (t : TypeId)
    (ho : o.op = .call { callee := .builtin .append, args := #[s, x], argTypes := #[t, t] })
    (B : Nat) (e : TypeId) (i : TypeInfo) (z : Value) (bytes : Nat) (ht : P.underlying t = some (.slice e)) (hi : P.info? e = some i) (hz : i.zero = some z)
    (hsize : i.size = k) (hby : i.bytes = bytes) (hzs : z.cells.size = k) (hsz : 0 < k) (v : Value) (n : Nat) (xs : List Value) (hs : a.eval s = v) (hown : w.ownsRow B e k v n xs)
    (A : Option Addr) (m c : Nat) (vs : List α) (hx : a.eval x = .slice A m c) (hrow : Row k cs w A m vs) (hk : ∀ v, (cs v).length = k) (h1 : ∀ v, ∀ u ∈ cs v, u.oneCell' = true)
    (h63 : n + m ≤ maxLen) (hbytes : (n + m) * bytes ≤ 140737488355328) (hbase : B ≤ w.heap.size)
    (h : ∀ v' w', w'.ownsRow B e k v' (n + m) (xs ++ vs.flatMap cs) → w.grownBy w' v.ownBlock → wpList P ops Q rest (a.put o.dst v') w') : wpList P ops Q (o :: rest) a w := by
  obtain ⟨v', w', hr, h2, h3⟩ := run_append_row (P := P) w B t o.type e i z bytes ht hi hz hsize hby hzs hsz v n xs hown A m c vs hrow hk h1 h63 hbytes hbase
  refine wpList_plain hgd fun K hK => ?_
  unfold Oper.wp execOp
  simp only [ho, resolve, invoke, builtin, Sem.run_bind, Sem.run_pure, Result.andThen_ok, List.map_toArray, List.map_cons, List.map_nil, hs, hx, hr]
  exact hK _ _ (h v' w' h2 h3)
end
theorem grown_below {w w' : World} (hg : w.grownBy w' none) : Below w.heap.size w w' := ⟨hg.os, hg.tape, hg.output, hg.size, fun k hk => hg.block k hk (by simp)⟩
theorem bcell {W w1 : World} (hb : Below W.heap.size W w1) : (∀ b o, b < W.heap.size → w1.cell? ⟨b, o, none⟩ = W.cell? ⟨b, o, none⟩) ∧ (∀ b o, b < W.heap.size → w1.frozen? ⟨b, o, none⟩ = W.frozen? ⟨b, o, none⟩) :=
  ⟨fun b o h => hb.cell (p := ⟨b, o, none⟩) h, fun b o h => hb.frozen (p := ⟨b, o, none⟩) h⟩
theorem byt_len (x : UInt8) : (byteCells1 x).length = 1 := rfl
theorem str_len (x : ByteArray) : (strCells x).length = 1 := rfl
theorem byt_one (x : UInt8) : ∀ u ∈ byteCells1 x, u.oneCell' = true := by intro u hu; simp [byteCells1] at hu; subst hu; rfl
theorem str_one (x : ByteArray) : ∀ u ∈ strCells x, u.oneCell' = true := by intro u hu; simp [strCells] at hu; subst hu; rfl

def NV.zero : NV := ⟨0, false, none, 0, 0, none, 0, 0, 0⟩
/-- the value v is the node x -/
def Cont (w : World) (v : NV) (x : M.Nd) : Prop := v.fid = x.fid ∧ v.dir = x.dir ∧ v.ver = x.ver ∧ Byts w v.dA v.dn x.data ∧ Ents w v.eA v.en x.ents
theorem Cont.below {B : Nat} {w w' : World} {v : NV} {x : M.Nd} (h : Cont w v x) (hB : w.heap.size ≤ B) (hb : Below B w w') : Cont w' v x :=
  ⟨h.1, h.2.1, h.2.2.1, h.2.2.2.1.below hB hb, h.2.2.2.2.below hB hb⟩
/-- no list of it is too long -/
def Small (x : M.Nd) : Prop := x.data.length ≤ 140737488355328 ∧ x.ents.length * 24 ≤ 140737488355328

/-- pair by pair -/
def All2 {α β : Type} (R : α → β → Prop) (vs : List α) (xs : List β) : Prop := vs.length = xs.length ∧ ∀ (j : Nat) v x, vs[j]? = some v → xs[j]? = some x → R v x
theorem All2.imp {α β : Type} {R S : α → β → Prop} {vs : List α} {xs : List β} (h : All2 R vs xs) (f : ∀ v x, R v x → S v x) : All2 S vs xs := ⟨h.1, fun j v x hv hx => f v x (h.2 j v x hv hx)⟩
theorem All2.nil {α β : Type} {R : α → β → Prop} : All2 R [] [] := ⟨rfl, fun j v x hv => by cases hv⟩
theorem All2.cons {α β : Type} {R : α → β → Prop} {v : α} {x : β} {vs : List α} {xs : List β} (h0 : R v x) (h : All2 R vs xs) : All2 R (v :: vs) (x :: xs) :=
  ⟨by simp [h.1], fun j v' x' hv hx => by
    cases j with
    | zero => cases hv; cases hx; exact h0
    | succ j => exact h.2 j v' x' hv hx⟩
theorem All2.append {α β : Type} {R : α → β → Prop} {vs us : List α} {xs ys : List β} (h : All2 R vs xs) (h' : All2 R us ys) : All2 R (vs ++ us) (xs ++ ys) := by
  refine ⟨by simp [h.1, h'.1], fun j v x hv hx => ?_⟩
  rcases Nat.lt_or_ge j vs.length with h1 | h1
  · rw [List.getElem?_append_left h1] at hv
    rw [List.getElem?_append_left (by rw [← h.1]; exact h1)] at hx
    exact h.2 j v x hv hx
  · rw [List.getElem?_append_right h1] at hv
    rw [List.getElem?_append_right (by rw [← h.1]; exact h1), ← h.1] at hx
    exact h'.2 _ v x hv hx
theorem All2.one {α β : Type} {R : α → β → Prop} {v : α} {x : β} (h : R v x) : All2 R [v] [x] := All2.cons h All2.nil
theorem All2.take {α β : Type} {R : α → β → Prop} {vs : List α} {xs : List β} (h : All2 R vs xs) (k : Nat) : All2 R (vs.take k) (xs.take k) := by
  refine ⟨by simp [h.1], fun j v x hv hx => ?_⟩
  rw [List.getElem?_take] at hv hx
  split at hv
  · rename_i hk; rw [if_pos hk] at hx; exact h.2 j v x hv hx
  · cases hv
theorem All2.drop {α β : Type} {R : α → β → Prop} {vs : List α} {xs : List β} (h : All2 R vs xs) (k : Nat) : All2 R (vs.drop k) (xs.drop k) := by
  refine ⟨by simp [h.1], fun j v x hv hx => ?_⟩
  rw [List.getElem?_drop] at hv hx
  exact h.2 _ v x hv hx
theorem All2.at {α β : Type} {R : α → β → Prop} {vs : List α} {xs : List β} (h : All2 R vs xs) {j : Nat} {v : α} (hv : vs[j]? = some v) : ∃ x, xs[j]? = some x ∧ R v x := by
  have hj : j < vs.length := by
    rcases Nat.lt_or_ge j vs.length with h1 | h1
    · exact h1
    · rw [List.getElem?_eq_none h1] at hv; cases hv
  have hj' : j < xs.length := by rw [← h.1]; exact hj
  have hx : xs[j]? = some xs[j] := List.getElem?_eq_getElem hj'
  exact ⟨_, hx, h.2 j v _ hv hx⟩
theorem All2.map {α β γ : Type} {R : α → β → Prop} {vs : List α} {xs : List β} (h : All2 R vs xs) (f : α → γ) (g : β → γ) (hfg : ∀ v x, R v x → f v = g x) : vs.map f = xs.map g := by
  apply List.ext_getElem?
  intro j
  rw [List.getElem?_map, List.getElem?_map]
  cases hv : vs[j]? with
  | none =>
    have : xs[j]? = none := by
      rw [List.getElem?_eq_none_iff] at hv ⊢; rw [← h.1]; exact hv
    rw [this]; rfl
  | some v =>
    obtain ⟨x, hx, hr⟩ := h.at hv
    rw [hx]; simp [hfg v x hr]

/-- a tree that came in; a tree of one's own -/
def Tree (w : World) (A : Option Addr) (n : Nat) (vs : List NV) (xs : List M.Nd) : Prop := Nodes w A n vs ∧ All2 (Cont w) vs xs
theorem Tree.below {B : Nat} {w w' : World} {A : Option Addr} {n : Nat} {vs : List NV} {xs : List M.Nd} (h : Tree w A n vs xs) (hB : w.heap.size ≤ B) (hb : Below B w w') : Tree w' A n vs xs :=
  ⟨h.1.below hB hb, h.2.imp fun _ _ h => h.below hB hb⟩
/-- what is no row of nodes stays while a row of nodes is written -/
theorem own_grown {w w' : World} {B B' : Nat} {e e' : TypeId} {k k' : Nat} {v v' : Value} {n n' : Nat} {xs xs' : List Value} (h : w.ownsRow B e k v n xs) (h' : w.ownsRow B' e' k' v' n' xs') (hne : e ≠ e') (hg : w.grownBy w' v'.ownBlock) : w'.ownsRow B e k v n xs :=
  h.kept hg (own_apart h h' hne)
theorem SmallT.len {xs : List M.Nd} {n : Nat} (h : n = xs.length) (hs : xs.length * 72 ≤ 140737488355328) : n * 72 ≤ 140737488355328 := by rw [h]; exact hs

theorem grown_trans {a b c : World} {row : Option Nat} (h : a.grownBy b row) (k : b.grownBy c row) : a.grownBy c row :=
  ⟨k.os.trans h.os, k.tape.trans h.tape, k.output.trans h.output, Nat.le_trans h.size k.size, fun j hj hr => (k.block j (Nat.lt_of_lt_of_le hj h.size) hr).trans (h.block j hj hr)⟩
namespace M
section
variable {K X : Type} {lt : K → K → Bool}
theorem rs_sub {ks ls : List K} (h : Rs lt ls) (hs : ks.Sublist ls) : Rs lt ks := List.Pairwise.sublist hs h

variable [DecidableEq K] (f : X → K) (xs : List X) (t : K)
/-- x in its place -/
def put (lt : K → K → Bool) (f : X → K) (xs : List X) (x : X) : List X := xs.filter (fun y => lt (f y) (f x)) ++ x :: xs.filter (fun y => lt (f x) (f y))
omit [DecidableEq K] in
theorem put_rs (o : Ordr lt) (x : X) (hr : Rs lt (xs.map f)) : Rs lt ((put lt f xs x).map f) := by
  unfold put Rs
  rw [List.map_append, List.map_cons, List.pairwise_append, List.pairwise_cons]
  refine ⟨rs_sub hr (List.filter_sublist.map f), ⟨?_, rs_sub hr (List.filter_sublist.map f)⟩, ?_⟩
  · intro k hk
    obtain ⟨y, hy, rfl⟩ := List.mem_map.1 hk
    exact (List.mem_filter.1 hy).2
  · intro a ha b hb
    obtain ⟨y, hy, rfl⟩ := List.mem_map.1 ha
    have h1 := (List.mem_filter.1 hy).2
    rcases List.mem_cons.1 hb with rfl | hb
    · exact h1
    · obtain ⟨z, hz, rfl⟩ := List.mem_map.1 hb
      exact o.tra _ _ _ h1 (List.mem_filter.1 hz).2
end
abbrev RsN (xs : List Nd) : Prop := Rs ltI (xs.map (·.fid))
abbrev RsE (es : List (ByteArray × Int)) : Prop := Rs ltB (es.map (·.1))
def find (xs : List Nd) (t : Int) : Option Nd := xs.find? (fun x => decide (x.fid = t))
def putN (xs : List Nd) (x : Nd) : List Nd := put ltI (·.fid) xs x
end M
/-- a list of bytes as a text -/
def txt (l : List UInt8) : ByteArray := ⟨l.toArray⟩
theorem txt_inj {a b : List UInt8} : txt a = txt b ↔ a = b := by
  constructor
  · intro h
    have := congrArg (fun x : ByteArray => x.data.toList) h
    simpa [txt] using this
  · rintro rfl; rfl
theorem conv_byts {w : World} {A : Option Addr} {n c : Nat} {l : List UInt8} (h : Byts w A n l) : (convert 33 9 (.slice A n c)).run Tryd.prog w = .ok (.string (txt l)) w := by
  cases A with
  | none =>
    have hl : l = [] := by
      rcases h.2 with h' | ⟨b, o, h', _⟩
      · exact h'
      · cases h'
    subst hl
    rw [run_convert_bytes_string w 33 9 5 none n c Tryd.underlying33 Tryd.underlying5 Tryd.underlying9]
    rfl
  | some a =>
    rw [h.1]
    exact run_convert_bytes_back w 33 9 5 a c l Tryd.underlying33 Tryd.underlying5 Tryd.underlying9 (fun j hj => by
      rcases h.2 with h' | ⟨b, o, h', _, hc⟩
      · subst h'; simp at hj
      · cases h'
        have := hc j l[j] (List.getElem?_eq_getElem hj) 0 _ rfl
        rw [show (⟨b, o, none⟩ : Addr).add j = ⟨b, o + j, none⟩ from by simp [Addr.add]]
        simpa using this)

theorem take_step {α : Type} {xs : List α} {k : Nat} {x : α} (h : xs[k]? = some x) : xs.take (k + 1) = xs.take k ++ [x] := by
  rw [List.take_add_one, h]; rfl
theorem below_drewN {B : Nat} {a w : World} (h : Below B a w) : ∀ k, Below B a (w.drewN k)
  | 0 => h
  | k + 1 => (below_drewN h k).drew

/-- two lists, pair by pair -/
def allB {α : Type} (f : α → α → Bool) : List α → List α → Bool
  | [], [] => true
  | a :: l, b :: m => f a b && allB f l m
  | _, _ => false
theorem allB_len {α : Type} {f : α → α → Bool} : ∀ {l m : List α}, l.length ≠ m.length → allB f l m = false
  | [], [], h => absurd rfl h
  | [], _ :: _, _ => rfl
  | _ :: _, [], _ => rfl
  | a :: l, b :: m, h => by rw [allB, allB_len (by simpa using h), Bool.and_false]
theorem allB_snoc {α : Type} {f : α → α → Bool} : ∀ {l m : List α} {a b : α}, l.length = m.length → allB f (l ++ [a]) (m ++ [b]) = (allB f l m && f a b)
  | [], [], a, b, _ => by simp [allB]
  | [], _ :: _, _, _, h => by simp at h
  | _ :: _, [], _, _, h => by simp at h
  | c :: l, d :: m, a, b, h => by rw [List.cons_append, List.cons_append, allB, allB, allB_snoc (by simpa using h), Bool.and_assoc]
theorem allB_no {α : Type} {f : α → α → Bool} : ∀ {l m : List α} {k : Nat} {a b : α}, l[k]? = some a → m[k]? = some b → f a b = false → allB f l m = false
  | [], _, k, _, _, h, _, _ => by cases h
  | _ :: _, [], k, _, _, _, h, _ => by cases h
  | c :: l, d :: m, 0, a, b, h1, h2, hf => by cases h1; cases h2; rw [allB, hf, Bool.false_and]
  | c :: l, d :: m, k + 1, a, b, h1, h2, hf => by rw [allB, allB_no (k := k) h1 h2 hf, Bool.and_false]

namespace M
/-- fids rise, and names in each -/
def Rise (xs : List Nd) : Prop := RsN xs ∧ ∀ x ∈ xs, RsE x.ents
end M
theorem ret_two {a b c d : Int} (h : (a, b) = (c, d)) : Ending.returned (.tuple #[.int .i64 a, .int .i64 b]) = .returned (.tuple #[.int .i64 c, .int .i64 d]) := by cases h; rfl
section
variable {P : Program} {k : Nat}
theorem row_sub {α : Type} {cs : α → List Value} {w : World} {b o n : Nat} {vs : List α} (h : Row k cs w (some ⟨b, o, none⟩) n vs) (i : Nat) : Row k cs w (some ⟨b, o + i * k, none⟩) (n - i) (vs.drop i) := by
  refine ⟨by rw [List.length_drop, h.1], ?_⟩
  rcases h.2 with h' | ⟨b', o', e, hlt, hc⟩
  · subst h'; exact .inl (by simp)
  · cases e
    refine .inr ⟨b, o + i * k, rfl, hlt, fun j v hv t u hu => ?_⟩
    rw [List.getElem?_drop] at hv
    have := hc (i + j) v hv t u hu
    rw [Nat.add_mul] at this
    rw [← this]
    congr 2
    omega
end
/-- what is kept of two lists, pair by pair -/
theorem All2.filter {α β : Type} {R : α → β → Prop} (p : α → Bool) (q : β → Bool) : ∀ {vs : List α} {xs : List β}, All2 R vs xs → (∀ v x, R v x → p v = q x) → All2 R (vs.filter p) (xs.filter q)
  | [], [], h, _ => h
  | [], _ :: _, h, _ => by have := h.1; simp at this
  | _ :: _, [], h, _ => by have := h.1; simp at this
  | v :: vs, x :: xs, h, hpq => by
    have h0 : R v x := h.2 0 v x rfl rfl
    have ht : All2 R vs xs := ⟨by simpa using h.1, fun j a b ha hb => h.2 (j + 1) a b ha hb⟩
    have ih := All2.filter p q ht hpq
    rw [List.filter_cons, List.filter_cons, hpq v x h0]
    split
    · exact All2.cons h0 ih
    · exact ih

namespace M
def idxN (xs : List Nd) (t : Int) : Option Nat := xs.findIdx? (fun x => decide (x.fid = t))
def meetS (xs : List Nd) (st : List Bool × List Nat) (t : Int) : List Bool × List Nat :=
  match idxN xs t with
  | none => st
  | some i => if st.1[i]? = some false then (st.1.set i true, st.2 ++ [i]) else st
end M
/-- what meetings have done: each one stays as it is, or marks a node that was not yet, and lays it ahead; of a list that rises, what meetS says -/
structure Met (xs : List M.Nd) (n : Nat) (st : List Bool × List Nat) (ts : List Int) (st' : List Bool × List Nat) : Prop where
  len : st'.1.length = st.1.length
  ahl : (∀ i ∈ st.2, i < n) → ∀ i ∈ st'.2, i < n
  cnt : st.2.length ≤ st.1.count true → st'.2.length ≤ st'.1.count true
  meas : st'.2.length + 2 * st'.1.count false ≤ st.2.length + 2 * st.1.count false
  exa : M.RsN xs → st' = ts.foldl (M.meetS xs) st
theorem Met.nil (xs : List M.Nd) (n : Nat) (st : List Bool × List Nat) : Met xs n st [] st := ⟨rfl, fun h => h, fun h => h, Nat.le_refl _, fun _ => rfl⟩
theorem Met.trans {xs : List M.Nd} {n : Nat} {a b c : List Bool × List Nat} {ts us : List Int} (h : Met xs n a ts b) (k : Met xs n b us c) : Met xs n a (ts ++ us) c :=
  ⟨k.len.trans h.len, fun h0 => k.ahl (h.ahl h0), fun h0 => k.cnt (h.cnt h0), Nat.le_trans k.meas h.meas, fun hr => by rw [List.foldl_append, ← h.exa hr]; exact k.exa hr⟩

namespace M
def signB (b : UInt8) : Bool := (97 ≤ b && b ≤ 122) || (48 ≤ b && b ≤ 57)
def nameB (l : List UInt8) : Bool := decide (1 ≤ l.length) && decide (l.length ≤ 8) && l.all signB
end M
theorem signB_int (c : UInt8) : M.signB c = (decide (97 ≤ (c.toNat : Int)) && decide ((c.toNat : Int) ≤ 122) || decide (48 ≤ (c.toNat : Int)) && decide ((c.toNat : Int) ≤ 57)) := by
  unfold M.signB
  have e1 : decide ((97 : UInt8) ≤ c) = decide (97 ≤ (c.toNat : Int)) := by rw [decide_eq_decide, UInt8.le_iff_toNat_le]; simp; omega
  have e2 : decide (c ≤ (122 : UInt8)) = decide ((c.toNat : Int) ≤ 122) := by rw [decide_eq_decide, UInt8.le_iff_toNat_le]; simp; omega
  have e3 : decide ((48 : UInt8) ≤ c) = decide (48 ≤ (c.toNat : Int)) := by rw [decide_eq_decide, UInt8.le_iff_toNat_le]; simp; omega
  have e4 : decide (c ≤ (57 : UInt8)) = decide ((c.toNat : Int) ≤ 57) := by rw [decide_eq_decide, UInt8.le_iff_toNat_le]; simp; omega
  rw [e1, e2, e3, e4]

set_option maxHeartbeats 400000 in
theorem sign_any (c : UInt8) (w : World) :
    Calls Tryd.prog 37 #[.int .u8 (c.toNat : Int)] w fun e w' => e = .returned (.bool (M.signB c)) ∧ w' = w := by
  have HS : Hid (M.signB c = (decide (97 ≤ (c.toNat : Int)) && decide ((c.toNat : Int) ≤ 122) || decide (48 ≤ (c.toNat : Int)) && decide ((c.toNat : Int) ≤ 57))) := signB_int c
  by_cases h1 : 97 ≤ (c.toNat : Int) <;> by_cases h2 : (c.toNat : Int) ≤ 122 <;> by_cases h3 : 48 ≤ (c.toNat : Int) <;> by_cases h4 : (c.toNat : Int) ≤ 57 <;>
  (go_enter Tryd.func37, Tryd.ntmps37
   go_wp2
   go_ret
   exact ⟨ret_bool (by rw [HS.out]; first | omega | (simp; omega)), rfl⟩)

/-- a list's sign by its place -/
theorem take_snoc (s : ByteArray) (k : Nat) (h : k < s.size) : s.data.toList.take (k + 1) = s.data.toList.take k ++ [s[k]] := by
  rw [List.take_succ_eq_append_getElem (by simpa using h)]; rfl
theorem take_all (s : ByteArray) (k : Nat) (h : s.size ≤ k) : s.data.toList.take k = s.data.toList :=
  List.take_of_length_le (by simpa using h)
theorem len_data (s : ByteArray) : s.data.toList.length = s.size := by simp

theorem name_long {s : ByteArray} (h : s.size < 1 ∨ 8 < s.size) : M.nameB s.data.toList = false := by
  have e := len_data s
  unfold M.nameB
  rw [e]
  simp only [Bool.and_eq_false_iff, decide_eq_false_iff_not]
  omega
theorem name_yes {s : ByteArray} (h1 : 1 ≤ s.size) (h2 : s.size ≤ 8) (h : s.data.toList.all M.signB = true) : M.nameB s.data.toList = true := by
  have e := len_data s
  unfold M.nameB
  rw [e, h]
  simp [h1, h2]
theorem name_bad {s : ByteArray} (h : s.data.toList.all M.signB = false) : M.nameB s.data.toList = false := by
  unfold M.nameB
  rw [h]
  simp
theorem all_bad (s : ByteArray) (k : Nat) (h : k < s.size) (hb : M.signB s[k] = false) : s.data.toList.all M.signB = false := by
  rw [List.all_eq_false]
  have hm : s.data.toList[k]'(by simpa using h) ∈ s.data.toList := List.getElem_mem _
  exact ⟨s[k], hm, by simp [hb]⟩

set_option maxHeartbeats 400000 in
theorem name_any (s : ByteArray) (w : World) (hs : s.size ≤ maxLen) :
    Calls Tryd.prog 21 #[.string s] w fun e w' => e = .returned (.bool (M.nameB s.data.toList)) ∧ w' = w := by
  unfold maxLen at hs
  by_cases h1 : 1 ≤ s.size
  · by_cases h2 : s.size ≤ 8
    · go_enter Tryd.func21, Tryd.ntmps21
      go_wp2
      go_loop [14] (fun i => ∃ k : Nat, k ≤ s.size ∧ i = .int .i64 k ∧ (s.data.toList.take k).all M.signB = true) (fun i => s.size - (intOf i).toNat)
      case atStart => exact ⟨0, Nat.zero_le _, rfl, rfl⟩
      case round =>
        obtain ⟨k, hk, rfl, hall⟩ := hrel
        have HA : Hid ((s.data.toList.take k).all M.signB = true) := hall
        clear hall
        by_cases hlt : k < s.size
        · cases hb : M.signB s[k]
          · go_wp2_with (go_at_call 37; refine (sign_any _ _).mono ?_; rintro e w' ⟨rfl, rfl⟩)
            go_ret
            exact ⟨ret_bool (name_bad (all_bad s k hlt hb)).symm, rfl⟩
          · go_wp2_with (go_at_call 37; refine (sign_any _ _).mono ?_; rintro e w' ⟨rfl, rfl⟩)
            go_round
            case rel => exact ⟨k + 1, by omega, by go_num, by rw [take_snoc s k hlt, List.all_append, HA.out]; simp [hb]⟩
            case measure => simp [intOf]; omega
        · go_wp2
          go_ret
          exact ⟨ret_bool (name_yes h1 h2 (by have := HA.out; rwa [take_all s k (by omega)] at this)).symm, rfl⟩
    · go_enter Tryd.func21, Tryd.ntmps21
      go_wp2
      go_ret
      exact ⟨ret_bool (name_long (by omega)).symm, rfl⟩
  · go_enter Tryd.func21, Tryd.ntmps21
    go_wp2
    go_ret
    exact ⟨ret_bool (name_long (by omega)).symm, rfl⟩

namespace M
/-- an act -/
structure Act where
  kind : Int
  fid : Int
  dir : Int
  name : ByteArray
  «to» : Int
  toName : ByteArray
  data : List UInt8

def withV (x : Nd) (v : Int) : Nd := { x with ver := v }
theorem find_mem {xs : List Nd} {f : Int} {x : Nd} (h : find xs f = some x) : x ∈ xs ∧ x.fid = f := by
  unfold find at h
  exact ⟨List.mem_of_find?_eq_some h, by have := List.find?_some h; simpa using this⟩
end M
theorem Cont.ver {w : World} {v : NV} {x : M.Nd} (h : Cont w v x) (ver : Int) : Cont w ⟨v.fid, v.dir, v.dA, v.dn, v.dc, v.eA, v.en, v.ec, ver⟩ (M.withV x ver) := ⟨h.1, h.2.1, rfl, h.2.2.2.1, h.2.2.2.2⟩

/-- an act's value -/
structure AV where
  kind : Int
  fid : Int
  dir : Int
  name : ByteArray
  «to» : Int
  toName : ByteArray
  dA : Option Addr
  dn : Nat
  dc : Nat
def AV.cells (a : AV) : List Value := [.int .i64 a.kind, .int .i64 a.fid, .int .i64 a.dir, .string a.name, .int .i64 a.to, .string a.toName, .slice a.dA a.dn a.dc]
@[reducible] def AV.val (a : AV) : Value := .agg #[.int .i64 a.kind, .int .i64 a.fid, .int .i64 a.dir, .string a.name, .int .i64 a.to, .string a.toName, .slice a.dA a.dn a.dc]
/-- the value a is the act x -/
def ContA (w : World) (a : AV) (x : M.Act) : Prop := a.kind = x.kind ∧ a.fid = x.fid ∧ a.dir = x.dir ∧ a.name = x.name ∧ a.to = x.to ∧ a.toName = x.toName ∧ Byts w a.dA a.dn x.data
theorem ContA.below {B : Nat} {w w' : World} {a : AV} {x : M.Act} (h : ContA w a x) (hB : w.heap.size ≤ B) (hb : Below B w w') : ContA w' a x :=
  ⟨h.1, h.2.1, h.2.2.1, h.2.2.2.1, h.2.2.2.2.1, h.2.2.2.2.2.1, h.2.2.2.2.2.2.below hB hb⟩
def BoxA (w : World) (s : Nat) (a : AV) : Prop := w.heap[s]? = some (.cells #[.int .i64 a.kind, .int .i64 a.fid, .int .i64 a.dir, .string a.name, .int .i64 a.to, .string a.toName, .slice a.dA a.dn a.dc] 35 (0, 0))
theorem BoxA.facts {w : World} {s : Nat} {a : AV} (h : BoxA w s a) : w.cell? ⟨s, 0, none⟩ = some (.int .i64 a.kind) ∧ w.cell? ⟨s, 1, none⟩ = some (.int .i64 a.fid) ∧ w.cell? ⟨s, 2, none⟩ = some (.int .i64 a.dir) ∧ w.cell? ⟨s, 3, none⟩ = some (.string a.name) ∧
    w.cell? ⟨s, 4, none⟩ = some (.int .i64 a.to) ∧ w.cell? ⟨s, 5, none⟩ = some (.string a.toName) ∧ w.cell? ⟨s, 6, none⟩ = some (.slice a.dA a.dn a.dc) ∧ (∀ o, w.frozen? ⟨s, o, none⟩ = false) ∧ s < w.heap.size := by
  unfold BoxA at h
  refine ⟨by simp [World.cell?, h], by simp [World.cell?, h], by simp [World.cell?, h], by simp [World.cell?, h], by simp [World.cell?, h], by simp [World.cell?, h], by simp [World.cell?, h], fun o => by simp [World.frozen?, h], lt_of_block h⟩
theorem BoxA.below {w w' : World} {s B : Nat} {a : AV} (h : BoxA w s a) (hb : Below B w w') (hs : s < B) : BoxA w' s a := by
  unfold BoxA at h ⊢; rw [hb.block s hs]; exact h
theorem BoxA.alloc {w : World} {s : Nat} {a : AV} (h : BoxA w s a) (o : Obj) : BoxA (w.alloc o) s a := by
  unfold BoxA at h ⊢; rw [Below.heap_alloc w o s (lt_of_block h)]; exact h
theorem BoxA.new (w : World) (a : AV) : BoxA (w.alloc (.cells #[.int .i64 a.kind, .int .i64 a.fid, .int .i64 a.dir, .string a.name, .int .i64 a.to, .string a.toName, .slice a.dA a.dn a.dc] 35)) w.heap.size a := heap_alloc_new w _
theorem put_rise {xs : List M.Nd} {x : M.Nd} (hr : M.Rise xs) (hx : M.RsE x.ents) : M.Rise (M.putN xs x) := by
  refine ⟨M.put_rs (·.fid) xs M.ordI x hr.1, fun y hy => ?_⟩
  unfold M.putN M.put at hy
  rcases List.mem_append.1 hy with h | h
  · exact hr.2 y (List.mem_filter.1 h).1
  · rcases List.mem_cons.1 h with h | h
    · rw [h]; exact hx
    · exact hr.2 y (List.mem_filter.1 h).1

namespace M
section
variable {K X : Type} {lt : K → K → Bool} (f : X → K)
theorem put_len_same (o : Ordr lt) (x : X) : ∀ xs : List X, (∃ y ∈ xs, f y = f x) → (put lt f xs x).length ≤ xs.length := by
  intro xs hy
  unfold put
  rw [List.length_append, List.length_cons]
  have key : ∀ xs : List X, (xs.filter (fun y => lt (f y) (f x))).length + (xs.filter (fun y => lt (f x) (f y))).length ≤ xs.length ∧ ((∃ y ∈ xs, f y = f x) → (xs.filter (fun y => lt (f y) (f x))).length + (xs.filter (fun y => lt (f x) (f y))).length + 1 ≤ xs.length) := by
    intro xs
    induction xs with
    | nil => exact ⟨by simp, by rintro ⟨y, hy, _⟩; cases hy⟩
    | cons y ys ih =>
      rw [List.filter_cons, List.filter_cons]
      have hboth : ¬ (lt (f y) (f x) = true ∧ lt (f x) (f y) = true) := fun h => by have := o.tra _ _ _ h.1 h.2; rw [o.irr] at this; cases this
      have heq : f y = f x → lt (f y) (f x) = false ∧ lt (f x) (f y) = false := fun e => by rw [e]; exact ⟨o.irr _, o.irr _⟩
      constructor
      · cases h1 : lt (f y) (f x) <;> cases h2 : lt (f x) (f y) <;> simp <;> first | omega | exact absurd ⟨h1, h2⟩ hboth
      · rintro ⟨z, hz, e⟩
        rcases List.mem_cons.1 hz with rfl | hz
        · rw [(heq e).1, (heq e).2]; simp; omega
        · have := ih.2 ⟨z, hz, e⟩
          cases h1 : lt (f y) (f x) <;> cases h2 : lt (f x) (f y) <;> simp <;> first | omega | exact absurd ⟨h1, h2⟩ hboth
  have := (key xs).2 hy
  omega
end
theorem put_mem {xs : List Nd} {x y : Nd} (h : y ∈ putN xs x) : y = x ∨ y ∈ xs := by
  unfold putN put at h
  rcases List.mem_append.1 h with h | h
  · exact .inr (List.mem_filter.1 h).1
  · rcases List.mem_cons.1 h with h | h
    · exact .inl h
    · exact .inr (List.mem_filter.1 h).1
theorem putN_len {xs : List Nd} {x y : Nd} (h : find xs x.fid = some y) : (putN xs x).length ≤ xs.length := put_len_same (fun x : Nd => x.fid) ordI x xs ⟨y, find_mem h⟩
end M
/-- a tree as it must be, and not too great -/
def Good (xs : List M.Nd) : Prop := M.Rise xs ∧ (∀ x ∈ xs, Small x) ∧ (xs.length + 2) * 72 ≤ 140737488355328
theorem Good.put {xs : List M.Nd} {x y : M.Nd} (h : Good xs) (hx : M.RsE x.ents) (hs : Small x) (hy : M.find xs x.fid = some y) : Good (M.putN xs x) := by
  refine ⟨put_rise h.1 hx, fun z hz => ?_, ?_⟩
  · rcases M.put_mem hz with rfl | hz
    · exact hs
    · exact h.2.1 z hz
  · have := M.putN_len (x := x) hy
    have := h.2.2
    omega
theorem Good.at {xs : List M.Nd} (h : Good xs) {f : Int} {x : M.Nd} (hx : M.find xs f = some x) : M.RsE x.ents ∧ Small x := ⟨h.1.2 x (M.find_mem hx).1, h.2.1 x (M.find_mem hx).1⟩
/-- acts that came in -/
def TreeA (w : World) (A : Option Addr) (n : Nat) (vs : List AV) (xs : List M.Act) : Prop := Row 7 AV.cells w A n vs ∧ All2 (ContA w) vs xs
theorem TreeA.below {B : Nat} {w w' : World} {A : Option Addr} {n : Nat} {vs : List AV} {xs : List M.Act} (h : TreeA w A n vs xs) (hB : w.heap.size ≤ B) (hb : Below B w w') : TreeA w' A n vs xs :=
  ⟨h.1.below hB hb, h.2.imp fun _ _ h => h.below hB hb⟩
theorem Acts.at {w : World} {A : Option Addr} {n : Nat} {vs : List AV} (h : Row 7 AV.cells w A n vs) {j : Nat} (hj : j < n) :
    ∃ b o v, A = some ⟨b, o, none⟩ ∧ b < w.heap.size ∧ vs[j]? = some v ∧ w.cell? ⟨b, o + j * 7, none⟩ = some (.int .i64 v.kind) ∧ w.cell? ⟨b, o + j * 7 + 1, none⟩ = some (.int .i64 v.fid) ∧
      w.cell? ⟨b, o + j * 7 + 2, none⟩ = some (.int .i64 v.dir) ∧ w.cell? ⟨b, o + j * 7 + 3, none⟩ = some (.string v.name) ∧ w.cell? ⟨b, o + j * 7 + 4, none⟩ = some (.int .i64 v.to) ∧ w.cell? ⟨b, o + j * 7 + 5, none⟩ = some (.string v.toName) ∧ w.cell? ⟨b, o + j * 7 + 6, none⟩ = some (.slice v.dA v.dn v.dc) := by
  obtain ⟨b, o, v, e, hlt, hv, hc⟩ := Row.at h hj
  exact ⟨b, o, v, e, hlt, hv, hc 0 _ rfl, hc 1 _ rfl, hc 2 _ rfl, hc 3 _ rfl, hc 4 _ rfl, hc 5 _ rfl, hc 6 _ rfl⟩

open Go.ChangeMaps (setBlock)
/-- the entries es hold f -/
structure Holds (es : List MapEntry) (f : Int → Option Value) : Prop where
  key : ∀ e ∈ es, ∃ k, e.key = .int .i64 k ∧ f k = some e.val
  all : ∀ k v, f k = some v → ∃ e ∈ es, e.key = .int .i64 k ∧ e.val = v
  one : es.Pairwise fun a b => a.key ≠ b.key
/-- block b is a map that holds f -/
def IMap (w : World) (b : Nat) (f : Int → Option Value) : Prop :=
  ∃ (es : Array MapEntry) (clock : Nat), w.heap[b]? = some (.map es clock) ∧ Holds es.toList f ∧ (es.toList.map (·.born)).Nodup ∧ ∀ e ∈ es.toList, e.born < clock
theorem IMap.lt {w : World} {b : Nat} {f : Int → Option Value} (h : IMap w b f) : b < w.heap.size := by
  obtain ⟨es, c, hb, _⟩ := h
  exact lt_of_block hb
theorem IMap.same {w w' : World} {b : Nat} {f : Int → Option Value} (h : IMap w b f) (hb : w'.heap[b]? = w.heap[b]?) : IMap w' b f := by
  obtain ⟨es, c, h1, h2⟩ := h
  exact ⟨es, c, by rw [hb]; exact h1, h2⟩
theorem IMap.below {B : Nat} {w w' : World} {b : Nat} {f : Int → Option Value} (h : IMap w b f) (hB : w.heap.size ≤ B) (hb : Below B w w') : IMap w' b f :=
  h.same (hb.block b (by have := h.lt; omega))
theorem IMap.new (w : World) : IMap (w.alloc (.map #[] 0)) w.heap.size (fun _ => none) :=
  ⟨#[], 0, heap_alloc_new w _, ⟨(by intro e he; simp at he), (by intro k v h; cases h), (by simp)⟩, (by simp), (by intro e he; simp at he)⟩

open Go.ChangeMaps (setBlock)
/-- the map's function tells what the tree has -/
def Agree (w : World) (f : Int → Option Value) (xs : List M.Nd) : Prop :=
  ∀ k, (f k = none ∧ M.find xs k = none) ∨ ∃ (v : NV) (x : M.Nd), f k = some v.val ∧ M.find xs k = some x ∧ Cont w v x
theorem Agree.below {B : Nat} {w w' : World} {f : Int → Option Value} {xs : List M.Nd} (h : Agree w f xs) (hB : w.heap.size ≤ B) (hb : Below B w w') : Agree w' f xs := fun k =>
  (h k).imp id fun ⟨v, x, h1, h2, h3⟩ => ⟨v, x, h1, h2, h3.below hB hb⟩
def TMap (w : World) (b : Nat) (xs : List M.Nd) : Prop := ∃ f, IMap w b f ∧ Agree w f xs
theorem TMap.below {B : Nat} {w w' : World} {b : Nat} {xs : List M.Nd} (h : TMap w b xs) (hB : w.heap.size ≤ B) (hb : Below B w w') : TMap w' b xs := by
  obtain ⟨f, h1, h2⟩ := h
  exact ⟨f, h1.below hB hb, h2.below hB hb⟩
/-- so far -/
def OfInv (w : World) (b : Nat) (xs : List M.Nd) (wr : World) : Prop := (∃ f, IMap wr b f ∧ Agree w f xs) ∧ Below w.heap.size w wr
theorem OfInv.alloc {w : World} {b : Nat} {xs : List M.Nd} {wr : World} (h : OfInv w b xs wr) (o : Obj) : OfInv w b xs (wr.alloc o) := by
  obtain ⟨⟨f, hi, ha⟩, hb⟩ := h
  exact ⟨⟨f, hi.below (Nat.le_refl _) ((Below.refl _ _).alloc (Nat.le_refl _) o), ha⟩, hb.alloc hb.size o⟩
open Go.ChangeMaps (setBlock)
/-- from off on in block g lie the numbers l, with room for c -/
def Que (w : World) (B g off c : Nat) (l : List Int) : Prop :=
  B ≤ g ∧ l.length ≤ c ∧ c ≤ maxLen ∧ ∃ cur : Array Value, w.heap[g]? = some (.cells cur 3 (0, 0)) ∧ off + c ≤ cur.size ∧ ∀ (j : Nat) f, l[j]? = some f → cur[off + j]? = some (.int .i64 f)
theorem Que.lt {w : World} {B g off c : Nat} {l : List Int} (h : Que w B g off c l) : g < w.heap.size := by
  obtain ⟨_, _, _, cur, hg, _⟩ := h
  exact lt_of_block hg
theorem Que.cell {w : World} {B g off c : Nat} {l : List Int} (h : Que w B g off c l) {j : Nat} {f : Int} (hj : l[j]? = some f) : w.cell? ⟨g, off + j, none⟩ = some (.int .i64 f) := by
  obtain ⟨_, _, _, cur, hg, _, hc⟩ := h
  have := hc j f hj
  simp [World.cell?, hg, this]
theorem Que.same {w w' : World} {B g off c : Nat} {l : List Int} (h : Que w B g off c l) (hb : w'.heap[g]? = w.heap[g]?) : Que w' B g off c l := by
  obtain ⟨h1, h2, h3, cur, hg, h4⟩ := h
  exact ⟨h1, h2, h3, cur, by rw [hb]; exact hg, h4⟩
theorem Que.alloc {w : World} {B g off c : Nat} {l : List Int} (h : Que w B g off c l) (o : Obj) : Que (w.alloc o) B g off c l := h.same (Below.heap_alloc w o g h.lt)
/-- an act whose bytes are the call's own -/
def OwnA (w : World) (B : Nat) (a : AV) (x : M.Act) : Prop := a.kind = x.kind ∧ a.fid = x.fid ∧ a.dir = x.dir ∧ a.name = x.name ∧ a.to = x.to ∧ a.toName = x.toName ∧ w.ownsRow B 5 1 (.slice a.dA a.dn a.dc) a.dn (x.data.flatMap byteCells1)
theorem OwnA.cont {w : World} {B : Nat} {a : AV} {x : M.Act} (h : OwnA w B a x) : ContA w a x := ⟨h.1, h.2.1, h.2.2.1, h.2.2.2.1, h.2.2.2.2.1, h.2.2.2.2.2.1, Row.ofOwn byt_len (by decide) h.2.2.2.2.2.2⟩
def AV.zero : AV := ⟨0, 0, 0, ⟨#[]⟩, 0, ⟨#[]⟩, none, 0, 0⟩
theorem two_boxesA (w : World) (a b : AV) (W : World) (hW : W = (w.alloc (.cells #[.int .i64 a.kind, .int .i64 a.fid, .int .i64 a.dir, .string a.name, .int .i64 a.to, .string a.toName, .slice a.dA a.dn a.dc] 35)).alloc (.cells #[.int .i64 b.kind, .int .i64 b.fid, .int .i64 b.dir, .string b.name, .int .i64 b.to, .string b.toName, .slice b.dA b.dn b.dc] 35)) : Below w.heap.size w W := by
  subst hW
  exact ((Below.refl _ _).alloc (Nat.le_refl _) _).alloc (by simp) _
set_option maxRecDepth 4000 in
set_option maxHeartbeats 2000000 in
theorem sameAct_any (a b : AV) (x : M.Act) (w : World) (ha : ContA w a x) (hb : ContA w b x) :
    Calls Tryd.prog 14 #[a.val, b.val] w fun e w' => e = .returned (.bool true) ∧ Below w.heap.size w w' := by
  obtain ⟨k1, f1, d1, n1, t1, m1, A1, l1, c1⟩ := a
  obtain ⟨k2, f2, d2, n2, t2, m2, A2, l2, c2⟩ := b
  obtain ⟨rfl, rfl, rfl, rfl, rfl, rfl, hb1⟩ := ha
  obtain ⟨e1, e2, e3, e4, e5, e6, hb2⟩ := hb
  simp only at e1 e2 e3 e4 e5 e6 hb1 hb2
  subst e1 e2 e3 e4 e5 e6
  have HW : Hid _ := two_boxesA w ⟨x.kind, x.fid, x.dir, x.name, x.to, x.toName, A1, l1, c1⟩ ⟨x.kind, x.fid, x.dir, x.name, x.to, x.toName, A2, l2, c2⟩
  have hwb := two_boxesA w ⟨x.kind, x.fid, x.dir, x.name, x.to, x.toName, A1, l1, c1⟩ ⟨x.kind, x.fid, x.dir, x.name, x.to, x.toName, A2, l2, c2⟩ _ rfl
  have q1 := conv_byts (c := c1) (hb1.below (Nat.le_refl _) hwb)
  have q2 := conv_byts (c := c2) (hb2.below (Nat.le_refl _) hwb)
  simp only at q1 q2
  have y1 := raw_yes x.name
  have y2 := raw_yes x.toName
  have y3 := raw_yes (txt x.data)
  clear hb1 hb2 hwb
  go_enter Tryd.func14, Tryd.ntmps14
  go_wp2
  go_ret
  exact ⟨ret_bool (by simp), HW.out _ rfl⟩
namespace M
/-- a record -/
structure Rec where
  act : Act
  ver : Int
  id : Int
end M
open M
theorem info48 : (Tryd.prog.info? 37).map (fun i => (i.zero, i.size, i.bytes)) = some (some (.agg #[.int .i64 0, .int .i64 0, .int .i64 0, .string ByteArray.empty, .int .i64 0, .string ByteArray.empty, .slice none 0 0, .int .i64 0, .int .i64 0]), 9, 104) := by kernel_rfl
/-- a record's value -/
structure RV where
  a : AV
  ver : Int
  id : Int
def RV.cells (r : RV) : List Value := [.int .i64 r.a.kind, .int .i64 r.a.fid, .int .i64 r.a.dir, .string r.a.name, .int .i64 r.a.to, .string r.a.toName, .slice r.a.dA r.a.dn r.a.dc, .int .i64 r.ver, .int .i64 r.id]
@[reducible] def RV.val (r : RV) : Value := .agg #[.int .i64 r.a.kind, .int .i64 r.a.fid, .int .i64 r.a.dir, .string r.a.name, .int .i64 r.a.to, .string r.a.toName, .slice r.a.dA r.a.dn r.a.dc, .int .i64 r.ver, .int .i64 r.id]
@[reducible] def RV.obj (r : RV) : Obj := .cells #[.int .i64 r.a.kind, .int .i64 r.a.fid, .int .i64 r.a.dir, .string r.a.name, .int .i64 r.a.to, .string r.a.toName, .slice r.a.dA r.a.dn r.a.dc, .int .i64 r.ver, .int .i64 r.id] 37
@[reducible] def AV.obj (a : AV) : Obj := .cells #[.int .i64 a.kind, .int .i64 a.fid, .int .i64 a.dir, .string a.name, .int .i64 a.to, .string a.toName, .slice a.dA a.dn a.dc] 35
theorem rec_len (x : RV) : x.cells.length = 9 := rfl
theorem rec_one (x : RV) : ∀ u ∈ x.cells, u.oneCell' = true := by intro u hu; simp [RV.cells] at hu; rcases hu with rfl | rfl | rfl | rfl | rfl | rfl | rfl | rfl | rfl <;> rfl
/-- the value r is the record x -/
def ContR (w : World) (r : RV) (x : M.Rec) : Prop := ContA w r.a x.act ∧ r.ver = x.ver ∧ r.id = x.id
theorem ContR.below {B : Nat} {w w' : World} {r : RV} {x : M.Rec} (h : ContR w r x) (hB : w.heap.size ≤ B) (hb : Below B w w') : ContR w' r x := ⟨h.1.below hB hb, h.2⟩
def BoxR (w : World) (s : Nat) (r : RV) : Prop := w.heap[s]? = some (.cells #[.int .i64 r.a.kind, .int .i64 r.a.fid, .int .i64 r.a.dir, .string r.a.name, .int .i64 r.a.to, .string r.a.toName, .slice r.a.dA r.a.dn r.a.dc, .int .i64 r.ver, .int .i64 r.id] 37 (0, 0))
theorem BoxR.facts {w : World} {s : Nat} {r : RV} (h : BoxR w s r) : w.cell? ⟨s, 0, none⟩ = some (.int .i64 r.a.kind) ∧ w.cell? ⟨s, 1, none⟩ = some (.int .i64 r.a.fid) ∧ w.cell? ⟨s, 2, none⟩ = some (.int .i64 r.a.dir) ∧ w.cell? ⟨s, 3, none⟩ = some (.string r.a.name) ∧
    w.cell? ⟨s, 4, none⟩ = some (.int .i64 r.a.to) ∧ w.cell? ⟨s, 5, none⟩ = some (.string r.a.toName) ∧ w.cell? ⟨s, 6, none⟩ = some (.slice r.a.dA r.a.dn r.a.dc) ∧ w.cell? ⟨s, 7, none⟩ = some (.int .i64 r.ver) ∧ w.cell? ⟨s, 8, none⟩ = some (.int .i64 r.id) ∧ (∀ o, w.frozen? ⟨s, o, none⟩ = false) ∧ s < w.heap.size := by
  unfold BoxR at h
  refine ⟨by simp [World.cell?, h], by simp [World.cell?, h], by simp [World.cell?, h], by simp [World.cell?, h], by simp [World.cell?, h], by simp [World.cell?, h], by simp [World.cell?, h], by simp [World.cell?, h], by simp [World.cell?, h], fun o => by simp [World.frozen?, h], lt_of_block h⟩
theorem BoxR.below {w w' : World} {s B : Nat} {r : RV} (h : BoxR w s r) (hb : Below B w w') (hs : s < B) : BoxR w' s r := by
  unfold BoxR at h ⊢; rw [hb.block s hs]; exact h
theorem BoxR.alloc {w : World} {s : Nat} {r : RV} (h : BoxR w s r) (o : Obj) : BoxR (w.alloc o) s r := by
  unfold BoxR at h ⊢; rw [Below.heap_alloc w o s (lt_of_block h)]; exact h
theorem BoxR.new (w : World) (r : RV) : BoxR (w.alloc r.obj) w.heap.size r := heap_alloc_new w _
abbrev Recs := Row 9 RV.cells
theorem Recs.at {w : World} {A : Option Addr} {n : Nat} {vs : List RV} (h : Recs w A n vs) {j : Nat} (hj : j < n) :
    ∃ b o v, A = some ⟨b, o, none⟩ ∧ b < w.heap.size ∧ vs[j]? = some v ∧ w.cell? ⟨b, o + j * 9, none⟩ = some (.int .i64 v.a.kind) ∧ w.cell? ⟨b, o + j * 9 + 1, none⟩ = some (.int .i64 v.a.fid) ∧
      w.cell? ⟨b, o + j * 9 + 2, none⟩ = some (.int .i64 v.a.dir) ∧ w.cell? ⟨b, o + j * 9 + 3, none⟩ = some (.string v.a.name) ∧ w.cell? ⟨b, o + j * 9 + 4, none⟩ = some (.int .i64 v.a.to) ∧ w.cell? ⟨b, o + j * 9 + 5, none⟩ = some (.string v.a.toName) ∧ w.cell? ⟨b, o + j * 9 + 6, none⟩ = some (.slice v.a.dA v.a.dn v.a.dc) ∧ w.cell? ⟨b, o + j * 9 + 7, none⟩ = some (.int .i64 v.ver) ∧ w.cell? ⟨b, o + j * 9 + 8, none⟩ = some (.int .i64 v.id) := by
  obtain ⟨b, o, v, e, hlt, hv, hc⟩ := Row.at h hj
  exact ⟨b, o, v, e, hlt, hv, hc 0 _ rfl, hc 1 _ rfl, hc 2 _ rfl, hc 3 _ rfl, hc 4 _ rfl, hc 5 _ rfl, hc 6 _ rfl, hc 7 _ rfl, hc 8 _ rfl⟩
/-- a log that came in; a log of one's own -/
def TreeR (w : World) (A : Option Addr) (n : Nat) (vs : List RV) (xs : List M.Rec) : Prop := Recs w A n vs ∧ All2 (ContR w) vs xs
theorem TreeR.below {B : Nat} {w w' : World} {A : Option Addr} {n : Nat} {vs : List RV} {xs : List M.Rec} (h : TreeR w A n vs xs) (hB : w.heap.size ≤ B) (hb : Below B w w') : TreeR w' A n vs xs :=
  ⟨h.1.below hB hb, h.2.imp fun _ _ h => h.below hB hb⟩
theorem TreeR.len {w : World} {A : Option Addr} {n : Nat} {vs : List RV} {xs : List M.Rec} (h : TreeR w A n vs xs) : n = xs.length := by rw [h.1.1, h.2.1]
theorem OwnA.below {B C : Nat} {w w' : World} {v : AV} {x : M.Act} (h : OwnA w B v x) (hC : w.heap.size ≤ C) (hb : Below C w w') : OwnA w' B v x :=
  ⟨h.1, h.2.1, h.2.2.1, h.2.2.2.1, h.2.2.2.2.1, h.2.2.2.2.2.1, own_below h.2.2.2.2.2.2 hb hC⟩
theorem OwnA.mono {B B' : Nat} {w : World} {v : AV} {x : M.Act} (h : OwnA w B v x) (hB : B' ≤ B) : OwnA w B' v x :=
  ⟨h.1, h.2.1, h.2.2.1, h.2.2.2.1, h.2.2.2.2.1, h.2.2.2.2.2.1, own_mono h.2.2.2.2.2.2 hB⟩
theorem OwnA.grown {w w' : World} {B B' : Nat} {v : AV} {x : M.Act} {e' : TypeId} {k' : Nat} {v' : Value} {n' : Nat} {xs' : List Value} (h : OwnA w B v x) (h' : w.ownsRow B' e' k' v' n' xs') (hne : 5 ≠ e') (hg : w.grownBy w' v'.ownBlock) : OwnA w' B v x :=
  ⟨h.1, h.2.1, h.2.2.1, h.2.2.2.1, h.2.2.2.2.1, h.2.2.2.2.2.1, own_grown h.2.2.2.2.2.2 h' hne hg⟩
def OwnR (w : World) (B : Nat) (r : RV) (x : M.Rec) : Prop := OwnA w B r.a x.act ∧ r.ver = x.ver ∧ r.id = x.id
theorem OwnR.cont {w : World} {B : Nat} {r : RV} {x : M.Rec} (h : OwnR w B r x) : ContR w r x := ⟨h.1.cont, h.2⟩
theorem OwnR.below {B C : Nat} {w w' : World} {v : RV} {x : M.Rec} (h : OwnR w B v x) (hC : w.heap.size ≤ C) (hb : Below C w w') : OwnR w' B v x := ⟨h.1.below hC hb, h.2⟩
theorem OwnR.mono {B B' : Nat} {w : World} {v : RV} {x : M.Rec} (h : OwnR w B v x) (hB : B' ≤ B) : OwnR w B' v x := ⟨h.1.mono hB, h.2⟩
def OwnL (w : World) (B : Nat) (A : Option Addr) (n c : Nat) (vs : List RV) (xs : List M.Rec) : Prop := w.ownsRow B 37 9 (.slice A n c) n (vs.flatMap RV.cells) ∧ All2 (OwnR w B) vs xs
theorem OwnL.tree {w : World} {B : Nat} {A : Option Addr} {n c : Nat} {vs : List RV} {xs : List M.Rec} (h : OwnL w B A n c vs xs) : TreeR w A n vs xs :=
  ⟨Row.ofOwn rec_len (by decide) h.1, h.2.imp fun _ _ h => h.cont⟩
theorem OwnL.below {B C : Nat} {w w' : World} {A : Option Addr} {n c : Nat} {vs : List RV} {xs : List M.Rec} (h : OwnL w B A n c vs xs) (hC : w.heap.size ≤ C) (hb : Below C w w') : OwnL w' B A n c vs xs :=
  ⟨own_below h.1 hb hC, h.2.imp fun _ _ h => h.below hC hb⟩
theorem OwnL.mono {B B' : Nat} {w : World} {A : Option Addr} {n c : Nat} {vs : List RV} {xs : List M.Rec} (h : OwnL w B A n c vs xs) (hB : B' ≤ B) : OwnL w B' A n c vs xs :=
  ⟨own_mono h.1 hB, h.2.imp fun _ _ h => h.mono hB⟩
theorem OwnL.nil (w : World) (B : Nat) : OwnL w B none 0 0 [] [] := ⟨World.ownsRow_nil _ _ _ _, All2.nil⟩
/-- one more is behind -/
theorem OwnL.snoc {w w' : World} {B : Nat} {A : Option Addr} {n c : Nat} {A' : Option Addr} {n' c' : Nat} {vs : List RV} {xs : List M.Rec} {r : RV} {x : M.Rec} (h : OwnL w B A n c vs xs) (hr : OwnR w B r x) (ho : w'.ownsRow B 37 9 (.slice A' n' c') n' (vs.flatMap RV.cells ++ r.cells)) (hg : w.grownBy w' (Value.slice A n c).ownBlock) : OwnL w' B A' n' c' (vs ++ [r]) (xs ++ [x]) := by
  refine ⟨?_, All2.append (h.2.imp fun _ _ k => ⟨k.1.grown h.1 (by decide) hg, k.2⟩) (All2.one ⟨hr.1.grown h.1 (by decide) hg, hr.2⟩)⟩
  rw [List.flatMap_append]
  simpa using ho

/-- two acts are the same -/
def sameA (x y : M.Act) : Bool := decide (x.kind = y.kind) && decide (x.fid = y.fid) && decide (x.dir = y.dir) && decide (x.name = y.name) && decide (x.to = y.to) && decide (x.toName = y.toName) && decide (x.data = y.data)
theorem sameA_iff {x y : M.Act} : sameA x y = true ↔ x = y := by
  obtain ⟨k, f, d, n, t, m, b⟩ := x
  obtain ⟨k2, f2, d2, n2, t2, m2, b2⟩ := y
  unfold sameA
  simp [and_assoc]
theorem sameA_self (x : M.Act) : sameA x x = true := sameA_iff.2 rfl
def sameR (x y : M.Rec) : Bool := decide (x.ver = y.ver) && decide (x.id = y.id) && sameA x.act y.act
theorem sameR_iff {x y : M.Rec} : sameR x y = true ↔ x = y := by
  obtain ⟨a, v, i⟩ := x
  obtain ⟨a2, v2, i2⟩ := y
  unfold sameR
  simp only [Bool.and_eq_true, decide_eq_true_eq, sameA_iff, M.Rec.mk.injEq]
  constructor
  · rintro ⟨⟨h1, h2⟩, h3⟩; exact ⟨h3, h1, h2⟩
  · rintro ⟨h1, h2, h3⟩; exact ⟨⟨h2, h3⟩, h1⟩
theorem sameR_no {x y : M.Rec} (h : x ≠ y) : sameR x y = false := by
  cases hb : sameR x y
  · rfl
  · exact absurd (sameR_iff.1 hb) h

set_option maxRecDepth 4000 in
set_option maxHeartbeats 4000000 in
theorem sameActs_any (a b : AV) (x y : M.Act) (w : World) (ha : ContA w a x) (hb : ContA w b y) :
    Calls Tryd.prog 14 #[a.val, b.val] w fun e w' => e = .returned (.bool (sameA x y)) ∧ Below w.heap.size w w' := by
  by_cases hxy : x = y
  · subst hxy
    refine (sameAct_any a b x w ha hb).mono ?_
    rintro e w' ⟨rfl, h⟩
    exact ⟨ret_bool (sameA_self x).symm, h⟩
  have HN : Hid (sameA x y = false) := by
    show _ = _
    cases hq : sameA x y
    · rfl
    · exact absurd (sameA_iff.1 hq) hxy
  have HXY : Hid (¬ x = y) := hxy
  clear hxy
  have HA : Hid (ContA w a x ∧ ContA w b y) := ⟨ha, hb⟩
  have HW : Hid _ := two_boxesA w a b
  have hwb := two_boxesA w a b _ rfl
  have q1 := conv_byts (c := a.dc) (ha.2.2.2.2.2.2.below (Nat.le_refl _) hwb)
  have q2 := conv_byts (c := b.dc) (hb.2.2.2.2.2.2.below (Nat.le_refl _) hwb)
  clear hwb ha hb
  by_cases h1 : a.kind = b.kind
  case' neg =>
    have k1 : (a.kind == b.kind) = false := by simp [h1]
    clear h1
    go_enter Tryd.func14, Tryd.ntmps14
    go_wp2
    go_ret
    exact ⟨ret_bool HN.out.symm, HW.out _ rfl⟩
  have k1 : (a.kind == b.kind) = true := by simp [h1]
  have H1 : Hid (a.kind = b.kind) := h1
  clear h1
  by_cases h2 : a.fid = b.fid
  case' neg =>
    have k2 : (a.fid == b.fid) = false := by simp [h2]
    clear h2
    go_enter Tryd.func14, Tryd.ntmps14
    go_wp2
    go_ret
    exact ⟨ret_bool HN.out.symm, HW.out _ rfl⟩
  have k2 : (a.fid == b.fid) = true := by simp [h2]
  have H2 : Hid (a.fid = b.fid) := h2
  clear h2
  by_cases h3 : a.dir = b.dir
  case' neg =>
    have k3 : (a.dir == b.dir) = false := by simp [h3]
    clear h3
    go_enter Tryd.func14, Tryd.ntmps14
    go_wp2
    go_ret
    exact ⟨ret_bool HN.out.symm, HW.out _ rfl⟩
  have k3 : (a.dir == b.dir) = true := by simp [h3]
  have H3 : Hid (a.dir = b.dir) := h3
  clear h3
  by_cases h4 : a.name = b.name
  case' neg =>
    have k4 : (a.name.toList == b.name.toList) = false := raw_no h4
    clear h4
    go_enter Tryd.func14, Tryd.ntmps14
    go_wp2
    go_ret
    exact ⟨ret_bool HN.out.symm, HW.out _ rfl⟩
  have k4 : (a.name.toList == b.name.toList) = true := by rw [h4]; exact raw_yes _
  have H4 : Hid (a.name = b.name) := h4
  clear h4
  by_cases h5 : a.to = b.to
  case' neg =>
    have k5 : (a.to == b.to) = false := by simp [h5]
    clear h5
    go_enter Tryd.func14, Tryd.ntmps14
    go_wp2
    go_ret
    exact ⟨ret_bool HN.out.symm, HW.out _ rfl⟩
  have k5 : (a.to == b.to) = true := by simp [h5]
  have H5 : Hid (a.to = b.to) := h5
  clear h5
  by_cases h6 : a.toName = b.toName
  case' neg =>
    have k6 : (a.toName.toList == b.toName.toList) = false := raw_no h6
    clear h6
    go_enter Tryd.func14, Tryd.ntmps14
    go_wp2
    go_ret
    exact ⟨ret_bool HN.out.symm, HW.out _ rfl⟩
  have k6 : (a.toName.toList == b.toName.toList) = true := by rw [h6]; exact raw_yes _
  have H6 : Hid (a.toName = b.toName) := h6
  clear h6
  have hd : x.data ≠ y.data := fun e => by
    obtain ⟨⟨a1, a2, a3, a4, a5, a6, _⟩, b1, b2, b3, b4, b5, b6, _⟩ := HA.out
    have e1 := H1.out
    have e2 := H2.out
    have e3 := H3.out
    have e4 := H4.out
    have e5 := H5.out
    have e6 := H6.out
    rw [a1, b1] at e1
    rw [a2, b2] at e2
    rw [a3, b3] at e3
    rw [a4, b4] at e4
    rw [a5, b5] at e5
    rw [a6, b6] at e6
    obtain ⟨k, f, d, n, t, m, b⟩ := x
    obtain ⟨k2, f2, d2, n2, t2, m2, b2⟩ := y
    simp only at e e1 e2 e3 e4 e5 e6
    subst e e1 e2 e3 e4 e5 e6
    exact HXY.out rfl
  have k7 : ((txt x.data).toList == (txt y.data).toList) = false := by rw [raw_eq, decide_eq_false_iff_not]; exact fun h => hd (txt_inj.1 h)
  clear hd
  go_enter Tryd.func14, Tryd.ntmps14
  go_wp2
  go_ret
  exact ⟨ret_bool HN.out.symm, HW.out _ rfl⟩
/-- the slot of operation j -/
def slotAt (ops : Array Oper) (j : Nat) : Nat := ((ops[j]?).bind (·.dst)).getD 0
/-- each operation has a slot of its own in the frame, and waits for earlier ones alone -/
def tidy (ops : Array Oper) (size : Nat) : Bool :=
  (List.range ops.size).all fun i => match ops[i]? with
    | some o => (o.after.all fun e => decide (e.on < i)) && (match o.dst with
        | some d => decide (d < size) && ((List.range i).all fun j => ((ops[j]?).bind (·.dst)) != some d)
        | none => false)
    | none => true
/-- operation i waits for operation j -/
def waits (o : Oper) (j : Nat) : Bool := o.after.any fun e => Region.binds .any e && e.on == j
/-- slot t is no operation's -/
def apart (ops : Array Oper) (t : Nat) : Bool := ops.all fun o => o.dst != some t

theorem tidy_at {ops : Array Oper} {size i : Nat} {o : Oper} (h : tidy ops size = true) (hi : ops[i]? = some o) :
    (∀ e ∈ o.after, e.on < i) ∧ ∃ d, o.dst = some d ∧ d < size ∧ slotAt ops i = d ∧ ∀ j, j < i → ((ops[j]?).bind (·.dst)) ≠ some d := by
  unfold tidy at h
  rw [List.all_eq_true] at h
  have hlt : i < ops.size := (Array.getElem?_eq_some_iff.1 hi).1
  have h1 := h i (List.mem_range.2 hlt)
  rw [hi] at h1
  simp only [Bool.and_eq_true] at h1
  obtain ⟨h2, h3⟩ := h1
  refine ⟨fun e he => ?_, ?_⟩
  · have := Array.all_eq_true_iff_forall_mem.1 h2 e he
    simpa using this
  · cases hd : o.dst with
    | none => rw [hd] at h3; cases h3
    | some d =>
      rw [hd] at h3
      simp only [Bool.and_eq_true, decide_eq_true_eq, List.all_eq_true, List.mem_range] at h3
      refine ⟨d, rfl, h3.1, by simp [slotAt, hi, hd], fun j hj => ?_⟩
      have := h3.2 j hj
      simpa using this

theorem tidy_ne {ops : Array Oper} {size i j : Nat} {o u : Oper} (h : tidy ops size = true) (hi : ops[i]? = some o) (hj : ops[j]? = some u) (hne : i ≠ j) : slotAt ops i ≠ slotAt ops j := by
  obtain ⟨_, d, hd, _, hs, hall⟩ := tidy_at h hi
  obtain ⟨_, e, he, _, ht, hall'⟩ := tidy_at h hj
  rw [hs, ht]
  intro hde
  subst hde
  rcases Nat.lt_or_gt_of_ne hne with hl | hl
  · exact hall' i hl (by rw [hi]; exact hd)
  · exact hall j hl (by rw [hj]; exact he)

/-- what lasts while memory below is as it was -/
def Stays (p : Value → World → Prop) : Prop := ∀ v w w', Below w.heap.size w w' → p v w → p v w'

/-- the frame behind some operations of the region -/
structure Framed (ops : Array Oper) (a0 a : Act) : Prop where
  size : a.tmps.size = a0.tmps.size
  defers : a.defers = a0.defers
  keeps : ∀ t, apart ops t = true → a.eval (.tmp t) = a0.eval (.tmp t)

/-- slot t holds, when operation i comes up, what it held when the region began: whoever writes it waits for i -/
def freeFor (ops : Array Oper) (i t : Nat) : Bool := (List.range ops.size).all fun j => match ops[j]? with
  | some o => j == i || o.dst != some t || waits o i
  | none => true
structure FramedAt (ops : Array Oper) (i : Nat) (a0 a : Act) : Prop where
  size : a.tmps.size = a0.tmps.size
  defers : a.defers = a0.defers
  keeps : ∀ t, freeFor ops i t = true → a.eval (.tmp t) = a0.eval (.tmp t)
/-- the frame behind the operations that are listed; what is listed waits for nothing more -/
structure FramedBy (ops : Array Oper) (listed : Array Bool) (a0 a : Act) : Prop where
  size : a.tmps.size = a0.tmps.size
  defers : a.defers = a0.defers
  keeps : ∀ t, (∀ j o, ops[j]? = some o → listed.getD j true = true → o.dst ≠ some t) → a.eval (.tmp t) = a0.eval (.tmp t)
  closed : ∀ j o, ops[j]? = some o → listed.getD j true = true → ∀ i, waits o i = true → listed.getD i true = true
theorem FramedBy.at_ {ops : Array Oper} {listed : Array Bool} {a0 a : Act} (h : FramedBy ops listed a0 a) {i : Nat} (hi : listed.getD i true = false) : FramedAt ops i a0 a := by
  refine ⟨h.size, h.defers, fun t ht => h.keeps t fun j o hj hl hd => ?_⟩
  unfold freeFor at ht
  rw [List.all_eq_true] at ht
  have h1 := ht j (List.mem_range.2 (Array.getElem?_eq_some_iff.1 hj).1)
  simp only [hj, hd, bne_self_eq_false, Bool.or_false, Bool.or_eq_true, beq_iff_eq] at h1
  rcases h1 with h1 | h1
  · subst h1; rw [hl] at hi; cases hi
  · have := h.closed j o hj hl i h1; rw [this] at hi; cases hi
theorem FramedBy.all {ops : Array Oper} {listed : Array Bool} {a0 a : Act} (h : FramedBy ops listed a0 a) : Framed ops a0 a := by
  refine ⟨h.size, h.defers, fun t ht => h.keeps t fun j o hj _ hd => ?_⟩
  have := Array.all_eq_true_iff_forall_mem.1 ht o (Array.mem_of_getElem? hj)
  simp [hd] at this
theorem FramedBy.put {ops : Array Oper} {listed : Array Bool} {a0 a : Act} (h : FramedBy ops listed a0 a) {i : Nat} {o : Oper} (hi : ops[i]? = some o) (hsz : listed.size = ops.size)
    (hw : ∀ j, waits o j = true → listed.getD j true = true) (v : Value) : FramedBy ops (listed.setIfInBounds i true) a0 (a.put o.dst v) := by
  have hil : i < listed.size := by rw [hsz]; exact (Array.getElem?_eq_some_iff.1 hi).1
  have hself : (listed.setIfInBounds i true).getD i true = true := by simp [hil]
  have hup : ∀ j, listed.getD j true = true → (listed.setIfInBounds i true).getD j true = true := by
    intro j hj
    by_cases hji : j = i
    · rw [hji]; exact hself
    · rw [getD_set_ne true (Ne.symm hji)]; exact hj
  refine ⟨?_, ?_, fun t ht => ?_, fun j u hj hl q hq => ?_⟩
  · cases hd : o.dst <;> simp [Act.put, h.size]
  · cases hd : o.dst <;> simp [Act.put, h.defers]
  · rw [Act.eval_put, h.keeps t fun j u hj hl => ht j u hj (hup j hl)]
    intro d hd e
    injection e with e
    exact ht i o hi hself (by rw [hd, e])
  · by_cases hji : j = i
    · subst hji
      rw [hi] at hj
      injection hj with hj
      subst hj
      exact hup q (hw q hq)
    · rw [getD_set_ne true (Ne.symm hji)] at hl
      exact hup q (h.closed j u hj hl q hq)

/-- What is asked of operation i: whatever came up before it, its value is as it is said. -/
def StepAt (P : Program) (ops : Array Oper) (Q : Exit → Act → World → Prop) (a0 : Act) (w0 : World) (V : Nat → Value → World → Prop) (i : Nat) : Prop :=
  ∀ o, ops[i]? = some o → ∀ a w, FramedAt ops i a0 a → Below w0.heap.size w0 w → (∀ j, waits o j = true → V j (a.eval (.tmp (slotAt ops j))) w) →
    ∀ K : Act → World → Prop, Hid (∀ v w', Below w.heap.size w w' → V i v w' → K (a.put o.dst v) w') →
      if Region.wanted o (yielded ops a.tmps) = true then Oper.wp P o a w K Q else K (a.put o.dst undef) w

def unlisted (listed : Array Bool) : Nat := (listed.toList.filter (fun b => !b)).length

theorem unlisted_set {listed : Array Bool} {i : Nat} (h : listed.getD i true = false) : unlisted (listed.setIfInBounds i true) + 1 = unlisted listed := by
  obtain ⟨l⟩ := listed
  simp only [unlisted, Array.getD_eq_getD_getElem?, List.getElem?_toArray, List.setIfInBounds_toArray] at h ⊢
  induction l generalizing i with
  | nil => simp at h
  | cons b l ih =>
    cases i with
    | zero => simp at h; subst h; simp
    | succ i =>
      simp only [List.getElem?_cons_succ] at h
      have := ih (i := i) (by simpa using h)
      cases b <;> simp [List.set_cons_succ] at this ⊢ <;> omega

theorem wpAny_vals {P : Program} {ops : Array Oper} {Q : Exit → Act → World → Prop} {a0 : Act} {w0 : World} {V : Nat → Value → World → Prop} (ht : tidy ops a0.tmps.size = true) (hst : ∀ i, Stays (V i))
    (steps : ∀ i, i < ops.size → StepAt P ops Q a0 w0 V i)
    (last : ∀ a w, Framed ops a0 a → Below w0.heap.size w0 w → (∀ j, j < ops.size → V j (a.eval (.tmp (slotAt ops j))) w) → Q .normal a w) :
    ∀ (fuel : Nat) (listed : Array Bool) (a : Act) (w : World), listed.size = ops.size → unlisted listed ≤ fuel → FramedBy ops listed a0 a → Below w0.heap.size w0 w →
      (∀ j, j < ops.size → listed.getD j true = true → V j (a.eval (.tmp (slotAt ops j))) w) → wpAny P .any ops Q fuel listed a w := by
  have hdone : ∀ (listed : Array Bool), listed.size = ops.size → Region.ready .any ops listed = [] → ∀ j, j < ops.size → listed.getD j true = true := by
    intro listed hsz hr j
    induction j using Nat.strongRecOn with
    | ind j ih =>
      intro hj
      cases hb : listed.getD j true with
      | true => rfl
      | false =>
        have ho : ops[j]? = some ops[j] := Array.getElem?_eq_getElem hj
        have hm : j ∈ Region.ready .any ops listed := by
          rw [mem_ready]
          refine ⟨hb, _, ho, fun e he _ => ?_⟩
          have hlt := (tidy_at ht ho).1 e he
          have h1 := ih e.on hlt (by omega)
          have h2 : e.on < listed.size := by omega
          simp only [Array.getD_eq_getD_getElem?, Array.getElem?_eq_getElem h2, Option.getD_some] at h1 ⊢
          exact h1
        rw [hr] at hm
        cases hm
  intro fuel
  induction fuel with
  | zero =>
    intro listed a w hsz hu hf hb hV
    have hall : ∀ j, listed.getD j true = true := by
      intro j
      have h0 : listed.toList.filter (fun b => !b) = [] := List.eq_nil_of_length_eq_zero (by simpa [unlisted] using hu)
      rw [List.filter_eq_nil_iff] at h0
      rcases Nat.lt_or_ge j listed.size with h | h
      · have := h0 listed[j] (by simp)
        simp [h] at this ⊢
        exact this
      · simp [h]
    refine ⟨?_, last a w hf.all hb fun j hj => hV j hj (hall j)⟩
    unfold Region.ready
    rw [List.filter_eq_nil_iff]
    intro j _
    rw [hall j]
    simp
  | succ fuel ih =>
    intro listed a w hsz hu hf hb hV
    refine ⟨fun hr => last a w hf.all hb fun j hj => hV j hj (hdone listed hsz hr j hj), fun i hi => ?_⟩
    obtain ⟨hun, o, ho, hall⟩ := mem_ready.1 hi
    have hilt : i < ops.size := (Array.getElem?_eq_some_iff.1 ho).1
    obtain ⟨hback, d, hd, hdlt, hslot, _⟩ := tidy_at ht ho
    refine wpOp_step ho fun K' hK => ?_
    have hlw : ∀ j, waits o j = true → listed.getD j true = true := by
      intro j hj
      obtain ⟨e, he, hbe⟩ := Array.any_eq_true'.1 hj
      simp only [Bool.and_eq_true, beq_iff_eq] at hbe
      have h1 := hall e he hbe.1
      have h2 := hback e he
      rw [← hbe.2]
      have h3 : e.on < listed.size := by omega
      simp only [Array.getD_eq_getD_getElem?, Array.getElem?_eq_getElem h3, Option.getD_some] at h1 ⊢
      exact h1
    refine steps i hilt o ho a w (hf.at_ hun) hb ?_ K' ?_
    · intro j hj
      obtain ⟨e, he, hbe⟩ := Array.any_eq_true'.1 hj
      simp only [Bool.and_eq_true, beq_iff_eq] at hbe
      have h1 := hall e he hbe.1
      have h2 := hback e he
      rw [← hbe.2]
      refine hV e.on (by omega) ?_
      have h3 : e.on < listed.size := by omega
      simp only [Array.getD_eq_getD_getElem?, Array.getElem?_eq_getElem h3, Option.getD_some] at h1 ⊢
      exact h1
    · intro v w' hw hv
      refine hK _ _ (ih _ _ _ (by simp [hsz]) (by have := unlisted_set hun; omega) (hf.put ho hsz hlw v) (hb.trans (hw.mono hb.size)) fun j hj hl => ?_)
      by_cases hji : j = i
      · subst hji
        have : (a.put o.dst v).eval (.tmp (slotAt ops j)) = v := by
          rw [hslot, hd]
          have hlt : d < a.tmps.size := by rw [hf.size]; exact hdlt
          simp [Act.eval, Act.put, hlt]
        rw [this]
        exact hv
      · have hoj : ops[j]? = some ops[j] := Array.getElem?_eq_getElem hj
        have hne := tidy_ne ht hoj ho hji
        rw [Act.eval_put (by intro d' hd' e; injection e with e; rw [hd] at hd'; injection hd' with hd'; rw [hslot] at hne; exact hne (e.trans hd'.symm))]
        rw [getD_set_ne true (Ne.symm hji)] at hl
        exact hst j _ _ _ hw (hV j hj hl)

/-- THE RULE. -/
theorem wp_region_vals {P : Program} {ops : Array Oper} {Q : Exit → Act → World → Prop} {a0 : Act} {w0 : World} (V : Nat → Value → World → Prop) {id : Nat} (hm : P.follows .mixedOrders = true)
    (ht : tidy ops a0.tmps.size = true) (hst : ∀ i, Stays (V i)) (steps : ∀ i, i < ops.size → StepAt P ops Q a0 w0.drew V i)
    (last : ∀ a w, Framed ops a0 a → Below w0.heap.size w0 w → (∀ j, j < ops.size → V j (a.eval (.tmp (slotAt ops j))) w) → Q .normal a w) :
    (Code.region id ops true).wp P Q a0 w0 := by
  refine wp_region_any hm ?_
  refine wpAny_vals (w0 := w0.drew) ht hst steps (fun a w hf hb hv => last a w hf ((Below.refl _ _).drew.trans hb) hv) _ _ _ _ (by simp) ?_ ?_ (Below.refl _ _) ?_
  · simp [unlisted]
  · refine ⟨rfl, rfl, fun _ _ => rfl, fun j o hj hl => ?_⟩
    have hlt := (Array.getElem?_eq_some_iff.1 hj).1
    simp [hlt] at hl
  · intro j hj hl
    simp [hj] at hl
/-- the operation makes a value and a world of which R is true, by itself or by a call -/
def Does (P : Program) (o : Oper) (a : Act) (w : World) (R : Value → World → Prop) : Prop :=
  (∃ v w', (execOp a.eval o).run P w = .ok (.value v) w' ∧ R v w') ∨
  ∃ f args w', (execOp a.eval o).run P w = .ok (.enter f args) w' ∧ Calls P f args w' fun e w'' => ∃ r, e = .returned r ∧ R r w''

theorem StepAt.by {P : Program} {ops : Array Oper} {Q : Exit → Act → World → Prop} {a0 : Act} {w0 : World} {V : Nat → Value → World → Prop} {i : Nat} {o : Oper} (ho : ops[i]? = some o)
    (h : ∀ a w, FramedAt ops i a0 a → Below w0.heap.size w0 w → (∀ j, waits o j = true → V j (a.eval (.tmp (slotAt ops j))) w) →
      (Region.wanted o (yielded ops a.tmps) = true ∧ Does P o a w (fun v w' => Below w.heap.size w w' ∧ V i v w')) ∨ (Region.wanted o (yielded ops a.tmps) = false ∧ V i undef w)) : StepAt P ops Q a0 w0 V i := by
  intro o' ho' a w hf hb hd K hK
  have e : o = o' := Option.some.inj (ho.symm.trans ho')
  subst e
  rcases h a w hf hb hd with ⟨hw, hr⟩ | ⟨hw, hv⟩
  · rw [if_pos hw]
    unfold Oper.wp
    rcases hr with ⟨v, w', hr, hb', hv⟩ | ⟨f, args, w', hr, hc⟩
    · rw [hr]
      exact hK.out v w' hb' hv
    · rw [hr]
      refine Calls.mono hc ?_
      rintro e w'' ⟨r, rfl, hb', hv⟩
      exact hK.out r w'' hb' hv
  · rw [hw]
    exact hK.out undef w (Below.refl _ _) hv

/-- function f is the program's own -/
def Enters (P : Program) (f : FuncId) : Prop := ∀ args w, (callFunc f args).run P w = .ok (.enter f args) w
theorem Enters.out {P : Program} {f : FuncId} (h : Enters P f) (args : Array Value) (w : World) : (callFunc f args).run P w = .ok (.enter f args) w := h args w
theorem enters_of {P : Program} {f : FuncId} {fn : Func} (hf : P.funcs[f]? = some fn) (hn : (fn.name == "runtime.NumGoroutine") = false) (hb : fn.body.isNone = false) : Enters P f := by
  intro args w
  unfold callFunc
  simp only [Sem.run_bind, run_program, Result.andThen_ok, hf, hn, hb, Bool.false_eq_true, if_false]
  rfl
theorem run_call {P : Program} {ρ : Operand → Value} {w : World} {d : Option Tmp} {ty : TypeId} {pos : String} {af : Array Edge} {g : Option (Nat × Bool)} {f : FuncId} {xs : Array Operand} {us : Array Value} {ts : Array TypeId} (hcf : Enters P f) (hfn : ρ (.func f) = .func (.func f) #[] #[]) (hx : xs.map ρ = us) :
    (execOp ρ ⟨d, .call { callee := .value (.func f), args := xs, argTypes := ts }, ty, pos, af, g⟩).run P w = .ok (.enter f us) w := by
  simp [execOp, resolve, invoke, hcf.out, hfn, hx, go_sem]
theorem run_not {P : Program} {ρ : Operand → Value} {w : World} {d : Option Tmp} {ty : TypeId} {pos : String} {af : Array Edge} {g : Option (Nat × Bool)} {x : Operand} {b : Bool} {t : TypeId} (hx : ρ x = .bool b) : (execOp ρ ⟨d, .unOp .not t x, ty, pos, af, g⟩).run P w = .ok (.value (.bool !b)) w := by
  simp [execOp, hx, go_sem]
theorem run_pick {P : Program} {ρ : Operand → Value} {w : World} {d : Option Tmp} {ty : TypeId} {pos : String} {af : Array Edge} {g : Option (Nat × Bool)} {c x y : Operand} {b : Bool} (hc : ρ c = .bool b) : (execOp ρ ⟨d, .pick c x y, ty, pos, af, g⟩).run P w = .ok (.value (if b then ρ x else ρ y)) w := by
  cases b <;> simp [execOp, hc, go_sem]
theorem run_neqI {ρ : Operand → Value} {w : World} {d : Option Tmp} {ty : TypeId} {pos : String} {af : Array Edge} {g : Option (Nat × Bool)} {x y : Operand} {b c : Int} (hx : ρ x = .int .i64 b) (hy : ρ y = .int .i64 c) : (execOp ρ ⟨d, .binOp .neq 3 x y 3, ty, pos, af, g⟩).run Tryd.prog w = .ok (.value (.bool (b != c))) w := by
  simp [execOp, hx, hy, go_sem, bne]
section
variable {P : Program} {ops : Array Oper} {a : Act} {w : World} {R : Value → World → Prop} {d : Option Tmp} {ty : TypeId} {pos : String} {af : Array Edge} {g : Option (Nat × Bool)} {op : Op}
theorem want_none : Region.wanted ⟨d, op, ty, pos, af, none⟩ (yielded ops a.tmps) = true := rfl
theorem want_some {k t : Nat} {b want : Bool} (hk : (ops[k]?).bind (·.dst) = some t) (h : a.eval (.tmp t) = .bool b) : Region.wanted ⟨d, op, ty, pos, af, some (k, want)⟩ (yielded ops a.tmps) = (b == want) := by
  have ht : a.tmps[t]? = some (.bool b) := by
    have h : a.tmps.getD t undef = .bool b := h
    rw [Array.getD_eq_getD_getElem?] at h
    cases hx : a.tmps[t]? with
    | none => rw [hx] at h; cases h
    | some v => rw [hx] at h; exact congrArg some h
  unfold Region.wanted yielded
  simp only [hk, Option.bind_some, ht]
  cases b <;> cases want <;> rfl

theorem does_move {x : Operand} {v : Value} (hx : a.eval x = v) (h : R v w) : Does P ⟨d, .move x, ty, pos, af, g⟩ a w R := .inl ⟨_, _, rfl, by rw [hx]; exact h⟩
theorem does_call2 {f : FuncId} {x y : Operand} {u v : Value} {ts : Array TypeId} (hcf : Enters P f) (hx : a.eval x = u) (hy : a.eval y = v) (h : Calls P f #[u, v] w fun e w'' => ∃ r, e = .returned r ∧ R r w'') :
    Does P ⟨d, .call { callee := .value (.func f), args := #[x, y], argTypes := ts }, ty, pos, af, g⟩ a w R := .inr ⟨f, #[u, v], w, run_call hcf rfl (by simp [hx, hy]), h⟩
theorem does_not {x : Operand} {b : Bool} {t : TypeId} (hx : a.eval x = .bool b) (h : R (.bool !b) w) : Does P ⟨d, .unOp .not t x, ty, pos, af, g⟩ a w R := .inl ⟨_, _, run_not hx, h⟩
theorem does_pick {c x y : Operand} {b : Bool} {v : Value} (hc : a.eval c = .bool b) (hv : (if b then a.eval x else a.eval y) = v) (h : R v w) : Does P ⟨d, .pick c x y, ty, pos, af, g⟩ a w R := .inl ⟨_, _, run_pick hc, by rw [hv]; exact h⟩
end
section
variable {a : Act} {w : World} {R : Value → World → Prop} {d : Option Tmp} {ty : TypeId} {pos : String} {af : Array Edge} {g : Option (Nat × Bool)}
theorem run_load3 {ρ : Operand → Value} {x : Operand} {p : Addr} {i : Int} (hx : ρ x = .pointer (some p)) (hc : w.cell? p = some (.int .i64 i)) : (execOp ρ ⟨d, .load 3 x, ty, pos, af, g⟩).run Tryd.prog w = .ok (.value (.int .i64 i)) w := by
  simp [execOp, hx, go_sem, hc]
end
/-- the frame behind a region: slots for which wr is true hold something -/
def overL (wr : Nat → Bool) (a : Act) : Nat → List Value → List Value
  | _, [] => []
  | t, v :: vs => (match wr t with | true => a.eval (.tmp t) | false => v) :: overL wr a (t + 1) vs
theorem overL_len (wr : Nat → Bool) (a : Act) : ∀ (l : List Value) (t : Nat), (overL wr a t l).length = l.length
  | [], _ => rfl
  | _ :: l, t => by simp [overL, overL_len wr a l (t + 1)]
theorem overL_get (wr : Nat → Bool) (a : Act) : ∀ (l : List Value) (t i : Nat) (v : Value), l[i]? = some v → (overL wr a t l)[i]? = some (match wr (t + i) with | true => a.eval (.tmp (t + i)) | false => v)
  | [], _, _, _, h => by cases h
  | x :: l, t, 0, v, h => by
    simp at h
    subst h
    simp [overL]
  | x :: l, t, i + 1, v, h => by
    simp only [List.getElem?_cons_succ] at h
    have := overL_get wr a l (t + 1) i v h
    simp only [overL, List.getElem?_cons_succ]
    rw [this, show t + 1 + i = t + (i + 1) by omega]
theorem Framed.lit {ops : Array Oper} {a0 a : Act} (hf : Framed ops a0 a) (wr : Nat → Bool) (hw : (ops.all fun o => match o.dst with | some d => wr d | none => true) = true) : a = ⟨(overL wr a 0 a0.tmps.toList).toArray, a0.defers⟩ := by
  have hs : a.tmps = (overL wr a 0 a0.tmps.toList).toArray := by
    apply Array.ext_getElem?
    intro i
    have hr : (overL wr a 0 a0.tmps.toList).toArray[i]? = (overL wr a 0 a0.tmps.toList)[i]? := by simp
    rw [hr]
    rcases Nat.lt_or_ge i a0.tmps.size with hi | hi
    · have h0 : a0.tmps.toList[i]? = some a0.tmps[i] := by rw [Array.getElem?_toList]; exact Array.getElem?_eq_getElem hi
      rw [overL_get wr a _ 0 i _ h0, Nat.zero_add]
      have hi' : i < a.tmps.size := by rw [hf.size]; exact hi
      have hev : a.eval (.tmp i) = a.tmps[i] := by simp [Act.eval, hi']
      rw [Array.getElem?_eq_getElem hi']
      cases hwi : wr i with
      | true => rw [← hev]
      | false =>
        have hap : apart ops i = true := by
          unfold apart
          rw [Array.all_eq_true_iff_forall_mem] at hw ⊢
          intro o ho
          have := hw o ho
          cases hd : o.dst with
          | none => rfl
          | some d =>
            rw [hd] at this
            simp only at this
            simp only [bne_iff_ne, ne_eq, Option.some.injEq]
            intro e
            subst e
            rw [hwi] at this
            cases this
        have := hf.keeps i hap
        rw [hev] at this
        rw [this]
        simp [Act.eval, hi]
    · rw [Array.getElem?_eq_none (by rw [hf.size]; exact hi), List.getElem?_eq_none (by rw [overL_len]; simpa using hi)]
  have hd := hf.defers
  cases a
  simp only at hs hd
  subst hd
  rw [Act.mk.injEq]
  exact ⟨hs, rfl⟩

theorem boxR_start (w : World) (r : RV) : ∀ W, W = w.alloc (.cells #[.int .i64 r.a.kind, .int .i64 r.a.fid, .int .i64 r.a.dir, .string r.a.name, .int .i64 r.a.to, .string r.a.toName, .slice r.a.dA r.a.dn r.a.dc, .int .i64 r.ver, .int .i64 r.id] 37) → Below w.heap.size w W ∧ BoxR W w.heap.size r ∧ W.heap.size = w.heap.size + 1 := by
  rintro W rfl
  exact ⟨(Below.refl _ _).alloc (Nat.le_refl _) _, BoxR.new w r, by simp⟩
theorem rowR_box {w : World} {s : Nat} {r : RV} (h : BoxR w s r) : Recs w (some ⟨s, 0, none⟩) 1 [r] := by
  refine ⟨rfl, .inr ⟨s, 0, rfl, lt_of_block h, fun j v hv i c hi => ?_⟩⟩
  obtain ⟨b0, b1, b2, b3, b4, b5, b6, b7, b8, bf, bz⟩ := h.facts
  cases j with
  | succ j => cases hv
  | zero =>
    cases hv
    match i, hi with
    | 0, hi => cases hi; exact b0
    | 1, hi => cases hi; exact b1
    | 2, hi => cases hi; exact b2
    | 3, hi => cases hi; exact b3
    | 4, hi => cases hi; exact b4
    | 5, hi => cases hi; exact b5
    | 6, hi => cases hi; exact b6
    | 7, hi => cases hi; exact b7
    | 8, hi => cases hi; exact b8
    | i + 9, hi => cases hi
theorem does_run {a : Act} {w w' : World} {R : Value → World → Prop} {o : Oper} {v : Value} (h : (execOp a.eval o).run Tryd.prog w = .ok (.value v) w') (hR : R v w') : Does Tryd.prog o a w R := .inl ⟨v, w', h, hR⟩
/-- the value is this -/
def IsW (c : Value) : Value → World → Prop := fun v _ => v = c
/-- cells of a record that begins here -/
def RecAt (w : World) (b o : Nat) (r : RV) : Prop := ∀ i c, r.cells[i]? = some c → w.cell? ⟨b, o + i, none⟩ = some c
def ActAt (w : World) (b o : Nat) (r : AV) : Prop := ∀ i c, r.cells[i]? = some c → w.cell? ⟨b, o + i, none⟩ = some c
theorem RecAt.act {w : World} {b o : Nat} {r : RV} (h : RecAt w b o r) : ActAt w b o r.a := fun i c hc => h i c (by
  match i, hc with
  | 0, hc => exact hc
  | 1, hc => exact hc
  | 2, hc => exact hc
  | 3, hc => exact hc
  | 4, hc => exact hc
  | 5, hc => exact hc
  | 6, hc => exact hc
  | i + 7, hc => cases hc)
theorem RecAt.below {w w' : World} {b o B : Nat} {r : RV} (h : RecAt w b o r) (hb : Below B w w') (hs : b < B) : RecAt w' b o r := fun i c hc => by
  rw [hb.cell (p := ⟨b, o + i, none⟩) hs]; exact h i c hc
theorem ActAt.below {w w' : World} {b o B : Nat} {r : AV} (h : ActAt w b o r) (hb : Below B w w') (hs : b < B) : ActAt w' b o r := fun i c hc => by
  rw [hb.cell (p := ⟨b, o + i, none⟩) hs]; exact h i c hc
theorem Recs.recAt {w : World} {b o n : Nat} {vs : List RV} (h : Recs w (some ⟨b, o, none⟩) n vs) {j : Nat} {v : RV} (hv : vs[j]? = some v) : RecAt w b (o + j * 9) v := by
  have hj : j < n := by rw [h.1]; exact (List.getElem?_eq_some_iff.1 hv).1
  obtain ⟨b', o', v', e, _, hv', c0, c1, c2, c3, c4, c5, c6, c7, c8⟩ := h.at hj
  cases e
  rw [hv] at hv'
  cases hv'
  intro i c hc
  match i, hc with
  | 0, hc => cases hc; exact c0
  | 1, hc => cases hc; exact c1
  | 2, hc => cases hc; exact c2
  | 3, hc => cases hc; exact c3
  | 4, hc => cases hc; exact c4
  | 5, hc => cases hc; exact c5
  | 6, hc => cases hc; exact c6
  | 7, hc => cases hc; exact c7
  | 8, hc => cases hc; exact c8
  | i + 9, hc => cases hc

section
variable {w : World} {R : Value → World → Prop} {d : Option Tmp} {ty : TypeId} {pos : String} {af : Array Edge} {g : Option (Nat × Bool)} {x y : Operand}
theorem run_loadA {ρ : Operand → Value} {b o : Nat} {v : AV} (hx : ρ x = .pointer (some ⟨b, o, none⟩)) (h : ActAt w b o v) : (execOp ρ ⟨d, .load 35 x, ty, pos, af, g⟩).run Tryd.prog w = .ok (.value v.val) w := by
  have c0 := h 0 _ rfl
  have c1 := h 1 _ rfl
  have c2 := h 2 _ rfl
  have c3 := h 3 _ rfl
  have c4 := h 4 _ rfl
  have c5 := h 5 _ rfl
  have c6 := h 6 _ rfl
  simp only [Nat.add_zero] at c0
  simp [execOp, hx, go_sem, c0, c1, c2, c3, c4, c5, c6]
theorem run_indexR {ρ : Operand → Value} {b o n c k : Nat} (hx : ρ x = .slice (some ⟨b, o, none⟩) n c) (hy : ρ y = .int .i64 (k : Int)) (hk : k < n) : (execOp ρ ⟨d, .indexAddr 22 x y, ty, pos, af, g⟩).run Tryd.prog w = .ok (.value (.pointer (some ⟨b, o + k * 9, none⟩))) w := by
  have h1 : (k : Int) < (n : Int) := by omega
  have h0 : (0 : Int) ≤ (k : Int) := by omega
  simp [execOp, hx, hy, go_sem, h1]
theorem run_fieldR0 {ρ : Operand → Value} {b o : Nat} (hx : ρ x = .pointer (some ⟨b, o, none⟩)) : (execOp ρ ⟨d, .fieldAddr 37 x 0, ty, pos, af, g⟩).run Tryd.prog w = .ok (.value (.pointer (some ⟨b, o, none⟩))) w := by
  simp [execOp, hx, go_sem]
theorem run_fieldR1 {ρ : Operand → Value} {b o : Nat} (hx : ρ x = .pointer (some ⟨b, o, none⟩)) : (execOp ρ ⟨d, .fieldAddr 37 x 1, ty, pos, af, g⟩).run Tryd.prog w = .ok (.value (.pointer (some ⟨b, o + 7, none⟩))) w := by
  simp [execOp, hx, go_sem]
theorem run_fieldR2 {ρ : Operand → Value} {b o : Nat} (hx : ρ x = .pointer (some ⟨b, o, none⟩)) : (execOp ρ ⟨d, .fieldAddr 37 x 2, ty, pos, af, g⟩).run Tryd.prog w = .ok (.value (.pointer (some ⟨b, o + 8, none⟩))) w := by
  simp [execOp, hx, go_sem]
end
def VS1 (b o b2 o2 n ca cb k : Nat) (v u : RV) : Nat → Value → World → Prop
  | 0 => IsW (.slice (some ⟨b, o, none⟩) n ca)
  | 1 => IsW (.int .i64 ((k : Nat) : Int))
  | 2 => IsW (.pointer (some ⟨b, o + k * 9, none⟩))
  | 3 => IsW (.pointer (some ⟨b, o + k * 9 + 7, none⟩))
  | 4 => IsW (.int .i64 (v.ver))
  | 5 => IsW (.slice (some ⟨b2, o2, none⟩) n cb)
  | 6 => IsW (.int .i64 ((k : Nat) : Int))
  | 7 => IsW (.pointer (some ⟨b2, o2 + k * 9, none⟩))
  | 8 => IsW (.pointer (some ⟨b2, o2 + k * 9 + 7, none⟩))
  | 9 => IsW (.int .i64 (u.ver))
  | 10 => IsW (.bool true)
  | 11 => IsW (.bool true)
  | 12 => IsW (undef)
  | 13 => IsW (undef)
  | 14 => IsW (undef)
  | 15 => IsW (undef)
  | 16 => IsW (undef)
  | 17 => IsW (undef)
  | 18 => IsW (undef)
  | 19 => IsW (undef)
  | 20 => IsW (undef)
  | 21 => IsW (undef)
  | 22 => IsW (undef)
  | 23 => IsW (.bool true)
  | 24 => IsW (.bool true)
  | 25 => IsW (undef)
  | 26 => IsW (undef)
  | 27 => IsW (undef)
  | 28 => IsW (undef)
  | 29 => IsW (undef)
  | 30 => IsW (undef)
  | 31 => IsW (undef)
  | 32 => IsW (undef)
  | 33 => IsW (undef)
  | 34 => IsW (undef)
  | 35 => IsW (undef)
  | 36 => IsW (undef)
  | 37 => IsW (.bool true)
  | _ => fun _ _ => True
theorem VS1_stays (b o b2 o2 n ca cb k : Nat) (v u : RV) : ∀ i, Stays (VS1 b o b2 o2 n ca cb k v u i) := by
  intro i v W W' hb h
  match i, h with
  | 0, h => exact h
  | 1, h => exact h
  | 2, h => exact h
  | 3, h => exact h
  | 4, h => exact h
  | 5, h => exact h
  | 6, h => exact h
  | 7, h => exact h
  | 8, h => exact h
  | 9, h => exact h
  | 10, h => exact h
  | 11, h => exact h
  | 12, h => exact h
  | 13, h => exact h
  | 14, h => exact h
  | 15, h => exact h
  | 16, h => exact h
  | 17, h => exact h
  | 18, h => exact h
  | 19, h => exact h
  | 20, h => exact h
  | 21, h => exact h
  | 22, h => exact h
  | 23, h => exact h
  | 24, h => exact h
  | 25, h => exact h
  | 26, h => exact h
  | 27, h => exact h
  | 28, h => exact h
  | 29, h => exact h
  | 30, h => exact h
  | 31, h => exact h
  | 32, h => exact h
  | 33, h => exact h
  | 34, h => exact h
  | 35, h => exact h
  | 36, h => exact h
  | 37, h => exact h
  | k + 38, h => trivial
def VS2 (b o b2 o2 n ca cb k : Nat) (v u : RV) : Nat → Value → World → Prop
  | 0 => IsW (.slice (some ⟨b, o, none⟩) n ca)
  | 1 => IsW (.int .i64 ((k : Nat) : Int))
  | 2 => IsW (.pointer (some ⟨b, o + k * 9, none⟩))
  | 3 => IsW (.pointer (some ⟨b, o + k * 9 + 7, none⟩))
  | 4 => IsW (.int .i64 (v.ver))
  | 5 => IsW (.slice (some ⟨b2, o2, none⟩) n cb)
  | 6 => IsW (.int .i64 ((k : Nat) : Int))
  | 7 => IsW (.pointer (some ⟨b2, o2 + k * 9, none⟩))
  | 8 => IsW (.pointer (some ⟨b2, o2 + k * 9 + 7, none⟩))
  | 9 => IsW (.int .i64 (u.ver))
  | 10 => IsW (.bool false)
  | 11 => IsW (.bool false)
  | 12 => IsW (.slice (some ⟨b, o, none⟩) n ca)
  | 13 => IsW (.int .i64 ((k : Nat) : Int))
  | 14 => IsW (.pointer (some ⟨b, o + k * 9, none⟩))
  | 15 => IsW (.pointer (some ⟨b, o + k * 9 + 8, none⟩))
  | 16 => IsW (.int .i64 (v.id))
  | 17 => IsW (.slice (some ⟨b2, o2, none⟩) n cb)
  | 18 => IsW (.int .i64 ((k : Nat) : Int))
  | 19 => IsW (.pointer (some ⟨b2, o2 + k * 9, none⟩))
  | 20 => IsW (.pointer (some ⟨b2, o2 + k * 9 + 8, none⟩))
  | 21 => IsW (.int .i64 (u.id))
  | 22 => IsW (.bool true)
  | 23 => IsW (.bool true)
  | 24 => IsW (.bool true)
  | 25 => IsW (undef)
  | 26 => IsW (undef)
  | 27 => IsW (undef)
  | 28 => IsW (undef)
  | 29 => IsW (undef)
  | 30 => IsW (undef)
  | 31 => IsW (undef)
  | 32 => IsW (undef)
  | 33 => IsW (undef)
  | 34 => IsW (undef)
  | 35 => IsW (undef)
  | 36 => IsW (undef)
  | 37 => IsW (.bool true)
  | _ => fun _ _ => True
theorem VS2_stays (b o b2 o2 n ca cb k : Nat) (v u : RV) : ∀ i, Stays (VS2 b o b2 o2 n ca cb k v u i) := by
  intro i v W W' hb h
  match i, h with
  | 0, h => exact h
  | 1, h => exact h
  | 2, h => exact h
  | 3, h => exact h
  | 4, h => exact h
  | 5, h => exact h
  | 6, h => exact h
  | 7, h => exact h
  | 8, h => exact h
  | 9, h => exact h
  | 10, h => exact h
  | 11, h => exact h
  | 12, h => exact h
  | 13, h => exact h
  | 14, h => exact h
  | 15, h => exact h
  | 16, h => exact h
  | 17, h => exact h
  | 18, h => exact h
  | 19, h => exact h
  | 20, h => exact h
  | 21, h => exact h
  | 22, h => exact h
  | 23, h => exact h
  | 24, h => exact h
  | 25, h => exact h
  | 26, h => exact h
  | 27, h => exact h
  | 28, h => exact h
  | 29, h => exact h
  | 30, h => exact h
  | 31, h => exact h
  | 32, h => exact h
  | 33, h => exact h
  | 34, h => exact h
  | 35, h => exact h
  | 36, h => exact h
  | 37, h => exact h
  | k + 38, h => trivial
def VS3 (b o b2 o2 n ca cb k : Nat) (v u : RV) (x y : M.Rec) : Nat → Value → World → Prop
  | 0 => IsW (.slice (some ⟨b, o, none⟩) n ca)
  | 1 => IsW (.int .i64 ((k : Nat) : Int))
  | 2 => IsW (.pointer (some ⟨b, o + k * 9, none⟩))
  | 3 => IsW (.pointer (some ⟨b, o + k * 9 + 7, none⟩))
  | 4 => IsW (.int .i64 (v.ver))
  | 5 => IsW (.slice (some ⟨b2, o2, none⟩) n cb)
  | 6 => IsW (.int .i64 ((k : Nat) : Int))
  | 7 => IsW (.pointer (some ⟨b2, o2 + k * 9, none⟩))
  | 8 => IsW (.pointer (some ⟨b2, o2 + k * 9 + 7, none⟩))
  | 9 => IsW (.int .i64 (u.ver))
  | 10 => IsW (.bool false)
  | 11 => IsW (.bool false)
  | 12 => IsW (.slice (some ⟨b, o, none⟩) n ca)
  | 13 => IsW (.int .i64 ((k : Nat) : Int))
  | 14 => IsW (.pointer (some ⟨b, o + k * 9, none⟩))
  | 15 => IsW (.pointer (some ⟨b, o + k * 9 + 8, none⟩))
  | 16 => IsW (.int .i64 (v.id))
  | 17 => IsW (.slice (some ⟨b2, o2, none⟩) n cb)
  | 18 => IsW (.int .i64 ((k : Nat) : Int))
  | 19 => IsW (.pointer (some ⟨b2, o2 + k * 9, none⟩))
  | 20 => IsW (.pointer (some ⟨b2, o2 + k * 9 + 8, none⟩))
  | 21 => IsW (.int .i64 (u.id))
  | 22 => IsW (.bool false)
  | 23 => IsW (.bool false)
  | 24 => IsW (.bool false)
  | 25 => IsW (.slice (some ⟨b, o, none⟩) n ca)
  | 26 => IsW (.int .i64 ((k : Nat) : Int))
  | 27 => IsW (.pointer (some ⟨b, o + k * 9, none⟩))
  | 28 => IsW (.pointer (some ⟨b, o + k * 9, none⟩))
  | 29 => IsW (AV.val v.a)
  | 30 => IsW (.slice (some ⟨b2, o2, none⟩) n cb)
  | 31 => IsW (.int .i64 ((k : Nat) : Int))
  | 32 => IsW (.pointer (some ⟨b2, o2 + k * 9, none⟩))
  | 33 => IsW (.pointer (some ⟨b2, o2 + k * 9, none⟩))
  | 34 => IsW (AV.val u.a)
  | 35 => IsW (.bool (sameA x.act y.act))
  | 36 => IsW (.bool (!(sameA x.act y.act)))
  | 37 => IsW (.bool (!(sameA x.act y.act)))
  | _ => fun _ _ => True
theorem VS3_stays (b o b2 o2 n ca cb k : Nat) (v u : RV) (x y : M.Rec) : ∀ i, Stays (VS3 b o b2 o2 n ca cb k v u x y i) := by
  intro i v W W' hb h
  match i, h with
  | 0, h => exact h
  | 1, h => exact h
  | 2, h => exact h
  | 3, h => exact h
  | 4, h => exact h
  | 5, h => exact h
  | 6, h => exact h
  | 7, h => exact h
  | 8, h => exact h
  | 9, h => exact h
  | 10, h => exact h
  | 11, h => exact h
  | 12, h => exact h
  | 13, h => exact h
  | 14, h => exact h
  | 15, h => exact h
  | 16, h => exact h
  | 17, h => exact h
  | 18, h => exact h
  | 19, h => exact h
  | 20, h => exact h
  | 21, h => exact h
  | 22, h => exact h
  | 23, h => exact h
  | 24, h => exact h
  | 25, h => exact h
  | 26, h => exact h
  | 27, h => exact h
  | 28, h => exact h
  | 29, h => exact h
  | 30, h => exact h
  | 31, h => exact h
  | 32, h => exact h
  | 33, h => exact h
  | 34, h => exact h
  | 35, h => exact h
  | 36, h => exact h
  | 37, h => exact h
  | k + 38, h => trivial

set_option maxRecDepth 8000 in
set_option maxHeartbeats 4000000 in
theorem sameLog_any (A B : Option Addr) (n m ca cb : Nat) (vs us : List RV) (xs ys : List M.Rec) (w : World) (hx : TreeR w A n vs xs) (hy : TreeR w B m us ys) (hn : n * 104 ≤ 140737488355328) (hm : m * 104 ≤ 140737488355328) :
    Calls Tryd.prog 8 #[.slice A n ca, .slice B m cb] w fun e w' => e = .returned (.bool (allB sameR xs ys)) ∧ Below w.heap.size w w' := by
  have HT : Hid (TreeR w A n vs xs ∧ TreeR w B m us ys) := ⟨hx, hy⟩
  by_cases hnm : n = m
  · subst hnm
    have q0 : ((n : Int) == (n : Int)) = true := by simp
    have q1 : ((n : Int) != (n : Int)) = false := by simp
    clear hx hy
    go_enter Tryd.func8, Tryd.ntmps8
    go_wp2
    go_loopw [13] (fun i wr => ∃ k : Nat, k ≤ n ∧ i = .int .i64 k ∧ Hid (allB sameR (xs.take k) (ys.take k) = true) ∧ Below w.heap.size w wr) (fun i _ => n - (intOf i).toNat)
    case atStart => exact ⟨0, Nat.zero_le _, rfl, rfl, Below.refl _ _⟩
    case round =>
      obtain ⟨k, hk, rfl, HE, hb⟩ := hrel
      have hsz := hb.size
      by_cases hlt : k < n
      · have hxr := HT.out.1.below (Nat.le_refl _) hb
        have hyr := HT.out.2.below (Nat.le_refl _) hb
        obtain ⟨b, o, v, rfl, hbl, hvk, _⟩ := hxr.1.at hlt
        obtain ⟨b2, o2, u, rfl, hbl2, huk, _⟩ := hyr.1.at hlt
        obtain ⟨x, hxk, hcx⟩ := hxr.2.at hvk
        obtain ⟨y, hyk, hcy⟩ := hyr.2.at huk
        have HR : Hid (RecAt wr b (o + k * 9) v ∧ RecAt wr b2 (o2 + k * 9) u ∧ b < wr.heap.size ∧ b2 < wr.heap.size) := ⟨Recs.recAt hxr.1 hvk, Recs.recAt hyr.1 huk, hbl, hbl2⟩
        have HX : Hid (ContR wr v x ∧ xs[k]? = some x) := ⟨hcx, hxk⟩
        have HY : Hid (ContR wr u y ∧ ys[k]? = some y) := ⟨hcy, hyk⟩
        have HL : Hid ((xs.take k).length = (ys.take k).length) := by
          show _ = _
          rw [List.length_take, List.length_take, ← HT.out.1.len, ← HT.out.2.len]
        clear hxk hyk hvk huk hcx hcy hxr hyr hbl hbl2
        by_cases h1 : v.ver = u.ver
        case' neg =>
          have r1 : (v.ver != u.ver) = true := by simp [h1]
          have HV1 : Hid (¬ v.ver = u.ver) := h1
          clear h1
          go_wp2_with (fail)
          go_cut [53] from 16 to 53 (fun t W => t = .bool true ∧ Below wr.heap.size wr W)
          case first =>
            have hbd : ∀ W, Below wr.drew.heap.size wr.drew W → Below wr.heap.size wr W := fun W hb => (Below.refl _ _).drew.trans hb
            have HRV : ∀ W, Below wr.drew.heap.size wr.drew W → RecAt W b (o + k * 9) v := fun W hb => HR.out.1.below (hbd W hb) HR.out.2.2.1
            have HRU : ∀ W, Below wr.drew.heap.size wr.drew W → RecAt W b2 (o2 + k * 9) u := fun W hb => HR.out.2.1.below (hbd W hb) HR.out.2.2.2
            have HCA : ∀ W, Below wr.drew.heap.size wr.drew W → ContA W v.a x.act ∧ ContA W u.a y.act := fun W hb => ⟨HX.out.1.1.below (Nat.le_refl _) (hbd W hb), HY.out.1.1.below (Nat.le_refl _) (hbd W hb)⟩
            refine wp_region_vals (VS1 b o b2 o2 n ca cb k v u) (by kernel_rfl) (by kernel_rfl) (VS1_stays b o b2 o2 n ca cb k v u) ?_ ?_
            · intro i hi
              match i, hi with
              | 0, _ =>
                refine StepAt.by rfl fun a' W hf hb hd => ?_
                exact .inl ⟨want_none, does_move ((hf.keeps 0 (by kernel_rfl)).trans rfl) ⟨Below.refl _ _, rfl⟩⟩
              | 1, _ =>
                refine StepAt.by rfl fun a' W hf hb hd => ?_
                exact .inl ⟨want_none, does_move ((hf.keeps 5 (by kernel_rfl)).trans rfl) ⟨Below.refl _ _, rfl⟩⟩
              | 2, _ =>
                refine StepAt.by rfl fun a' W hf hb hd => ?_
                exact .inl ⟨want_none, does_run (run_indexR (hd 0 (by kernel_rfl)) (hd 1 (by kernel_rfl)) (by omega)) ⟨Below.refl _ _, rfl⟩⟩
              | 3, _ =>
                refine StepAt.by rfl fun a' W hf hb hd => ?_
                exact .inl ⟨want_none, does_run (run_fieldR1 (hd 2 (by kernel_rfl))) ⟨Below.refl _ _, rfl⟩⟩
              | 4, _ =>
                refine StepAt.by rfl fun a' W hf hb hd => ?_
                exact .inl ⟨want_none, does_run (run_load3 (hd 3 (by kernel_rfl)) ((HRV W hb) 7 _ rfl)) ⟨Below.refl _ _, rfl⟩⟩
              | 5, _ =>
                refine StepAt.by rfl fun a' W hf hb hd => ?_
                exact .inl ⟨want_none, does_move ((hf.keeps 1 (by kernel_rfl)).trans rfl) ⟨Below.refl _ _, rfl⟩⟩
              | 6, _ =>
                refine StepAt.by rfl fun a' W hf hb hd => ?_
                exact .inl ⟨want_none, does_move ((hf.keeps 5 (by kernel_rfl)).trans rfl) ⟨Below.refl _ _, rfl⟩⟩
              | 7, _ =>
                refine StepAt.by rfl fun a' W hf hb hd => ?_
                exact .inl ⟨want_none, does_run (run_indexR (hd 5 (by kernel_rfl)) (hd 6 (by kernel_rfl)) (by omega)) ⟨Below.refl _ _, rfl⟩⟩
              | 8, _ =>
                refine StepAt.by rfl fun a' W hf hb hd => ?_
                exact .inl ⟨want_none, does_run (run_fieldR1 (hd 7 (by kernel_rfl))) ⟨Below.refl _ _, rfl⟩⟩
              | 9, _ =>
                refine StepAt.by rfl fun a' W hf hb hd => ?_
                exact .inl ⟨want_none, does_run (run_load3 (hd 8 (by kernel_rfl)) ((HRU W hb) 7 _ rfl)) ⟨Below.refl _ _, rfl⟩⟩
              | 10, _ =>
                refine StepAt.by rfl fun a' W hf hb hd => ?_
                exact .inl ⟨want_none, does_run (run_neqI (hd 4 (by kernel_rfl)) (hd 9 (by kernel_rfl))) ⟨Below.refl _ _, by show Value.bool _ = _; rw [r1]⟩⟩
              | 11, _ =>
                refine StepAt.by rfl fun a' W hf hb hd => ?_
                exact .inl ⟨want_none, does_move (hd 10 (by kernel_rfl)) ⟨Below.refl _ _, rfl⟩⟩
              | 12, _ =>
                refine StepAt.by rfl fun a' W hf hb hd => ?_
                exact .inr ⟨want_some (k := 11) (t := 27) rfl (hd 11 (by kernel_rfl)), rfl⟩
              | 13, _ =>
                refine StepAt.by rfl fun a' W hf hb hd => ?_
                exact .inr ⟨want_some (k := 11) (t := 27) rfl (hd 11 (by kernel_rfl)), rfl⟩
              | 14, _ =>
                refine StepAt.by rfl fun a' W hf hb hd => ?_
                exact .inr ⟨want_some (k := 11) (t := 27) rfl (hd 11 (by kernel_rfl)), rfl⟩
              | 15, _ =>
                refine StepAt.by rfl fun a' W hf hb hd => ?_
                exact .inr ⟨want_some (k := 11) (t := 27) rfl (hd 11 (by kernel_rfl)), rfl⟩
              | 16, _ =>
                refine StepAt.by rfl fun a' W hf hb hd => ?_
                exact .inr ⟨want_some (k := 11) (t := 27) rfl (hd 11 (by kernel_rfl)), rfl⟩
              | 17, _ =>
                refine StepAt.by rfl fun a' W hf hb hd => ?_
                exact .inr ⟨want_some (k := 11) (t := 27) rfl (hd 11 (by kernel_rfl)), rfl⟩
              | 18, _ =>
                refine StepAt.by rfl fun a' W hf hb hd => ?_
                exact .inr ⟨want_some (k := 11) (t := 27) rfl (hd 11 (by kernel_rfl)), rfl⟩
              | 19, _ =>
                refine StepAt.by rfl fun a' W hf hb hd => ?_
                exact .inr ⟨want_some (k := 11) (t := 27) rfl (hd 11 (by kernel_rfl)), rfl⟩
              | 20, _ =>
                refine StepAt.by rfl fun a' W hf hb hd => ?_
                exact .inr ⟨want_some (k := 11) (t := 27) rfl (hd 11 (by kernel_rfl)), rfl⟩
              | 21, _ =>
                refine StepAt.by rfl fun a' W hf hb hd => ?_
                exact .inr ⟨want_some (k := 11) (t := 27) rfl (hd 11 (by kernel_rfl)), rfl⟩
              | 22, _ =>
                refine StepAt.by rfl fun a' W hf hb hd => ?_
                exact .inr ⟨want_some (k := 11) (t := 27) rfl (hd 11 (by kernel_rfl)), rfl⟩
              | 23, _ =>
                refine StepAt.by rfl fun a' W hf hb hd => ?_
                exact .inl ⟨want_none, does_pick (b := true) (hd 11 (by kernel_rfl)) rfl ⟨Below.refl _ _, rfl⟩⟩
              | 24, _ =>
                refine StepAt.by rfl fun a' W hf hb hd => ?_
                exact .inl ⟨want_none, does_move (hd 23 (by kernel_rfl)) ⟨Below.refl _ _, rfl⟩⟩
              | 25, _ =>
                refine StepAt.by rfl fun a' W hf hb hd => ?_
                exact .inr ⟨want_some (k := 24) (t := 40) rfl (hd 24 (by kernel_rfl)), rfl⟩
              | 26, _ =>
                refine StepAt.by rfl fun a' W hf hb hd => ?_
                exact .inr ⟨want_some (k := 24) (t := 40) rfl (hd 24 (by kernel_rfl)), rfl⟩
              | 27, _ =>
                refine StepAt.by rfl fun a' W hf hb hd => ?_
                exact .inr ⟨want_some (k := 24) (t := 40) rfl (hd 24 (by kernel_rfl)), rfl⟩
              | 28, _ =>
                refine StepAt.by rfl fun a' W hf hb hd => ?_
                exact .inr ⟨want_some (k := 24) (t := 40) rfl (hd 24 (by kernel_rfl)), rfl⟩
              | 29, _ =>
                refine StepAt.by rfl fun a' W hf hb hd => ?_
                exact .inr ⟨want_some (k := 24) (t := 40) rfl (hd 24 (by kernel_rfl)), rfl⟩
              | 30, _ =>
                refine StepAt.by rfl fun a' W hf hb hd => ?_
                exact .inr ⟨want_some (k := 24) (t := 40) rfl (hd 24 (by kernel_rfl)), rfl⟩
              | 31, _ =>
                refine StepAt.by rfl fun a' W hf hb hd => ?_
                exact .inr ⟨want_some (k := 24) (t := 40) rfl (hd 24 (by kernel_rfl)), rfl⟩
              | 32, _ =>
                refine StepAt.by rfl fun a' W hf hb hd => ?_
                exact .inr ⟨want_some (k := 24) (t := 40) rfl (hd 24 (by kernel_rfl)), rfl⟩
              | 33, _ =>
                refine StepAt.by rfl fun a' W hf hb hd => ?_
                exact .inr ⟨want_some (k := 24) (t := 40) rfl (hd 24 (by kernel_rfl)), rfl⟩
              | 34, _ =>
                refine StepAt.by rfl fun a' W hf hb hd => ?_
                exact .inr ⟨want_some (k := 24) (t := 40) rfl (hd 24 (by kernel_rfl)), rfl⟩
              | 35, _ =>
                refine StepAt.by rfl fun a' W hf hb hd => ?_
                exact .inr ⟨want_some (k := 24) (t := 40) rfl (hd 24 (by kernel_rfl)), rfl⟩
              | 36, _ =>
                refine StepAt.by rfl fun a' W hf hb hd => ?_
                exact .inr ⟨want_some (k := 24) (t := 40) rfl (hd 24 (by kernel_rfl)), rfl⟩
              | 37, _ =>
                refine StepAt.by rfl fun a' W hf hb hd => ?_
                exact .inl ⟨want_none, does_pick (b := true) (hd 24 (by kernel_rfl)) rfl ⟨Below.refl _ _, rfl⟩⟩
              | k + 38, hi => exact absurd hi (Nat.not_lt.2 (Nat.le_add_left _ _))
            · intro a' W hf hb hv
              have h53 : a'.eval (.tmp 53) = .bool true := hv 37 (by decide)
              have hl := hf.lit (fun t => decide (16 ≤ t) && decide (t ≤ 53)) (by kernel_rfl)
              simp only [overL, Nat.reduceAdd, Nat.reduceLeDiff, decide_true, decide_false, Bool.and_true, Bool.and_false] at hl
              rw [hl]
              clear hl
              go_wp2_with (fail)
              go_meet
              case rel => exact ⟨h53, hb⟩
          case rest =>
            obtain ⟨rfl, hbc⟩ := hcut
            have H1 : Hid (Below w.heap.size w wc) := hb.trans (hbc.mono hsz)
            clear hbc
            have HAL : Hid (sameR x y = false) := sameR_no fun e => by rw [e] at HX; exact HV1.out (HX.out.1.2.1.trans HY.out.1.2.1.symm)
            go_wp2
            go_ret
            exact ⟨ret_bool (allB_no HX.out.2 HY.out.2 HAL.out).symm, H1.out⟩
        have r1 : (v.ver != u.ver) = false := by simp [h1]
        have HV1 : Hid (v.ver = u.ver) := h1
        clear h1
        by_cases h2 : v.id = u.id
        case' neg =>
          have r2 : (v.id != u.id) = true := by simp [h2]
          have HV2 : Hid (¬ v.id = u.id) := h2
          clear h2
          go_wp2_with (fail)
          go_cut [53] from 16 to 53 (fun t W => t = .bool true ∧ Below wr.heap.size wr W)
          case first =>
            have hbd : ∀ W, Below wr.drew.heap.size wr.drew W → Below wr.heap.size wr W := fun W hb => (Below.refl _ _).drew.trans hb
            have HRV : ∀ W, Below wr.drew.heap.size wr.drew W → RecAt W b (o + k * 9) v := fun W hb => HR.out.1.below (hbd W hb) HR.out.2.2.1
            have HRU : ∀ W, Below wr.drew.heap.size wr.drew W → RecAt W b2 (o2 + k * 9) u := fun W hb => HR.out.2.1.below (hbd W hb) HR.out.2.2.2
            have HCA : ∀ W, Below wr.drew.heap.size wr.drew W → ContA W v.a x.act ∧ ContA W u.a y.act := fun W hb => ⟨HX.out.1.1.below (Nat.le_refl _) (hbd W hb), HY.out.1.1.below (Nat.le_refl _) (hbd W hb)⟩
            refine wp_region_vals (VS2 b o b2 o2 n ca cb k v u) (by kernel_rfl) (by kernel_rfl) (VS2_stays b o b2 o2 n ca cb k v u) ?_ ?_
            · intro i hi
              match i, hi with
              | 0, _ =>
                refine StepAt.by rfl fun a' W hf hb hd => ?_
                exact .inl ⟨want_none, does_move ((hf.keeps 0 (by kernel_rfl)).trans rfl) ⟨Below.refl _ _, rfl⟩⟩
              | 1, _ =>
                refine StepAt.by rfl fun a' W hf hb hd => ?_
                exact .inl ⟨want_none, does_move ((hf.keeps 5 (by kernel_rfl)).trans rfl) ⟨Below.refl _ _, rfl⟩⟩
              | 2, _ =>
                refine StepAt.by rfl fun a' W hf hb hd => ?_
                exact .inl ⟨want_none, does_run (run_indexR (hd 0 (by kernel_rfl)) (hd 1 (by kernel_rfl)) (by omega)) ⟨Below.refl _ _, rfl⟩⟩
              | 3, _ =>
                refine StepAt.by rfl fun a' W hf hb hd => ?_
                exact .inl ⟨want_none, does_run (run_fieldR1 (hd 2 (by kernel_rfl))) ⟨Below.refl _ _, rfl⟩⟩
              | 4, _ =>
                refine StepAt.by rfl fun a' W hf hb hd => ?_
                exact .inl ⟨want_none, does_run (run_load3 (hd 3 (by kernel_rfl)) ((HRV W hb) 7 _ rfl)) ⟨Below.refl _ _, rfl⟩⟩
              | 5, _ =>
                refine StepAt.by rfl fun a' W hf hb hd => ?_
                exact .inl ⟨want_none, does_move ((hf.keeps 1 (by kernel_rfl)).trans rfl) ⟨Below.refl _ _, rfl⟩⟩
              | 6, _ =>
                refine StepAt.by rfl fun a' W hf hb hd => ?_
                exact .inl ⟨want_none, does_move ((hf.keeps 5 (by kernel_rfl)).trans rfl) ⟨Below.refl _ _, rfl⟩⟩
              | 7, _ =>
                refine StepAt.by rfl fun a' W hf hb hd => ?_
                exact .inl ⟨want_none, does_run (run_indexR (hd 5 (by kernel_rfl)) (hd 6 (by kernel_rfl)) (by omega)) ⟨Below.refl _ _, rfl⟩⟩
              | 8, _ =>
                refine StepAt.by rfl fun a' W hf hb hd => ?_
                exact .inl ⟨want_none, does_run (run_fieldR1 (hd 7 (by kernel_rfl))) ⟨Below.refl _ _, rfl⟩⟩
              | 9, _ =>
                refine StepAt.by rfl fun a' W hf hb hd => ?_
                exact .inl ⟨want_none, does_run (run_load3 (hd 8 (by kernel_rfl)) ((HRU W hb) 7 _ rfl)) ⟨Below.refl _ _, rfl⟩⟩
              | 10, _ =>
                refine StepAt.by rfl fun a' W hf hb hd => ?_
                exact .inl ⟨want_none, does_run (run_neqI (hd 4 (by kernel_rfl)) (hd 9 (by kernel_rfl))) ⟨Below.refl _ _, by show Value.bool _ = _; rw [r1]⟩⟩
              | 11, _ =>
                refine StepAt.by rfl fun a' W hf hb hd => ?_
                exact .inl ⟨want_none, does_move (hd 10 (by kernel_rfl)) ⟨Below.refl _ _, rfl⟩⟩
              | 12, _ =>
                refine StepAt.by rfl fun a' W hf hb hd => ?_
                exact .inl ⟨want_some (k := 11) (t := 27) rfl (hd 11 (by kernel_rfl)), does_move ((hf.keeps 0 (by kernel_rfl)).trans rfl) ⟨Below.refl _ _, rfl⟩⟩
              | 13, _ =>
                refine StepAt.by rfl fun a' W hf hb hd => ?_
                exact .inl ⟨want_some (k := 11) (t := 27) rfl (hd 11 (by kernel_rfl)), does_move ((hf.keeps 5 (by kernel_rfl)).trans rfl) ⟨Below.refl _ _, rfl⟩⟩
              | 14, _ =>
                refine StepAt.by rfl fun a' W hf hb hd => ?_
                exact .inl ⟨want_some (k := 11) (t := 27) rfl (hd 11 (by kernel_rfl)), does_run (run_indexR (hd 12 (by kernel_rfl)) (hd 13 (by kernel_rfl)) (by omega)) ⟨Below.refl _ _, rfl⟩⟩
              | 15, _ =>
                refine StepAt.by rfl fun a' W hf hb hd => ?_
                exact .inl ⟨want_some (k := 11) (t := 27) rfl (hd 11 (by kernel_rfl)), does_run (run_fieldR2 (hd 14 (by kernel_rfl))) ⟨Below.refl _ _, rfl⟩⟩
              | 16, _ =>
                refine StepAt.by rfl fun a' W hf hb hd => ?_
                exact .inl ⟨want_some (k := 11) (t := 27) rfl (hd 11 (by kernel_rfl)), does_run (run_load3 (hd 15 (by kernel_rfl)) ((HRV W hb) 8 _ rfl)) ⟨Below.refl _ _, rfl⟩⟩
              | 17, _ =>
                refine StepAt.by rfl fun a' W hf hb hd => ?_
                exact .inl ⟨want_some (k := 11) (t := 27) rfl (hd 11 (by kernel_rfl)), does_move ((hf.keeps 1 (by kernel_rfl)).trans rfl) ⟨Below.refl _ _, rfl⟩⟩
              | 18, _ =>
                refine StepAt.by rfl fun a' W hf hb hd => ?_
                exact .inl ⟨want_some (k := 11) (t := 27) rfl (hd 11 (by kernel_rfl)), does_move ((hf.keeps 5 (by kernel_rfl)).trans rfl) ⟨Below.refl _ _, rfl⟩⟩
              | 19, _ =>
                refine StepAt.by rfl fun a' W hf hb hd => ?_
                exact .inl ⟨want_some (k := 11) (t := 27) rfl (hd 11 (by kernel_rfl)), does_run (run_indexR (hd 17 (by kernel_rfl)) (hd 18 (by kernel_rfl)) (by omega)) ⟨Below.refl _ _, rfl⟩⟩
              | 20, _ =>
                refine StepAt.by rfl fun a' W hf hb hd => ?_
                exact .inl ⟨want_some (k := 11) (t := 27) rfl (hd 11 (by kernel_rfl)), does_run (run_fieldR2 (hd 19 (by kernel_rfl))) ⟨Below.refl _ _, rfl⟩⟩
              | 21, _ =>
                refine StepAt.by rfl fun a' W hf hb hd => ?_
                exact .inl ⟨want_some (k := 11) (t := 27) rfl (hd 11 (by kernel_rfl)), does_run (run_load3 (hd 20 (by kernel_rfl)) ((HRU W hb) 8 _ rfl)) ⟨Below.refl _ _, rfl⟩⟩
              | 22, _ =>
                refine StepAt.by rfl fun a' W hf hb hd => ?_
                exact .inl ⟨want_some (k := 11) (t := 27) rfl (hd 11 (by kernel_rfl)), does_run (run_neqI (hd 16 (by kernel_rfl)) (hd 21 (by kernel_rfl))) ⟨Below.refl _ _, by show Value.bool _ = _; rw [r2]⟩⟩
              | 23, _ =>
                refine StepAt.by rfl fun a' W hf hb hd => ?_
                exact .inl ⟨want_none, does_pick (b := false) (hd 11 (by kernel_rfl)) (hd 22 (by kernel_rfl)) ⟨Below.refl _ _, rfl⟩⟩
              | 24, _ =>
                refine StepAt.by rfl fun a' W hf hb hd => ?_
                exact .inl ⟨want_none, does_move (hd 23 (by kernel_rfl)) ⟨Below.refl _ _, rfl⟩⟩
              | 25, _ =>
                refine StepAt.by rfl fun a' W hf hb hd => ?_
                exact .inr ⟨want_some (k := 24) (t := 40) rfl (hd 24 (by kernel_rfl)), rfl⟩
              | 26, _ =>
                refine StepAt.by rfl fun a' W hf hb hd => ?_
                exact .inr ⟨want_some (k := 24) (t := 40) rfl (hd 24 (by kernel_rfl)), rfl⟩
              | 27, _ =>
                refine StepAt.by rfl fun a' W hf hb hd => ?_
                exact .inr ⟨want_some (k := 24) (t := 40) rfl (hd 24 (by kernel_rfl)), rfl⟩
              | 28, _ =>
                refine StepAt.by rfl fun a' W hf hb hd => ?_
                exact .inr ⟨want_some (k := 24) (t := 40) rfl (hd 24 (by kernel_rfl)), rfl⟩
              | 29, _ =>
                refine StepAt.by rfl fun a' W hf hb hd => ?_
                exact .inr ⟨want_some (k := 24) (t := 40) rfl (hd 24 (by kernel_rfl)), rfl⟩
              | 30, _ =>
                refine StepAt.by rfl fun a' W hf hb hd => ?_
                exact .inr ⟨want_some (k := 24) (t := 40) rfl (hd 24 (by kernel_rfl)), rfl⟩
              | 31, _ =>
                refine StepAt.by rfl fun a' W hf hb hd => ?_
                exact .inr ⟨want_some (k := 24) (t := 40) rfl (hd 24 (by kernel_rfl)), rfl⟩
              | 32, _ =>
                refine StepAt.by rfl fun a' W hf hb hd => ?_
                exact .inr ⟨want_some (k := 24) (t := 40) rfl (hd 24 (by kernel_rfl)), rfl⟩
              | 33, _ =>
                refine StepAt.by rfl fun a' W hf hb hd => ?_
                exact .inr ⟨want_some (k := 24) (t := 40) rfl (hd 24 (by kernel_rfl)), rfl⟩
              | 34, _ =>
                refine StepAt.by rfl fun a' W hf hb hd => ?_
                exact .inr ⟨want_some (k := 24) (t := 40) rfl (hd 24 (by kernel_rfl)), rfl⟩
              | 35, _ =>
                refine StepAt.by rfl fun a' W hf hb hd => ?_
                exact .inr ⟨want_some (k := 24) (t := 40) rfl (hd 24 (by kernel_rfl)), rfl⟩
              | 36, _ =>
                refine StepAt.by rfl fun a' W hf hb hd => ?_
                exact .inr ⟨want_some (k := 24) (t := 40) rfl (hd 24 (by kernel_rfl)), rfl⟩
              | 37, _ =>
                refine StepAt.by rfl fun a' W hf hb hd => ?_
                exact .inl ⟨want_none, does_pick (b := true) (hd 24 (by kernel_rfl)) rfl ⟨Below.refl _ _, rfl⟩⟩
              | k + 38, hi => exact absurd hi (Nat.not_lt.2 (Nat.le_add_left _ _))
            · intro a' W hf hb hv
              have h53 : a'.eval (.tmp 53) = .bool true := hv 37 (by decide)
              have hl := hf.lit (fun t => decide (16 ≤ t) && decide (t ≤ 53)) (by kernel_rfl)
              simp only [overL, Nat.reduceAdd, Nat.reduceLeDiff, decide_true, decide_false, Bool.and_true, Bool.and_false] at hl
              rw [hl]
              clear hl
              go_wp2_with (fail)
              go_meet
              case rel => exact ⟨h53, hb⟩
          case rest =>
            obtain ⟨rfl, hbc⟩ := hcut
            have H1 : Hid (Below w.heap.size w wc) := hb.trans (hbc.mono hsz)
            clear hbc
            have HAL : Hid (sameR x y = false) := sameR_no fun e => by rw [e] at HX; exact HV2.out (HX.out.1.2.2.trans HY.out.1.2.2.symm)
            go_wp2
            go_ret
            exact ⟨ret_bool (allB_no HX.out.2 HY.out.2 HAL.out).symm, H1.out⟩
        have r2 : (v.id != u.id) = false := by simp [h2]
        have HV2 : Hid (v.id = u.id) := h2
        clear h2
        go_wp2_with (fail)
        go_cut [53] from 16 to 53 (fun t W => t = .bool (!(sameA x.act y.act)) ∧ Below wr.heap.size wr W)
        case first =>
          have hbd : ∀ W, Below wr.drew.heap.size wr.drew W → Below wr.heap.size wr W := fun W hb => (Below.refl _ _).drew.trans hb
          have HRV : ∀ W, Below wr.drew.heap.size wr.drew W → RecAt W b (o + k * 9) v := fun W hb => HR.out.1.below (hbd W hb) HR.out.2.2.1
          have HRU : ∀ W, Below wr.drew.heap.size wr.drew W → RecAt W b2 (o2 + k * 9) u := fun W hb => HR.out.2.1.below (hbd W hb) HR.out.2.2.2
          have HCA : ∀ W, Below wr.drew.heap.size wr.drew W → ContA W v.a x.act ∧ ContA W u.a y.act := fun W hb => ⟨HX.out.1.1.below (Nat.le_refl _) (hbd W hb), HY.out.1.1.below (Nat.le_refl _) (hbd W hb)⟩
          refine wp_region_vals (VS3 b o b2 o2 n ca cb k v u x y) (by kernel_rfl) (by kernel_rfl) (VS3_stays b o b2 o2 n ca cb k v u x y) ?_ ?_
          · intro i hi
            match i, hi with
            | 0, _ =>
              refine StepAt.by rfl fun a' W hf hb hd => ?_
              exact .inl ⟨want_none, does_move ((hf.keeps 0 (by kernel_rfl)).trans rfl) ⟨Below.refl _ _, rfl⟩⟩
            | 1, _ =>
              refine StepAt.by rfl fun a' W hf hb hd => ?_
              exact .inl ⟨want_none, does_move ((hf.keeps 5 (by kernel_rfl)).trans rfl) ⟨Below.refl _ _, rfl⟩⟩
            | 2, _ =>
              refine StepAt.by rfl fun a' W hf hb hd => ?_
              exact .inl ⟨want_none, does_run (run_indexR (hd 0 (by kernel_rfl)) (hd 1 (by kernel_rfl)) (by omega)) ⟨Below.refl _ _, rfl⟩⟩
            | 3, _ =>
              refine StepAt.by rfl fun a' W hf hb hd => ?_
              exact .inl ⟨want_none, does_run (run_fieldR1 (hd 2 (by kernel_rfl))) ⟨Below.refl _ _, rfl⟩⟩
            | 4, _ =>
              refine StepAt.by rfl fun a' W hf hb hd => ?_
              exact .inl ⟨want_none, does_run (run_load3 (hd 3 (by kernel_rfl)) ((HRV W hb) 7 _ rfl)) ⟨Below.refl _ _, rfl⟩⟩
            | 5, _ =>
              refine StepAt.by rfl fun a' W hf hb hd => ?_
              exact .inl ⟨want_none, does_move ((hf.keeps 1 (by kernel_rfl)).trans rfl) ⟨Below.refl _ _, rfl⟩⟩
            | 6, _ =>
              refine StepAt.by rfl fun a' W hf hb hd => ?_
              exact .inl ⟨want_none, does_move ((hf.keeps 5 (by kernel_rfl)).trans rfl) ⟨Below.refl _ _, rfl⟩⟩
            | 7, _ =>
              refine StepAt.by rfl fun a' W hf hb hd => ?_
              exact .inl ⟨want_none, does_run (run_indexR (hd 5 (by kernel_rfl)) (hd 6 (by kernel_rfl)) (by omega)) ⟨Below.refl _ _, rfl⟩⟩
            | 8, _ =>
              refine StepAt.by rfl fun a' W hf hb hd => ?_
              exact .inl ⟨want_none, does_run (run_fieldR1 (hd 7 (by kernel_rfl))) ⟨Below.refl _ _, rfl⟩⟩
            | 9, _ =>
              refine StepAt.by rfl fun a' W hf hb hd => ?_
              exact .inl ⟨want_none, does_run (run_load3 (hd 8 (by kernel_rfl)) ((HRU W hb) 7 _ rfl)) ⟨Below.refl _ _, rfl⟩⟩
            | 10, _ =>
              refine StepAt.by rfl fun a' W hf hb hd => ?_
              exact .inl ⟨want_none, does_run (run_neqI (hd 4 (by kernel_rfl)) (hd 9 (by kernel_rfl))) ⟨Below.refl _ _, by show Value.bool _ = _; rw [r1]⟩⟩
            | 11, _ =>
              refine StepAt.by rfl fun a' W hf hb hd => ?_
              exact .inl ⟨want_none, does_move (hd 10 (by kernel_rfl)) ⟨Below.refl _ _, rfl⟩⟩
            | 12, _ =>
              refine StepAt.by rfl fun a' W hf hb hd => ?_
              exact .inl ⟨want_some (k := 11) (t := 27) rfl (hd 11 (by kernel_rfl)), does_move ((hf.keeps 0 (by kernel_rfl)).trans rfl) ⟨Below.refl _ _, rfl⟩⟩
            | 13, _ =>
              refine StepAt.by rfl fun a' W hf hb hd => ?_
              exact .inl ⟨want_some (k := 11) (t := 27) rfl (hd 11 (by kernel_rfl)), does_move ((hf.keeps 5 (by kernel_rfl)).trans rfl) ⟨Below.refl _ _, rfl⟩⟩
            | 14, _ =>
              refine StepAt.by rfl fun a' W hf hb hd => ?_
              exact .inl ⟨want_some (k := 11) (t := 27) rfl (hd 11 (by kernel_rfl)), does_run (run_indexR (hd 12 (by kernel_rfl)) (hd 13 (by kernel_rfl)) (by omega)) ⟨Below.refl _ _, rfl⟩⟩
            | 15, _ =>
              refine StepAt.by rfl fun a' W hf hb hd => ?_
              exact .inl ⟨want_some (k := 11) (t := 27) rfl (hd 11 (by kernel_rfl)), does_run (run_fieldR2 (hd 14 (by kernel_rfl))) ⟨Below.refl _ _, rfl⟩⟩
            | 16, _ =>
              refine StepAt.by rfl fun a' W hf hb hd => ?_
              exact .inl ⟨want_some (k := 11) (t := 27) rfl (hd 11 (by kernel_rfl)), does_run (run_load3 (hd 15 (by kernel_rfl)) ((HRV W hb) 8 _ rfl)) ⟨Below.refl _ _, rfl⟩⟩
            | 17, _ =>
              refine StepAt.by rfl fun a' W hf hb hd => ?_
              exact .inl ⟨want_some (k := 11) (t := 27) rfl (hd 11 (by kernel_rfl)), does_move ((hf.keeps 1 (by kernel_rfl)).trans rfl) ⟨Below.refl _ _, rfl⟩⟩
            | 18, _ =>
              refine StepAt.by rfl fun a' W hf hb hd => ?_
              exact .inl ⟨want_some (k := 11) (t := 27) rfl (hd 11 (by kernel_rfl)), does_move ((hf.keeps 5 (by kernel_rfl)).trans rfl) ⟨Below.refl _ _, rfl⟩⟩
            | 19, _ =>
              refine StepAt.by rfl fun a' W hf hb hd => ?_
              exact .inl ⟨want_some (k := 11) (t := 27) rfl (hd 11 (by kernel_rfl)), does_run (run_indexR (hd 17 (by kernel_rfl)) (hd 18 (by kernel_rfl)) (by omega)) ⟨Below.refl _ _, rfl⟩⟩
            | 20, _ =>
              refine StepAt.by rfl fun a' W hf hb hd => ?_
              exact .inl ⟨want_some (k := 11) (t := 27) rfl (hd 11 (by kernel_rfl)), does_run (run_fieldR2 (hd 19 (by kernel_rfl))) ⟨Below.refl _ _, rfl⟩⟩
            | 21, _ =>
              refine StepAt.by rfl fun a' W hf hb hd => ?_
              exact .inl ⟨want_some (k := 11) (t := 27) rfl (hd 11 (by kernel_rfl)), does_run (run_load3 (hd 20 (by kernel_rfl)) ((HRU W hb) 8 _ rfl)) ⟨Below.refl _ _, rfl⟩⟩
            | 22, _ =>
              refine StepAt.by rfl fun a' W hf hb hd => ?_
              exact .inl ⟨want_some (k := 11) (t := 27) rfl (hd 11 (by kernel_rfl)), does_run (run_neqI (hd 16 (by kernel_rfl)) (hd 21 (by kernel_rfl))) ⟨Below.refl _ _, by show Value.bool _ = _; rw [r2]⟩⟩
            | 23, _ =>
              refine StepAt.by rfl fun a' W hf hb hd => ?_
              exact .inl ⟨want_none, does_pick (b := false) (hd 11 (by kernel_rfl)) (hd 22 (by kernel_rfl)) ⟨Below.refl _ _, rfl⟩⟩
            | 24, _ =>
              refine StepAt.by rfl fun a' W hf hb hd => ?_
              exact .inl ⟨want_none, does_move (hd 23 (by kernel_rfl)) ⟨Below.refl _ _, rfl⟩⟩
            | 25, _ =>
              refine StepAt.by rfl fun a' W hf hb hd => ?_
              exact .inl ⟨want_some (k := 24) (t := 40) rfl (hd 24 (by kernel_rfl)), does_move ((hf.keeps 0 (by kernel_rfl)).trans rfl) ⟨Below.refl _ _, rfl⟩⟩
            | 26, _ =>
              refine StepAt.by rfl fun a' W hf hb hd => ?_
              exact .inl ⟨want_some (k := 24) (t := 40) rfl (hd 24 (by kernel_rfl)), does_move ((hf.keeps 5 (by kernel_rfl)).trans rfl) ⟨Below.refl _ _, rfl⟩⟩
            | 27, _ =>
              refine StepAt.by rfl fun a' W hf hb hd => ?_
              exact .inl ⟨want_some (k := 24) (t := 40) rfl (hd 24 (by kernel_rfl)), does_run (run_indexR (hd 25 (by kernel_rfl)) (hd 26 (by kernel_rfl)) (by omega)) ⟨Below.refl _ _, rfl⟩⟩
            | 28, _ =>
              refine StepAt.by rfl fun a' W hf hb hd => ?_
              exact .inl ⟨want_some (k := 24) (t := 40) rfl (hd 24 (by kernel_rfl)), does_run (run_fieldR0 (hd 27 (by kernel_rfl))) ⟨Below.refl _ _, rfl⟩⟩
            | 29, _ =>
              refine StepAt.by rfl fun a' W hf hb hd => ?_
              exact .inl ⟨want_some (k := 24) (t := 40) rfl (hd 24 (by kernel_rfl)), does_run (run_loadA (hd 28 (by kernel_rfl)) (RecAt.act (HRV W hb))) ⟨Below.refl _ _, rfl⟩⟩
            | 30, _ =>
              refine StepAt.by rfl fun a' W hf hb hd => ?_
              exact .inl ⟨want_some (k := 24) (t := 40) rfl (hd 24 (by kernel_rfl)), does_move ((hf.keeps 1 (by kernel_rfl)).trans rfl) ⟨Below.refl _ _, rfl⟩⟩
            | 31, _ =>
              refine StepAt.by rfl fun a' W hf hb hd => ?_
              exact .inl ⟨want_some (k := 24) (t := 40) rfl (hd 24 (by kernel_rfl)), does_move ((hf.keeps 5 (by kernel_rfl)).trans rfl) ⟨Below.refl _ _, rfl⟩⟩
            | 32, _ =>
              refine StepAt.by rfl fun a' W hf hb hd => ?_
              exact .inl ⟨want_some (k := 24) (t := 40) rfl (hd 24 (by kernel_rfl)), does_run (run_indexR (hd 30 (by kernel_rfl)) (hd 31 (by kernel_rfl)) (by omega)) ⟨Below.refl _ _, rfl⟩⟩
            | 33, _ =>
              refine StepAt.by rfl fun a' W hf hb hd => ?_
              exact .inl ⟨want_some (k := 24) (t := 40) rfl (hd 24 (by kernel_rfl)), does_run (run_fieldR0 (hd 32 (by kernel_rfl))) ⟨Below.refl _ _, rfl⟩⟩
            | 34, _ =>
              refine StepAt.by rfl fun a' W hf hb hd => ?_
              exact .inl ⟨want_some (k := 24) (t := 40) rfl (hd 24 (by kernel_rfl)), does_run (run_loadA (hd 33 (by kernel_rfl)) (RecAt.act (HRU W hb))) ⟨Below.refl _ _, rfl⟩⟩
            | 35, _ =>
              refine StepAt.by rfl fun a' W hf hb hd => ?_
              refine .inl ⟨want_some (k := 24) (t := 40) rfl (hd 24 (by kernel_rfl)), ?_⟩
              exact does_call2 (enters_of Tryd.func14 (by kernel_rfl) (by kernel_rfl)) (hd 29 (by kernel_rfl)) (hd 34 (by kernel_rfl)) ((sameActs_any v.a u.a x.act y.act W (HCA W hb).1 (HCA W hb).2).mono fun e W' ⟨he, hb'⟩ => ⟨_, he, hb', rfl⟩)
            | 36, _ =>
              refine StepAt.by rfl fun a' W hf hb hd => ?_
              exact .inl ⟨want_some (k := 24) (t := 40) rfl (hd 24 (by kernel_rfl)), does_not (hd 35 (by kernel_rfl)) ⟨Below.refl _ _, rfl⟩⟩
            | 37, _ =>
              refine StepAt.by rfl fun a' W hf hb hd => ?_
              exact .inl ⟨want_none, does_pick (b := false) (hd 24 (by kernel_rfl)) (hd 36 (by kernel_rfl)) ⟨Below.refl _ _, rfl⟩⟩
            | k + 38, hi => exact absurd hi (Nat.not_lt.2 (Nat.le_add_left _ _))
          · intro a' W hf hb hv
            have h53 : a'.eval (.tmp 53) = .bool (!(sameA x.act y.act)) := hv 37 (by decide)
            have hl := hf.lit (fun t => decide (16 ≤ t) && decide (t ≤ 53)) (by kernel_rfl)
            simp only [overL, Nat.reduceAdd, Nat.reduceLeDiff, decide_true, decide_false, Bool.and_true, Bool.and_false] at hl
            rw [hl]
            clear hl
            go_wp2_with (fail)
            go_meet
            case rel => exact ⟨h53, hb⟩
        case rest =>
          obtain ⟨rfl, hbc⟩ := hcut
          have H1 : Hid (Below w.heap.size w wc) := hb.trans (hbc.mono hsz)
          clear hbc
          cases hsa : sameA x.act y.act
          · have HAL : Hid (sameR x y = false) := by show _ = _; unfold sameR; rw [hsa]; simp
            clear hsa
            go_wp2
            go_ret
            exact ⟨ret_bool (allB_no HX.out.2 HY.out.2 HAL.out).symm, H1.out⟩
          · have HAL : Hid (sameR x y = true) := by
              have e1 := HV1.out
              have e2 := HV2.out
              rw [HX.out.1.2.1, HY.out.1.2.1] at e1
              rw [HX.out.1.2.2, HY.out.1.2.2] at e2
              show _ = _
              unfold sameR
              rw [hsa, e1, e2]
              simp
            clear hsa
            go_wp2
            go_roundw
            case rel => exact ⟨k + 1, by omega, by go_num, by show _ = true; rw [take_step HX.out.2, take_step HY.out.2, allB_snoc HL.out, HE.out, HAL.out]; rfl, H1.out⟩
            case measure => simp [intOf]; omega
      · have HN : Hid (xs.length ≤ k ∧ ys.length ≤ k) := by show _ ∧ _; rw [← HT.out.1.len, ← HT.out.2.len]; omega
        go_wp2
        go_ret
        exact ⟨ret_bool (by
          have e := HE.out
          rw [List.take_of_length_le HN.out.1, List.take_of_length_le HN.out.2] at e
          exact e.symm), hb⟩
  · have HN : Hid (xs.length ≠ ys.length) := by show _ ≠ _; rw [← hx.len, ← hy.len]; exact hnm
    have q0 : ((n : Int) == (m : Int)) = false := by rw [beq_eq_false_iff_ne]; omega
    have q1 : ((n : Int) != (m : Int)) = true := by rw [bne, q0]; rfl
    clear hx hy
    go_enter Tryd.func8, Tryd.ntmps8
    go_wp2
    go_ret
    exact ⟨ret_bool (allB_len HN.out).symm, Below.refl _ _⟩
end Go.Proofs.YtckfodpkckmkbacDoor
