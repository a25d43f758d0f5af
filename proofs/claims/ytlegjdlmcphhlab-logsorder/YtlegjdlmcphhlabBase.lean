/-
  NODES AND TREES IN MEMORY: what a value, a slice of entries, of bytes, of nodes holds.
-/
import Derived.Test.YtlegjdlmcphhlabRows
import Derived.Test.YtlegjdlmcphhlabMath
import Derived.WalkKit
import Derived.WalkSpells
import Derived.WalkLawsBesides
import Derived.Deep.Draws
import Derived.Deep.QuietTactic
import Derived.BigQuiet
namespace Go.Proofs.Ytlegjdlmcphhlab
open Go.RowKit

theorem info58 : (Try.prog.info? 68).map (fun i => (i.zero, i.size, i.bytes)) = some (some (.agg #[.string ByteArray.empty, .int .i64 0]), 2, 24) := by kernel_rfl
theorem info26 : (Try.prog.info? 40).map (fun i => (i.zero, i.size, i.bytes)) = some (some (.agg #[.int .i64 0, .bool false, .slice none 0 0, .slice none 0 0, .int .i64 0]), 5, 72) := by kernel_rfl
theorem info5 : (Try.prog.info? 5).map (fun i => (i.zero, i.size, i.bytes)) = some (some (.int .u8 0), 1, 1) := by kernel_rfl

theorem ret_bool {a b : Bool} (h : a = b) : Ending.returned (.bool a) = .returned (.bool b) := by rw [h]
theorem ret_int {k : IntKind} {a b : Int} (h : a = b) : Ending.returned (.int k a) = .returned (.int k b) := by rw [h]

/-- a node's value -/
structure NV where
  fid : Int
  dir : Bool
  dA : Option Addr
  dn : Nat
  dc : Nat
  eA : Option Addr
  en : Nat
  ec : Nat
  ver : Int
def NV.cells (v : NV) : List Value := [.int .i64 v.fid, .bool v.dir, .slice v.dA v.dn v.dc, .slice v.eA v.en v.ec, .int .i64 v.ver]
@[reducible] def NV.val (v : NV) : Value := .agg #[.int .i64 v.fid, .bool v.dir, .slice v.dA v.dn v.dc, .slice v.eA v.en v.ec, .int .i64 v.ver]

/-- n elements of k cells each lie at A -/
def Row {α : Type} (k : Nat) (cs : α → List Value) (w : World) (A : Option Addr) (n : Nat) (vs : List α) : Prop :=
  n = vs.length ∧ (vs = [] ∨ ∃ b o, A = some ⟨b, o, none⟩ ∧ b < w.heap.size ∧ ∀ (j : Nat) v, vs[j]? = some v → ∀ (i : Nat) c, (cs v)[i]? = some c → w.cell? ⟨b, o + j * k + i, none⟩ = some c)
theorem Row.below {α : Type} {k : Nat} {cs : α → List Value} {B : Nat} {w w' : World} {A : Option Addr} {n : Nat} {vs : List α} (h : Row k cs w A n vs) (hB : w.heap.size ≤ B) (hb : Below B w w') : Row k cs w' A n vs := by
  obtain ⟨hn, h⟩ := h
  refine ⟨hn, h.imp id ?_⟩
  rintro ⟨b, o, e, hlt, hc⟩
  refine ⟨b, o, e, by have := hb.size; omega, fun j v hv i c hi => ?_⟩
  rw [hb.cell (p := ⟨b, o + j * k + i, none⟩) (by show b < B; omega)]
  exact hc j v hv i c hi
theorem Row.at {α : Type} {k : Nat} {cs : α → List Value} {w : World} {A : Option Addr} {n : Nat} {vs : List α} (h : Row k cs w A n vs) {j : Nat} (hj : j < n) :
    ∃ b o v, A = some ⟨b, o, none⟩ ∧ b < w.heap.size ∧ vs[j]? = some v ∧ ∀ (i : Nat) c, (cs v)[i]? = some c → w.cell? ⟨b, o + j * k + i, none⟩ = some c := by
  obtain ⟨hn, h⟩ := h
  rcases h with h | ⟨b, o, e, hlt, hc⟩
  · subst h; simp at hn; omega
  · have hx : vs[j]? = some vs[j] := List.getElem?_eq_getElem (by omega)
    exact ⟨b, o, _, e, hlt, hx, hc j _ hx⟩
abbrev Nodes := Row 5 NV.cells
theorem Nodes.at {w : World} {A : Option Addr} {n : Nat} {vs : List NV} (h : Nodes w A n vs) {j : Nat} (hj : j < n) :
    ∃ b o v, A = some ⟨b, o, none⟩ ∧ b < w.heap.size ∧ vs[j]? = some v ∧ w.cell? ⟨b, o + j * 5, none⟩ = some (.int .i64 v.fid) ∧ w.cell? ⟨b, o + j * 5 + 1, none⟩ = some (.bool v.dir) ∧
      w.cell? ⟨b, o + j * 5 + 2, none⟩ = some (.slice v.dA v.dn v.dc) ∧ w.cell? ⟨b, o + j * 5 + 3, none⟩ = some (.slice v.eA v.en v.ec) ∧ w.cell? ⟨b, o + j * 5 + 4, none⟩ = some (.int .i64 v.ver) := by
  obtain ⟨b, o, v, e, hlt, hv, hc⟩ := Row.at h hj
  exact ⟨b, o, v, e, hlt, hv, hc 0 _ rfl, hc 1 _ rfl, hc 2 _ rfl, hc 3 _ rfl, hc 4 _ rfl⟩

/-- an entry's value and cells; a byte's; a text's -/
def entCells (x : ByteArray × Int) : List Value := [.string x.1, .int .i64 x.2]
def byteCells1 (x : UInt8) : List Value := [.int .u8 (x.toNat : Int)]
def strCells (x : ByteArray) : List Value := [.string x]
abbrev Ents := Row 2 entCells
abbrev Byts := Row 1 byteCells1
abbrev Strs := Row 1 strCells
theorem Ents.at {w : World} {A : Option Addr} {n : Nat} {vs : List (ByteArray × Int)} (h : Ents w A n vs) {j : Nat} (hj : j < n) :
    ∃ b o v, A = some ⟨b, o, none⟩ ∧ b < w.heap.size ∧ vs[j]? = some v ∧ w.cell? ⟨b, o + j * 2, none⟩ = some (.string v.1) ∧ w.cell? ⟨b, o + j * 2 + 1, none⟩ = some (.int .i64 v.2) := by
  obtain ⟨b, o, v, e, hlt, hv, hc⟩ := Row.at h hj
  exact ⟨b, o, v, e, hlt, hv, hc 0 _ rfl, hc 1 _ rfl⟩

theorem cmpI_any (a b : Int) (w : World) : Calls Try.prog 97 #[.int .i64 a, .int .i64 b] w fun e w' => e = .returned (.int .i64 (M.cmpI a b)) ∧ w' = w := by
  rcases Int.lt_trichotomy a b with h | h | h
  · go_enter Try.func97, Try.ntmps97
    go_wp2_with (go_in)
    go_ret
    exact ⟨ret_int (by unfold M.cmpI; rw [if_pos h]), rfl⟩
  · subst h
    go_enter Try.func97, Try.ntmps97
    go_wp2_with (go_in)
    go_ret
    exact ⟨ret_int (by unfold M.cmpI; simp), rfl⟩
  · have h' : ¬ a < b := by omega
    go_enter Try.func97, Try.ntmps97
    go_wp2_with (go_in)
    go_ret
    exact ⟨ret_int (by unfold M.cmpI; rw [if_neg (by omega), if_pos h]), rfl⟩

theorem place1_any (v : NV) (t : Int) (w : World) : Calls Try.prog 96 #[v.val, .int .i64 t] w fun e w' => e = .returned (.int .i64 (M.cmpI v.fid t)) ∧ Below w.heap.size w w' := by
  go_enter Try.func96, Try.ntmps96
  go_wp2_with (go_at_call 97; refine (cmpI_any _ _ _).mono ?_; rintro e w1 ⟨rfl, hw⟩; rw [hw]; clear hw)
  go_ret
  exact ⟨rfl, (Below.refl _ _).alloc (Nat.le_refl _) _⟩

theorem raw_yes (x : ByteArray) : (x.toList == x.toList) = true := beq_self_eq_true _
theorem raw_no {x y : ByteArray} (h : x ≠ y) : (x.toList == y.toList) = false := by
  rw [beq_eq_false_iff_ne]
  exact fun e => h (M.toList_inj e)
theorem raw_eq (x y : ByteArray) : (x.toList == y.toList) = decide (x = y) := by
  by_cases h : x = y
  · subst h; simp
  · rw [raw_no h]; simp [h]

theorem cmpB_any (a b : ByteArray) (w : World) : Calls Try.prog 93 #[.string a, .string b] w fun e w' => e = .returned (.int .i64 (M.cmpB a b)) ∧ w' = w := by
  have qa := raw_yes a
  have qb := raw_yes b
  cases h : M.ltB a b
  · by_cases e : a = b
    · subst e
      have h1 : Op.bytesLess a.toList a.toList = false := h
      have HC : Hid (M.cmpB a a = 0) := by show _ = _; unfold M.cmpB; rw [M.ordB.irr]; rfl
      clear h
      go_enter Try.func93, Try.ntmps93
      go_wp2_with (go_in)
      go_ret
      exact ⟨ret_int HC.out.symm, rfl⟩
    · have h1 : Op.bytesLess a.toList b.toList = false := h
      have q := raw_no e
      have HC : Hid (M.cmpB a b = 1) := by
        show M.cmpB a b = 1
        unfold M.cmpB
        rw [h]
        cases h2 : M.ltB b a
        · exact absurd (M.ordB.tri a b h h2) e
        · rfl
      clear h e
      go_enter Try.func93, Try.ntmps93
      go_wp2_with (go_in)
      go_ret
      exact ⟨ret_int HC.out.symm, rfl⟩
  · have h1 : Op.bytesLess a.toList b.toList = true := h
    have HC : Hid (M.cmpB a b = -1) := M.cmpB_lt h
    clear h
    go_enter Try.func93, Try.ntmps93
    go_wp2_with (go_in)
    go_ret
    exact ⟨ret_int HC.out.symm, rfl⟩

theorem spot1_any (v : ByteArray × Int) (t : ByteArray) (w : World) : Calls Try.prog 92 #[.agg #[.string v.1, .int .i64 v.2], .string t] w fun e w' => e = .returned (.int .i64 (M.cmpB v.1 t)) ∧ Below w.heap.size w w' := by
  go_enter Try.func92, Try.ntmps92
  go_wp2_with (go_at_call 93; refine (cmpB_any _ _ _).mono ?_; rintro e w1 ⟨rfl, hw⟩; rw [hw]; clear hw)
  go_ret
  exact ⟨rfl, (Below.refl _ _).alloc (Nat.le_refl _) _⟩
end Go.Proofs.Ytlegjdlmcphhlab
