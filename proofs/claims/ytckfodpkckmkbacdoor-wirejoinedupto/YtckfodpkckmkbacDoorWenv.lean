/-
  WHAT THE ROWS' LISTED VARIABLES GIVE THE WALKS OF CHAPTER 5; a world for the witness.
-/
import Derived.Test.YtckfodpkckmkbacDoorWcomm
import Derived.Stop.LaidErr
namespace Go.Proofs.YtckfodpkckmkbacDoor
open Go.ChangeShapes Go.WideShapes Go.ChangeAt Go.RowKit Go.Deep

theorem gPowType : (Tryd.prog.globals[1]?).map (·.type) = some 106 := by kernel_rfl
theorem gSyn : Tryd.prog.globalNamed "strconv.ErrSyntax" = some 2 := by kernel_rfl
theorem gRng : Tryd.prog.globalNamed "strconv.ErrRange" = some 3 := by kernel_rfl
theorem gSynType : (Tryd.prog.globals[2]?).map (·.type) = some 44 := by kernel_rfl
theorem gRngType : (Tryd.prog.globals[3]?).map (·.type) = some 44 := by kernel_rfl
theorem gBr : Tryd.prog.globalNamed "math/bits.deBruijn64tab" = some 7 := by kernel_rfl
theorem cellsU : Tryd.prog.cellsOf 88 = 1 := by kernel_rfl
theorem cellsU20 : Tryd.prog.cellsOf 106 = 20 := by kernel_rfl
theorem cellsE : Tryd.prog.cellsOf 124 = 1 := by kernel_rfl
theorem starE : "*" ++ "errors.errorString" = "*errors.errorString" := by decide
theorem rowE (u : TypeId) (h : Tryd.prog.typeName? 3 u = some "*errors.errorString") : u = 122 :=
  typeName_ptr_named (nm := "errors.errorString") (by rw [starE]; kernel_rfl) (by kernel_rfl) (by decide) u (by rw [starE]; exact h)
theorem var_lt {P : Program} {W : World} {n : String} {cs : Array Value} {g : Nat} (hg : P.globalNamed n = some g) (h : W.var? P n = some cs) : g < W.heap.size := by
  unfold World.var? at h
  rw [hg] at h
  simp only [Option.bind_some] at h
  rcases Nat.lt_or_ge g W.heap.size with h1 | h1
  · exact h1
  · rw [Array.getElem?_eq_none h1] at h; cases h
theorem powTab : Rows.laid_internal_strconv_uint64pow10 (H := Unit) = Lib.tabData .u64 Lib.pow10Tab := by kernel_rfl
theorem env_of {W : World} (h : laidMet Tryd.prog Rows.wireTurnsRow.laid W) (hsh : W.ShapedOpen Tryd.prog) : Env W := by
  have hb := h.tail
  have ht := h.tail.tail
  have hr := h.tail.tail.tail.tail
  have hs := h.tail.tail.tail.tail.tail
  refine ⟨?_, ?_, Tryd.laysM146.s1_3 W hsh, ?_, ?_⟩
  · obtain ⟨ps, ⟨g0, t0, cs0, f0, p0, q0, hg0, ht0, hv0, _⟩, _⟩ := hb
    exact var_lt gBr hv0
  · rw [powTab] at ht
    exact Lib.tabIs_of_head gPow gPowType Tryd.underlying106 Tryd.underlying88 cellsU cellsU20 ht
  · obtain ⟨a0, s0, hv0, _⟩ := laid_sentinel hs gSyn gSynType Tryd.underlying44 rowE Tryd.underlying122 Tryd.underlying124 rfl rfl Tryd.underlying9 cellsE cells9
    exact ⟨_, by simpa using World.var?_cell gSyn hv0 0, .inr ⟨_, _, rfl⟩⟩
  · obtain ⟨a0, s0, hv0, _⟩ := laid_sentinel hr gRng gRngType Tryd.underlying44 rowE Tryd.underlying122 Tryd.underlying124 rfl rfl Tryd.underlying9 cellsE cells9
    exact ⟨_, by simpa using World.var?_cell gRng hv0 0, .inr ⟨_, _, rfl⟩⟩

/-- a block that holds other cells -/
def refill (cs : Array Value) : Obj → Obj
  | .cells _ t frozen => .cells cs t frozen
  | o => o
def numCells (k : IntKind) (l : List Nat) : Array Value := (l.map fun n : Nat => Value.int k (Int.ofNat n)).toArray
def powCells : Array Value := numCells .u64 [1, 10, 100, 1000, 10000, 100000, 1000000, 10000000, 100000000, 1000000000, 10000000000, 100000000000, 1000000000000, 10000000000000, 100000000000000, 1000000000000000, 10000000000000000, 100000000000000000, 1000000000000000000, 10000000000000000000]
def rangeCells : Array Value := numCells .u8 ([128, 191, 160, 191, 128, 159, 144, 191, 128, 143] ++ List.replicate 22 0)
def firstCells : Array Value := numCells .u8 Go.Pinned.utf8FirstZ
def br32 : Array Value := numCells .u8 [0, 1, 28, 2, 29, 14, 24, 3, 30, 22, 20, 15, 25, 17, 4, 8, 31, 27, 13, 23, 21, 19, 16, 7, 26, 12, 18, 6, 11, 5, 10, 9]
def br64 : Array Value := numCells .u8 [0, 1, 56, 2, 57, 49, 28, 3, 61, 58, 42, 50, 38, 29, 17, 4, 62, 47, 59, 36, 45, 43, 51, 22, 53, 39, 33, 30, 24, 18, 12, 5, 63, 55, 48, 27, 60, 41, 37, 16, 46, 35, 44, 21, 52, 32, 23, 11, 54, 26, 40, 15, 34, 20, 31, 10, 25, 14, 19, 9, 13, 8, 7, 6]
abbrev rangeS : ByteArray := { data := #[118, 97, 108, 117, 101, 32, 111, 117, 116, 32, 111, 102, 32, 114, 97, 110, 103, 101] }
abbrev synS : ByteArray := { data := #[105, 110, 118, 97, 108, 105, 100, 32, 115, 121, 110, 116, 97, 120] }
noncomputable def low : Nat := (World.holding Tryd.prog default ⟨#[], #[], []⟩).heap.size
/-- A WORLD FOR THE WITNESS: the settled one, the listed variables holding what their initialisers lay. -/
noncomputable def laidWorld (os : Os) : World :=
  { World.holding Tryd.prog os ⟨#[.cells #[.string rangeS] 124, .cells #[.string synS] 124], #[], []⟩ with
    heap := (((((((World.holding Tryd.prog os ⟨#[.cells #[.string rangeS] 124, .cells #[.string synS] 124], #[], []⟩).heap.modify 1 (refill powCells)).modify 2 (refill #[.iface 122 (.pointer (some ⟨low + 1, 0, none⟩))])).modify 3 (refill #[.iface 122 (.pointer (some ⟨low, 0, none⟩))])).modify 4 (refill firstCells)).modify 5 (refill rangeCells)).modify 6 (refill br32)).modify 7 (refill br64) }
end Go.Proofs.YtckfodpkckmkbacDoor
