/-
  ACTS AS THEY ARE READ.
-/
import Derived.Test.YtlegjdlmcphhlabCommon
import Derived.Test.YtlegjdlmcphhlabActf
namespace Go.Proofs.Ytlegjdlmcphhlab
open Go.ChangeShapes Go.WideShapes Go.ChangeAt Go.RowKit Go.Deep

theorem cellsA : Try.prog.cellsOf 26 = 7 := by kernel_rfl

section
variable {H : Type} {enc : TypeId × Value → H}
set_option maxRecDepth 8000 in
/-- an act that came in -/
theorem open_act {W : World} {sp : Nat → Bool} {held : Bool} {fuel : Nat} {cs : List Value} {x : DataW H × List MemPlace} (h : DataW.trod enc Try.prog W 0 sp held fuel 26 cs = some x) :
    ∃ (v : AV) (y : M.Act), cs = v.cells ∧ ContA W v y ∧ y.name.size ≤ maxLen ∧ y.toName.size ≤ maxLen ∧ (Sized 26 x.1 → y.data.length ≤ reachBytes) := by
  obtain ⟨ys, m, _, rfl, hl, hys, hf⟩ := DataW.trod_struct Try.underlying26 h
  rw [cellsA] at hl
  obtain ⟨c0, c1, c2, c3, c4, c5, c6, rfl⟩ : ∃ a b c d e f g, cs = [a, b, c, d, e, f, g] := by
    match cs, hl with
    | [a, b, c, d, e, f, g], _ => exact ⟨a, b, c, d, e, f, g, rfl⟩
  have f0 : DataW.trod enc Try.prog W 0 sp held m 3 (([c0, c1, c2, c3, c4, c5, c6].drop 0).take (Try.prog.cellsOf 3)) = ys[0]? := hf 0 _ rfl
  rw [cells3] at f0
  change DataW.trod enc Try.prog W 0 sp held m 3 [c0] = ys[0]? at f0
  have f1 : DataW.trod enc Try.prog W 0 sp held m 3 (([c0, c1, c2, c3, c4, c5, c6].drop 1).take (Try.prog.cellsOf 3)) = ys[1]? := hf 1 _ rfl
  rw [cells3] at f1
  change DataW.trod enc Try.prog W 0 sp held m 3 [c1] = ys[1]? at f1
  have f2 : DataW.trod enc Try.prog W 0 sp held m 3 (([c0, c1, c2, c3, c4, c5, c6].drop 2).take (Try.prog.cellsOf 3)) = ys[2]? := hf 2 _ rfl
  rw [cells3] at f2
  change DataW.trod enc Try.prog W 0 sp held m 3 [c2] = ys[2]? at f2
  have f3 : DataW.trod enc Try.prog W 0 sp held m 9 (([c0, c1, c2, c3, c4, c5, c6].drop 3).take (Try.prog.cellsOf 9)) = ys[3]? := hf 3 _ rfl
  rw [cells9] at f3
  change DataW.trod enc Try.prog W 0 sp held m 9 [c3] = ys[3]? at f3
  have f4 : DataW.trod enc Try.prog W 0 sp held m 3 (([c0, c1, c2, c3, c4, c5, c6].drop 4).take (Try.prog.cellsOf 3)) = ys[4]? := hf 4 _ rfl
  rw [cells3] at f4
  change DataW.trod enc Try.prog W 0 sp held m 3 [c4] = ys[4]? at f4
  have f5 : DataW.trod enc Try.prog W 0 sp held m 9 (([c0, c1, c2, c3, c4, c5, c6].drop 5).take (Try.prog.cellsOf 9)) = ys[5]? := hf 5 _ rfl
  rw [cells9] at f5
  change DataW.trod enc Try.prog W 0 sp held m 9 [c5] = ys[5]? at f5
  have f6 : DataW.trod enc Try.prog W 0 sp held m 24 (([c0, c1, c2, c3, c4, c5, c6].drop 6).take (Try.prog.cellsOf 24)) = ys[6]? := hf 6 _ rfl
  rw [cells23] at f6
  change DataW.trod enc Try.prog W 0 sp held m 24 [c6] = ys[6]? at f6
  have hlen : ys.length = 7 := hys
  have g : ∀ k, k < 7 → ∃ y, ys[k]? = some y := fun k hk => ⟨_, List.getElem?_eq_getElem (by omega)⟩
  obtain ⟨y0, g0⟩ := g 0 (by omega)
  obtain ⟨y1, g1⟩ := g 1 (by omega)
  obtain ⟨y2, g2⟩ := g 2 (by omega)
  obtain ⟨y3, g3⟩ := g 3 (by omega)
  obtain ⟨y4, g4⟩ := g 4 (by omega)
  obtain ⟨y5, g5⟩ := g 5 (by omega)
  obtain ⟨y6, g6⟩ := g 6 (by omega)
  rw [g0] at f0
  rw [g1] at f1
  rw [g2] at f2
  rw [g3] at f3
  rw [g4] at f4
  rw [g5] at f5
  rw [g6] at f6
  obtain ⟨z0, e0, _, _⟩ := DataW.trod_int Try.underlying3 f0
  obtain ⟨z1, e1, _, _⟩ := DataW.trod_int Try.underlying3 f1
  obtain ⟨z2, e2, _, _⟩ := DataW.trod_int Try.underlying3 f2
  obtain ⟨s3, e3, _, w3⟩ := DataW.trod_string Try.underlying9 f3
  obtain ⟨z4, e4, _, _⟩ := DataW.trod_int Try.underlying3 f4
  obtain ⟨s5, e5, _, w5⟩ := DataW.trod_string Try.underlying9 f5
  obtain ⟨A6, n6, k6, l6, e6, hb6, hd6⟩ := open_bytes f6
  cases e0; cases e1; cases e2; cases e3; cases e4; cases e5; cases e6
  refine ⟨⟨z0, z1, z2, s3, z4, s5, A6, n6, k6⟩, ⟨z0, z1, z2, s3, z4, s5, l6⟩, rfl, ⟨rfl, rfl, rfl, rfl, rfl, rfl, hb6⟩, w3, w5, fun hsz => ?_⟩
  have s6 : Sized 24 y6.1 := sized_field (H := H) (j := 6) Try.underlying26 hsz rfl (by rw [List.getElem?_map, g6]; rfl)
  show l6.length ≤ _
  rw [← hb6.1]
  rcases hd6 with ⟨_, h0⟩ | ⟨es, spare, he, hn⟩
  · rw [h0]; exact Nat.zero_le _
  · rw [he] at s6
    have := sized_len Try.underlying24 s6
    rw [bytes5] at this
    omega
theorem act_val {v : Value} {x : AV} (h : v.cells.toList = x.cells) : v = x.val := by
  cases v <;> simp [Value.cells, AV.cells] at h
  rename_i xs
  rw [AV.val]
  congr 1
  apply Array.ext'
  exact h
theorem smallA_of {y : M.Act} (h1 : y.name.size ≤ maxLen) (h2 : y.toName.size ≤ maxLen) (h3 : y.data.length ≤ reachBytes) : SmallA y := ⟨h1, h2, by rw [reach_val] at h3; omega⟩
end
end Go.Proofs.Ytlegjdlmcphhlab
