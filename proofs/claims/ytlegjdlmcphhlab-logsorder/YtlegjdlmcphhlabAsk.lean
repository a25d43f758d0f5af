/-
  A TREE AS A MAP, asked.
-/
import Derived.Test.YtlegjdlmcphhlabOf
namespace Go.Proofs.Ytlegjdlmcphhlab
open Go.RowKit

theorem zero26 (w : World) : (zeroValue 40).run Try.prog w = .ok NV.zero.val w := by
  obtain ⟨i26, hi26, hz26, hs26, hb26⟩ := info_parts info26
  simp [zeroValue, typeInfo, hi26, hz26, NV.zero]
theorem IMap.ask {w : World} {bm : Nat} {xs : List M.Nd} (h : TMap w bm xs) (k : Int) :
    (M.find xs k = none ∧ ∀ ok : Bool, (Instr.lookup 35 (.map (some bm)) (.int .i64 k) ok).run Try.prog w = .ok (if ok then .tuple #[NV.zero.val, .bool false] else NV.zero.val) w) ∨
    ∃ (v : NV) (x : M.Nd), M.find xs k = some x ∧ Cont w v x ∧ ∀ ok : Bool, (Instr.lookup 35 (.map (some bm)) (.int .i64 k) ok).run Try.prog w = .ok (if ok then .tuple #[v.val, .bool true] else v.val) w := by
  obtain ⟨f, hi, ha⟩ := h
  rcases ha k with ⟨h1, h2⟩ | ⟨v, x, h1, h2, h3⟩
  · refine .inl ⟨h2, fun ok => ?_⟩
    rw [run_lookup_map 35 40 Try.underlying35 (zero26 w) hi k ok, h1]
    rfl
  · refine .inr ⟨v, x, h2, h3, fun ok => ?_⟩
    rw [run_lookup_map 35 40 Try.underlying35 (zero26 w) hi k ok, h1]
    rfl

end Go.Proofs.Ytlegjdlmcphhlab
