/-
  CACHEFRESH: for every cache and every tree the law CacheFresh answers true, and its arguments read afterwards as they read before. Conditions: none but the form's own (each text and each slice that is read takes at most 2^47 - 4096 bytes).
-/
import Derived.Test.YtjpdoblmdchmkaePart4
import Derived.Test.YtjpdoblmdchmkaePart9
import Derived.ChangeMaps5
import Derived.Carry
namespace Go.Proofs.Ytjpdoblmdchmkae.fnFresh
open Go.ChangeShapes Go.WideShapes Go.ChangeAt Go.RowKit Go.Deep Go.ChangeMaps

set_option maxRecDepth 8000 in
/-- what the walk gives, for every argument and every world -/
theorem contract (H : Type) (enc : TypeId × Value → H) (W : World) (base : Nat) (args : Array Value) (ds gs : List (DataW H)) (before : List MemPlace)
    (hval : ∀ (j : Nat) t v, Try.f3.params[j]? = some t → args[j]? = some v → Value.okWide Try.prog W .any base t v)
    (hW : DataW.Whole enc Try.prog Try.f3.params.toList Rows.cacheFreshSpec.vars false W args.toList ds gs before)
    (hz : (DataW.weightsEach Try.prog (Try.f3.params.toList ++ []) (ds ++ gs)).all (· ≤ reachBytes) = true) :
    Calls Try.prog 3 args W fun e W' => ∃ v, e = .returned v ∧ Rows.cacheFreshSpec.post enc Try.prog Try.f3 false true false false W args v W' := by
  have hW' := hW
  obtain ⟨p, q, hA0, hV, rfl, hfz, hnd⟩ := hW
  have hA : DataW.TrodAll enc Try.prog W 0 (fun _ => true) true Try.f3.params.toList args.toList ds p := hA0
  rw [Try.params3] at hA hval
  obtain ⟨v0, v1, d0, d1, p0, p1, rfl, rfl, rfl, h0, h1⟩ := trodAll_two hA
  obtain ⟨rfl, rfl⟩ := trodVars_none hV
  obtain ⟨fuel0, hf0⟩ := h0
  obtain ⟨fuel1, hf1⟩ := h1
  obtain ⟨a0, len0, cap0, rfl⟩ := okWide_slice Try.underlying22 (hval 0 22 v0 rfl rfl)
  obtain ⟨A, n, c, vs, xs, hcs0, ht, hsz0⟩ := open_kepts hf0
  have hv0 : Value.slice a0 len0 cap0 = .slice A n c := by
    have h : [Value.slice a0 len0 cap0] = [.slice A n c] := hcs0
    exact (List.cons.inj h).1
  cases hv0
  obtain ⟨a1, len1, cap1, rfl⟩ := okWide_slice Try.underlying23 (hval 1 23 v1 rfl rfl)
  obtain ⟨A', n', c', ut, ts, hcs1, htt, hsz1⟩ := open_nodes hf1
  have hv1 : Value.slice a1 len1 cap1 = .slice A' n' c' := by
    have h : [Value.slice a1 len1 cap1] = [.slice A' n' c'] := hcs1
    exact (List.cons.inj h).1
  cases hv1
  have hs0 := hsz0 (sized_of hz (j := 0) (t := 22) (by rw [Try.params3]; rfl) rfl)
  have hn0 := hs0.1
  rw [reach_val] at hn0
  have hs1 := hsz1 (sized_of hz (j := 1) (t := 23) (by rw [Try.params3]; rfl) rfl)
  have hn1 := hs1.1
  rw [reach_val] at hn1
  clear hA0 hz
  refine (fresh_law_any a0 len0 cap0 vs xs a1 len1 cap1 ut ts W ht (fun x hx => (small_of (hs0.2 x hx)).1) (by omega) htt (fun x hx => (small_of (hs1.2 x hx)).1) (by omega)).mono fun e W' ⟨he, hb⟩ => ?_
  subst he
  exact ⟨_, rfl, post_true rfl (by kernel_rfl) rfl rfl hW' hb⟩

def args0 : Array Value := #[.slice none 0 0, .slice none 0 0]
theorem reads (os : Os) {H : Type} (enc : TypeId × Value → H) : ∃ places, DataW.whole enc Try.prog ((World.holding Try.prog os ⟨#[], #[], []⟩).forCall (fun _ _ => 0) ⟨#[], args0, []⟩).memory Try.f3.params.toList Rows.cacheFreshSpec.vars false args0.toList 8 = some ([.nil, .nil], [], places) :=
  ⟨[], by kernel_rfl⟩
set_option maxRecDepth 100000 in
theorem lifted (os : Os) (started : os.Started) (H : Type) (enc : TypeId × Value → H) (F : Stop.Interp) :
    ReturnsInHanded {} Try.checked os 3 .any ((OpenSpec.ofChange Rows.cacheFreshSpec).preRow enc Try.prog Try.f3 Rows.cacheFreshRow.domain false Rows.cacheFreshRow.laid) (((OpenSpec.ofChange Rows.cacheFreshSpec).at F).post enc Try.prog Try.f3 false true false false) := by
  obtain ⟨places, hx⟩ := reads os enc
  refine returnsInHanded_of_row (C := Try.checked) (s := OpenSpec.ofChange Rows.cacheFreshSpec) own started (by kernel_rfl) Try.func3
    (witness_row_at (enc := enc) (C := Try.checked) false (World.holding Try.prog os ⟨#[], #[], []⟩) args0 rfl (by kernel_rfl) (by kernel_rfl) (by kernel_rfl)
      (OpenSpec.preRow_of_cond 8 hx (by kernel_rfl) (fun k hk => by cases hk) (by kernel_rfl) ⟨[], rfl, List.nodup_nil, fun _ _ h => by cases h⟩)) ?_
  intro W base args ds gs before hval hW _ _ hz _ _ _
  exact contract H enc W base args ds gs before hval hW hz

theorem said : Rows.CacheFreshSaid :=
  OpenClaim.holds_of_cond 3 Try.f3 rfl rfl rfl rfl rfl rfl rfl ⟨rfl, rfl, rfl, rfl, rfl⟩ rfl rfl rfl rfl rfl (by kernel_rfl) Try.func3 (by kernel_rfl)
    (of_decide_eq_true (by kernel_rfl)) (by unfold Func.isWrapper; first | (rw [if_pos (by decide +kernel)]; kernel_rfl) | (rw [if_neg (by decide +kernel)]; exact ⟨rfl, rfl⟩))
    (fun os started H enc _ F => by rw [OpenClaim.pre_eq_preRow]; exact lifted os started H enc F)
end Go.Proofs.Ytjpdoblmdchmkae.fnFresh
namespace Go.Proofs.Ytjpdoblmdchmkae
theorem cacheFresh_holds : Rows.CacheFreshSaid := fnFresh.said
end Go.Proofs.Ytjpdoblmdchmkae
