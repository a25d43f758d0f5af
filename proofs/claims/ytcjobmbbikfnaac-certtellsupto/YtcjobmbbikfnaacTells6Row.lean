/-
  CERTTELLS, THE SECOND FORM: for every tree and every log that together are of bulk at most 1048576, every next fid and every version the law CertTells answers true, and its arguments read afterwards as they read before. Conditions: that bound (the reference's list of what is still to be seen is as long as the tree has entries), and the form's own.
-/
import Derived.Test.YtcjobmbbikfnaacPart8
import Derived.Test.YtcjobmbbikfnaacPart18
import Derived.ChangeMaps5
import Derived.Carry
namespace Go.Proofs.Ytcjobmbbikfnaac.fnTells6
open Go.ChangeShapes Go.WideShapes Go.ChangeAt Go.RowKit Go.Deep Go.ChangeMaps

set_option maxRecDepth 8000 in
/-- what the walk gives, for every argument and every world -/
theorem contract (H : Type) (enc : TypeId × Value → H) (W : World) (base : Nat) (args : Array Value) (ds gs : List (DataW H)) (before : List MemPlace)
    (hval : ∀ (j : Nat) t v, Try.f3.params[j]? = some t → args[j]? = some v → Value.okWide Try.prog W .any base t v)
    (hW : DataW.Whole enc Try.prog Try.f3.params.toList Rows.certTellsSpec.vars false W args.toList ds gs before)
    (hk : Rows.uptoSmall H (ds ++ gs) = true) (hz : (DataW.weightsEach Try.prog (Try.f3.params.toList ++ []) (ds ++ gs)).all (· ≤ reachBytes) = true) :
    Calls Try.prog 3 args W fun e W' => ∃ v, e = .returned v ∧ Rows.certTellsSpec.post enc Try.prog Try.f3 false true false false W args v W' := by
  have hW' := hW
  obtain ⟨p, q, hA0, hV, rfl, hfz, hnd⟩ := hW
  have hA : DataW.TrodAll enc Try.prog W 0 (fun _ => true) true Try.f3.params.toList args.toList ds p := hA0
  rw [Try.params3] at hA hval
  obtain ⟨v0, v1, v2, v3, d0, d1, d2, d3, p0, p1, p2, p3, rfl, rfl, rfl, h0, h1, h2, h3⟩ := trodAll_four hA
  obtain ⟨rfl, rfl⟩ := trodVars_none hV
  obtain ⟨next, rfl, rfl, rfl, _⟩ := open_int Try.underlying3 (hval 1 3 v1 rfl rfl) h1
  obtain ⟨ver, rfl, rfl, rfl, _⟩ := open_int Try.underlying3 (hval 2 3 v2 rfl rfl) h2
  obtain ⟨fuel0, hf0⟩ := h0
  obtain ⟨fuel3, hf3⟩ := h3
  obtain ⟨a0, len0, cap0, rfl⟩ := okWide_slice Try.underlying22 (hval 0 22 v0 rfl rfl)
  obtain ⟨A, n, c, vs, xs, hcs0, ht, hsz0, hbk, hbl⟩ := open_nodes_b hf0
  have hv0 : Value.slice a0 len0 cap0 = .slice A n c := by
    have h : [Value.slice a0 len0 cap0] = [.slice A n c] := hcs0
    exact (List.cons.inj h).1
  cases hv0
  obtain ⟨a3, len3, cap3, rfl⟩ := okWide_slice Try.underlying23 (hval 3 23 v3 rfl rfl)
  obtain ⟨A', n', c', rvs, recs, hcs3, _, _, htr, hsz3, hbp⟩ := open_recs hf3
  have hv3 : Value.slice a3 len3 cap3 = .slice A' n' c' := by
    have h : [Value.slice a3 len3 cap3] = [.slice A' n' c'] := hcs3
    exact (List.cons.inj h).1
  cases hv3
  have hs0 := hsz0 (sized_of hz (j := 0) (t := 22) (by rw [Try.params3]; rfl) rfl)
  have hs3 := hsz3 (sized_of hz (j := 3) (t := 23) (by rw [Try.params3]; rfl) rfl)
  have hn := hs0.1
  have hp := hs3.1
  rw [reach_val] at hn hp
  have hB : Rows.uptoBulkAll [d0, .lit (.int .i64 next), .lit (.int .i64 ver), d3] ≤ 1048576 := of_decide_eq_true hk
  simp only [Rows.uptoBulkAll] at hB
  have hN1 : (allF xs).length ≤ Rows.uptoBulk d0 := hbk
  have hN2 : xs.length ≤ Rows.uptoBulk d0 := hbl
  have hN3 : len3 ≤ Rows.uptoBulk d3 := hbp
  clear hA0 hz hk
  refine (tells6_any a0 a3 len0 cap0 len3 cap3 vs xs next ver rvs recs W ht (fun x hx => (small_of (hs0.2 x hx)).1) (by omega) htr hs3.2 (by omega) (by omega) (by omega)).mono fun e W' ⟨he, hb⟩ => ?_
  subst he
  exact ⟨_, rfl, post_true rfl (by kernel_rfl) rfl rfl hW' hb⟩

def args0 : Array Value := #[.slice none 0 0, .int .i64 0, .int .i64 0, .slice none 0 0]
theorem reads (os : Os) {H : Type} (enc : TypeId × Value → H) : ∃ places, DataW.whole enc Try.prog ((World.holding Try.prog os ⟨#[], #[], []⟩).forCall (fun _ _ => 0) ⟨#[], args0, []⟩).memory Try.f3.params.toList Rows.certTellsSpec.vars false args0.toList 8 = some ([.nil, .lit (.int .i64 0), .lit (.int .i64 0), .nil], [], places) :=
  ⟨[], by kernel_rfl⟩
set_option maxRecDepth 100000 in
theorem lifted (os : Os) (started : os.Started) (H : Type) (enc : TypeId × Value → H) (F : Stop.Interp) :
    ReturnsInHanded {} Try.checked os 3 .any ((Rows.OpenSpec.upto Rows.certTellsSpec).preRow enc Try.prog Try.f3 Rows.certTellsUptoRow.domain false Rows.certTellsUptoRow.laid) (((Rows.OpenSpec.upto Rows.certTellsSpec).at F).post enc Try.prog Try.f3 false true false false) := by
  obtain ⟨places, hx⟩ := reads os enc
  refine returnsInHanded_of_row (C := Try.checked) (s := Rows.OpenSpec.upto Rows.certTellsSpec) own started (by kernel_rfl) Try.func3
    (witness_row_at (enc := enc) (C := Try.checked) false (World.holding Try.prog os ⟨#[], #[], []⟩) args0 rfl (by kernel_rfl) (by kernel_rfl) (by kernel_rfl)
      (OpenSpec.preRow_of_cond 8 hx (by kernel_rfl) (fun k hk => by cases hk; kernel_rfl) (by kernel_rfl) ⟨[], rfl, List.nodup_nil, fun _ _ h => by cases h⟩)) ?_
  intro W base args ds gs before hval hW _ hcond hz _ _ _
  exact contract H enc W base args ds gs before hval hW (hcond _ rfl) hz

theorem said : Rows.CertTellsUptoSaid :=
  OpenClaim.holds_of_cond 3 Try.f3 rfl rfl rfl rfl rfl rfl rfl ⟨rfl, rfl, rfl, rfl, rfl⟩ rfl rfl rfl rfl rfl (by kernel_rfl) Try.func3 (by kernel_rfl)
    (of_decide_eq_true (by kernel_rfl)) (by unfold Func.isWrapper; first | (rw [if_pos (by decide +kernel)]; kernel_rfl) | (rw [if_neg (by decide +kernel)]; exact ⟨rfl, rfl⟩))
    (fun os started H enc _ F => by rw [OpenClaim.pre_eq_preRow]; exact lifted os started H enc F)
end Go.Proofs.Ytcjobmbbikfnaac.fnTells6
namespace Go.Proofs.Ytcjobmbbikfnaac
theorem certTellsUpto_holds : Rows.CertTellsUptoSaid := fnTells6.said
end Go.Proofs.Ytcjobmbbikfnaac
