/-
  NAMESTELLS, THE SECOND FORM's CARD: for every text and every slice of texts that together are of bulk at most 1048576 the law NamesTells answers true, and its arguments read afterwards as they read before. Conditions: that bound (strings.Join's Builder ends the call where the joined text would pass 2^48 bytes); the two tables of unicode/utf8 that the row lists hold what the program's text lays. The card ties them to the pruned copy of the project that this seat's roots load.
-/
import Derived.Test.YtgeolmiinbcnfaaDoorCommon
import Derived.ChangeMaps5
namespace Go.Proofs.YtgeolmiinbcnfaaDoor.fnTells
open Go.ChangeShapes Go.WideShapes Go.ChangeAt Go.RowKit Go.Deep Go.ChangeMaps

theorem bulk_texts {H : Type} (xs : List ByteArray) : xs.length + Lib.lens (xs.map (·.data.toList)) = Rows.uptoBulkAll (xs.map fun x => DataW.lit (H := H) (.string x.data.toList)) := by
  induction xs with
  | nil => rfl
  | cons x r ih =>
    have e : Lib.lens ((x :: r).map (·.data.toList)) = x.data.toList.length + Lib.lens (r.map (·.data.toList)) := by simp [Lib.lens]
    rw [e, List.map_cons, Rows.uptoBulkAll, ← ih, Rows.uptoBulk, List.length_cons]
    omega

/-- what the walk gives, for every argument and every world -/
theorem contract (H : Type) (enc : TypeId × Value → H) (W : World) (base : Nat) (args : Array Value) (ds gs : List (DataW H)) (before : List MemPlace)
    (hval : ∀ (j : Nat) t v, Tryd.f3.params[j]? = some t → args[j]? = some v → Value.okWide Tryd.prog W .any base t v)
    (hW : DataW.Whole enc Tryd.prog Tryd.f3.params.toList Rows.namesTellsSpec.vars false W args.toList ds gs before)
    (hk : Rows.uptoSmall H (ds ++ gs) = true) (hsh : W.ShapedOpen Tryd.prog) :
    Calls Tryd.prog 3 args W fun e W' => ∃ v, e = .returned v ∧ Rows.namesTellsSpec.post enc Tryd.prog Tryd.f3 false true false false W args v W' := by
  have hW' := hW
  obtain ⟨p, q, hA0, hV, rfl, hfz, hnd⟩ := hW
  have hA : DataW.TrodAll enc Tryd.prog W 0 (fun _ => true) true Tryd.f3.params.toList args.toList ds p := hA0
  rw [Tryd.params3] at hA hval
  obtain ⟨v0, v1, d0, d1, p0, p1, rfl, rfl, rfl, h0, h1⟩ := trodAll_two hA
  obtain ⟨rfl, rfl⟩ := trodVars_none hV
  obtain ⟨s, rfl, rfl, rfl, ws⟩ := open_string Tryd.underlying9 (hval 0 9 v0 rfl rfl) h0
  obtain ⟨A, n, c, xs, rfl, hnc, hcm, hst, hsz, hd⟩ := open_texts (hval 1 22 v1 rfl rfl) h1
  have hN : n + Lib.lens (xs.map (·.data.toList)) ≤ 140737488355327 := by
    have hb : Rows.uptoBulkAll [DataW.lit (H := H) (.string s.data.toList), d1] ≤ 1048576 := of_decide_eq_true hk
    rcases hd with ⟨_, rfl⟩ | ⟨spare, rfl⟩
    · have := hst.1; simp [Lib.lens] at this ⊢; omega
    · have h2 := bulk_texts (H := H) xs
      simp only [Rows.uptoBulkAll, Rows.uptoBulk] at hb
      rw [hst.1]
      omega
  obtain ⟨m, hm⟩ := Tryd.laysM146.s1_3 W hsh
  clear hA0 hk
  refine (tells_any s A n c xs m W ws hm hst hnc hN).mono fun e W' ⟨he, hb⟩ => ?_
  subst he
  exact ⟨_, rfl, post_true rfl rfl rfl rfl hW' hb⟩

set_option maxRecDepth 100000 in
theorem lifted (os : Os) (started : os.Started) (H : Type) (enc : TypeId × Value → H) (F : Stop.Interp) :
    ReturnsInHanded {} Tryd.checked os 3 .any ((Rows.OpenSpec.upto Rows.namesTellsSpec).preRow enc Tryd.prog Tryd.f3 Rows.namesTellsUptoRow.domain false Rows.namesTellsUptoRow.laid) (((Rows.OpenSpec.upto Rows.namesTellsSpec).at F).post enc Tryd.prog Tryd.f3 false true false false) := by
  obtain ⟨places, hx⟩ := reads3 os enc
  refine returnsInHanded_of_row (C := Tryd.checked) (s := Rows.OpenSpec.upto Rows.namesTellsSpec) own started (by kernel_rfl) Tryd.func3
    (witness_row_at (enc := enc) (C := Tryd.checked) false (laidWorld os) #[.string ⟨#[]⟩, .slice none 0 0] rfl (by kernel_rfl) (by kernel_rfl) (by kernel_rfl)
      (OpenSpec.preRow_of_cond 8 hx (by kernel_rfl) (fun k hk => by cases hk; kernel_rfl) (by kernel_rfl) (laid_met os))) ?_
  intro W base args ds gs before hval hW _ hcond _ _ hsh _
  exact contract H enc W base args ds gs before hval hW (hcond _ rfl) hsh

theorem said : Rows.NamesTellsUptoSaid :=
  OpenClaim.holds_of_cond 3 Tryd.f3 rfl rfl rfl rfl rfl rfl rfl ⟨rfl, rfl, rfl, rfl, rfl⟩ rfl rfl rfl rfl rfl (by kernel_rfl) Tryd.func3 (by kernel_rfl)
    (of_decide_eq_true (by kernel_rfl)) (by unfold Func.isWrapper; first | (rw [if_pos (by decide +kernel)]; kernel_rfl) | (rw [if_neg (by decide +kernel)]; exact ⟨rfl, rfl⟩))
    (fun os started H enc _ F => by rw [OpenClaim.pre_eq_preRow]; exact lifted os started H enc F)

theorem plain (f : FuncId) (fn : Func) (hf : Tryd.pinned.checked.prog.funcNamed "longabsence/lalaw1.NamesTells" = some f) (hfn : Tryd.pinned.checked.prog.funcs[f]? = some fn) :
    false = Tryd.pinned.checked.prog.looks [] ∧ ∀ (j : Nat) t, fn.params[j]? = some t → Tryd.pinned.checked.prog.wantsStandIn t = false := by
  obtain rfl : f = 3 := Option.some.inj ((show Tryd.prog.funcNamed "longabsence/lalaw1.NamesTells" = some 3 by kernel_rfl).symm.trans hf) |>.symm
  obtain rfl : fn = Tryd.f3 := (Option.some.inj (Tryd.func3.symm.trans hfn)).symm
  refine ⟨by kernel_rfl, fun j t ht => ?_⟩
  rw [Tryd.params3] at ht
  have h := Array.mem_of_getElem? ht
  simp at h
  rcases h with rfl | rfl
  · exact (show Tryd.prog.wantsStandIn 9 = false by kernel_rfl)
  · exact (show Tryd.prog.wantsStandIn 22 = false by kernel_rfl)

theorem card : Rows.NamesTellsUptoCardSaid :=
  Claim7.holds_tied_plain_at .later [] _ _ _ _ said (fun _ h => by cases h) (by kernel_rfl) (fun _ h => by cases h) namesTellsUpto_row_tie rfl ⟨rfl, rfl⟩ (by kernel_rfl) rfl plain (by kernel_rfl)
end Go.Proofs.YtgeolmiinbcnfaaDoor.fnTells
namespace Go.Proofs.YtgeolmiinbcnfaaDoor
theorem namesTells_card : Rows.NamesTellsUptoCardSaid := fnTells.card
end Go.Proofs.YtgeolmiinbcnfaaDoor
