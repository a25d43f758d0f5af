/-
  THE FRAME behind a region that draws its order, written out.
-/
import Derived.Test.YtlegjdlmcphhlabDoes
namespace Go.Proofs.Ytlegjdlmcphhlab
open Go.RowKit

/-- the frame behind a region: slots for which wr is true hold something -/
def overL (wr : Nat → Bool) (a : Act) : Nat → List Value → List Value
  | _, [] => []
  | t, v :: vs => (match wr t with | true => a.eval (.tmp t) | false => v) :: overL wr a (t + 1) vs
theorem overL_len (wr : Nat → Bool) (a : Act) : ∀ (l : List Value) (t : Nat), (overL wr a t l).length = l.length
  | [], _ => rfl
  | _ :: l, t => by simp [overL, overL_len wr a l (t + 1)]
theorem overL_get (wr : Nat → Bool) (a : Act) : ∀ (l : List Value) (t i : Nat) (v : Value), l[i]? = some v → (overL wr a t l)[i]? = some (match wr (t + i) with | true => a.eval (.tmp (t + i)) | false => v)
  | [], _, _, _, h => by cases h
  | x :: l, t, 0, v, h => by
    simp at h
    subst h
    simp [overL]
  | x :: l, t, i + 1, v, h => by
    simp only [List.getElem?_cons_succ] at h
    have := overL_get wr a l (t + 1) i v h
    simp only [overL, List.getElem?_cons_succ]
    rw [this, show t + 1 + i = t + (i + 1) by omega]
theorem Framed.lit {ops : Array Oper} {a0 a : Act} (hf : Framed ops a0 a) (wr : Nat → Bool) (hw : (ops.all fun o => match o.dst with | some d => wr d | none => true) = true) : a = ⟨(overL wr a 0 a0.tmps.toList).toArray, a0.defers⟩ := by
  have hs : a.tmps = (overL wr a 0 a0.tmps.toList).toArray := by
    apply Array.ext_getElem?
    intro i
    have hr : (overL wr a 0 a0.tmps.toList).toArray[i]? = (overL wr a 0 a0.tmps.toList)[i]? := by simp
    rw [hr]
    rcases Nat.lt_or_ge i a0.tmps.size with hi | hi
    · have h0 : a0.tmps.toList[i]? = some a0.tmps[i] := by rw [Array.getElem?_toList]; exact Array.getElem?_eq_getElem hi
      rw [overL_get wr a _ 0 i _ h0, Nat.zero_add]
      have hi' : i < a.tmps.size := by rw [hf.size]; exact hi
      have hev : a.eval (.tmp i) = a.tmps[i] := by simp [Act.eval, hi']
      rw [Array.getElem?_eq_getElem hi']
      cases hwi : wr i with
      | true => rw [← hev]
      | false =>
        have hap : apart ops i = true := by
          unfold apart
          rw [Array.all_eq_true_iff_forall_mem] at hw ⊢
          intro o ho
          have := hw o ho
          cases hd : o.dst with
          | none => rfl
          | some d =>
            rw [hd] at this
            simp only at this
            simp only [bne_iff_ne, ne_eq, Option.some.injEq]
            intro e
            subst e
            rw [hwi] at this
            cases this
        have := hf.keeps i hap
        rw [hev] at this
        rw [this]
        simp [Act.eval, hi]
    · rw [Array.getElem?_eq_none (by rw [hf.size]; exact hi), List.getElem?_eq_none (by rw [overL_len]; simpa using hi)]
  have hd := hf.defers
  cases a
  simp only at hs hd
  subst hd
  rw [Act.mk.injEq]
  exact ⟨hs, rfl⟩

end Go.Proofs.Ytlegjdlmcphhlab
