/-
  PIECES for all that follows: worlds that draw, lists pair by pair, lists that rise.
-/
import Derived.Test.YtlegjdlmcphhlabRead
namespace Go.Proofs.Ytlegjdlmcphhlab
open Go.RowKit

theorem below_drewN {B : Nat} {a w : World} (h : Below B a w) : ∀ k, Below B a (w.drewN k)
  | 0 => h
  | k + 1 => (below_drewN h k).drew

/-- alike but for versions -/
def alike (x y : M.Nd) : Bool := decide (x.fid = y.fid) && decide (x.dir = y.dir) && decide (x.data = y.data) && decide (x.ents = y.ents)

/-- two lists, pair by pair -/
def allB {α : Type} (f : α → α → Bool) : List α → List α → Bool
  | [], [] => true
  | a :: l, b :: m => f a b && allB f l m
  | _, _ => false
theorem allB_len {α : Type} {f : α → α → Bool} : ∀ {l m : List α}, l.length ≠ m.length → allB f l m = false
  | [], [], h => absurd rfl h
  | [], _ :: _, _ => rfl
  | _ :: _, [], _ => rfl
  | a :: l, b :: m, h => by rw [allB, allB_len (by simpa using h), Bool.and_false]
theorem allB_snoc {α : Type} {f : α → α → Bool} : ∀ {l m : List α} {a b : α}, l.length = m.length → allB f (l ++ [a]) (m ++ [b]) = (allB f l m && f a b)
  | [], [], a, b, _ => by simp [allB]
  | [], _ :: _, _, _, h => by simp at h
  | _ :: _, [], _, _, h => by simp at h
  | c :: l, d :: m, a, b, h => by rw [List.cons_append, List.cons_append, allB, allB, allB_snoc (by simpa using h), Bool.and_assoc]
theorem allB_no {α : Type} {f : α → α → Bool} : ∀ {l m : List α} {k : Nat} {a b : α}, l[k]? = some a → m[k]? = some b → f a b = false → allB f l m = false
  | [], _, k, _, _, h, _, _ => by cases h
  | _ :: _, [], k, _, _, _, h, _ => by cases h
  | c :: l, d :: m, 0, a, b, h1, h2, hf => by cases h1; cases h2; rw [allB, hf, Bool.false_and]
  | c :: l, d :: m, k + 1, a, b, h1, h2, hf => by rw [allB, allB_no (k := k) h1 h2 hf, Bool.and_false]

namespace M
/-- fids rise, and names in each -/
def Rise (xs : List Nd) : Prop := RsN xs ∧ ∀ x ∈ xs, RsE x.ents
end M
theorem ret_two {a b c d : Int} (h : (a, b) = (c, d)) : Ending.returned (.tuple #[.int .i64 a, .int .i64 b]) = .returned (.tuple #[.int .i64 c, .int .i64 d]) := by cases h; rfl
end Go.Proofs.Ytlegjdlmcphhlab
