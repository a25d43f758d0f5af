/-
  PLAIN MATHEMATICS of chapter 3: what acts are, and what comes of them.
-/
import Derived.Test.YtlegjdlmcphhlabName
import Derived.Test.YtlegjdlmcphhlabPlain
import Derived.Test.YtlegjdlmcphhlabMathc
namespace Go.Proofs.Ytlegjdlmcphhlab
namespace M
/-- an act -/
structure Act where
  kind : Int
  fid : Int
  dir : Int
  name : ByteArray
  to : Int
  toName : ByteArray
  data : List UInt8

def withV (x : Nd) (v : Int) : Nd := { x with ver := v }
/-- a directory that must be there -/
def dirS (xs : List Nd) (f : Int) : Int × Nd :=
  match find xs f with
  | none => (12, nd0)
  | some x => if x.dir then (0, x) else (8, nd0)
/-- a name that must be free -/
def freeS (x : Nd) (s : ByteArray) : Int := if (look x.ents s).isSome || !nameB s.data.toList then 7 else if 6 ≤ x.ents.length then 5 else 0
/-- the directory, whose name must lead there -/
def holdS (xs : List Nd) (d : Int) (s : ByteArray) (f : Int) : Int × Nd :=
  if (dirS xs d).1 = 0 then
    match look (dirS xs d).2.ents s with
    | none => (6, nd0)
    | some e => if e.2 = f then (0, (dirS xs d).2) else (13, nd0)
  else ((dirS xs d).1, nd0)
theorem dir_none {xs : List Nd} {f : Int} (h : find xs f = none) : dirS xs f = (12, nd0) := by unfold dirS; rw [h]
theorem dir_file {xs : List Nd} {f : Int} {x : Nd} (h : find xs f = some x) (hd : x.dir = false) : dirS xs f = (8, nd0) := by unfold dirS; rw [h]; simp [hd]
theorem dir_yes {xs : List Nd} {f : Int} {x : Nd} (h : find xs f = some x) (hd : x.dir = true) : dirS xs f = (0, x) := by unfold dirS; rw [h]; simp [hd]
theorem dir_ok {xs : List Nd} {f : Int} (h : (dirS xs f).1 = 0) : find xs f = some (dirS xs f).2 ∧ (dirS xs f).2.dir = true := by
  unfold dirS at *
  cases hx : find xs f with
  | none => rw [hx] at h; simp at h
  | some x =>
    rw [hx] at h
    simp only at h ⊢
    split at h
    · rename_i hd; simp [hd]
    · simp at h
theorem find_mem {xs : List Nd} {f : Int} {x : Nd} (h : find xs f = some x) : x ∈ xs ∧ x.fid = f := by
  unfold find at h
  exact ⟨List.mem_of_find?_eq_some h, by have := List.find?_some h; simpa using this⟩
def bringS (xs : List Nd) (a : Act) (v : Int) : Int × List Nd :=
  if (dirS xs a.dir).1 ≠ 0 then ((dirS xs a.dir).1, [])
  else if freeS (dirS xs a.dir).2 a.name ≠ 0 then (freeS (dirS xs a.dir).2 a.name, [])
  else if a.fid = 0 ∨ (find xs a.fid).isSome then (13, [])
  else if 24 ≤ xs.length then (5, [])
  else (0, putN (putN xs (withV { (dirS xs a.dir).2 with ents := putE (dirS xs a.dir).2.ents (a.name, a.fid) } v)) ⟨a.fid, decide (a.kind = 2), [], [], v⟩)
def storeS (xs : List Nd) (a : Act) (v : Int) : Int × List Nd :=
  match find xs a.fid with
  | none => (12, [])
  | some x => if x.dir then (9, []) else if 20 < a.data.length then (4, []) else (0, putN xs (withV { x with data := a.data } v))
def removeS (xs : List Nd) (a : Act) (v : Int) : Int × List Nd :=
  if (holdS xs a.dir a.name a.fid).1 ≠ 0 then ((holdS xs a.dir a.name a.fid).1, [])
  else match find xs a.fid with
  | none => (12, [])
  | some x => if 0 < x.ents.length then (10, []) else (0, dropN (putN xs (withV { (holdS xs a.dir a.name a.fid).2 with ents := dropE (holdS xs a.dir a.name a.fid).2.ents a.name } v)) a.fid)
/-- where a name comes from, without it; and where it goes to -/
def fromS (xs : List Nd) (a : Act) : Nd := { (holdS xs a.dir a.name a.fid).2 with ents := dropE (holdS xs a.dir a.name a.fid).2.ents a.name }
def toS (xs : List Nd) (a : Act) : Nd := if a.to = a.dir then fromS xs a else (dirS xs a.to).2
open Classical in
noncomputable def renameS (xs : List Nd) (a : Act) (v : Int) : Int × List Nd :=
  if (holdS xs a.dir a.name a.fid).1 ≠ 0 then ((holdS xs a.dir a.name a.fid).1, [])
  else if (dirS xs a.to).1 ≠ 0 then ((dirS xs a.to).1, [])
  else if freeS (toS xs a) a.toName ≠ 0 then (freeS (toS xs a) a.toName, [])
  else if (find xs a.fid).isNone then (12, [])
  else if Reach xs a.fid a.to then (11, [])
  else (0, putN (putN xs (withV (fromS xs a) v)) (withV { toS xs a with ents := putE (toS xs a).ents (a.toName, a.fid) } v))
noncomputable def applyS (xs : List Nd) (a : Act) (v : Int) : Int × List Nd :=
  if a.kind = 1 ∨ a.kind = 2 then bringS xs a v
  else if a.kind = 3 then storeS xs a v
  else if a.kind = 4 then removeS xs a v
  else if a.kind = 5 then renameS xs a v
  else (1, [])
end M
end Go.Proofs.Ytlegjdlmcphhlab
