/- TEXTS LAID TOGETHER: Name, Mathd, Acta, Actb, Actc -/
import Derived.Test.YtkhifljgocopoadPart1
import Derived.Test.YtkhifljgocopoadPart2
import Derived.Test.YtkhifljgocopoadPart3
import Derived.Test.YtkhifljgocopoadPart4
/-
  THE LEAVES: sign, names.Name and the reference's Name tell of any text whether it is a name; the world stays.
-/
namespace Go.Proofs.Ytkhifljgocopoad
open Go.RowKit

namespace M
def signB (b : UInt8) : Bool := (97 ≤ b && b ≤ 122) || (48 ≤ b && b ≤ 57)
def nameB (l : List UInt8) : Bool := decide (1 ≤ l.length) && decide (l.length ≤ 8) && l.all signB
end M


theorem signB_int (c : UInt8) : M.signB c = (decide (97 ≤ (c.toNat : Int)) && decide ((c.toNat : Int) ≤ 122) || decide (48 ≤ (c.toNat : Int)) && decide ((c.toNat : Int) ≤ 57)) := by
  unfold M.signB
  have e1 : decide ((97 : UInt8) ≤ c) = decide (97 ≤ (c.toNat : Int)) := by rw [decide_eq_decide, UInt8.le_iff_toNat_le]; simp; omega
  have e2 : decide (c ≤ (122 : UInt8)) = decide ((c.toNat : Int) ≤ 122) := by rw [decide_eq_decide, UInt8.le_iff_toNat_le]; simp; omega
  have e3 : decide ((48 : UInt8) ≤ c) = decide (48 ≤ (c.toNat : Int)) := by rw [decide_eq_decide, UInt8.le_iff_toNat_le]; simp; omega
  have e4 : decide (c ≤ (57 : UInt8)) = decide ((c.toNat : Int) ≤ 57) := by rw [decide_eq_decide, UInt8.le_iff_toNat_le]; simp; omega
  rw [e1, e2, e3, e4]

set_option maxHeartbeats 400000 in
theorem sign_any (c : UInt8) (w : World) :
    Calls Try.prog 54 #[.int .u8 (c.toNat : Int)] w fun e w' => e = .returned (.bool (M.signB c)) ∧ w' = w := by
  have HS : Hid (M.signB c = (decide (97 ≤ (c.toNat : Int)) && decide ((c.toNat : Int) ≤ 122) || decide (48 ≤ (c.toNat : Int)) && decide ((c.toNat : Int) ≤ 57))) := signB_int c
  by_cases h1 : 97 ≤ (c.toNat : Int) <;> by_cases h2 : (c.toNat : Int) ≤ 122 <;> by_cases h3 : 48 ≤ (c.toNat : Int) <;> by_cases h4 : (c.toNat : Int) ≤ 57 <;>
  (go_enter Try.func54, Try.ntmps54
   go_wp2
   go_ret
   exact ⟨ret_bool (by rw [HS.out]; first | omega | (simp; omega)), rfl⟩)

/-- a list's sign by its place -/
theorem take_snoc (s : ByteArray) (k : Nat) (h : k < s.size) : s.data.toList.take (k + 1) = s.data.toList.take k ++ [s[k]] := by
  rw [List.take_succ_eq_append_getElem (by simpa using h)]; rfl
theorem take_all (s : ByteArray) (k : Nat) (h : s.size ≤ k) : s.data.toList.take k = s.data.toList :=
  List.take_of_length_le (by simpa using h)
theorem len_data (s : ByteArray) : s.data.toList.length = s.size := by simp

theorem name_long {s : ByteArray} (h : s.size < 1 ∨ 8 < s.size) : M.nameB s.data.toList = false := by
  have e := len_data s
  unfold M.nameB
  rw [e]
  simp only [Bool.and_eq_false_iff, decide_eq_false_iff_not]
  omega
theorem name_yes {s : ByteArray} (h1 : 1 ≤ s.size) (h2 : s.size ≤ 8) (h : s.data.toList.all M.signB = true) : M.nameB s.data.toList = true := by
  have e := len_data s
  unfold M.nameB
  rw [e, h]
  simp [h1, h2]
theorem name_bad {s : ByteArray} (h : s.data.toList.all M.signB = false) : M.nameB s.data.toList = false := by
  unfold M.nameB
  rw [h]
  simp
theorem all_bad (s : ByteArray) (k : Nat) (h : k < s.size) (hb : M.signB s[k] = false) : s.data.toList.all M.signB = false := by
  rw [List.all_eq_false]
  have hm : s.data.toList[k]'(by simpa using h) ∈ s.data.toList := List.getElem_mem _
  exact ⟨s[k], hm, by simp [hb]⟩

set_option maxHeartbeats 400000 in
theorem name_any (s : ByteArray) (w : World) (hs : s.size ≤ maxLen) :
    Calls Try.prog 42 #[.string s] w fun e w' => e = .returned (.bool (M.nameB s.data.toList)) ∧ w' = w := by
  unfold maxLen at hs
  by_cases h1 : 1 ≤ s.size
  · by_cases h2 : s.size ≤ 8
    · go_enter Try.func42, Try.ntmps42
      go_wp2
      go_loop [14] (fun i => ∃ k : Nat, k ≤ s.size ∧ i = .int .i64 k ∧ (s.data.toList.take k).all M.signB = true) (fun i => s.size - (intOf i).toNat)
      case atStart => exact ⟨0, Nat.zero_le _, rfl, rfl⟩
      case round =>
        obtain ⟨k, hk, rfl, hall⟩ := hrel
        have HA : Hid ((s.data.toList.take k).all M.signB = true) := hall
        clear hall
        by_cases hlt : k < s.size
        · cases hb : M.signB s[k]
          · go_wp2_with (go_at_call 54; refine (sign_any _ _).mono ?_; rintro e w' ⟨rfl, rfl⟩)
            go_ret
            exact ⟨ret_bool (name_bad (all_bad s k hlt hb)).symm, rfl⟩
          · go_wp2_with (go_at_call 54; refine (sign_any _ _).mono ?_; rintro e w' ⟨rfl, rfl⟩)
            go_round
            case rel => exact ⟨k + 1, by omega, by go_num, by rw [take_snoc s k hlt, List.all_append, HA.out]; simp [hb]⟩
            case measure => simp [intOf]; omega
        · go_wp2
          go_ret
          exact ⟨ret_bool (name_yes h1 h2 (by have := HA.out; rwa [take_all s k (by omega)] at this)).symm, rfl⟩
    · go_enter Try.func42, Try.ntmps42
      go_wp2
      go_ret
      exact ⟨ret_bool (name_long (by omega)).symm, rfl⟩
  · go_enter Try.func42, Try.ntmps42
    go_wp2
    go_ret
    exact ⟨ret_bool (name_long (by omega)).symm, rfl⟩

theorem sign_no (c : UInt8) (h : (¬ 97 ≤ (c.toNat : Int) ∨ ¬ (c.toNat : Int) ≤ 122) ∧ (¬ 48 ≤ (c.toNat : Int) ∨ ¬ (c.toNat : Int) ≤ 57)) : M.signB c = false := by
  rw [signB_int]; simp; omega
theorem sign_yes (c : UInt8) (h : (97 ≤ (c.toNat : Int) ∧ (c.toNat : Int) ≤ 122) ∨ (48 ≤ (c.toNat : Int) ∧ (c.toNat : Int) ≤ 57)) : M.signB c = true := by
  rw [signB_int]; simp; omega

end Go.Proofs.Ytkhifljgocopoad
/-
  PLAIN MATHEMATICS of chapter 3: what acts are, and what comes of them.
-/
namespace Go.Proofs.Ytkhifljgocopoad
namespace M
/-- an act -/
structure Act where
  kind : Int
  fid : Int
  dir : Int
  name : ByteArray
  to : Int
  toName : ByteArray
  data : List UInt8

def withV (x : Nd) (v : Int) : Nd := { x with ver := v }
/-- a directory that must be there -/
def dirS (xs : List Nd) (f : Int) : Int × Nd :=
  match find xs f with
  | none => (12, nd0)
  | some x => if x.dir then (0, x) else (8, nd0)
/-- a name that must be free -/
def freeS (x : Nd) (s : ByteArray) : Int := if (look x.ents s).isSome || !nameB s.data.toList then 7 else if 6 ≤ x.ents.length then 5 else 0
/-- the directory, whose name must lead there -/
def holdS (xs : List Nd) (d : Int) (s : ByteArray) (f : Int) : Int × Nd :=
  if (dirS xs d).1 = 0 then
    match look (dirS xs d).2.ents s with
    | none => (6, nd0)
    | some e => if e.2 = f then (0, (dirS xs d).2) else (13, nd0)
  else ((dirS xs d).1, nd0)
theorem dir_none {xs : List Nd} {f : Int} (h : find xs f = none) : dirS xs f = (12, nd0) := by unfold dirS; rw [h]
theorem dir_file {xs : List Nd} {f : Int} {x : Nd} (h : find xs f = some x) (hd : x.dir = false) : dirS xs f = (8, nd0) := by unfold dirS; rw [h]; simp [hd]
theorem dir_yes {xs : List Nd} {f : Int} {x : Nd} (h : find xs f = some x) (hd : x.dir = true) : dirS xs f = (0, x) := by unfold dirS; rw [h]; simp [hd]
theorem dir_ok {xs : List Nd} {f : Int} (h : (dirS xs f).1 = 0) : find xs f = some (dirS xs f).2 ∧ (dirS xs f).2.dir = true := by
  unfold dirS at *
  cases hx : find xs f with
  | none => rw [hx] at h; simp at h
  | some x =>
    rw [hx] at h
    simp only at h ⊢
    split at h
    · rename_i hd; simp [hd]
    · simp at h
theorem find_mem {xs : List Nd} {f : Int} {x : Nd} (h : find xs f = some x) : x ∈ xs ∧ x.fid = f := by
  unfold find at h
  exact ⟨List.mem_of_find?_eq_some h, by have := List.find?_some h; simpa using this⟩
def bringS (xs : List Nd) (a : Act) (v : Int) : Int × List Nd :=
  if (dirS xs a.dir).1 ≠ 0 then ((dirS xs a.dir).1, [])
  else if freeS (dirS xs a.dir).2 a.name ≠ 0 then (freeS (dirS xs a.dir).2 a.name, [])
  else if a.fid = 0 ∨ (find xs a.fid).isSome then (13, [])
  else if 24 ≤ xs.length then (5, [])
  else (0, putN (putN xs (withV { (dirS xs a.dir).2 with ents := putE (dirS xs a.dir).2.ents (a.name, a.fid) } v)) ⟨a.fid, decide (a.kind = 2), [], [], v⟩)
def storeS (xs : List Nd) (a : Act) (v : Int) : Int × List Nd :=
  match find xs a.fid with
  | none => (12, [])
  | some x => if x.dir then (9, []) else if 20 < a.data.length then (4, []) else (0, putN xs (withV { x with data := a.data } v))
def removeS (xs : List Nd) (a : Act) (v : Int) : Int × List Nd :=
  if (holdS xs a.dir a.name a.fid).1 ≠ 0 then ((holdS xs a.dir a.name a.fid).1, [])
  else match find xs a.fid with
  | none => (12, [])
  | some x => if 0 < x.ents.length then (10, []) else (0, dropN (putN xs (withV { (holdS xs a.dir a.name a.fid).2 with ents := dropE (holdS xs a.dir a.name a.fid).2.ents a.name } v)) a.fid)
/-- where a name comes from, without it; and where it goes to -/
def fromS (xs : List Nd) (a : Act) : Nd := { (holdS xs a.dir a.name a.fid).2 with ents := dropE (holdS xs a.dir a.name a.fid).2.ents a.name }
def toS (xs : List Nd) (a : Act) : Nd := if a.to = a.dir then fromS xs a else (dirS xs a.to).2
open Classical in
noncomputable def renameS (xs : List Nd) (a : Act) (v : Int) : Int × List Nd :=
  if (holdS xs a.dir a.name a.fid).1 ≠ 0 then ((holdS xs a.dir a.name a.fid).1, [])
  else if (dirS xs a.to).1 ≠ 0 then ((dirS xs a.to).1, [])
  else if freeS (toS xs a) a.toName ≠ 0 then (freeS (toS xs a) a.toName, [])
  else if (find xs a.fid).isNone then (12, [])
  else if Reach xs a.fid a.to then (11, [])
  else (0, putN (putN xs (withV (fromS xs a) v)) (withV { toS xs a with ents := putE (toS xs a).ents (a.toName, a.fid) } v))
noncomputable def applyS (xs : List Nd) (a : Act) (v : Int) : Int × List Nd :=
  if a.kind = 1 ∨ a.kind = 2 then bringS xs a v
  else if a.kind = 3 then storeS xs a v
  else if a.kind = 4 then removeS xs a v
  else if a.kind = 5 then renameS xs a v
  else (1, [])
end M
end Go.Proofs.Ytkhifljgocopoad
/-
  PACKAGE acts, its small functions: has, directory, put, free.
-/
namespace Go.Proofs.Ytkhifljgocopoad
open Go.RowKit

theorem OwnN.alloc {w : World} {B : Nat} {v : NV} {x : M.Nd} (h : OwnN w B v x) (o : Obj) : OwnN (w.alloc o) B v x := ⟨h.1, h.2.1, h.2.2.1, h.2.2.2.1.alloc _, h.2.2.2.2.alloc _⟩
theorem OwnN.put5 {w : World} {B : Nat} {v : NV} {x : M.Nd} (h : OwnN w B v x) {s : Nat} (hs : s < B) (o : Nat) (y : NV) : OwnN (put5 w s o y) B v x := ⟨h.1, h.2.1, h.2.2.1, put5_own h.2.2.2.1 hs _ _, put5_own h.2.2.2.2 hs _ _⟩
theorem small_nd0 : Small nd0 := ⟨by simp [nd0], by simp [nd0]⟩
theorem Found.small {xs : List M.Nd} {t : Int} {x : M.Nd} {b : Bool} (h : Found xs t x b) (hs : ∀ x ∈ xs, Small x) : Small x := by
  cases b
  · rw [h.2.1 rfl]; exact small_nd0
  · exact hs x (h.1 rfl).1

theorem has_any (A : Option Addr) (n c : Nat) (vs : List NV) (xs : List M.Nd) (t : Int) (w : World) (ht : Tree w A n vs xs) (hn : n * 72 ≤ 140737488355328) (hs : ∀ x ∈ xs, Small x) :
    Calls Try.prog 31 #[.slice A n c, .int .i64 t] w fun e w' => ∃ b : Bool, e = .returned (.bool b) ∧ (M.RsN xs → b = (M.find xs t).isSome) ∧ Below w.heap.size w w' := by
  go_enter Try.func31, Try.ntmps31
  go_wp2_with (fail)
  refine (find_gen A n c vs xs t w ht hn hs).mono ?_
  rintro e w1 ⟨v, x, b, rfl, ho, hf, hb⟩
  have HB : Hid (Below w.heap.size w w1) := hb
  have HF : Hid (Found xs t x b) := hf
  clear hb hf ho
  go_wp2
  go_ret
  exact ⟨b, rfl, fun hr => (HF.out.2.2 hr).1, HB.out.alloc HB.out.size _⟩

set_option maxHeartbeats 400000 in
theorem dir_any (A : Option Addr) (n c : Nat) (vs : List NV) (xs : List M.Nd) (t : Int) (w : World) (ht : Tree w A n vs xs) (hn : n * 72 ≤ 140737488355328) (hs : ∀ x ∈ xs, Small x) :
    Calls Try.prog 29 #[.slice A n c, .int .i64 t] w fun e w' => ∃ (v : NV) (x : M.Nd) (r : Int), e = .returned (.tuple #[v.val, .int .i64 r]) ∧ OwnN w' w.heap.size v x ∧ Small x ∧ (M.RsN xs → r = (M.dirS xs t).1 ∧ x = (M.dirS xs t).2) ∧ Below w.heap.size w w' := by
  have hwa : ∀ W, W = w.alloc (.cells #[.int .i64 0, .bool false, .slice none 0 0, .slice none 0 0, .int .i64 0] 41) → Below w.heap.size w W ∧ Box W w.heap.size NV.zero ∧ W.heap.size = w.heap.size + 1 := by
    rintro W rfl
    exact ⟨(Below.refl _ _).alloc (Nat.le_refl _) _, Box.new0 w, by simp⟩
  have HW : Hid _ := hwa
  clear hwa
  have HT : Hid (Tree w A n vs xs ∧ ∀ x ∈ xs, Small x) := ⟨ht, hs⟩
  clear ht hs
  go_enter Try.func29, Try.ntmps29
  go_wp2_with (fail)
  obtain ⟨q1, q2, q3⟩ := HW.out _ rfl
  refine (find_gen A n c vs xs t _ (HT.out.1.below (Nat.le_refl _) q1) hn HT.out.2).mono ?_
  rintro e w1 ⟨v, x, b, rfl, ho, hf, hb1⟩
  have hz1 := hb1.size
  rw [q3] at hz1
  have hbw : Below w.heap.size w w1 := q1.trans (hb1.mono (by omega))
  have HX1 : Hid (Box w1 w.heap.size NV.zero) := q2.below hb1 (by omega)
  have HO : Hid (OwnN w1 (w.heap.size + 1) v x) := by rw [q3] at ho; exact ho
  have HF : Hid (Found xs t x b) := hf
  clear q1 q2 q3 hb1 ho hf HW
  obtain ⟨z0, z1, z2, z3, z4, zf, zz⟩ := HX1.out.facts
  have HS : Hid (Small x) := HF.out.small HT.out.2
  cases b
  · have HR : Hid (M.RsN xs → M.dirS xs t = (12, nd0)) := fun hr => M.dir_none (by have h := (HF.out.2.2 hr).1; cases hx : M.find xs t with
      | none => rfl
      | some y => rw [hx] at h; cases h)
    go_wp2
    exact bodyPost_ret (v := .tuple #[NV.zero.val, .int .i64 12]) (by simp [results, Try.results29, go_sem, z0, z1, z2, z3, z4, zz, NV.zero]) rfl ⟨NV.zero, nd0, 12, rfl, own0 _ _, small_nd0, fun hr => by rw [HR.out hr]; exact ⟨rfl, rfl⟩, (put5_below hbw (Nat.le_refl _) 0 NV.zero).alloc (by simp; omega) _⟩
  · have HY : Hid (M.RsN xs → M.find xs t = some x) := fun hr => by
      have h := HF.out.2.2 hr
      cases hx : M.find xs t with
      | none => rw [hx] at h; cases h.1
      | some y => rw [hx] at h; rw [h.2]; rfl
    obtain ⟨fi, di, dA, dn, dc, eA, en, ec, ve⟩ := v
    cases di
    · have HR : Hid (M.RsN xs → M.dirS xs t = (8, nd0)) := fun hr => M.dir_file (HY.out hr) HO.out.2.1.symm
      go_wp2
      exact bodyPost_ret (v := .tuple #[NV.zero.val, .int .i64 8]) (by simp [results, Try.results29, go_sem, z0, z1, z2, z3, z4, zz, NV.zero]) rfl ⟨NV.zero, nd0, 8, rfl, own0 _ _, small_nd0, fun hr => by rw [HR.out hr]; exact ⟨rfl, rfl⟩, (put5_below hbw (Nat.le_refl _) 0 NV.zero).alloc (by simp; omega) _⟩
    · have HR : Hid (M.RsN xs → M.dirS xs t = (0, x)) := fun hr => M.dir_yes (HY.out hr) HO.out.2.1.symm
      go_wp2
      exact bodyPost_ret (v := .tuple #[NV.val ⟨fi, true, dA, dn, dc, eA, en, ec, ve⟩, .int .i64 0]) (by simp [results, Try.results29, go_sem, z0, z1, z2, z3, z4, zz]) rfl ⟨⟨fi, true, dA, dn, dc, eA, en, ec, ve⟩, x, 0, rfl, ((HO.out.put5 (by omega) 0 ⟨fi, true, dA, dn, dc, eA, en, ec, ve⟩).alloc _).mono (by omega), HS.out, fun hr => by rw [HR.out hr]; exact ⟨rfl, rfl⟩, (put5_below hbw (Nat.le_refl _) 0 ⟨fi, true, dA, dn, dc, eA, en, ec, ve⟩).alloc (by simp; omega) _⟩

theorem Cont.ver {w : World} {v : NV} {x : M.Nd} (h : Cont w v x) (ver : Int) : Cont w ⟨v.fid, v.dir, v.dA, v.dn, v.dc, v.eA, v.en, v.ec, ver⟩ (M.withV x ver) := ⟨h.1, h.2.1, rfl, h.2.2.2.1, h.2.2.2.2⟩

theorem vput_any (A : Option Addr) (n c : Nat) (vs : List NV) (xs : List M.Nd) (v : NV) (x : M.Nd) (ver : Int) (w : World) (ht : Tree w A n vs xs) (hn : (n + 1) * 72 ≤ 140737488355328) (hs : ∀ x ∈ xs, Small x) (hc : Cont w v x) (hsx : Small x) :
    Calls Try.prog 32 #[.slice A n c, v.val, .int .i64 ver] w fun e w' => ∃ (B : Option Addr) (m d : Nat) (us : List NV) (ys : List M.Nd), e = .returned (.slice B m d) ∧ m ≤ n + 1 ∧ OwnT w' w.heap.size B m d us ys ∧ Putted xs (M.withV x ver) ys ∧ Below w.heap.size w w' := by
  have HT : Hid (Tree w A n vs xs ∧ (∀ x ∈ xs, Small x) ∧ Cont w v x ∧ Small x) := ⟨ht, hs, hc, hsx⟩
  have hwa : ∀ W, W = w.alloc (.cells #[.int .i64 v.fid, .bool v.dir, .slice v.dA v.dn v.dc, .slice v.eA v.en v.ec, .int .i64 ver] 41) → Below w.heap.size w W := by
    rintro W rfl
    exact (Below.refl _ _).alloc (Nat.le_refl _) _
  have HW : Hid _ := hwa
  clear ht hs hc hsx hwa
  go_enter Try.func32, Try.ntmps32
  go_wp2_with (fail)
  have q1 := HW.out _ rfl
  refine (put_gen A n c vs xs ⟨v.fid, v.dir, v.dA, v.dn, v.dc, v.eA, v.en, v.ec, ver⟩ (M.withV x ver) _ (HT.out.1.below (Nat.le_refl _) q1) hn HT.out.2.1 (Cont.ver (HT.out.2.2.1.below (Nat.le_refl _) q1) ver) HT.out.2.2.2).mono ?_
  rintro e w1 ⟨B, m, d, us, ys, rfl, hm, ho, hp, hb1⟩
  have HR : Hid (m ≤ n + 1 ∧ OwnT w1 w.heap.size B m d us ys ∧ Putted xs (M.withV x ver) ys ∧ Below w.heap.size w w1) := ⟨hm, ho.mono (by simp), hp, q1.trans (hb1.mono (by simp))⟩
  clear hm ho hp hb1 q1 HW
  go_wp2
  go_ret
  exact ⟨B, m, d, us, ys, rfl, HR.out⟩

/-- what free answers -/
def Freed (x : M.Nd) (s : ByteArray) (r : Int) : Prop := (r = 0 → x.ents.length < 6) ∧ (M.RsE x.ents → r = M.freeS x s)
set_option maxHeartbeats 400000 in
theorem free_any (v : NV) (x : M.Nd) (s : ByteArray) (w : World) (hc : Cont w v x) (hs : Small x) (hl : s.size ≤ maxLen) :
    Calls Try.prog 30 #[v.val, .string s] w fun e w' => ∃ r : Int, e = .returned (.int .i64 r) ∧ Freed x s r ∧ Below w.heap.size w w' := by
  have HT : Hid (Cont w v x ∧ Small x ∧ s.size ≤ maxLen) := ⟨hc, hs, hl⟩
  have HW : Hid (Below w.heap.size w (w.alloc (.cells #[.int .i64 v.fid, .bool v.dir, .slice v.dA v.dn v.dc, .slice v.eA v.en v.ec, .int .i64 v.ver] 41)) ∧ Box (w.alloc (.cells #[.int .i64 v.fid, .bool v.dir, .slice v.dA v.dn v.dc, .slice v.eA v.en v.ec, .int .i64 v.ver] 41)) w.heap.size v) := ⟨(Below.refl _ _).alloc (Nat.le_refl _) _, Box.new w v⟩
  clear hc hs hl
  go_enter Try.func30, Try.ntmps30
  go_wp2_with (fail)
  refine (entry_any v x s _ (HT.out.1.below (Nat.le_refl _) HW.out.1) HT.out.2.1).mono ?_
  rintro e w1 ⟨f, b, rfl, hfb, hb1⟩
  have HF : Hid (M.RsE x.ents → b = (M.look x.ents s).isSome) := fun hr => (hfb hr).2
  have HB : Hid (Below w.heap.size w w1 ∧ Box w1 w.heap.size v) := ⟨HW.out.1.trans (hb1.mono (by simp)), HW.out.2.below hb1 (by simp)⟩
  have hen : v.en = x.ents.length := HT.out.1.2.2.2.2.1
  have HEN : Hid (v.en = x.ents.length) := hen
  clear hfb hb1 HW hen
  obtain ⟨z0, z1, z2, z3, z4, zf, zz⟩ := HB.out.2.facts
  have HR : Hid (∀ r : Int, (r = 0 → x.ents.length < 6) → (M.RsE x.ents → r = M.freeS x s) → (Freed x s r ∧ Below w.heap.size w w1)) := fun r h1 h2 => ⟨⟨h1, h2⟩, HB.out.1⟩
  have hu : ∀ (hr : M.RsE x.ents), M.freeS x s = if b || !M.nameB s.data.toList then 7 else if 6 ≤ x.ents.length then 5 else 0 := fun hr => by unfold M.freeS; rw [← HF.out hr]
  have HU : Hid _ := hu
  clear hu
  cases b
  · cases hnb : M.nameB s.data.toList
    · have HV : Hid (M.RsE x.ents → (7 : Int) = M.freeS x s) := fun hr => by rw [HU.out hr, hnb]; rfl
      go_wp2_with (go_at_call 42; refine (name_any s _ HT.out.2.2).mono ?_; rintro e w2 ⟨rfl, hw⟩; rw [hw, hnb]; clear hw)
      go_ret
      exact ⟨7, rfl, HR.out 7 (by omega) HV.out⟩
    · by_cases h6 : 6 ≤ v.en
      · have HV : Hid (M.RsE x.ents → (5 : Int) = M.freeS x s) := fun hr => by rw [HU.out hr, hnb, ← HEN.out, if_neg (by simp), if_pos h6]
        have h6' : (6 : Int) ≤ (v.en : Int) := by omega
        go_wp2_with (go_at_call 42; refine (name_any s _ HT.out.2.2).mono ?_; rintro e w2 ⟨rfl, hw⟩; rw [hw, hnb]; clear hw)
        go_ret
        exact ⟨5, rfl, HR.out 5 (by omega) HV.out⟩
      · have HV : Hid (M.RsE x.ents → (0 : Int) = M.freeS x s) := fun hr => by rw [HU.out hr, hnb, ← HEN.out, if_neg (by simp), if_neg h6]
        have h6' : ¬ (6 : Int) ≤ (v.en : Int) := by omega
        go_wp2_with (go_at_call 42; refine (name_any s _ HT.out.2.2).mono ?_; rintro e w2 ⟨rfl, hw⟩; rw [hw, hnb]; clear hw)
        go_ret
        exact ⟨0, rfl, HR.out 0 (fun _ => by rw [← HEN.out]; omega) HV.out⟩
  · have HV : Hid (M.RsE x.ents → (7 : Int) = M.freeS x s) := fun hr => by rw [HU.out hr]; rfl
    go_wp2_with (fail)
    go_ret
    exact ⟨7, rfl, HR.out 7 (by omega) HV.out⟩
end Go.Proofs.Ytkhifljgocopoad
/-
  PACKAGE acts: an act in memory; holder.
-/
namespace Go.Proofs.Ytkhifljgocopoad
open Go.RowKit

/-- an act's value -/
structure AV where
  kind : Int
  fid : Int
  dir : Int
  name : ByteArray
  to : Int
  toName : ByteArray
  dA : Option Addr
  dn : Nat
  dc : Nat
def AV.cells (a : AV) : List Value := [.int .i64 a.kind, .int .i64 a.fid, .int .i64 a.dir, .string a.name, .int .i64 a.to, .string a.toName, .slice a.dA a.dn a.dc]
@[reducible] def AV.val (a : AV) : Value := .agg #[.int .i64 a.kind, .int .i64 a.fid, .int .i64 a.dir, .string a.name, .int .i64 a.to, .string a.toName, .slice a.dA a.dn a.dc]
/-- the value a is the act x -/
def ContA (w : World) (a : AV) (x : M.Act) : Prop := a.kind = x.kind ∧ a.fid = x.fid ∧ a.dir = x.dir ∧ a.name = x.name ∧ a.to = x.to ∧ a.toName = x.toName ∧ Byts w a.dA a.dn x.data
theorem ContA.below {B : Nat} {w w' : World} {a : AV} {x : M.Act} (h : ContA w a x) (hB : w.heap.size ≤ B) (hb : Below B w w') : ContA w' a x :=
  ⟨h.1, h.2.1, h.2.2.1, h.2.2.2.1, h.2.2.2.2.1, h.2.2.2.2.2.1, h.2.2.2.2.2.2.below hB hb⟩
/-- no text of it is too long, nor its bytes -/
def SmallA (x : M.Act) : Prop := x.name.size ≤ maxLen ∧ x.toName.size ≤ maxLen ∧ x.data.length ≤ 140737488355328
def BoxA (w : World) (s : Nat) (a : AV) : Prop := w.heap[s]? = some (.cells #[.int .i64 a.kind, .int .i64 a.fid, .int .i64 a.dir, .string a.name, .int .i64 a.to, .string a.toName, .slice a.dA a.dn a.dc] 36 (0, 0))
theorem BoxA.facts {w : World} {s : Nat} {a : AV} (h : BoxA w s a) : w.cell? ⟨s, 0, none⟩ = some (.int .i64 a.kind) ∧ w.cell? ⟨s, 1, none⟩ = some (.int .i64 a.fid) ∧ w.cell? ⟨s, 2, none⟩ = some (.int .i64 a.dir) ∧ w.cell? ⟨s, 3, none⟩ = some (.string a.name) ∧
    w.cell? ⟨s, 4, none⟩ = some (.int .i64 a.to) ∧ w.cell? ⟨s, 5, none⟩ = some (.string a.toName) ∧ w.cell? ⟨s, 6, none⟩ = some (.slice a.dA a.dn a.dc) ∧ (∀ o, w.frozen? ⟨s, o, none⟩ = false) ∧ s < w.heap.size := by
  unfold BoxA at h
  refine ⟨by simp [World.cell?, h], by simp [World.cell?, h], by simp [World.cell?, h], by simp [World.cell?, h], by simp [World.cell?, h], by simp [World.cell?, h], by simp [World.cell?, h], fun o => by simp [World.frozen?, h], lt_of_block h⟩
theorem BoxA.below {w w' : World} {s B : Nat} {a : AV} (h : BoxA w s a) (hb : Below B w w') (hs : s < B) : BoxA w' s a := by
  unfold BoxA at h ⊢; rw [hb.block s hs]; exact h
theorem BoxA.alloc {w : World} {s : Nat} {a : AV} (h : BoxA w s a) (o : Obj) : BoxA (w.alloc o) s a := by
  unfold BoxA at h ⊢; rw [Below.heap_alloc w o s (lt_of_block h)]; exact h
theorem BoxA.new (w : World) (a : AV) : BoxA (w.alloc (.cells #[.int .i64 a.kind, .int .i64 a.fid, .int .i64 a.dir, .string a.name, .int .i64 a.to, .string a.toName, .slice a.dA a.dn a.dc] 36)) w.heap.size a := heap_alloc_new w _
theorem BoxA.setOther {w : World} {s : Nat} {v : AV} (h : BoxA w s v) {a : Addr} (ha : s ≠ a.block) (u : Value) : BoxA (w.setCell a u) s v := by
  unfold BoxA at h ⊢; rw [Below.heap_setCell _ _ _ _ ha]; exact h
theorem put5_boxA {w : World} {s : Nat} {v : AV} (h : BoxA w s v) {t : Nat} (ht : s ≠ t) (o : Nat) (x : NV) : BoxA (put5 w t o x) s v :=
  ((((h.setOther (by exact ht) _).setOther (by exact ht) _).setOther (by exact ht) _).setOther (by exact ht) _).setOther (by exact ht) _

theorem hold_err {xs : List M.Nd} {d : Int} {s : ByteArray} {f : Int} (h : (M.dirS xs d).1 ≠ 0) : M.holdS xs d s f = ((M.dirS xs d).1, nd0) := by unfold M.holdS; rw [if_neg h]
theorem hold_none {xs : List M.Nd} {d : Int} {s : ByteArray} {f : Int} {x : M.Nd} (h : M.dirS xs d = (0, x)) (hl : M.look x.ents s = none) : M.holdS xs d s f = (6, nd0) := by unfold M.holdS; rw [h, if_pos rfl]; simp [hl]
theorem hold_other {xs : List M.Nd} {d : Int} {s : ByteArray} {f : Int} {x : M.Nd} {e : ByteArray × Int} (h : M.dirS xs d = (0, x)) (hl : M.look x.ents s = some e) (hf : e.2 ≠ f) : M.holdS xs d s f = (13, nd0) := by unfold M.holdS; rw [h, if_pos rfl]; simp [hl, hf]
theorem hold_yes {xs : List M.Nd} {d : Int} {s : ByteArray} {f : Int} {x : M.Nd} {e : ByteArray × Int} (h : M.dirS xs d = (0, x)) (hl : M.look x.ents s = some e) (hf : e.2 = f) : M.holdS xs d s f = (0, x) := by unfold M.holdS; rw [h, if_pos rfl]; simp [hl, hf]
theorem dir_rise {xs : List M.Nd} {d : Int} {x : M.Nd} (hr : M.Rise xs) (h : M.dirS xs d = (0, x)) : M.RsE x.ents := by
  have h1 := M.dir_ok (xs := xs) (f := d) (by rw [h])
  rw [h] at h1
  exact hr.2 x (M.find_mem h1.1).1

set_option maxHeartbeats 1000000 in
theorem holder_any (A : Option Addr) (n c : Nat) (vs : List NV) (xs : List M.Nd) (a : AV) (w : World) (ht : Tree w A n vs xs) (hn : n * 72 ≤ 140737488355328) (hs : ∀ x ∈ xs, Small x) :
    Calls Try.prog 34 #[.slice A n c, a.val] w fun e w' => ∃ (v : NV) (x : M.Nd) (r : Int), e = .returned (.tuple #[v.val, .int .i64 r]) ∧ OwnN w' w.heap.size v x ∧ Small x ∧ (M.Rise xs → r = (M.holdS xs a.dir a.name a.fid).1 ∧ x = (M.holdS xs a.dir a.name a.fid).2) ∧ Below w.heap.size w w' := by
  have hwa : ∀ W, W = (w.alloc (.cells #[.int .i64 a.kind, .int .i64 a.fid, .int .i64 a.dir, .string a.name, .int .i64 a.to, .string a.toName, .slice a.dA a.dn a.dc] 36)).alloc (.cells #[.int .i64 0, .bool false, .slice none 0 0, .slice none 0 0, .int .i64 0] 41) →
      Below w.heap.size w W ∧ BoxA W w.heap.size a ∧ Box W (w.heap.size + 1) NV.zero ∧ W.heap.size = w.heap.size + 2 := by
    rintro W rfl
    refine ⟨((Below.refl _ _).alloc (Nat.le_refl _) _).alloc (by simp) _, (BoxA.new w a).alloc _, ?_, by simp⟩
    have := Box.new0 (w.alloc (.cells #[.int .i64 a.kind, .int .i64 a.fid, .int .i64 a.dir, .string a.name, .int .i64 a.to, .string a.toName, .slice a.dA a.dn a.dc] 36))
    simpa using this
  have HW : Hid _ := hwa
  clear hwa
  have HT : Hid (Tree w A n vs xs ∧ ∀ x ∈ xs, Small x) := ⟨ht, hs⟩
  clear ht hs
  go_enter Try.func34, Try.ntmps34
  go_wp2_with (fail)
  obtain ⟨q1, q2, q3, q4⟩ := HW.out _ rfl
  refine (dir_any A n c vs xs a.dir _ (HT.out.1.below (Nat.le_refl _) q1) hn HT.out.2).mono ?_
  rintro e w1 ⟨v, x, r, rfl, ho, hsx, hf, hb1⟩
  have hz1 := hb1.size
  rw [q4] at hz1
  have HB1 : Hid (Below w.heap.size w w1 ∧ BoxA w1 w.heap.size a ∧ Box w1 (w.heap.size + 1) NV.zero) := ⟨q1.trans (hb1.mono (by omega)), q2.below hb1 (by omega), q3.below hb1 (by omega)⟩
  have HO : Hid (OwnN w1 (w.heap.size + 2) v x ∧ Small x) := by rw [q4] at ho; exact ⟨ho, hsx⟩
  have HF : Hid (M.RsN xs → r = (M.dirS xs a.dir).1 ∧ x = (M.dirS xs a.dir).2) := hf
  clear q1 q2 q3 q4 hb1 ho hf hsx HW
  by_cases hr0 : r = 0
  case' neg =>
    obtain ⟨z0, z1, z2, z3, z4, zf, zz⟩ := HB1.out.2.2.facts
    have r0 : (r == 0) = false := by simp [hr0]
    have r1 : (r != 0) = true := by simp [hr0]
    have HR : Hid (M.Rise xs → M.holdS xs a.dir a.name a.fid = (r, nd0)) := fun hr => by have h := HF.out hr.1; rw [hold_err (by rw [← h.1]; exact hr0), ← h.1]
    clear hr0
    go_wp2
    exact bodyPost_ret (v := .tuple #[NV.zero.val, .int .i64 r]) (by simp [results, Try.results34, go_sem, z0, z1, z2, z3, z4, zz, NV.zero]) rfl ⟨NV.zero, nd0, r, rfl, own0 _ _, small_nd0, fun hr => by rw [HR.out hr]; exact ⟨rfl, rfl⟩, (put5_below HB1.out.1 (s := w.heap.size + 1) (by omega) 0 NV.zero).alloc (by simp; omega) _⟩
  subst hr0
  have HD : Hid (M.Rise xs → M.dirS xs a.dir = (0, x)) := fun hr => by have h := HF.out hr.1; rw [h.1, h.2]
  obtain ⟨a0, a1, a2, a3, a4, a5, a6, af, az⟩ := HB1.out.2.1.facts
  have HV1 : Hid (Box (w1.alloc (.cells #[.int .i64 v.fid, .bool v.dir, .slice v.dA v.dn v.dc, .slice v.eA v.en v.ec, .int .i64 v.ver] 41)) w1.heap.size v ∧ Below w1.heap.size w1 (w1.alloc (.cells #[.int .i64 v.fid, .bool v.dir, .slice v.dA v.dn v.dc, .slice v.eA v.en v.ec, .int .i64 v.ver] 41))) := ⟨Box.new w1 v, (Below.refl _ _).alloc (Nat.le_refl _) _⟩
  go_wp2_with (fail)
  refine (entry_any v x a.name _ (HO.out.1.cont.below (Nat.le_refl _) HV1.out.2) HO.out.2).mono ?_
  rintro e w2 ⟨f, b, rfl, hfb, hb2⟩
  have hz2 := hb2.size
  simp only [World.size_alloc] at hz2
  have hb12 := HV1.out.2.trans (hb2.mono (by simp))
  have HB2 : Hid (Below w.heap.size w w2 ∧ BoxA w2 w.heap.size a ∧ Box w2 (w.heap.size + 1) NV.zero ∧ Box w2 w1.heap.size v ∧ OwnN w2 (w.heap.size + 2) v x) := ⟨HB1.out.1.trans (hb12.mono (by omega)), HB1.out.2.1.below hb12 (by omega), HB1.out.2.2.below hb12 (by omega), HV1.out.1.below hb2 (by simp), HO.out.1.below (Nat.le_refl _) hb12⟩
  have HFB : Hid _ := hfb
  clear hb2 hb12 HV1 hfb a0 a1 a2 a3 a4 a5 a6 af
  obtain ⟨z0, z1, z2, z3, z4, zf, zz⟩ := HB2.out.2.2.1.facts
  obtain ⟨a0, a1, a2, a3, a4, a5, a6, af, az2⟩ := HB2.out.2.1.facts
  obtain ⟨y0, y1, y2, y3, y4, yf, yz⟩ := HB2.out.2.2.2.1.facts
  have HND : Hid (∀ r : Int, (M.Rise xs → M.holdS xs a.dir a.name a.fid = (r, nd0)) → ∃ (v : NV) (x : M.Nd) (r' : Int), Ending.returned (.tuple #[NV.zero.val, .int .i64 r]) = .returned (.tuple #[v.val, .int .i64 r']) ∧ OwnN (put5 w2 (w.heap.size + 1) 0 NV.zero) w.heap.size v x ∧ Small x ∧ (M.Rise xs → r' = (M.holdS xs a.dir a.name a.fid).1 ∧ x = (M.holdS xs a.dir a.name a.fid).2) ∧ Below w.heap.size w (put5 w2 (w.heap.size + 1) 0 NV.zero)) :=
    fun r hr => ⟨NV.zero, nd0, r, rfl, own0 _ _, small_nd0, fun h => by rw [hr h]; exact ⟨rfl, rfl⟩, put5_below HB2.out.1 (s := w.heap.size + 1) (by omega) 0 NV.zero⟩
  cases b
  · have HR : Hid (M.Rise xs → M.holdS xs a.dir a.name a.fid = (6, nd0)) := fun hr => by
      have h := (HFB.out (dir_rise hr (HD.out hr))).2
      cases hl : M.look x.ents a.name with
      | none => exact hold_none (HD.out hr) hl
      | some e => rw [hl] at h; cases h
    go_wp2
    exact bodyPost_ret (v := .tuple #[NV.zero.val, .int .i64 6]) (by simp [results, Try.results34, go_sem, z0, z1, z2, z3, z4, NV.zero]) rfl (HND.out 6 HR.out)
  · have HL : Hid (M.Rise xs → ∃ e, M.look x.ents a.name = some e ∧ f = e.2) := fun hr => by
      have h := HFB.out (dir_rise hr (HD.out hr))
      cases hl : M.look x.ents a.name with
      | none => rw [hl] at h; cases h.2
      | some e => rw [hl] at h; exact ⟨e, rfl, h.1⟩
    by_cases hff : f = a.fid
    · have HR : Hid (M.Rise xs → M.holdS xs a.dir a.name a.fid = (0, x)) := fun hr => by
        obtain ⟨e, h1, h2⟩ := HL.out hr
        exact hold_yes (HD.out hr) h1 (by rw [← h2]; exact hff)
      subst hff
      go_wp2
      exact bodyPost_ret (v := .tuple #[v.val, .int .i64 0]) (by simp [results, Try.results34, go_sem, z0, z1, z2, z3, z4]) rfl ⟨v, x, 0, rfl, (HB2.out.2.2.2.2.put5 (s := w.heap.size + 1) (by omega) 0 v).mono (by omega), HO.out.2, fun hr => by rw [HR.out hr]; exact ⟨rfl, rfl⟩, put5_below HB2.out.1 (s := w.heap.size + 1) (by omega) 0 v⟩
    · have HR : Hid (M.Rise xs → M.holdS xs a.dir a.name a.fid = (13, nd0)) := fun hr => by
        obtain ⟨e, h1, h2⟩ := HL.out hr
        exact hold_other (HD.out hr) h1 (by rw [← h2]; exact hff)
      have r0 : (f == a.fid) = false := by simp [hff]
      have r1 : (f != a.fid) = true := by simp [hff]
      go_wp2
      exact bodyPost_ret (v := .tuple #[NV.zero.val, .int .i64 13]) (by simp [results, Try.results34, go_sem, z0, z1, z2, z3, z4, NV.zero]) rfl (HND.out 13 HR.out)
end Go.Proofs.Ytkhifljgocopoad
/-
  PACKAGE acts: bring, store.
-/
namespace Go.Proofs.Ytkhifljgocopoad
open Go.RowKit

/-- what an act comes to: of a tree that rises, the document's answer -/
def Applied (xs : List M.Nd) (spec : Int × List M.Nd) (w : World) (e : Ending) (w' : World) : Prop :=
  ∃ (B : Option Addr) (m d : Nat) (r : Int), e = .returned (.tuple #[.slice B m d, .int .i64 r]) ∧ (M.Rise xs → r = spec.1 ∧ ∃ us, OwnT w' w.heap.size B m d us spec.2) ∧ Below w.heap.size w w'
theorem ownT_nil (w : World) (B : Nat) : OwnT w B none 0 0 [] [] := ⟨World.ownsRow_nil _ _ _ _, All2.nil⟩
theorem Applied.err {xs : List M.Nd} {spec : Int × List M.Nd} {w w' : World} {r : Int} (h : M.Rise xs → spec = (r, [])) (hb : Below w.heap.size w w') : Applied xs spec w (.returned (.tuple #[.slice none 0 0, .int .i64 r])) w' :=
  ⟨none, 0, 0, r, rfl, fun hr => by rw [h hr]; exact ⟨rfl, [], ownT_nil _ _⟩, hb⟩
theorem Applied.ok {xs ys : List M.Nd} {spec : Int × List M.Nd} {w w' : World} {B : Option Addr} {m d : Nat} {us : List NV} (h : M.Rise xs → spec = (0, ys)) (ho : OwnT w' w.heap.size B m d us ys) (hb : Below w.heap.size w w') : Applied xs spec w (.returned (.tuple #[.slice B m d, .int .i64 0])) w' :=
  ⟨B, m, d, 0, rfl, fun hr => by rw [h hr]; exact ⟨rfl, us, ho⟩, hb⟩
theorem putted_small {xs ys : List M.Nd} {x : M.Nd} (h : Putted xs x ys) (hs : ∀ x ∈ xs, Small x) (hx : Small x) : ∀ y ∈ ys, Small y := by
  intro y hy
  rcases h.1 y hy with h1 | h1
  · rw [h1]; exact hx
  · exact hs y h1
theorem boxA_start (w : World) (a : AV) : ∀ W, W = w.alloc (.cells #[.int .i64 a.kind, .int .i64 a.fid, .int .i64 a.dir, .string a.name, .int .i64 a.to, .string a.toName, .slice a.dA a.dn a.dc] 36) → Below w.heap.size w W ∧ BoxA W w.heap.size a ∧ W.heap.size = w.heap.size + 1 := by
  rintro W rfl
  exact ⟨(Below.refl _ _).alloc (Nat.le_refl _) _, BoxA.new w a, by simp⟩
theorem box_start (w : World) (v : NV) : ∀ W, W = w.alloc (.cells #[.int .i64 v.fid, .bool v.dir, .slice v.dA v.dn v.dc, .slice v.eA v.en v.ec, .int .i64 v.ver] 41) → Below w.heap.size w W ∧ Box W w.heap.size v ∧ W.heap.size = w.heap.size + 1 := by
  rintro W rfl
  exact ⟨(Below.refl _ _).alloc (Nat.le_refl _) _, Box.new w v, by simp⟩

set_option maxHeartbeats 1000000 in
theorem store_any (A : Option Addr) (n c : Nat) (vs : List NV) (xs : List M.Nd) (a : AV) (ac : M.Act) (ver : Int) (w : World) (ht : Tree w A n vs xs) (hn : (n + 1) * 72 ≤ 140737488355328) (hs : ∀ x ∈ xs, Small x) (ha : ContA w a ac) (hsa : SmallA ac) :
    Calls Try.prog 25 #[.slice A n c, a.val, .int .i64 ver] w (Applied xs (M.storeS xs ac ver) w) := by
  have HW : Hid _ := boxA_start w a
  have HT : Hid (Tree w A n vs xs ∧ (∀ x ∈ xs, Small x) ∧ ContA w a ac ∧ SmallA ac) := ⟨ht, hs, ha, hsa⟩
  clear ht hs ha hsa
  go_enter Try.func25, Try.ntmps25
  go_wp2_with (fail)
  obtain ⟨q1, q2, q3⟩ := HW.out _ rfl
  refine (find_gen A n c vs xs a.fid _ (HT.out.1.below (Nat.le_refl _) q1) (by omega) HT.out.2.1).mono ?_
  rintro e w1 ⟨v, x, b, rfl, ho, hf, hb1⟩
  have hz1 := hb1.size
  rw [q3] at hz1
  have HB1 : Hid (Below w.heap.size w w1 ∧ BoxA w1 w.heap.size a) := ⟨q1.trans (hb1.mono (by omega)), q2.below hb1 (by omega)⟩
  have HO : Hid (OwnN w1 (w.heap.size + 1) v x) := by rw [q3] at ho; exact ho
  have HF : Hid (Found xs ac.fid x b) := by rw [HT.out.2.2.1.2.1] at hf; exact hf
  clear q1 q2 q3 hb1 ho hf HW
  obtain ⟨a0, a1, a2, a3, a4, a5, a6, af, az⟩ := HB1.out.2.facts
  cases b
  · have HR : Hid (M.Rise xs → M.storeS xs ac ver = (12, [])) := fun hr => by
      have h := (HF.out.2.2 hr.1).1
      unfold M.storeS
      cases hx : M.find xs ac.fid with
      | none => rfl
      | some y => rw [hx] at h; cases h
    go_wp2
    go_ret2
    exact Applied.err HR.out (HB1.out.1.alloc (by omega) _)
  · have HY : Hid (M.Rise xs → M.find xs ac.fid = some x) := fun hr => by
      have h := HF.out.2.2 hr.1
      cases hx : M.find xs ac.fid with
      | none => rw [hx] at h; cases h.1
      | some y => rw [hx] at h; rw [h.2]; rfl
    obtain ⟨fi, di, dA, dn, dc, eA, en, ec, ve⟩ := v
    cases di
    · by_cases h20 : 20 < a.dn
      · have HR : Hid (M.Rise xs → M.storeS xs ac ver = (4, [])) := fun hr => by
          unfold M.storeS
          rw [HY.out hr]
          simp only
          rw [← HO.out.2.1, if_neg (by simp), if_pos (by rw [← HT.out.2.2.1.2.2.2.2.2.2.1]; exact h20)]
        have h20' : (20 : Int) < (a.dn : Int) := by omega
        go_wp2
        go_ret2
        exact Applied.err HR.out (HB1.out.1.alloc (by omega) _)
      · have HR : Hid (M.Rise xs → M.storeS xs ac ver = (0, M.putN xs (M.withV { x with data := ac.data } ver))) := fun hr => by
          unfold M.storeS
          rw [HY.out hr]
          simp only
          rw [← HO.out.2.1, if_neg (by simp), if_neg (by rw [← HT.out.2.2.1.2.2.2.2.2.2.1]; exact h20)]
        have h20' : ¬ (20 : Int) < (a.dn : Int) := by omega
        go_wp2_with (fail)
        obtain ⟨p1, p2, p3⟩ := box_start w1 ⟨fi, false, a.dA, a.dn, a.dc, eA, en, ec, ve⟩ _ rfl
        refine (vput_any A n c vs xs ⟨fi, false, a.dA, a.dn, a.dc, eA, en, ec, ve⟩ { x with data := ac.data } ver _ (HT.out.1.below (Nat.le_refl _) (HB1.out.1.trans (p1.mono (by omega)))) hn HT.out.2.1 ⟨HO.out.1, HO.out.2.1, HO.out.2.2.1, HT.out.2.2.1.2.2.2.2.2.2.below (Nat.le_refl _) (HB1.out.1.trans (p1.mono (by omega))), HO.out.cont.2.2.2.2.below (Nat.le_refl _) p1⟩ ⟨HT.out.2.2.2.2.2, (HF.out.small HT.out.2.1).2⟩).mono ?_
        rintro e w2 ⟨B, m, d, us, ys, rfl, hm, hot, hp, hb2⟩
        have HP : Hid (Applied xs (M.storeS xs ac ver) w (.returned (.tuple #[.slice B m d, .int .i64 0])) w2) := Applied.ok (us := us) (fun hr => by rw [HR.out hr, hp.2 hr.1]) (hot.mono (by rw [p3]; omega)) (HB1.out.1.trans ((p1.trans (hb2.mono (by rw [p3]; omega))).mono (by omega)))
        clear hm hot hp hb2 p1 p2 p3
        go_wp2
        go_ret2
        exact HP.out
    · have HR : Hid (M.Rise xs → M.storeS xs ac ver = (9, [])) := fun hr => by
        unfold M.storeS
        rw [HY.out hr]
        simp only
        rw [← HO.out.2.1, if_pos rfl]
      go_wp2
      go_ret2
      exact Applied.err HR.out (HB1.out.1.alloc (by omega) _)

/-- what bring needs, step by step -/
theorem bring_dir {xs : List M.Nd} {ac : M.Act} {v : Int} (h : (M.dirS xs ac.dir).1 ≠ 0) : M.bringS xs ac v = ((M.dirS xs ac.dir).1, []) := by unfold M.bringS; rw [if_pos h]
theorem bring_free {xs : List M.Nd} {ac : M.Act} {v : Int} (h : (M.dirS xs ac.dir).1 = 0) (h2 : M.freeS (M.dirS xs ac.dir).2 ac.name ≠ 0) : M.bringS xs ac v = (M.freeS (M.dirS xs ac.dir).2 ac.name, []) := by unfold M.bringS; rw [if_neg (by simp [h]), if_pos h2]
theorem bring_stale {xs : List M.Nd} {ac : M.Act} {v : Int} (h : (M.dirS xs ac.dir).1 = 0) (h2 : M.freeS (M.dirS xs ac.dir).2 ac.name = 0) (h3 : ac.fid = 0 ∨ (M.find xs ac.fid).isSome) : M.bringS xs ac v = (13, []) := by unfold M.bringS; rw [if_neg (by simp [h]), if_neg (by simp [h2]), if_pos h3]
theorem bring_many {xs : List M.Nd} {ac : M.Act} {v : Int} (h : (M.dirS xs ac.dir).1 = 0) (h2 : M.freeS (M.dirS xs ac.dir).2 ac.name = 0) (h3 : ¬ (ac.fid = 0 ∨ (M.find xs ac.fid).isSome)) (h4 : 24 ≤ xs.length) : M.bringS xs ac v = (5, []) := by
  unfold M.bringS; rw [if_neg (by simp [h]), if_neg (by simp [h2]), if_neg h3, if_pos h4]
theorem bring_ok {xs : List M.Nd} {ac : M.Act} {v : Int} (h : (M.dirS xs ac.dir).1 = 0) (h2 : M.freeS (M.dirS xs ac.dir).2 ac.name = 0) (h3 : ¬ (ac.fid = 0 ∨ (M.find xs ac.fid).isSome)) (h4 : ¬ 24 ≤ xs.length) :
    M.bringS xs ac v = (0, M.putN (M.putN xs (M.withV (withE (M.dirS xs ac.dir).2 (M.putE (M.dirS xs ac.dir).2.ents (ac.name, ac.fid))) v)) ⟨ac.fid, decide (ac.kind = 2), [], [], v⟩) := by
  unfold M.bringS; rw [if_neg (by simp [h]), if_neg (by simp [h2]), if_neg h3, if_neg h4]; rfl
theorem put_rise {xs : List M.Nd} {x : M.Nd} (hr : M.Rise xs) (hx : M.RsE x.ents) : M.Rise (M.putN xs x) := by
  refine ⟨M.put_rs (·.fid) xs M.ordI x hr.1, fun y hy => ?_⟩
  unfold M.putN M.put at hy
  rcases List.mem_append.1 hy with h | h
  · exact hr.2 y (List.mem_filter.1 h).1
  · rcases List.mem_cons.1 h with h | h
    · rw [h]; exact hx
    · exact hr.2 y (List.mem_filter.1 h).1

set_option maxHeartbeats 2000000 in
theorem bring_any (A : Option Addr) (n c : Nat) (vs : List NV) (xs : List M.Nd) (a : AV) (ac : M.Act) (ver : Int) (w : World) (ht : Tree w A n vs xs) (hn : (n + 1) * 72 ≤ 140737488355328) (hs : ∀ x ∈ xs, Small x) (ha : ContA w a ac) (hsa : SmallA ac) :
    Calls Try.prog 24 #[.slice A n c, a.val, .int .i64 ver] w (Applied xs (M.bringS xs ac ver) w) := by
  have HW : Hid _ := boxA_start w a
  have HT : Hid (Tree w A n vs xs ∧ (∀ x ∈ xs, Small x) ∧ ContA w a ac ∧ SmallA ac) := ⟨ht, hs, ha, hsa⟩
  have HN : Hid (n = xs.length) := by show n = _; rw [ht.1.1, ht.2.1]
  clear ht hs ha hsa
  go_enter Try.func24, Try.ntmps24
  go_wp2_with (fail)
  obtain ⟨q1, q2, q3⟩ := HW.out _ rfl
  refine (dir_any A n c vs xs a.dir _ (HT.out.1.below (Nat.le_refl _) q1) (by omega) HT.out.2.1).mono ?_
  rintro e w1 ⟨v, x, r, rfl, ho, hsx, hf, hb1⟩
  have hz1 := hb1.size
  rw [q3] at hz1
  have HB1 : Hid (Below w.heap.size w w1 ∧ BoxA w1 w.heap.size a) := ⟨q1.trans (hb1.mono (by omega)), q2.below hb1 (by omega)⟩
  have HO : Hid (OwnN w1 (w.heap.size + 1) v x ∧ Small x) := by rw [q3] at ho; exact ⟨ho, hsx⟩
  have HF : Hid (M.Rise xs → r = (M.dirS xs ac.dir).1 ∧ x = (M.dirS xs ac.dir).2) := by rw [HT.out.2.2.1.2.2.1] at hf; exact fun hr => hf hr.1
  clear q1 q2 q3 hb1 ho hf HW hsx
  by_cases hr0 : r = 0
  case' neg =>
    have r0 : (r == 0) = false := by simp [hr0]
    have r1 : (r != 0) = true := by simp [hr0]
    have HR : Hid (M.Rise xs → M.bringS xs ac ver = (r, [])) := fun hr => by have h := HF.out hr; rw [bring_dir (by rw [← h.1]; exact hr0), ← h.1]
    clear hr0
    go_wp2
    go_ret2
    exact Applied.err HR.out (HB1.out.1.alloc (by omega) _)
  subst hr0
  obtain ⟨a0, a1, a2, a3, a4, a5, a6, af, az⟩ := HB1.out.2.facts
  have HV : Hid _ := box_start w1 v
  go_wp2_with (fail)
  obtain ⟨p1, p2, p3⟩ := HV.out _ rfl
  refine (free_any v x a.name _ (HO.out.1.cont.below (Nat.le_refl _) p1) HO.out.2 (by rw [HT.out.2.2.1.2.2.2.1]; exact HT.out.2.2.2.1)).mono ?_
  rintro e w2 ⟨r, rfl, hfr, hb2⟩
  have hz2 := hb2.size
  rw [p3] at hz2
  have hb12 := p1.trans (hb2.mono (by omega))
  have HB2 : Hid (Below w.heap.size w w2 ∧ BoxA w2 w.heap.size a ∧ Box w2 w1.heap.size v ∧ OwnN w2 (w.heap.size + 1) v x) := ⟨HB1.out.1.trans (hb12.mono (by omega)), HB1.out.2.below hb12 (by omega), p2.below hb2 (by omega), HO.out.1.below (Nat.le_refl _) hb12⟩
  have HFR : Hid (Freed x ac.name r) := by rw [HT.out.2.2.1.2.2.2.1] at hfr; exact hfr
  have HXE : Hid (M.Rise xs → M.RsE x.ents) := fun hr => dir_rise hr (show M.dirS xs ac.dir = (0, x) by have h := HF.out hr; rw [h.1, h.2])
  clear p1 p2 p3 hb2 hb12 hfr a0 a1 a2 a3 a4 a5 a6 af HV
  by_cases hr0 : r = 0
  case' neg =>
    have r0 : (r == 0) = false := by simp [hr0]
    have r1 : (r != 0) = true := by simp [hr0]
    have HR : Hid (M.Rise xs → M.bringS xs ac ver = (r, [])) := fun hr => by
      have h := HF.out hr
      have h2 := HFR.out.2 (HXE.out hr)
      rw [h.2] at h2
      rw [bring_free h.1.symm (by rw [← h2]; exact hr0), ← h2]
    clear hr0
    go_wp2
    go_ret2
    exact Applied.err HR.out HB2.out.1
  subst hr0
  have HR2 : Hid (M.Rise xs → (M.dirS xs ac.dir).1 = 0 ∧ M.freeS (M.dirS xs ac.dir).2 ac.name = 0) := fun hr => by
    have h := HF.out hr
    have h2 := HFR.out.2 (HXE.out hr)
    rw [h.2] at h2
    exact ⟨h.1.symm, h2.symm⟩
  obtain ⟨a0, a1, a2, a3, a4, a5, a6, af, az2⟩ := HB2.out.2.1.facts
  obtain ⟨y0, y1, y2, y3, y4, yf, yz⟩ := HB2.out.2.2.1.facts
  by_cases hf0 : a.fid = 0
  case' pos =>
    have r0 : (a.fid == 0) = true := by simp [hf0]
    have HR : Hid (M.Rise xs → M.bringS xs ac ver = (13, [])) := fun hr => bring_stale (HR2.out hr).1 (HR2.out hr).2 (.inl (by rw [← HT.out.2.2.1.2.1]; exact hf0))
    clear hf0
    go_wp2
    go_ret2
    exact Applied.err HR.out HB2.out.1
  have r0 : (a.fid == 0) = false := by simp [hf0]
  go_wp2_with (fail)
  refine (has_any A n c vs xs a.fid _ (HT.out.1.below (Nat.le_refl _) HB2.out.1) (by omega) HT.out.2.1).mono ?_
  rintro e w3 ⟨b, rfl, hfb, hb3⟩
  have hz3 := hb3.size
  have HB3 : Hid (Below w.heap.size w w3 ∧ BoxA w3 w.heap.size a ∧ Box w3 w1.heap.size v ∧ OwnN w3 (w.heap.size + 1) v x) := ⟨HB2.out.1.trans (hb3.mono (by omega)), HB2.out.2.1.below hb3 (by omega), HB2.out.2.2.1.below hb3 (by omega), HB2.out.2.2.2.below (Nat.le_refl _) hb3⟩
  have HFB : Hid (M.Rise xs → b = (M.find xs ac.fid).isSome) := by rw [HT.out.2.2.1.2.1] at hfb; exact fun hr => hfb hr.1
  clear hb3 hfb a0 a1 a2 a3 a4 a5 a6 af y0 y1 y2 y3 y4 yf
  cases b
  case' true =>
    have HR : Hid (M.Rise xs → M.bringS xs ac ver = (13, [])) := fun hr => bring_stale (HR2.out hr).1 (HR2.out hr).2 (.inr (HFB.out hr).symm)
    go_wp2
    go_ret2
    exact Applied.err HR.out HB3.out.1
  have HST : Hid (M.Rise xs → ¬ (ac.fid = 0 ∨ (M.find xs ac.fid).isSome)) := fun hr => by
    rintro (h | h)
    · rw [← HT.out.2.2.1.2.1] at h; exact hf0 h
    · rw [← HFB.out hr] at h; cases h
  by_cases h24 : 24 ≤ n
  case' pos =>
    have HR : Hid (M.Rise xs → M.bringS xs ac ver = (5, [])) := fun hr => bring_many (HR2.out hr).1 (HR2.out hr).2 (HST.out hr) (by rw [← HN.out]; exact h24)
    have h24' : (24 : Int) ≤ (n : Int) := by omega
    go_wp2
    go_ret2
    exact Applied.err HR.out HB3.out.1
  have HOK : Hid (M.Rise xs → M.bringS xs ac ver = _) := fun hr => bring_ok (HR2.out hr).1 (HR2.out hr).2 (HST.out hr) (by rw [← HN.out]; exact h24)
  have h24' : ¬ (24 : Int) ≤ (n : Int) := by omega
  obtain ⟨a0, a1, a2, a3, a4, a5, a6, af, az3⟩ := HB3.out.2.1.facts
  obtain ⟨y0, y1, y2, y3, y4, yf, yz3⟩ := HB3.out.2.2.1.facts
  have h6 := HFR.out.1 rfl
  go_wp2_with (fail)
  refine (enter_gen v x a.name a.fid _ HB3.out.2.2.2.cont HO.out.2 (by omega)).mono ?_
  rintro e w4 ⟨v4, es, rfl, ho4, hen, hb4⟩
  have hz4 := hb4.size
  have HB4 : Hid (Below w.heap.size w w4 ∧ BoxA w4 w.heap.size a) := ⟨HB3.out.1.trans (hb4.mono (by omega)), HB3.out.2.1.below hb4 (by omega)⟩
  have HE : Hid (OwnN w4 w3.heap.size v4 (withE x es) ∧ Small (withE x es) ∧ Entered x.ents ac.name ac.fid es) := by
    refine ⟨ho4, ⟨HO.out.2.1, ?_⟩, ?_⟩
    · show es.length * 24 ≤ _
      have := hen.1
      omega
    · rw [HT.out.2.2.1.2.1, HT.out.2.2.1.2.2.2.1] at hen; exact hen
  clear ho4 hen hb4 a0 a1 a2 a3 a4 a5 a6 af y0 y1 y2 y3 y4 yf
  obtain ⟨a0, a1, a2, a3, a4, a5, a6, af, az4⟩ := HB4.out.2.facts
  go_wp2_with (fail)
  refine (vput_any A n c vs xs v4 (withE x es) ver _ (HT.out.1.below (Nat.le_refl _) HB4.out.1) hn HT.out.2.1 HE.out.1.cont HE.out.2.1).mono ?_
  rintro e w5 ⟨B5, m5, d5, us5, ys5, rfl, hm5, ho5, hp5, hb5⟩
  have hz5 := hb5.size
  have HB5 : Hid (Below w.heap.size w w5 ∧ BoxA w5 w.heap.size a) := ⟨HB4.out.1.trans (hb5.mono (by omega)), HB4.out.2.below hb5 (by omega)⟩
  have HP5 : Hid (OwnT w5 w4.heap.size B5 m5 d5 us5 ys5 ∧ Putted xs (M.withV (withE x es) ver) ys5 ∧ m5 ≤ n + 1) := ⟨ho5, hp5, hm5⟩
  clear ho5 hp5 hm5 hb5 a0 a1 a2 a3 a4 a5 a6 af
  obtain ⟨a0, a1, a2, a3, a4, a5, a6, af, az5⟩ := HB5.out.2.facts
  go_wp2_with (fail)
  refine (vput_any B5 m5 d5 us5 ys5 ⟨a.fid, a.kind == 2, none, 0, 0, none, 0, 0, 0⟩ ⟨ac.fid, decide (ac.kind = 2), [], [], 0⟩ ver _ HP5.out.1.tree (by have := HP5.out.2.2; omega) (putted_small HP5.out.2.1 HT.out.2.1 HE.out.2.1) ⟨HT.out.2.2.1.2.1, by rw [HT.out.2.2.1.1]; by_cases h : ac.kind = 2 <;> simp [h], rfl, ⟨rfl, .inl rfl⟩, ⟨rfl, .inl rfl⟩⟩ ⟨by simp, by simp⟩).mono ?_
  rintro e w6 ⟨B, m, d, us, ys, rfl, hm, hot, hp, hb6⟩
  have HP : Hid (Applied xs (M.bringS xs ac ver) w (.returned (.tuple #[.slice B m d, .int .i64 0])) w6) := Applied.ok (us := us) (fun hr => by
    rw [HOK.out hr]
    have h5 := HP5.out.2.1.2 hr.1
    have h6 := hp.2 (by rw [h5]; exact M.put_rs (·.fid) xs M.ordI _ hr.1)
    rw [h6, h5, HE.out.2.2.2 (HXE.out hr), ← (HF.out hr).2]
    rfl) (hot.mono (by omega)) (HB5.out.1.trans (hb6.mono (by omega)))
  clear hm hot hp hb6
  go_wp2
  go_ret2
  exact HP.out
end Go.Proofs.Ytkhifljgocopoad
