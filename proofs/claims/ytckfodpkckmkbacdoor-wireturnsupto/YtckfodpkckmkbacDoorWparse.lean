/-
  PACKAGE wire: the closures of Parse.
-/
import Derived.Test.YtckfodpkckmkbacDoorWprinta
namespace Go.Proofs.YtckfodpkckmkbacDoor
open Go.RowKit

abbrev fCheck (w0 : World) : Value := .func (.func 27) #[] #[.pointer (some ⟨w0.heap.size + 4, 0, none⟩)]
abbrev fNext (w0 : World) : Value := .func (.func 28) #[] #[.pointer (some ⟨w0.heap.size + 3, 0, none⟩), .pointer (some ⟨w0.heap.size + 6, 0, none⟩)]
/-- WHAT LIES IN MEMORY WHILE A LINE IS READ: the result's cell, the words, the record, what is still to be read, whether all was so written, whether all names were names, and the closures that check and go on -/
structure PaW (w0 w : World) (xs : List ByteArray) (cs : Array Value) (D : Value) (d : List UInt8) (p : M.PS) : Prop where
  below : Below w0.heap.size w0 w
  res : BoxR w w0.heap.size ⟨AV.zero, 0, 0⟩
  wd : w.heap[w0.heap.size + 1]? = some (.cells (xs.map Value.string).toArray 9 (0, 0))
  bx : w.heap[w0.heap.size + 2]? = some (.cells cs 37 (0, 0))
  rs : ∃ k o, (k ≤ xs.length ∧ (k < xs.length → o = k)) ∧ p.rest = xs.drop k ∧ w.heap[w0.heap.size + 3]? = some (.cells #[.slice (some ⟨w0.heap.size + 1, o, none⟩) (xs.length - k) (xs.length - k)] 52 (0, 0))
  fm : w.heap[w0.heap.size + 4]? = some (.cells #[.bool p.ok] 4 (0, 0))
  nb : w.heap[w0.heap.size + 5]? = some (.cells #[.bool p.named] 4 (0, 0))
  ck : w.heap[w0.heap.size + 6]? = some (.cells #[fCheck w0] 67 (0, 0))
  nx : w.heap[w0.heap.size + 7]? = some (.cells #[fNext w0] 47 (0, 0))
  dt : ∃ n, w.ownsRow w0.heap.size 5 1 D n (d.flatMap byteCells1)
theorem PaW.more {w0 w w' : World} {xs : List ByteArray} {cs : Array Value} {D : Value} {d : List UInt8} {p : M.PS} (h : PaW w0 w xs cs D d p) (hb : Below w.heap.size w w') : PaW w0 w' xs cs D d p := by
  have k : ∀ {i : Nat} {o : Obj}, w.heap[i]? = some o → w'.heap[i]? = some o := fun {i o} e => by rw [hb.block _ (lt_of_block e)]; exact e
  obtain ⟨j, jo, j1, j2, j3⟩ := h.rs
  obtain ⟨n, hn⟩ := h.dt
  exact ⟨h.below.trans (hb.mono h.below.size), k h.res, k h.wd, k h.bx, ⟨j, jo, j1, j2, k j3⟩, k h.fm, k h.nb, k h.ck, k h.nx, ⟨n, own_below hn hb (Nat.le_refl _)⟩⟩
theorem PaW.drew {w0 w : World} {xs : List ByteArray} {cs : Array Value} {D : Value} {d : List UInt8} {p : M.PS} (h : PaW w0 w xs cs D d p) : PaW w0 w.drew xs cs D d p := h.more (Below.refl _ _).drew
/-- the mark of what is so written is set -/
theorem PaW.mark {w0 w : World} {xs : List ByteArray} {cs : Array Value} {D : Value} {d : List UInt8} {p : M.PS} (h : PaW w0 w xs cs D d p) (b : Bool) : PaW w0 (w.setCell ⟨w0.heap.size + 4, 0, none⟩ (.bool b)) xs cs D d ⟨p.rest, b, p.named⟩ := by
  have k : ∀ {i : Nat} {o : Obj}, w.heap[w0.heap.size + i]? = some o → i ≠ 4 → (w.setCell ⟨w0.heap.size + 4, 0, none⟩ (.bool b)).heap[w0.heap.size + i]? = some o := fun {i o} e hi => set_other e (by show _ ≠ w0.heap.size + 4; omega) _
  obtain ⟨j, jo, j1, j2, j3⟩ := h.rs
  obtain ⟨n, hn⟩ := h.dt
  exact ⟨h.below.setCell (by show _ ≤ w0.heap.size + 4; omega) _, k (i := 0) h.res (by decide), k h.wd (by decide), k h.bx (by decide), ⟨j, jo, j1, j2, k j3 (by decide)⟩, set_block h.fm _, k h.nb (by decide), k h.ck (by decide), k h.nx (by decide), ⟨n, ownsRow_setCell_other hn (own_ne hn h.fm (by decide)) _⟩⟩
/-- the mark of names is set -/
theorem PaW.name {w0 w : World} {xs : List ByteArray} {cs : Array Value} {D : Value} {d : List UInt8} {p : M.PS} (h : PaW w0 w xs cs D d p) (b : Bool) : PaW w0 (w.setCell ⟨w0.heap.size + 5, 0, none⟩ (.bool b)) xs cs D d ⟨p.rest, p.ok, b⟩ := by
  have k : ∀ {i : Nat} {o : Obj}, w.heap[w0.heap.size + i]? = some o → i ≠ 5 → (w.setCell ⟨w0.heap.size + 5, 0, none⟩ (.bool b)).heap[w0.heap.size + i]? = some o := fun {i o} e hi => set_other e (by show _ ≠ w0.heap.size + 5; omega) _
  obtain ⟨j, jo, j1, j2, j3⟩ := h.rs
  obtain ⟨n, hn⟩ := h.dt
  exact ⟨h.below.setCell (by show _ ≤ w0.heap.size + 5; omega) _, k (i := 0) h.res (by decide), k h.wd (by decide), k h.bx (by decide), ⟨j, jo, j1, j2, k j3 (by decide)⟩, k h.fm (by decide), set_block h.nb _, k h.ck (by decide), k h.nx (by decide), ⟨n, ownsRow_setCell_other hn (own_ne hn h.nb (by decide)) _⟩⟩
/-- a field is set -/
theorem PaW.field {w0 w : World} {xs : List ByteArray} {cs : Array Value} {D D' : Value} {d d' : List UInt8} {p : M.PS} (h : PaW w0 w xs cs D d p) (o : Nat) (v : Value) (hd : ∃ n, w.ownsRow w0.heap.size 5 1 D' n (d'.flatMap byteCells1)) : PaW w0 (w.setCell ⟨w0.heap.size + 2, o, none⟩ v) xs (cs.setIfInBounds o v) D' d' p := by
  have k : ∀ {i : Nat} {u : Obj}, w.heap[w0.heap.size + i]? = some u → i ≠ 2 → (w.setCell ⟨w0.heap.size + 2, o, none⟩ v).heap[w0.heap.size + i]? = some u := fun {i u} e hi => set_other e (by show _ ≠ w0.heap.size + 2; omega) _
  obtain ⟨j, jo, j1, j2, j3⟩ := h.rs
  obtain ⟨n, hn⟩ := hd
  exact ⟨h.below.setCell (by show _ ≤ w0.heap.size + 2; omega) _, k (i := 0) h.res (by decide), k h.wd (by decide), heap_setCell_same w _ _ _ _ _ h.bx, ⟨j, jo, j1, j2, k j3 (by decide)⟩, k h.fm (by decide), k h.nb (by decide), k h.ck (by decide), k h.nx (by decide), ⟨n, ownsRow_setCell_other hn (own_ne hn h.bx (by decide)) _⟩⟩
/-- a word is read -/
theorem PaW.step {w0 w : World} {xs : List ByteArray} {cs : Array Value} {D : Value} {d : List UInt8} {p : M.PS} (h : PaW w0 w xs cs D d p) {k o m : Nat} (hk : k < xs.length) (hp : p.rest = xs.drop k) (ho : k + 1 < xs.length → o = k + 1) (hm : m = xs.length - k - 1) : PaW w0 (w.setCell ⟨w0.heap.size + 3, 0, none⟩ (.slice (some ⟨w0.heap.size + 1, o, none⟩) m m)) xs cs D d p.past := by
  subst hm
  obtain ⟨v, hv⟩ : ∃ v, v = Value.slice (some ⟨w0.heap.size + 1, o, none⟩) (xs.length - k - 1) (xs.length - k - 1) := ⟨_, rfl⟩
  have k' : ∀ {i : Nat} {u : Obj}, w.heap[w0.heap.size + i]? = some u → i ≠ 3 → (w.setCell ⟨w0.heap.size + 3, 0, none⟩ v).heap[w0.heap.size + i]? = some u := fun {i u} e hi => set_other e (by show _ ≠ w0.heap.size + 3; omega) _
  obtain ⟨j, jo, j1, j2, j3⟩ := h.rs
  obtain ⟨n, hn⟩ := h.dt
  have hne : p.rest.isEmpty = false := by rw [hp, List.isEmpty_eq_false_iff, ne_eq, List.drop_eq_nil_iff]; omega
  have e1 : p.past = ⟨xs.drop (k + 1), p.ok, p.named⟩ := by
    unfold M.PS.past
    rw [hne, hp, List.tail_drop]; simp
  rw [← hv, e1]
  exact ⟨h.below.setCell (by show _ ≤ w0.heap.size + 3; omega) _, k' (i := 0) h.res (by decide), k' h.wd (by decide), k' h.bx (by decide), ⟨k + 1, o, ⟨hk, ho⟩, rfl, by rw [set_block j3, hv, Nat.sub_sub]⟩, k' h.fm (by decide), k' h.nb (by decide), k' h.ck (by decide), k' h.nx (by decide), ⟨n, ownsRow_setCell_other hn (own_ne hn j3 (by decide)) _⟩⟩
theorem PaW.cell {w0 w : World} {xs : List ByteArray} {cs : Array Value} {D : Value} {d : List UInt8} {p : M.PS} (h : PaW w0 w xs cs D d p) {o : Nat} {u : Value} (ho : cs[o]? = some u) : w.cell? ⟨w0.heap.size + 2, o, none⟩ = some u ∧ w.frozen? ⟨w0.heap.size + 2, o, none⟩ = false := by
  have := h.bx
  exact ⟨by simp [World.cell?, this, ho], by simp [World.frozen?, this]⟩
set_option maxRecDepth 8000 in
set_option maxHeartbeats 1000000 in
theorem check_any (w0 w : World) (xs : List ByteArray) (cs : Array Value) (D : Value) (d : List UInt8) (p : M.PS) (b : Bool) (h : PaW w0 w xs cs D d p) :
    Calls Tryd.prog 27 #[.bool b, .pointer (some ⟨w0.heap.size + 4, 0, none⟩)] w fun e w' => e = .returned (.tuple #[]) ∧ PaW w0 w' xs cs D d ⟨p.rest, p.ok && b, p.named⟩ := by
  obtain ⟨c4, f4, z4⟩ := cell_of h.fm
  have HP : Hid (PaW w0 w xs cs D d p) := h
  clear h
  cases ho : p.ok
  · rw [ho] at c4
    clear ho
    go_enter Tryd.func27, Tryd.ntmps27
    go_wp2_with (fail)
    go_end0
    exact ⟨rfl, HP.out.mark false⟩
  · rw [ho] at c4
    clear ho
    go_enter Tryd.func27, Tryd.ntmps27
    go_wp2_with (fail)
    go_end0
    exact ⟨rfl, HP.out.mark b⟩
theorem ret_s {a b : ByteArray} {w0 w : World} {xs : List ByteArray} {cs : Array Value} {D : Value} {d : List UInt8} {p : M.PS} (h : a = b) (hp : PaW w0 w xs cs D d p) : Ending.returned (.string a) = .returned (.string b) ∧ PaW w0 w xs cs D d p := ⟨by rw [h], hp⟩
set_option maxRecDepth 8000 in
set_option maxHeartbeats 1000000 in
theorem next_any (w0 w : World) (xs : List ByteArray) (cs : Array Value) (D : Value) (d : List UInt8) (p : M.PS) (h : PaW w0 w xs cs D d p) (_hl : xs.length ≤ 4294967296) :
    Calls Tryd.prog 28 #[.pointer (some ⟨w0.heap.size + 3, 0, none⟩), .pointer (some ⟨w0.heap.size + 6, 0, none⟩)] w fun e w' => e = .returned (.string p.word) ∧ PaW w0 w' xs cs D d p.past := by
  obtain ⟨k, o, ⟨k1, ko⟩, k2, k3⟩ := h.rs
  obtain ⟨c3, f3, z3⟩ := cell_of k3
  obtain ⟨c6, f6, z6⟩ := cell_of h.ck
  have HP : Hid (PaW w0 w xs cs D d p) := h
  by_cases hk : k < xs.length
  · have ek : o = k := ko hk
    subst ek
    clear ko
    have hx : xs[o]? = some xs[o] := List.getElem?_eq_getElem hk
    have cw : w.cell? ⟨w0.heap.size + 1, o, none⟩ = some (.string xs[o]) := by
      have := h.wd
      simp [World.cell?, this, hx]
    have HW : Hid (p.word = xs[o]) := by
      show _ = _
      unfold M.PS.word
      rw [k2, List.headD_eq_head?_getD, List.head?_drop, hx]; rfl
    have HS : Hid (p.rest = xs.drop o) := k2
    have hz : ((xs.length - o : Nat) : Int) ≠ 0 := by omega
    have hz2 : (((xs.length - o : Nat) : Int) == 0) = false := by rw [beq_eq_false_iff_ne]; exact hz
    have hz3 : 0 < xs.length - o := by omega
    clear h k2 k3 hx
    go_enter Tryd.func28, Tryd.ntmps28
    go_wp2_with (fail)
    · go_ret
      exact ret_s HW.out.symm (HP.out.step hk HS.out (by omega) (by omega))
    · go_ret
      exact ret_s HW.out.symm (HP.out.step hk HS.out (fun _ => rfl) rfl)
  · have HE : Hid (p.rest = []) := by show _ = _; rw [k2, List.drop_eq_nil_iff]; omega
    have hz : xs.length - k = 0 := by omega
    rw [hz] at c3
    clear h k2 k3 hz
    have HF : Hid (p.past = ⟨p.rest, p.ok && false, p.named⟩ ∧ p.word = ⟨#[]⟩) := by
      refine ⟨?_, ?_⟩
      · unfold M.PS.past; rw [HE.out]; rfl
      · unfold M.PS.word; rw [HE.out]; rfl
    go_enter Tryd.func28, Tryd.ntmps28
    go_wp2_with (go_at_call 27; refine (check_any w0 _ xs cs D d p false HP.out).mono ?_; rintro e w1 ⟨rfl, hp⟩)
    go_ret
    exact ret_s HF.out.2.symm (by rw [HF.out.1]; exact hp)
theorem PaW.word_le {w0 w : World} {xs : List ByteArray} {cs : Array Value} {D : Value} {d : List UInt8} {p : M.PS} (h : PaW w0 w xs cs D d p) {N : Nat} (hx : ∀ x ∈ xs, x.size ≤ N) : p.word.size ≤ N := by
  obtain ⟨k, _, _, k2, _⟩ := h.rs
  unfold M.PS.word
  rw [k2]
  cases e : xs.drop k with
  | nil => exact Nat.zero_le _
  | cons a l => exact hx a (List.mem_of_mem_drop (by rw [e]; simp))
theorem PaW.env {w0 w : World} {xs : List ByteArray} {cs : Array Value} {D : Value} {d : List UInt8} {p : M.PS} (h : PaW w0 w xs cs D d p) (he : Env w0) : Env w := he.below he.g h.below
/-- what holds of all words -/
structure PaIn (w0 : World) (xs : List ByteArray) : Prop where
  env : Env w0
  len : xs.length ≤ 4294967296
  sz : ∀ x ∈ xs, x.size ≤ 4294967296
set_option maxRecDepth 8000 in
set_option maxHeartbeats 1000000 in
theorem getNum_any (w0 w : World) (xs : List ByteArray) (cs : Array Value) (D : Value) (d : List UInt8) (p : M.PS) (o : Nat) (u : Value) (h : PaW w0 w xs cs D d p) (hi : PaIn w0 xs) (ho : cs[o]? = some u) :
    Calls Tryd.prog 29 #[.pointer (some ⟨w0.heap.size + 2, o, none⟩), .pointer (some ⟨w0.heap.size + 7, 0, none⟩), .pointer (some ⟨w0.heap.size + 6, 0, none⟩)] w fun e w' => e = .returned (.tuple #[]) ∧ PaW w0 w' xs (cs.setIfInBounds o (.int .i64 p.int)) D d p.num := by
  obtain ⟨c7, f7, z7⟩ := cell_of h.nx
  have HP : Hid (PaW w0 w xs cs D d p) := h
  have HI : Hid (PaIn w0 xs) := hi
  clear h hi
  go_enter Tryd.func29, Tryd.ntmps29
  go_wp2_with (fail)
  refine (next_any w0 _ xs cs D d p HP.out HI.out.len).mono ?_
  rintro e w1 ⟨rfl, hp1⟩
  have HP1 : Hid (PaW w0 w1 xs cs D d p.past) := hp1
  clear hp1 c7 f7 z7
  go_wp2_with (fail)
  refine (readNumber_any p.word _ (HP1.out.env HI.out.env) (by have := HP.out.word_le HI.out.sz; omega)).mono ?_
  rintro e w2 ⟨rfl, hb2⟩
  have HP2 : Hid (PaW w0 w2 xs cs D d p.past) := HP1.out.more hb2
  clear hb2 HP1
  obtain ⟨c6, f6, z6⟩ := cell_of HP2.out.ck
  obtain ⟨co, fo⟩ := HP2.out.cell ho
  have HP3 : Hid (PaW w0 (w2.setCell ⟨w0.heap.size + 2, o, none⟩ (.int .i64 ((M.numS p.word).getD 0))) xs (cs.setIfInBounds o (.int .i64 p.int)) D d p.past) := HP2.out.field o _ HP2.out.dt
  clear HP2 HP
  go_wp2_with (fail)
  refine (check_any w0 _ xs _ D d p.past _ HP3.out).mono ?_
  rintro e w4 ⟨rfl, hp4⟩
  go_wp2_with (fail)
  go_end0
  exact ⟨rfl, hp4⟩
set_option maxRecDepth 8000 in
set_option maxHeartbeats 1000000 in
theorem getData_any (w0 w : World) (xs : List ByteArray) (cs : Array Value) (D : Value) (d : List UInt8) (p : M.PS) (o : Nat) (u : Value) (h : PaW w0 w xs cs D d p) (hi : PaIn w0 xs) (ho : cs[o]? = some u) :
    Calls Tryd.prog 32 #[.pointer (some ⟨w0.heap.size + 2, o, none⟩), .pointer (some ⟨w0.heap.size + 7, 0, none⟩), .pointer (some ⟨w0.heap.size + 6, 0, none⟩)] w fun e w' => ∃ A n c, e = .returned (.tuple #[]) ∧ PaW w0 w' xs (cs.setIfInBounds o (.slice A n c)) (.slice A n c) p.bytes p.dat := by
  obtain ⟨c7, f7, z7⟩ := cell_of h.nx
  have HP : Hid (PaW w0 w xs cs D d p) := h
  have HI : Hid (PaIn w0 xs) := hi
  clear h hi
  go_enter Tryd.func32, Tryd.ntmps32
  go_wp2_with (fail)
  refine (next_any w0 _ xs cs D d p HP.out HI.out.len).mono ?_
  rintro e w1 ⟨rfl, hp1⟩
  have HP1 : Hid (PaW w0 w1 xs cs D d p.past) := hp1
  clear hp1 c7 f7 z7
  go_wp2_with (fail)
  refine (readData_any p.word _ (by have := HP.out.word_le HI.out.sz; omega)).mono ?_
  rintro e w2 ⟨A, n, c, rfl, ow2, hb2⟩
  have HO : Hid (w2.ownsRow w0.heap.size 5 1 (.slice A n c) n (p.bytes.flatMap byteCells1)) := own_mono ow2 HP1.out.below.size
  have HP2 : Hid (PaW w0 w2 xs cs D d p.past) := HP1.out.more hb2
  clear hb2 HP1 ow2
  obtain ⟨c6, f6, z6⟩ := cell_of HP2.out.ck
  obtain ⟨co, fo⟩ := HP2.out.cell ho
  have HP3 : Hid (PaW w0 (w2.setCell ⟨w0.heap.size + 2, o, none⟩ (.slice A n c)) xs (cs.setIfInBounds o (.slice A n c)) (.slice A n c) p.bytes p.past) := HP2.out.field o _ ⟨n, HO.out⟩
  clear HP2 HP HO
  go_wp2_with (fail)
  refine (check_any w0 _ xs _ _ _ p.past _ HP3.out).mono ?_
  rintro e w4 ⟨rfl, hp4⟩
  go_wp2_with (fail)
  go_end0
  exact ⟨A, n, c, rfl, hp4⟩
theorem getName_end {w0 w : World} {xs : List ByteArray} {cs : Array Value} {D : Value} {d : List UInt8} {p : M.PS} {b : Bool} (h : PaW w0 w xs cs D d ⟨p.past.rest, p.past.ok, b⟩) (hb : b = (p.past.named && M.nameB p.word.data.toList)) : Ending.returned (.tuple #[]) = .returned (.tuple #[]) ∧ PaW w0 w xs cs D d p.nam := by
  subst hb; exact ⟨rfl, h⟩
set_option maxRecDepth 8000 in
set_option maxHeartbeats 1000000 in
theorem getName_any (w0 w : World) (xs : List ByteArray) (cs : Array Value) (D : Value) (d : List UInt8) (p : M.PS) (o : Nat) (u : Value) (h : PaW w0 w xs cs D d p) (hi : PaIn w0 xs) (ho : cs[o]? = some u) :
    Calls Tryd.prog 31 #[.pointer (some ⟨w0.heap.size + 2, o, none⟩), .pointer (some ⟨w0.heap.size + 7, 0, none⟩), .pointer (some ⟨w0.heap.size + 5, 0, none⟩)] w fun e w' => e = .returned (.tuple #[]) ∧ PaW w0 w' xs (cs.setIfInBounds o (.string p.word)) D d p.nam := by
  obtain ⟨c7, f7, z7⟩ := cell_of h.nx
  have HP : Hid (PaW w0 w xs cs D d p) := h
  have HI : Hid (PaIn w0 xs) := hi
  clear h hi
  go_enter Tryd.func31, Tryd.ntmps31
  go_wp2_with (fail)
  refine (next_any w0 _ xs cs D d p HP.out HI.out.len).mono ?_
  rintro e w1 ⟨rfl, hp1⟩
  have HS : Hid (p.word.size ≤ maxLen) := by have := HP.out.word_le HI.out.sz; show _ ≤ _; unfold maxLen; omega
  have HP1 : Hid (PaW w0 w1 xs cs D d p.past) := hp1
  clear hp1 c7 f7 z7 HP
  obtain ⟨c5, f5, z5⟩ := cell_of HP1.out.nb
  obtain ⟨co, fo⟩ := HP1.out.cell ho
  have HP2 : Hid (PaW w0 (w1.setCell ⟨w0.heap.size + 2, o, none⟩ (.string p.word)) xs (cs.setIfInBounds o (.string p.word)) D d p.past) := HP1.out.field o _ HP1.out.dt
  clear HP1
  have z2 : w0.heap.size + 2 < w1.heap.size := by omega
  have cw : (w1.setCell ⟨w0.heap.size + 2, o, none⟩ (.string p.word)).cell? ⟨w0.heap.size + 2, o, none⟩ = some (.string p.word) := by
    refine (HP2.out.cell (u := .string p.word) ?_).1
    rw [Array.getElem?_setIfInBounds_self, if_pos]
    by_cases hlt : o < cs.size
    · exact hlt
    · rw [Array.getElem?_eq_none (by omega)] at ho; cases ho
  cases hn : p.past.named
  · rw [hn] at c5
    have HN : Hid (p.past.named = false) := hn
    clear hn
    go_wp2_with (fail)
    go_end0
    exact getName_end (HP2.out.name false) (by rw [HN.out]; rfl)
  · rw [hn] at c5
    have HN : Hid (p.past.named = true) := hn
    clear hn
    go_wp2_with (go_at_call 21; refine (name_any p.word _ HS.out).mono ?_; rintro e w2 ⟨rfl, hw⟩; rw [hw]; clear hw)
    go_end0
    exact getName_end (HP2.out.name _) (by rw [HN.out]; rfl)
end Go.Proofs.YtckfodpkckmkbacDoor
