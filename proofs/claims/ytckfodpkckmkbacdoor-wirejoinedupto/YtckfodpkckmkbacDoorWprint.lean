/-
  PACKAGE wire: Print, and its closures.
-/
import Derived.Test.YtckfodpkckmkbacDoorWdatb
namespace Go.Proofs.YtckfodpkckmkbacDoor
open Go.RowKit

theorem info9 : (Tryd.prog.info? 9).map (fun i => (i.zero, i.size, i.bytes)) = some (some (.string ⟨#[]⟩), 1, 16) := by kernel_rfl
/-- WHAT LIES IN MEMORY WHILE A LINE IS PRINTED: the record, the words so far, whether all names were names, and the closure that puts a word -/
structure PrW (w0 w : World) (r : RV) (ls : List ByteArray) (nm : Bool) : Prop where
  below : Below w0.heap.size w0 w
  bx : BoxR w w0.heap.size r
  ln : ∃ A n c, w.heap[w0.heap.size + 2]? = some (.cells #[.slice A n c] 52 (0, 0)) ∧ w.ownsRow w0.heap.size 9 1 (.slice A n c) n (ls.flatMap strCells)
  nb : w.heap[w0.heap.size + 3]? = some (.cells #[.bool nm] 4 (0, 0))
  fn : w.heap[w0.heap.size + 4]? = some (.cells #[.func (.func 16) #[] #[.pointer (some ⟨w0.heap.size + 2, 0, none⟩)]] 53 (0, 0))
theorem cell_of {w : World} {b : Nat} {v : Value} {t : TypeId} (h : w.heap[b]? = some (.cells #[v] t (0, 0))) : w.cell? ⟨b, 0, none⟩ = some v ∧ w.frozen? ⟨b, 0, none⟩ = false ∧ b < w.heap.size := by
  refine ⟨by simp [World.cell?, h], by simp [World.frozen?, h], lt_of_block h⟩
/-- all stays if new memory is made alone -/
theorem PrW.more {w0 w w' : World} {r : RV} {ls : List ByteArray} {nm : Bool} (h : PrW w0 w r ls nm) (hb : Below w.heap.size w w') : PrW w0 w' r ls nm := by
  obtain ⟨A, n, c, h1, h2⟩ := h.ln
  have hz := h.below.size
  refine ⟨h.below.trans (hb.mono hz), h.bx.below hb (lt_of_block h.bx), ⟨A, n, c, ?_, own_below h2 hb (Nat.le_refl _)⟩, ?_, ?_⟩
  · rw [hb.block _ (lt_of_block h1)]; exact h1
  · rw [hb.block _ (lt_of_block h.nb)]; exact h.nb
  · rw [hb.block _ (lt_of_block h.fn)]; exact h.fn
theorem own_ne {w : World} {B : Nat} {e t : TypeId} {k n b : Nat} {v : Value} {L : List Value} {cs : Array Value} {fz : Nat × Nat} (h : w.ownsRow B e k v n L) (hb : w.heap[b]? = some (.cells cs t fz)) (hne : t ≠ e) : v.ownBlock ≠ some b := by
  rcases h.2 with ⟨rfl, _⟩ | ⟨g, cap, cur, rfl, _, hg, _⟩
  · simp [Value.ownBlock]
  · simp only [Value.ownBlock, ne_eq, Option.some.injEq]
    rintro rfl
    rw [hg] at hb
    simp at hb
    exact hne hb.2.1.symm
theorem keep_block {w w' : World} {B : Nat} {e t : TypeId} {k n b : Nat} {v : Value} {L : List Value} {cs : Array Value} {fz : Nat × Nat} (h : w.ownsRow B e k v n L) (hg : w.grownBy w' v.ownBlock) (hb : w.heap[b]? = some (.cells cs t fz)) (hne : t ≠ e) : w'.heap[b]? = some (.cells cs t fz) := by
  rw [hg.block b (lt_of_block hb) (fun e => own_ne h hb hne e.symm)]; exact hb
theorem set_block {w : World} {b : Nat} {v : Value} {t : TypeId} (h : w.heap[b]? = some (.cells #[v] t (0, 0))) (u : Value) : (w.setCell ⟨b, 0, none⟩ u).heap[b]? = some (.cells #[u] t (0, 0)) := by
  rw [heap_setCell_same w b 0 _ t _ h]; rfl
theorem set_other {w : World} {b : Nat} {o : Option Obj} {a : Addr} (h : w.heap[b]? = o) (ha : b ≠ a.block) (u : Value) : (w.setCell a u).heap[b]? = o := by
  rw [Below.heap_setCell _ _ _ _ ha]; exact h
/-- a word more -/
theorem PrW.snoc {w0 W w4 : World} {r : RV} {ls : List ByteArray} {nm : Bool} {A A4 : Option Addr} {n c c4 : Nat} {s : ByteArray} (h : PrW w0 W r ls nm) (hc : W.cell? ⟨w0.heap.size + 2, 0, none⟩ = some (.slice A n c))
    (ho : W.ownsRow w0.heap.size 9 1 (.slice A n c) n (ls.flatMap strCells)) (hg : W.grownBy w4 (Value.slice A n c).ownBlock) (ho4 : w4.ownsRow w0.heap.size 9 1 (.slice A4 (n + 1) c4) (n + 1) (ls.flatMap strCells ++ [s].flatMap strCells)) :
    w4.cell? ⟨w0.heap.size + 2, 0, none⟩ = some (.slice A n c) ∧ w4.frozen? ⟨w0.heap.size + 2, 0, none⟩ = false ∧ PrW w0 (w4.setCell ⟨w0.heap.size + 2, 0, none⟩ (.slice A4 (n + 1) c4)) r (ls ++ [s]) nm := by
  obtain ⟨A', n', c', h1, _⟩ := h.ln
  have k2 := keep_block ho hg h1 (by decide)
  have k0 : BoxR w4 w0.heap.size r := keep_block ho hg h.bx (by decide)
  have k3 := keep_block ho hg h.nb (by decide)
  have k4 := keep_block ho hg h.fn (by decide)
  have hb4 : Below w0.heap.size w0 w4 := snoc_b h.below h.below.size ho hg
  have e : (Value.slice A' n' c') = .slice A n c := by
    have := (cell_of h1).1
    rw [hc] at this
    exact (Option.some.inj this).symm
  refine ⟨by rw [(cell_of k2).1, e], (cell_of k2).2.1, ⟨hb4.setCell (by show _ ≤ w0.heap.size + 2; omega) _, ?_, ⟨A4, n + 1, c4, set_block k2 _, ?_⟩, set_other k3 (by show _ ≠ w0.heap.size + 2; omega) _, set_other k4 (by show _ ≠ w0.heap.size + 2; omega) _⟩⟩
  · unfold BoxR; exact set_other k0 (by show _ ≠ w0.heap.size + 2; omega) _
  · rw [List.flatMap_append]
    exact ownsRow_setCell_other ho4 (own_ne ho4 k2 (by decide)) _
set_option maxRecDepth 8000 in
set_option maxHeartbeats 1000000 in
theorem put_any (w0 w : World) (r : RV) (ls : List ByteArray) (nm : Bool) (s : ByteArray) (h : PrW w0 w r ls nm) (hl : ls.length ≤ 100) :
    Calls Tryd.prog 16 #[.string s, .pointer (some ⟨w0.heap.size + 2, 0, none⟩)] w fun e w' => e = .returned (.tuple #[]) ∧ PrW w0 w' r (ls ++ [s]) nm := by
  obtain ⟨i9, hi9, hz9, hs9, hb9⟩ := info_parts info9
  obtain ⟨A, n, c, h1, h2⟩ := h.ln
  obtain ⟨c1, f1, z1⟩ := cell_of h1
  have hn := own_len str_len (by decide) h2
  have hnl : n ≤ 100 := by omega
  have HP : Hid (PrW w0 w r ls nm ∧ w.ownsRow w0.heap.size 9 1 (.slice A n c) n (ls.flatMap strCells)) := ⟨h, h2⟩
  clear h h1 h2 hn
  go_enter Tryd.func16, Tryd.ntmps16
  have HW : Hid (Below w.heap.size w (w.alloc (.cells #[.string s] 9))) := (Below.refl _ _).alloc (Nat.le_refl _) _
  have HC : Hid ((w.alloc (.cells #[.string s] 9)).cell? ⟨w0.heap.size + 2, 0, none⟩ = some (.slice A n c)) := by
    show _ = _
    rw [HW.out.cell (p := ⟨w0.heap.size + 2, 0, none⟩) z1]; exact c1
  go_wp2_with (at_builtin; refine wpList_append_row _ (by rfl) (.tmp 3) (.tmp 5) 52 (by rfl) w0.heap.size 9 i9 (.string ⟨#[]⟩) 16 Tryd.underlying52 hi9 hz9 hs9 hb9 rfl (by decide) _ n _ (by rfl) (own_below HP.out.2 HW.out (Nat.le_refl _)) (some ⟨w.heap.size, 0, none⟩) 1 1 [s] (by rfl) (row_new1 w _ 9 strCells s rfl) str_len str_one (by unfold maxLen; omega) (by omega) (by have := HP.out.1.below.size; simp; omega) ?_; intro v4 w4 hown4 hg4; obtain ⟨A4, c4, rfl, _, _⟩ := own_form hown4; obtain ⟨q1, q2, q3⟩ := PrW.snoc (HP.out.1.more HW.out) HC.out (own_below HP.out.2 HW.out (Nat.le_refl _)) hg4 hown4; have HR : Hid (PrW w0 (w4.setCell ⟨w0.heap.size + 2, 0, none⟩ (.slice A4 (n + 1) c4)) r (ls ++ [s]) nm) := q3; clear hown4 hg4 q3)
  go_end0
  exact ⟨rfl, HR.out⟩
abbrev fPut (w0 : World) : Value := .func (.func 16) #[] #[.pointer (some ⟨w0.heap.size + 2, 0, none⟩)]
set_option maxRecDepth 8000 in
set_option maxHeartbeats 1000000 in
theorem putNum_any (w0 w : World) (r : RV) (ls : List ByteArray) (nm : Bool) (o : Nat) (n : Int) (h : PrW w0 w r ls nm) (hl : ls.length ≤ 100) (he : Env w) (hc : w.cell? ⟨w0.heap.size, o, none⟩ = some (.int .i64 n)) (hf : M.Fit n) :
    Calls Tryd.prog 18 #[.pointer (some ⟨w0.heap.size, o, none⟩), .pointer (some ⟨w0.heap.size + 4, 0, none⟩)] w fun e w' => e = .returned (.tuple #[]) ∧ PrW w0 w' r (ls ++ [M.itB n]) nm := by
  obtain ⟨c4, f4, z4⟩ := cell_of h.fn
  have HP : Hid (PrW w0 w r ls nm ∧ Env w) := ⟨h, he⟩
  clear h he
  go_enter Tryd.func18, Tryd.ntmps18
  go_wp2_with (fail)
  go_region_with (first
    | (go_at_call 19; refine (itoa_any n hf _ (HP.out.2.below HP.out.2.g (Below.refl _ w).drew)).mono ?_; rintro e w1 ⟨rfl, hb1⟩; have hb1 : Below w.heap.size w w1 := (Below.refl _ w).drew.trans hb1; have c4' := hb1.cell (p := ⟨w0.heap.size + 4, 0, none⟩) z4; rw [c4] at c4'; have HP1 : Hid (PrW w0 w1 r ls nm) := HP.out.1.more hb1; clear hb1)
    | (go_at_call 16; refine (put_any w0 _ r ls nm _ (HP1.out.more (by first | exact Below.refl _ _ | exact (Below.refl _ _).drew)) hl).mono ?_; rintro e w2 ⟨rfl, hp2⟩))
  all_goals
    go_end0
    exact ⟨rfl, hp2⟩
theorem PrW.name {w0 w : World} {r : RV} {ls : List ByteArray} {nm : Bool} (h : PrW w0 w r ls nm) (b : Bool) : PrW w0 (w.setCell ⟨w0.heap.size + 3, 0, none⟩ (.bool b)) r ls b := by
  obtain ⟨A, n, c, h1, h2⟩ := h.ln
  refine ⟨h.below.setCell (by show _ ≤ w0.heap.size + 3; omega) _, ?_, ⟨A, n, c, set_other h1 (by show _ ≠ w0.heap.size + 3; omega) _, ?_⟩, set_block h.nb _, set_other h.fn (by show _ ≠ w0.heap.size + 3; omega) _⟩
  · unfold BoxR; exact set_other h.bx (by show _ ≠ w0.heap.size + 3; omega) _
  · exact ownsRow_setCell_other h2 (own_ne h2 h.nb (by decide)) _
set_option maxRecDepth 8000 in
set_option maxHeartbeats 1000000 in
theorem putName_any (w0 w : World) (r : RV) (ls : List ByteArray) (nm : Bool) (o : Nat) (s : ByteArray) (h : PrW w0 w r ls nm) (hl : ls.length ≤ 100) (hc : w.cell? ⟨w0.heap.size, o, none⟩ = some (.string s)) (hs : s.size ≤ maxLen) :
    Calls Tryd.prog 20 #[.pointer (some ⟨w0.heap.size, o, none⟩), .pointer (some ⟨w0.heap.size + 3, 0, none⟩), .pointer (some ⟨w0.heap.size + 4, 0, none⟩)] w fun e w' => e = .returned (.tuple #[]) ∧ PrW w0 w' r (ls ++ [s]) (nm && M.nameB s.data.toList) := by
  obtain ⟨c4, f4, z4⟩ := cell_of h.fn
  obtain ⟨c3, f3, z3⟩ := cell_of h.nb
  have HP : Hid (PrW w0 w r ls nm) := h
  clear h
  obtain ⟨b, hb⟩ : ∃ b, (nm && M.nameB s.data.toList) = b := ⟨_, rfl⟩
  have HN : Hid (PrW w0 (w.setCell ⟨w0.heap.size + 3, 0, none⟩ (.bool b)) r ls b) := HP.out.name b
  have HB : Hid ((nm && M.nameB s.data.toList) = b) := hb
  cases nm
  · have hb' : b = false := by rw [← hb]; rfl
    clear hb
    subst hb'
    go_enter Tryd.func20, Tryd.ntmps20
    go_wp2_with (fail)
    go_region_with (go_at_call 16; refine (put_any w0 _ r ls false _ (HN.out.more (by first | exact Below.refl _ _ | exact (Below.refl _ _).drew)) hl).mono ?_; rintro e w2 ⟨rfl, hp2⟩)
    all_goals
      go_end0
      exact ⟨rfl, hp2⟩
  · have hb' : M.nameB s.data.toList = b := by rw [← hb]; rfl
    clear hb
    go_enter Tryd.func20, Tryd.ntmps20
    go_wp2_with (go_at_call 21; refine (name_any s _ hs).mono ?_; rintro e w1 ⟨rfl, hw⟩; rw [hw, hb']; clear hw)
    go_region_with (go_at_call 16; refine (put_any w0 _ r ls b _ (HN.out.more (by first | exact Below.refl _ _ | exact (Below.refl _ _).drew)) hl).mono ?_; rintro e w2 ⟨rfl, hp2⟩)
    all_goals
      go_end0
      exact ⟨rfl, by rw [HB.out]; exact hp2⟩
set_option maxRecDepth 8000 in
set_option maxHeartbeats 1000000 in
theorem putData_any (w0 w : World) (r : RV) (ls : List ByteArray) (nm : Bool) (o : Nat) (A : Option Addr) (n c : Nat) (d : List UInt8) (h : PrW w0 w r ls nm) (hl : ls.length ≤ 100) (hc : w.cell? ⟨w0.heap.size, o, none⟩ = some (.slice A n c)) (hd : Byts w0 A n d) (hdl : d.length ≤ 17592186044416) :
    Calls Tryd.prog 22 #[.pointer (some ⟨w0.heap.size, o, none⟩), .pointer (some ⟨w0.heap.size + 4, 0, none⟩)] w fun e w' => e = .returned (.tuple #[]) ∧ PrW w0 w' r (ls ++ [M.datB d]) nm := by
  obtain ⟨c4, f4, z4⟩ := cell_of h.fn
  have HP : Hid (PrW w0 w r ls nm ∧ Byts w A n d) := ⟨h, hd.below (Nat.le_refl _) h.below⟩
  clear h hd
  go_enter Tryd.func22, Tryd.ntmps22
  go_wp2_with (fail)
  go_region_with (first
    | (go_at_call 23; refine (writeData_any A n c d _ (HP.out.2.below (Nat.le_refl _) (Below.refl _ w).drew) hdl).mono ?_; rintro e w1 ⟨rfl, hb1⟩; have hb1 : Below w.heap.size w w1 := (Below.refl _ w).drew.trans hb1; have c4' := hb1.cell (p := ⟨w0.heap.size + 4, 0, none⟩) z4; rw [c4] at c4'; have HP1 : Hid (PrW w0 w1 r ls nm) := HP.out.1.more hb1; clear hb1)
    | (go_at_call 16; refine (put_any w0 _ r ls nm _ (HP1.out.more (by first | exact Below.refl _ _ | exact (Below.refl _ _).drew)) hl).mono ?_; rintro e w2 ⟨rfl, hp2⟩))
  all_goals
    go_end0
    exact ⟨rfl, hp2⟩
end Go.Proofs.YtckfodpkckmkbacDoor
