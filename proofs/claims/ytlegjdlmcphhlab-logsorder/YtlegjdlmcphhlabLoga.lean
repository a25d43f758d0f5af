/-
  PACKAGE logs: records in memory; naming, making, overwrites, touches, hinders, own.
-/
import Derived.Test.YtlegjdlmcphhlabMathl
import Derived.Test.YtlegjdlmcphhlabActg
namespace Go.Proofs.Ytlegjdlmcphhlab
open Go.RowKit

theorem info48 : (Try.prog.info? 48).map (fun i => (i.zero, i.size, i.bytes)) = some (some (.agg #[.int .i64 0, .int .i64 0, .int .i64 0, .string ByteArray.empty, .int .i64 0, .string ByteArray.empty, .slice none 0 0, .int .i64 0, .int .i64 0]), 9, 104) := by kernel_rfl
/-- a record's value -/
structure RV where
  a : AV
  ver : Int
  id : Int
def RV.cells (r : RV) : List Value := [.int .i64 r.a.kind, .int .i64 r.a.fid, .int .i64 r.a.dir, .string r.a.name, .int .i64 r.a.to, .string r.a.toName, .slice r.a.dA r.a.dn r.a.dc, .int .i64 r.ver, .int .i64 r.id]
@[reducible] def RV.val (r : RV) : Value := .agg #[.int .i64 r.a.kind, .int .i64 r.a.fid, .int .i64 r.a.dir, .string r.a.name, .int .i64 r.a.to, .string r.a.toName, .slice r.a.dA r.a.dn r.a.dc, .int .i64 r.ver, .int .i64 r.id]
@[reducible] def RV.obj (r : RV) : Obj := .cells #[.int .i64 r.a.kind, .int .i64 r.a.fid, .int .i64 r.a.dir, .string r.a.name, .int .i64 r.a.to, .string r.a.toName, .slice r.a.dA r.a.dn r.a.dc, .int .i64 r.ver, .int .i64 r.id] 48
@[reducible] def AV.obj (a : AV) : Obj := .cells #[.int .i64 a.kind, .int .i64 a.fid, .int .i64 a.dir, .string a.name, .int .i64 a.to, .string a.toName, .slice a.dA a.dn a.dc] 26
theorem rec_len (x : RV) : x.cells.length = 9 := rfl
theorem rec_one (x : RV) : ∀ u ∈ x.cells, u.oneCell' = true := by intro u hu; simp [RV.cells] at hu; rcases hu with rfl | rfl | rfl | rfl | rfl | rfl | rfl | rfl | rfl <;> rfl
/-- the value r is the record x -/
def ContR (w : World) (r : RV) (x : M.Rec) : Prop := ContA w r.a x.act ∧ r.ver = x.ver ∧ r.id = x.id
theorem ContR.below {B : Nat} {w w' : World} {r : RV} {x : M.Rec} (h : ContR w r x) (hB : w.heap.size ≤ B) (hb : Below B w w') : ContR w' r x := ⟨h.1.below hB hb, h.2⟩
/-- nothing of it is too long -/
def SmallR (x : M.Rec) : Prop := x.act.name.size ≤ maxLen ∧ x.act.toName.size ≤ maxLen ∧ x.act.data.length ≤ 140737488355328
def BoxR (w : World) (s : Nat) (r : RV) : Prop := w.heap[s]? = some (.cells #[.int .i64 r.a.kind, .int .i64 r.a.fid, .int .i64 r.a.dir, .string r.a.name, .int .i64 r.a.to, .string r.a.toName, .slice r.a.dA r.a.dn r.a.dc, .int .i64 r.ver, .int .i64 r.id] 48 (0, 0))
theorem BoxR.facts {w : World} {s : Nat} {r : RV} (h : BoxR w s r) : w.cell? ⟨s, 0, none⟩ = some (.int .i64 r.a.kind) ∧ w.cell? ⟨s, 1, none⟩ = some (.int .i64 r.a.fid) ∧ w.cell? ⟨s, 2, none⟩ = some (.int .i64 r.a.dir) ∧ w.cell? ⟨s, 3, none⟩ = some (.string r.a.name) ∧
    w.cell? ⟨s, 4, none⟩ = some (.int .i64 r.a.to) ∧ w.cell? ⟨s, 5, none⟩ = some (.string r.a.toName) ∧ w.cell? ⟨s, 6, none⟩ = some (.slice r.a.dA r.a.dn r.a.dc) ∧ w.cell? ⟨s, 7, none⟩ = some (.int .i64 r.ver) ∧ w.cell? ⟨s, 8, none⟩ = some (.int .i64 r.id) ∧ (∀ o, w.frozen? ⟨s, o, none⟩ = false) ∧ s < w.heap.size := by
  unfold BoxR at h
  refine ⟨by simp [World.cell?, h], by simp [World.cell?, h], by simp [World.cell?, h], by simp [World.cell?, h], by simp [World.cell?, h], by simp [World.cell?, h], by simp [World.cell?, h], by simp [World.cell?, h], by simp [World.cell?, h], fun o => by simp [World.frozen?, h], lt_of_block h⟩
theorem BoxR.below {w w' : World} {s B : Nat} {r : RV} (h : BoxR w s r) (hb : Below B w w') (hs : s < B) : BoxR w' s r := by
  unfold BoxR at h ⊢; rw [hb.block s hs]; exact h
theorem BoxR.alloc {w : World} {s : Nat} {r : RV} (h : BoxR w s r) (o : Obj) : BoxR (w.alloc o) s r := by
  unfold BoxR at h ⊢; rw [Below.heap_alloc w o s (lt_of_block h)]; exact h
theorem BoxR.new (w : World) (r : RV) : BoxR (w.alloc r.obj) w.heap.size r := heap_alloc_new w _
abbrev Recs := Row 9 RV.cells
theorem Recs.at {w : World} {A : Option Addr} {n : Nat} {vs : List RV} (h : Recs w A n vs) {j : Nat} (hj : j < n) :
    ∃ b o v, A = some ⟨b, o, none⟩ ∧ b < w.heap.size ∧ vs[j]? = some v ∧ w.cell? ⟨b, o + j * 9, none⟩ = some (.int .i64 v.a.kind) ∧ w.cell? ⟨b, o + j * 9 + 1, none⟩ = some (.int .i64 v.a.fid) ∧
      w.cell? ⟨b, o + j * 9 + 2, none⟩ = some (.int .i64 v.a.dir) ∧ w.cell? ⟨b, o + j * 9 + 3, none⟩ = some (.string v.a.name) ∧ w.cell? ⟨b, o + j * 9 + 4, none⟩ = some (.int .i64 v.a.to) ∧ w.cell? ⟨b, o + j * 9 + 5, none⟩ = some (.string v.a.toName) ∧ w.cell? ⟨b, o + j * 9 + 6, none⟩ = some (.slice v.a.dA v.a.dn v.a.dc) ∧ w.cell? ⟨b, o + j * 9 + 7, none⟩ = some (.int .i64 v.ver) ∧ w.cell? ⟨b, o + j * 9 + 8, none⟩ = some (.int .i64 v.id) := by
  obtain ⟨b, o, v, e, hlt, hv, hc⟩ := Row.at h hj
  exact ⟨b, o, v, e, hlt, hv, hc 0 _ rfl, hc 1 _ rfl, hc 2 _ rfl, hc 3 _ rfl, hc 4 _ rfl, hc 5 _ rfl, hc 6 _ rfl, hc 7 _ rfl, hc 8 _ rfl⟩
/-- a log that came in; a log of one's own -/
def TreeR (w : World) (A : Option Addr) (n : Nat) (vs : List RV) (xs : List M.Rec) : Prop := Recs w A n vs ∧ All2 (ContR w) vs xs
theorem TreeR.below {B : Nat} {w w' : World} {A : Option Addr} {n : Nat} {vs : List RV} {xs : List M.Rec} (h : TreeR w A n vs xs) (hB : w.heap.size ≤ B) (hb : Below B w w') : TreeR w' A n vs xs :=
  ⟨h.1.below hB hb, h.2.imp fun _ _ h => h.below hB hb⟩
theorem TreeR.len {w : World} {A : Option Addr} {n : Nat} {vs : List RV} {xs : List M.Rec} (h : TreeR w A n vs xs) : n = xs.length := by rw [h.1.1, h.2.1]
theorem OwnA.below {B C : Nat} {w w' : World} {v : AV} {x : M.Act} (h : OwnA w B v x) (hC : w.heap.size ≤ C) (hb : Below C w w') : OwnA w' B v x :=
  ⟨h.1, h.2.1, h.2.2.1, h.2.2.2.1, h.2.2.2.2.1, h.2.2.2.2.2.1, own_below h.2.2.2.2.2.2 hb hC⟩
theorem OwnA.mono {B B' : Nat} {w : World} {v : AV} {x : M.Act} (h : OwnA w B v x) (hB : B' ≤ B) : OwnA w B' v x :=
  ⟨h.1, h.2.1, h.2.2.1, h.2.2.2.1, h.2.2.2.2.1, h.2.2.2.2.2.1, own_mono h.2.2.2.2.2.2 hB⟩
theorem OwnA.grown {w w' : World} {B B' : Nat} {v : AV} {x : M.Act} {e' : TypeId} {k' : Nat} {v' : Value} {n' : Nat} {xs' : List Value} (h : OwnA w B v x) (h' : w.ownsRow B' e' k' v' n' xs') (hne : 5 ≠ e') (hg : w.grownBy w' v'.ownBlock) : OwnA w' B v x :=
  ⟨h.1, h.2.1, h.2.2.1, h.2.2.2.1, h.2.2.2.2.1, h.2.2.2.2.2.1, own_grown h.2.2.2.2.2.2 h' hne hg⟩
def OwnR (w : World) (B : Nat) (r : RV) (x : M.Rec) : Prop := OwnA w B r.a x.act ∧ r.ver = x.ver ∧ r.id = x.id
theorem OwnR.cont {w : World} {B : Nat} {r : RV} {x : M.Rec} (h : OwnR w B r x) : ContR w r x := ⟨h.1.cont, h.2⟩
theorem OwnR.below {B C : Nat} {w w' : World} {v : RV} {x : M.Rec} (h : OwnR w B v x) (hC : w.heap.size ≤ C) (hb : Below C w w') : OwnR w' B v x := ⟨h.1.below hC hb, h.2⟩
theorem OwnR.mono {B B' : Nat} {w : World} {v : RV} {x : M.Rec} (h : OwnR w B v x) (hB : B' ≤ B) : OwnR w B' v x := ⟨h.1.mono hB, h.2⟩
def OwnL (w : World) (B : Nat) (A : Option Addr) (n c : Nat) (vs : List RV) (xs : List M.Rec) : Prop := w.ownsRow B 48 9 (.slice A n c) n (vs.flatMap RV.cells) ∧ All2 (OwnR w B) vs xs
theorem OwnL.tree {w : World} {B : Nat} {A : Option Addr} {n c : Nat} {vs : List RV} {xs : List M.Rec} (h : OwnL w B A n c vs xs) : TreeR w A n vs xs :=
  ⟨Row.ofOwn rec_len (by decide) h.1, h.2.imp fun _ _ h => h.cont⟩
theorem OwnL.below {B C : Nat} {w w' : World} {A : Option Addr} {n c : Nat} {vs : List RV} {xs : List M.Rec} (h : OwnL w B A n c vs xs) (hC : w.heap.size ≤ C) (hb : Below C w w') : OwnL w' B A n c vs xs :=
  ⟨own_below h.1 hb hC, h.2.imp fun _ _ h => h.below hC hb⟩
theorem OwnL.mono {B B' : Nat} {w : World} {A : Option Addr} {n c : Nat} {vs : List RV} {xs : List M.Rec} (h : OwnL w B A n c vs xs) (hB : B' ≤ B) : OwnL w B' A n c vs xs :=
  ⟨own_mono h.1 hB, h.2.imp fun _ _ h => h.mono hB⟩
theorem OwnL.nil (w : World) (B : Nat) : OwnL w B none 0 0 [] [] := ⟨World.ownsRow_nil _ _ _ _, All2.nil⟩
/-- one more is behind -/
theorem OwnL.snoc {w w' : World} {B : Nat} {A : Option Addr} {n c : Nat} {A' : Option Addr} {n' c' : Nat} {vs : List RV} {xs : List M.Rec} {r : RV} {x : M.Rec} (h : OwnL w B A n c vs xs) (hr : OwnR w B r x) (ho : w'.ownsRow B 48 9 (.slice A' n' c') n' (vs.flatMap RV.cells ++ r.cells)) (hg : w.grownBy w' (Value.slice A n c).ownBlock) : OwnL w' B A' n' c' (vs ++ [r]) (xs ++ [x]) := by
  refine ⟨?_, All2.append (h.2.imp fun _ _ k => ⟨k.1.grown h.1 (by decide) hg, k.2⟩) (All2.one ⟨hr.1.grown h.1 (by decide) hg, hr.2⟩)⟩
  rw [List.flatMap_append]
  simpa using ho

theorem fm_ints : ∀ fs : List Int, (fs.flatMap fun f : Int => [Value.int .i64 f]) = fs.map fun f => Value.int .i64 f
  | [] => rfl
  | f :: fs => by rw [List.flatMap_cons, fm_ints fs]; rfl
/-- slices.Index, of numbers -/
theorem index_any (A : Option Addr) (n c : Nat) (fs : List Int) (t : Int) (w : World) (B : Nat) (hv : w.ownsRow B 3 1 (.slice A n c) n (fs.map fun f => Value.int .i64 f)) (hn : n ≤ 140737488355328) :
    Calls Try.prog 88 #[.slice A n c, .int .i64 t] w fun e w' => ∃ r : Int, e = .returned (.int .i64 r) ∧ (0 ≤ r ↔ t ∈ fs) ∧ w' = w := by
  have hrow : Row 1 (fun f : Int => [Value.int .i64 f]) w A n fs := by
    refine Row.ofOwn (B := B) (e := 3) (c := c) (fun _ => rfl) (by decide) ?_
    rw [fm_ints]; exact hv
  go_enter Try.func88, Try.ntmps88
  go_wp2
  go_loopw [8] (fun i wr => ∃ k : Nat, k ≤ n ∧ i = .int .i64 k ∧ (∀ x ∈ fs.take k, x ≠ t) ∧ wr = w) (fun i _ => n - (intOf i).toNat)
  case atStart => exact ⟨0, Nat.zero_le _, rfl, by simp, rfl⟩
  case round =>
    obtain ⟨k, hk, rfl, hno, hwr⟩ := hrel
    subst hwr
    have HN : Hid (∀ x ∈ fs.take k, x ≠ t) := hno
    clear hno
    by_cases hlt : k < n
    · obtain ⟨g, o, x, hA, _, hvk, hc⟩ := Row.at hrow hlt
      have c0 := hc 0 _ rfl
      simp only [Nat.mul_one, Nat.add_zero] at c0
      have HX : Hid (fs[k]? = some x) := hvk
      subst hA
      clear hvk hc hrow
      by_cases hd : t = x
      · subst hd
        go_wp2
        go_ret
        exact ⟨k, rfl, ⟨fun _ => List.mem_of_getElem? HX.out, fun _ => by omega⟩, rfl⟩
      · go_wp2
        go_roundw
        case rel => exact ⟨k + 1, by omega, by go_num, fun y hy => by
          rw [take_step HX.out] at hy
          rcases List.mem_append.1 hy with h | h
          · exact HN.out y h
          · rw [List.mem_singleton.1 h]; exact fun e => hd e.symm, by first | rfl | trivial⟩
        case measure => simp [intOf]; omega
    · have HL : Hid (fs.take k = fs) := by show _ = _; exact List.take_of_length_le (by rw [← hrow.1]; omega)
      clear hrow
      go_wp2
      go_ret
      exact ⟨-1, rfl, ⟨fun h => by omega, fun h => absurd rfl (HN.out t (by rw [HL.out]; exact h))⟩, rfl⟩
theorem contains_any (A : Option Addr) (n c : Nat) (fs : List Int) (t : Int) (w : World) (B : Nat) (hv : w.ownsRow B 3 1 (.slice A n c) n (fs.map fun f => Value.int .i64 f)) (hn : n ≤ 140737488355328) :
    Calls Try.prog 72 #[.slice A n c, .int .i64 t] w fun e w' => e = .returned (.bool (decide (t ∈ fs))) ∧ w' = w := by
  have HV : Hid (w.ownsRow B 3 1 (.slice A n c) n (fs.map fun f => Value.int .i64 f)) := hv
  clear hv
  go_enter Try.func72, Try.ntmps72
  go_wp2_with (fail)
  refine (index_any A n c fs t w B HV.out hn).mono ?_
  rintro e w1 ⟨r, rfl, hr, hw⟩
  subst hw
  by_cases h0 : 0 ≤ r
  · have HR : Hid (decide (t ∈ fs) = true) := decide_eq_true (hr.1 h0)
    clear hr
    go_wp2
    go_ret
    exact ⟨ret_bool HR.out.symm, rfl⟩
  · have HR : Hid (decide (t ∈ fs) = false) := decide_eq_false (fun h => h0 (hr.2 h))
    clear hr
    go_wp2
    go_ret
    exact ⟨ret_bool (by rw [HR.out]; exact decide_eq_false (by omega)), rfl⟩
theorem naming_any (a : AV) (x : M.Act) (t : Int) (w : World) (ha : ContA w a x) :
    Calls Try.prog 40 #[a.val, .int .i64 t] w fun e w' => e = .returned (.bool (M.nameFB x t)) ∧ Below w.heap.size w w' := by
  have HW : Hid _ := boxA_start w a
  have HA : Hid (ContA w a x) := ha
  clear ha
  go_enter Try.func40, Try.ntmps40
  go_wp2_with (fail)
  obtain ⟨q1, q2, q3⟩ := HW.out _ rfl
  refine (fids_any a x _ (HA.out.below (Nat.le_refl _) q1)).mono ?_
  rintro e w1 ⟨A, c, rfl, ho, hb1⟩
  have HB : Hid (Below w.heap.size w w1) := q1.trans (hb1.mono (by rw [q3]; omega))
  have HO : Hid _ := ho
  have hl : (M.fidsS x).length ≤ 3 := by unfold M.fidsS; split <;> split <;> simp
  generalize hn : (M.fidsS x).length = n at *
  clear q1 q2 q3 hb1 ho HW
  go_wp2_with (fail)
  refine (contains_any A n c (M.fidsS x) t w1 _ HO.out (by omega)).mono ?_
  rintro e w2 ⟨rfl, hw⟩
  subst hw
  go_wp2
  go_ret
  exact ⟨rfl, HB.out⟩
theorem making_any (a : AV) (w : World) : Calls Try.prog 68 #[a.val] w fun e w' => e = .returned (.bool (decide (a.kind = 1) || decide (a.kind = 2))) ∧ Below w.heap.size w w' := by
  have HW : Hid (Below w.heap.size w (w.alloc a.obj)) := (Below.refl _ _).alloc (Nat.le_refl _) _
  by_cases h1 : a.kind = 1
  · have k1 : (a.kind == 1) = true := by simp [h1]
    have HR : Hid ((decide (a.kind = 1) || decide (a.kind = 2)) = true) := by show _ = _; simp [h1]
    clear h1
    go_enter Try.func68, Try.ntmps68
    go_wp2
    go_ret
    exact ⟨ret_bool HR.out.symm, HW.out⟩
  · have k1 : (a.kind == 1) = false := by simp [h1]
    by_cases h2 : a.kind = 2
    · have k2 : (a.kind == 2) = true := by simp [h2]
      have HR : Hid ((decide (a.kind = 1) || decide (a.kind = 2)) = true) := by show _ = _; simp [h2]
      clear h1 h2
      go_enter Try.func68, Try.ntmps68
      go_wp2
      go_ret
      exact ⟨ret_bool HR.out.symm, HW.out⟩
    · have k2 : (a.kind == 2) = false := by simp [h2]
      have HR : Hid ((decide (a.kind = 1) || decide (a.kind = 2)) = false) := by show _ = _; simp [h1, h2]
      clear h1 h2
      go_enter Try.func68, Try.ntmps68
      go_wp2
      go_ret
      exact ⟨ret_bool HR.out.symm, HW.out⟩
theorem two_boxesA' (w : World) (a b : AV) (W : World) (hW : W = (w.alloc (.cells #[.int .i64 a.kind, .int .i64 a.fid, .int .i64 a.dir, .string a.name, .int .i64 a.to, .string a.toName, .slice a.dA a.dn a.dc] 26)).alloc (.cells #[.int .i64 b.kind, .int .i64 b.fid, .int .i64 b.dir, .string b.name, .int .i64 b.to, .string b.toName, .slice b.dA b.dn b.dc] 26)) : Below w.heap.size w W ∧ BoxA W w.heap.size a ∧ BoxA W (w.heap.size + 1) b ∧ W.heap.size = w.heap.size + 2 := by
  subst hW
  refine ⟨((Below.refl _ _).alloc (Nat.le_refl _) _).alloc (by simp) _, (BoxA.new w a).alloc _, ?_, by simp⟩
  have := BoxA.new (w.alloc (.cells #[.int .i64 a.kind, .int .i64 a.fid, .int .i64 a.dir, .string a.name, .int .i64 a.to, .string a.toName, .slice a.dA a.dn a.dc] 26)) b
  simpa using this
theorem overwrites_any (a b : AV) (w : World) : Calls Try.prog 42 #[a.val, b.val] w fun e w' => e = .returned (.bool (decide (a.kind = 3) && decide (b.kind = 3) && decide (a.fid = b.fid))) ∧ Below w.heap.size w w' := by
  have HW : Hid _ := two_boxesA' w a b
  by_cases h1 : a.kind = 3
  · have k1 : (a.kind == 3) = true := by simp [h1]
    by_cases h2 : b.kind = 3
    · have k2 : (b.kind == 3) = true := by simp [h2]
      by_cases h3 : a.fid = b.fid
      · have k3 : (a.fid == b.fid) = true := by simp [h3]
        have HR : Hid ((decide (a.kind = 3) && decide (b.kind = 3) && decide (a.fid = b.fid)) = true) := by show _ = _; simp [h1, h2, h3]
        clear h1 h2 h3
        go_enter Try.func42, Try.ntmps42
        go_wp2
        go_ret
        exact ⟨ret_bool HR.out.symm, (HW.out _ rfl).1⟩
      · have k3 : (a.fid == b.fid) = false := by simp [h3]
        have HR : Hid ((decide (a.kind = 3) && decide (b.kind = 3) && decide (a.fid = b.fid)) = false) := by show _ = _; simp [h3]
        clear h1 h2 h3
        go_enter Try.func42, Try.ntmps42
        go_wp2
        go_ret
        exact ⟨ret_bool HR.out.symm, (HW.out _ rfl).1⟩
    · have k2 : (b.kind == 3) = false := by simp [h2]
      have HR : Hid ((decide (a.kind = 3) && decide (b.kind = 3) && decide (a.fid = b.fid)) = false) := by show _ = _; simp [h2]
      clear h1 h2
      go_enter Try.func42, Try.ntmps42
      go_wp2
      go_ret
      exact ⟨ret_bool HR.out.symm, (HW.out _ rfl).1⟩
  · have k1 : (a.kind == 3) = false := by simp [h1]
    have HR : Hid ((decide (a.kind = 3) && decide (b.kind = 3) && decide (a.fid = b.fid)) = false) := by show _ = _; simp [h1]
    clear h1
    go_enter Try.func42, Try.ntmps42
    go_wp2
    go_ret
    exact ⟨ret_bool HR.out.symm, (HW.out _ rfl).1⟩
end Go.Proofs.Ytlegjdlmcphhlab
