/-
  THE REFERENCE's Add.
-/
import Derived.Test.YtlegjdlmcphhlabPart10
import Derived.Deep.CutRange
import Derived.Deep.CutBlock
namespace Go.Proofs.Ytlegjdlmcphhlab
open Go.RowKit

/-- a list of these fids -/
def IsF (fs : List Int) : Value → World → Prop := fun v W => ∃ (A : Option Addr) (n c B : Nat), v = .slice A n c ∧ W.ownsRow B 3 1 (.slice A n c) n (fs.map fun f => Value.int .i64 f)
theorem isF_below {fs : List Int} {v : Value} {W W' : World} (hb : Below W.heap.size W W') (h : IsF fs v W) : IsF fs v W' := by
  obtain ⟨A, n, c, B, e, ho⟩ := h
  exact ⟨A, n, c, B, e, own_below ho hb (Nat.le_refl _)⟩
theorem fids_small {W : World} {A : Option Addr} {n c B : Nat} {x : M.Act} (h : W.ownsRow B 3 1 (.slice A n c) n ((M.fidsS x).map fun f => Value.int .i64 f)) : n ≤ 140737488355328 := by
  have h1 := h.1
  have h2 : (M.fidsS x).length ≤ 3 := by unfold M.fidsS; split <;> (try split) <;> simp
  rw [List.length_map] at h1
  omega
/-- a log of one's own, whose records' bytes are others' -/
def ShareL (w0 w : World) (B : Nat) (A : Option Addr) (n c : Nat) (vs : List RV) (xs : List M.Rec) : Prop := w.ownsRow B 48 9 (.slice A n c) n (vs.flatMap RV.cells) ∧ All2 (ContR w0) vs xs
theorem ShareL.len {w0 w : World} {B : Nat} {A : Option Addr} {n c : Nat} {vs : List RV} {xs : List M.Rec} (h : ShareL w0 w B A n c vs xs) : n = xs.length := by rw [own_len rec_len (by decide) h.1, h.2.1]
theorem ShareL.below {w0 w w' : World} {B C : Nat} {A : Option Addr} {n c : Nat} {vs : List RV} {xs : List M.Rec} (h : ShareL w0 w B A n c vs xs) (hb : Below C w w') (hC : w.heap.size ≤ C) : ShareL w0 w' B A n c vs xs := ⟨own_below h.1 hb hC, h.2⟩
theorem ShareL.nil (w0 w : World) (B : Nat) : ShareL w0 w B none 0 0 [] [] := ⟨World.ownsRow_nil _ _ _ _, All2.nil⟩
theorem ShareL.tree {w0 w : World} {B : Nat} {A : Option Addr} {n c : Nat} {vs : List RV} {xs : List M.Rec} (h : ShareL w0 w B A n c vs xs) (hb : Below w0.heap.size w0 w) : TreeR w A n vs xs :=
  ⟨Row.ofOwn rec_len (by decide) h.1, h.2.imp fun _ _ k => k.below (Nat.le_refl _) hb⟩
theorem ShareL.snoc {w0 w' : World} {B : Nat} {A' : Option Addr} {n' c' : Nat} {vs : List RV} {xs : List M.Rec} {r : RV} {x : M.Rec} (h : All2 (ContR w0) vs xs) (hr : ContR w0 r x) (ho : w'.ownsRow B 48 9 (.slice A' n' c') n' (vs.flatMap RV.cells ++ r.cells)) : ShareL w0 w' B A' n' c' (vs ++ [r]) (xs ++ [x]) := by
  refine ⟨?_, All2.append h (All2.one hr)⟩
  rw [List.flatMap_append]
  simpa using ho
theorem own_grown_below {w0 W w2 : World} {B : Nat} {A : Option Addr} {m c : Nat} {L : List Value} (hb : Below B w0 W) (hB : B ≤ W.heap.size) (ho : W.ownsRow B 48 9 (.slice A m c) m L) (hg : W.grownBy w2 (Value.slice A m c).ownBlock) : Below B w0 w2 :=
  Below.grown hb hg hB (fun k hk => by
    rcases ho.2 with ⟨e, _⟩ | ⟨g, cap, cur, e, h1, _⟩
    · cases e; cases hk
    · cases e; cases hk; exact h1)
/-- a record in a box, and its act in another -/
theorem recact_start (w : World) (r : RV) : ∀ W, W = (w.alloc (.cells #[.int .i64 r.a.kind, .int .i64 r.a.fid, .int .i64 r.a.dir, .string r.a.name, .int .i64 r.a.to, .string r.a.toName, .slice r.a.dA r.a.dn r.a.dc, .int .i64 r.ver, .int .i64 r.id] 48)).alloc (.cells #[.int .i64 r.a.kind, .int .i64 r.a.fid, .int .i64 r.a.dir, .string r.a.name, .int .i64 r.a.to, .string r.a.toName, .slice r.a.dA r.a.dn r.a.dc] 26) →
    Below w.heap.size w W ∧ BoxR W w.heap.size r ∧ BoxA W (w.heap.size + 1) r.a ∧ W.heap.size = w.heap.size + 2 := by
  rintro W rfl
  refine ⟨((Below.refl _ _).alloc (Nat.le_refl _) _).alloc (by simp) _, (BoxR.new w r).alloc _, ?_, by simp⟩
  have := BoxA.new (w.alloc r.obj) r.a
  simpa using this
/-- what the reference's Add answers -/
def AddedR (w : World) (spec : Int × List M.Rec) (e : Ending) (w' : World) : Prop :=
  ∃ (B : Option Addr) (m d : Nat) (us : List RV), e = .returned (.tuple #[.slice B m d, .int .i64 spec.1]) ∧ TreeR w' B m us spec.2 ∧ Below w.heap.size w w'
theorem AddedR.of {w w' : World} {s t : Int × List M.Rec} (h : s = t) {B : Option Addr} {m d : Nat} {us : List RV} (ho : TreeR w' B m us t.2) (hb : Below w.heap.size w w') : AddedR w s (.returned (.tuple #[.slice B m d, .int .i64 t.1])) w' := by
  subst h; exact ⟨B, m, d, us, rfl, ho, hb⟩
theorem not_over {a b : M.Act} (h : a.kind ≠ 3) : M.overB a b = false := by unfold M.overB; simp [h]
def VAA (st : Int) : Nat → Value → World → Prop
  | 0 => IsW (.int .i64 (st))
  | 1 => IsW (.bool false)
  | 2 => IsW (.bool false)
  | 3 => IsW (undef)
  | 4 => IsW (undef)
  | 5 => IsW (undef)
  | 6 => IsW (undef)
  | 7 => IsW (undef)
  | 8 => IsW (undef)
  | 9 => IsW (undef)
  | 10 => IsW (undef)
  | 11 => IsW (undef)
  | 12 => IsW (undef)
  | 13 => IsW (undef)
  | 14 => IsW (undef)
  | 15 => IsW (undef)
  | 16 => IsW (.bool false)
  | 17 => IsW (.bool false)
  | _ => fun _ _ => True
theorem VAA_stays (st : Int) : ∀ i, Stays (VAA st i) := by
  intro i v W W' hb h
  match i, h with
  | 0, h => exact h
  | 1, h => exact h
  | 2, h => exact h
  | 3, h => exact h
  | 4, h => exact h
  | 5, h => exact h
  | 6, h => exact h
  | 7, h => exact h
  | 8, h => exact h
  | 9, h => exact h
  | 10, h => exact h
  | 11, h => exact h
  | 12, h => exact h
  | 13, h => exact h
  | 14, h => exact h
  | 15, h => exact h
  | 16, h => exact h
  | 17, h => exact h
  | k + 18, h => trivial
def VAB (st : Int) : Nat → Value → World → Prop
  | 0 => IsW (.int .i64 (st))
  | 1 => IsW (.bool true)
  | 2 => IsW (.bool true)
  | 3 => IsW (.bool true)
  | 4 => IsW (.bool true)
  | 5 => IsW (undef)
  | 6 => IsW (undef)
  | 7 => IsW (undef)
  | 8 => IsW (undef)
  | 9 => IsW (undef)
  | 10 => IsW (undef)
  | 11 => IsW (undef)
  | 12 => IsW (undef)
  | 13 => IsW (undef)
  | 14 => IsW (undef)
  | 15 => IsW (.bool true)
  | 16 => IsW (.bool true)
  | 17 => IsW (.bool true)
  | _ => fun _ _ => True
theorem VAB_stays (st : Int) : ∀ i, Stays (VAB st i) := by
  intro i v W W' hb h
  match i, h with
  | 0, h => exact h
  | 1, h => exact h
  | 2, h => exact h
  | 3, h => exact h
  | 4, h => exact h
  | 5, h => exact h
  | 6, h => exact h
  | 7, h => exact h
  | 8, h => exact h
  | 9, h => exact h
  | 10, h => exact h
  | 11, h => exact h
  | 12, h => exact h
  | 13, h => exact h
  | 14, h => exact h
  | 15, h => exact h
  | 16, h => exact h
  | 17, h => exact h
  | k + 18, h => trivial
def VAD (st : Int) (sa : Nat) (v r : RV) (x : M.Rec) : Nat → Value → World → Prop
  | 0 => IsW (.int .i64 (st))
  | 1 => IsW (.bool true)
  | 2 => IsW (.bool true)
  | 3 => IsW (.bool false)
  | 4 => IsW (.bool false)
  | 5 => IsW (AV.val v.a)
  | 6 => IsF (M.fidsS x.act)
  | 7 => IsW (.pointer (some ⟨sa, 0 + 1, none⟩))
  | 8 => IsW (.int .i64 (r.a.fid))
  | 9 => IsW (.bool false)
  | 10 => IsW (.bool false)
  | 11 => IsW (undef)
  | 12 => IsW (undef)
  | 13 => IsW (undef)
  | 14 => IsW (.bool false)
  | 15 => IsW (.bool false)
  | 16 => IsW (.bool false)
  | 17 => IsW (.bool false)
  | _ => fun _ _ => True
theorem VAD_stays (st : Int) (sa : Nat) (v r : RV) (x : M.Rec) : ∀ i, Stays (VAD st sa v r x i) := by
  intro i v W W' hb h
  match i, h with
  | 0, h => exact h
  | 1, h => exact h
  | 2, h => exact h
  | 3, h => exact h
  | 4, h => exact h
  | 5, h => exact h
  | 6, h => exact isF_below hb h
  | 7, h => exact h
  | 8, h => exact h
  | 9, h => exact h
  | 10, h => exact h
  | 11, h => exact h
  | 12, h => exact h
  | 13, h => exact h
  | 14, h => exact h
  | 15, h => exact h
  | 16, h => exact h
  | 17, h => exact h
  | k + 18, h => trivial
def VA18 (sa : Nat) (v r : RV) (x : M.Rec) (y : M.Act) : Nat → Value → World → Prop
  | 0 => IsW (AV.val v.a)
  | 1 => IsF (M.fidsS x.act)
  | 2 => IsW (.pointer (some ⟨sa, 0 + 1, none⟩))
  | 3 => IsW (.int .i64 (r.a.fid))
  | 4 => IsW (.bool (M.nameFB x.act y.fid))
  | 5 => IsW (.bool (!(M.nameFB x.act y.fid)))
  | _ => fun _ _ => True
theorem VA18_stays (sa : Nat) (v r : RV) (x : M.Rec) (y : M.Act) : ∀ i, Stays (VA18 sa v r x y i) := by
  intro i v W W' hb h
  match i, h with
  | 0, h => exact h
  | 1, h => exact isF_below hb h
  | 2, h => exact h
  | 3, h => exact h
  | 4, h => exact h
  | 5, h => exact h
  | k + 6, h => trivial
def VAE (st : Int) (sa sb : Nat) (v r : RV) (x : M.Rec) : Nat → Value → World → Prop
  | 0 => IsW (.int .i64 (st))
  | 1 => IsW (.bool true)
  | 2 => IsW (.bool true)
  | 3 => IsW (.bool false)
  | 4 => IsW (.bool false)
  | 5 => IsW (AV.val v.a)
  | 6 => IsF (M.fidsS x.act)
  | 7 => IsW (.pointer (some ⟨sa, 0 + 1, none⟩))
  | 8 => IsW (.int .i64 (r.a.fid))
  | 9 => IsW (.bool true)
  | 10 => IsW (.bool true)
  | 11 => IsW (.pointer (some ⟨sb, 0, none⟩))
  | 12 => IsW (.int .i64 (v.a.kind))
  | 13 => IsW (.bool false)
  | 14 => IsW (.bool false)
  | 15 => IsW (.bool false)
  | 16 => IsW (.bool false)
  | 17 => IsW (.bool false)
  | _ => fun _ _ => True
theorem VAE_stays (st : Int) (sa sb : Nat) (v r : RV) (x : M.Rec) : ∀ i, Stays (VAE st sa sb v r x i) := by
  intro i v W W' hb h
  match i, h with
  | 0, h => exact h
  | 1, h => exact h
  | 2, h => exact h
  | 3, h => exact h
  | 4, h => exact h
  | 5, h => exact h
  | 6, h => exact isF_below hb h
  | 7, h => exact h
  | 8, h => exact h
  | 9, h => exact h
  | 10, h => exact h
  | 11, h => exact h
  | 12, h => exact h
  | 13, h => exact h
  | 14, h => exact h
  | 15, h => exact h
  | 16, h => exact h
  | 17, h => exact h
  | k + 18, h => trivial
def VAF (st : Int) (sa sb : Nat) (v r : RV) (x : M.Rec) : Nat → Value → World → Prop
  | 0 => IsW (.int .i64 (st))
  | 1 => IsW (.bool true)
  | 2 => IsW (.bool true)
  | 3 => IsW (.bool false)
  | 4 => IsW (.bool false)
  | 5 => IsW (AV.val v.a)
  | 6 => IsF (M.fidsS x.act)
  | 7 => IsW (.pointer (some ⟨sa, 0 + 1, none⟩))
  | 8 => IsW (.int .i64 (r.a.fid))
  | 9 => IsW (.bool true)
  | 10 => IsW (.bool true)
  | 11 => IsW (.pointer (some ⟨sb, 0, none⟩))
  | 12 => IsW (.int .i64 (v.a.kind))
  | 13 => IsW (.bool true)
  | 14 => IsW (.bool true)
  | 15 => IsW (.bool true)
  | 16 => IsW (.bool true)
  | 17 => IsW (.bool true)
  | _ => fun _ _ => True
theorem VAF_stays (st : Int) (sa sb : Nat) (v r : RV) (x : M.Rec) : ∀ i, Stays (VAF st sa sb v r x i) := by
  intro i v W W' hb h
  match i, h with
  | 0, h => exact h
  | 1, h => exact h
  | 2, h => exact h
  | 3, h => exact h
  | 4, h => exact h
  | 5, h => exact h
  | 6, h => exact isF_below hb h
  | 7, h => exact h
  | 8, h => exact h
  | 9, h => exact h
  | 10, h => exact h
  | 11, h => exact h
  | 12, h => exact h
  | 13, h => exact h
  | 14, h => exact h
  | 15, h => exact h
  | 16, h => exact h
  | 17, h => exact h
  | k + 18, h => trivial

set_option maxRecDepth 8000 in
set_option maxHeartbeats 8000000 in
theorem refAdd_any (A : Option Addr) (n c : Nat) (vs : List RV) (xs : List M.Rec) (r : RV) (q : M.Rec) (w : World) (ht : TreeR w A n vs xs) (hn : (n + 2) * 104 ≤ 140737488355328) (hr : ContR w r q) :
    Calls Try.prog 19 #[.slice A n c, r.val] w (AddedR w (M.addS xs q)) := by
  obtain ⟨i48, hi48, hz48, hs48, hb48⟩ := info_parts info48
  have HT : Hid (TreeR w A n vs xs ∧ ContR w r q ∧ n = xs.length) := ⟨ht, hr, ht.len⟩
  have HW : Hid _ := recact_start w r
  have HK : Hid (r.a.kind = q.act.kind ∧ r.a.fid = q.act.fid ∧ r.a.dir = q.act.dir ∧ r.a.name = q.act.name) := ⟨hr.1.1, hr.1.2.1, hr.1.2.2.1, hr.1.2.2.2.1⟩
  clear ht hr
  go_enter Try.func19, Try.ntmps19
  go_upto_region 2 with (fail)
  go_cut [7] from 7 to 7 (fun t W => t = .slice none 0 0 ∧ Below w.heap.size w W ∧ BoxR W w.heap.size r ∧ BoxA W (w.heap.size + 1) r.a ∧ W.heap.size = w.heap.size + 2)
  case first =>
    go_wp2_with (fail)
    go_meet
    case rel => exact ⟨rfl, HW.out _ rfl⟩
  obtain ⟨rfl, q1, q2, q3, q4⟩ := hcut
  rename World => w1
  clear HW
  obtain ⟨a0, a1, a2, a3, a4, a5, a6, af, az⟩ := q3.facts
  have H1 : Hid (Below w.heap.size w w1 ∧ BoxR w1 w.heap.size r ∧ BoxA w1 (w.heap.size + 1) r.a) := ⟨q1, q2, q3⟩
  clear q1 q2 q3
  go_upto_if 21 with (fail)
  go_cut [7] from 21 to 139 (fun t W => t = .slice none 0 0 ∧ Hid (M.undoB xs q.act = false) ∧ Below w1.heap.size w1 W)
  case first =>
    by_cases h4 : r.a.kind = 4
    case' neg =>
      have k4 : (r.a.kind == 4) = false := by simp [h4]
      have HU : Hid (M.undoB xs q.act = false) := by show _ = _; unfold M.undoB; rw [← HK.out.1]; simp [h4]
      clear h4
      go_wp2_with (fail)
      go_meet
      case rel => exact ⟨rfl, HU, Below.refl _ _⟩
    have k4 : (r.a.kind == 4) = true := by simp [h4]
    have HSU : Hid (M.undoB xs q.act = decide (M.stateS q.act xs = 1)) := M.state_undo q.act (by rw [← HK.out.1]; exact h4) xs
    clear h4
    go_wp2_with (fail)
    clear k4
    generalize (r.a.kind == 4) = kb4
    go_loopw [7, 8, 24] (fun t s i wr => ∃ (k : Nat) (B : Option Addr) (m d : Nat) (us : List RV), k ≤ n ∧ i = .int .i64 k ∧ s = .int .i64 (M.stateS q.act (xs.take k)) ∧ t = .slice B m d ∧ ShareL w wr w1.heap.size B m d us ((xs.take k).filter fun x => !M.nameFB x.act q.act.fid) ∧ Below w1.heap.size w1 wr) (fun _ _ i _ => n - (intOf i).toNat)
    case atStart => exact ⟨0, none, 0, 0, [], Nat.zero_le _, rfl, rfl, rfl, ShareL.nil _ _ _, Below.refl _ _⟩
    case round =>
      obtain ⟨k, B, m, d, us, hk, rfl, rfl, rfl, hsh, hb⟩ := hrel
      have HO : Hid (ShareL w wr w1.heap.size B m d us ((xs.take k).filter fun x => !M.nameFB x.act q.act.fid) ∧ Below w1.heap.size w1 wr) := ⟨hsh, hb⟩
      have hsz := hb.size
      have hml : m ≤ k := by rw [hsh.len]; exact Nat.le_trans (List.length_filter_le _ _) (by simp; omega)
      have hsc := M.state_cases q.act (xs.take k)
      clear hsh
      by_cases hlt : k < n
      · have hbw : Below w.heap.size w wr := H1.out.1.trans (hb.mono H1.out.1.size)
        have htr := HT.out.1.below (Nat.le_refl _) hbw
        obtain ⟨g, o, v, rfl, hgb, hvk, c0, c1, c2, c3, c4, c5, c6, c7, c8⟩ := htr.1.at hlt
        obtain ⟨x, hx, hcx⟩ := htr.2.at hvk
        have hcx0 := HT.out.1.2.2 k v x hvk hx
        have HX : Hid (xs[k]? = some x ∧ ContR wr v x ∧ ContR w v x) := ⟨hx, hcx, hcx0⟩
        have HSS : Hid (M.stateS q.act (xs.take (k + 1)) = M.stepS q.act (M.stateS q.act (xs.take k)) x) := by show _ = _; rw [take_step hx, M.state_snoc]
        have HFS : Hid ((xs.take (k + 1)).filter (fun x => !M.nameFB x.act q.act.fid) = (xs.take k).filter (fun x => !M.nameFB x.act q.act.fid) ++ (if (!M.nameFB x.act q.act.fid) then [x] else [])) := filter_step hx _
        have HWA : Hid _ := recact_start wr v
        obtain ⟨st, hst⟩ : ∃ st, M.stateS q.act (xs.take k) = st := ⟨_, rfl⟩
        rw [hst] at HSS hsc ⊢
        clear hvk htr hx hcx hcx0 hbw hst
        have HBA0 : Hid (BoxA wr (w.heap.size + 1) r.a) := H1.out.2.2.below hb az
        have haz : w.heap.size + 1 < wr.heap.size := by omega
        clear a0 a1 a2 a3 a4 a5 a6 af
        go_upto_region 9 with (fail)
        go_cut [12] from 30 to 37 (fun t W => t = .bool (decide (v.a.kind = 1) || decide (v.a.kind = 2)) ∧ Below wr.heap.size wr W ∧ BoxR W wr.heap.size v ∧ BoxA W (wr.heap.size + 1) v.a ∧ W.heap.size = wr.heap.size + 2)
        case first =>
          by_cases h1 : v.a.kind = 1
          · have k1 : (v.a.kind == 1) = true := by simp [h1]
            have E1 : Hid ((decide (v.a.kind = 1) || decide (v.a.kind = 2)) = true) := by show _ = _; simp [h1]
            clear h1
            go_wp2_with (fail)
            go_meet
            case rel => exact ⟨congrArg Value.bool E1.out.symm, HWA.out _ rfl⟩
          · by_cases h2 : v.a.kind = 2
            · have k1 : (v.a.kind == 1) = false := by simp [h1]
              have k2 : (v.a.kind == 2) = true := by simp [h2]
              have E1 : Hid ((decide (v.a.kind = 1) || decide (v.a.kind = 2)) = true) := by show _ = _; simp [h2]
              clear h1 h2
              go_wp2_with (fail)
              go_meet
              case rel => exact ⟨congrArg Value.bool E1.out.symm, HWA.out _ rfl⟩
            · have k1 : (v.a.kind == 1) = false := by simp [h1]
              have k2 : (v.a.kind == 2) = false := by simp [h2]
              have E1 : Hid ((decide (v.a.kind = 1) || decide (v.a.kind = 2)) = false) := by show _ = _; simp [h1, h2]
              clear h1 h2
              go_wp2_with (fail)
              go_meet
              case rel => exact ⟨congrArg Value.bool E1.out.symm, HWA.out _ rfl⟩
        obtain ⟨rfl, p1, p2, p3, p4⟩ := hcut
        rename World => w5
        clear HWA c0 c1 c2 c3 c4 c5 c6 c7 c8
        obtain ⟨b0, b1, b2, b3, b4, b5, b6, bf, bz⟩ := p3.facts
        have hba5 := HBA0.out.below p1 haz
        obtain ⟨a0, a1, a2, a3, a4, a5, a6, af, az5⟩ := hba5.facts
        have H5 : Hid (Below wr.heap.size wr w5 ∧ BoxR w5 wr.heap.size v ∧ BoxA w5 (wr.heap.size + 1) v.a ∧ BoxA w5 (w.heap.size + 1) r.a ∧ w5.heap.size = wr.heap.size + 2) := ⟨p1, p2, p3, hba5, p4⟩
        clear p1 p2 p3 hba5
        obtain ⟨mk, hmk⟩ : ∃ mk : Bool, (decide (v.a.kind = 1) || decide (v.a.kind = 2)) = mk := ⟨_, rfl⟩
        rw [hmk]
        have HMK : Hid ((decide (v.a.kind = 1) || decide (v.a.kind = 2)) = mk) := hmk
        clear hmk
        go_upto_region 10 with (fail)
        go_cut [13] from 38 to 48 (fun t W => t = .bool (mk || decide (v.a.kind = 4) || decide (v.a.kind = 5)) ∧ W = w5)
        case first =>
          cases mk
          · by_cases h1 : v.a.kind = 4
            · have k1 : (v.a.kind == 4) = true := by simp [h1]
              have E1 : Hid ((false || decide (v.a.kind = 4) || decide (v.a.kind = 5)) = true) := by show _ = _; simp [h1]
              clear h1
              go_wp2_with (fail)
              go_meet
              case rel => exact ⟨congrArg Value.bool E1.out.symm, rfl⟩
            · by_cases h2 : v.a.kind = 5
              · have k1 : (v.a.kind == 4) = false := by simp [h1]
                have k2 : (v.a.kind == 5) = true := by simp [h2]
                have E1 : Hid ((false || decide (v.a.kind = 4) || decide (v.a.kind = 5)) = true) := by show _ = _; simp [h2]
                clear h1 h2
                go_wp2_with (fail)
                go_meet
                case rel => exact ⟨congrArg Value.bool E1.out.symm, rfl⟩
              · have k1 : (v.a.kind == 4) = false := by simp [h1]
                have k2 : (v.a.kind == 5) = false := by simp [h2]
                have E1 : Hid ((false || decide (v.a.kind = 4) || decide (v.a.kind = 5)) = false) := by show _ = _; simp [h1, h2]
                clear h1 h2
                go_wp2_with (fail)
                go_meet
                case rel => exact ⟨congrArg Value.bool E1.out.symm, rfl⟩
          · have E1 : Hid ((true || decide (v.a.kind = 4) || decide (v.a.kind = 5)) = true) := by show _ = _; simp
            go_wp2_with (fail)
            go_meet
            case rel => exact ⟨congrArg Value.bool E1.out.symm, rfl⟩
        obtain ⟨rfl, rfl⟩ := hcut
        rename World => w5
        obtain ⟨nm, hnm⟩ : ∃ nm : Bool, (mk || decide (v.a.kind = 4) || decide (v.a.kind = 5)) = nm := ⟨_, rfl⟩
        rw [hnm]
        have HNM : Hid ((mk || decide (v.a.kind = 4) || decide (v.a.kind = 5)) = nm) := hnm
        clear hnm
        go_upto_region 11 with (fail)
        go_cut [14] from 49 to 82 (fun t W => t = .bool ((nm && (decide (v.a.dir = r.a.dir) && decide (v.a.name = r.a.name))) || (decide (v.a.kind = 5) && (decide (v.a.to = r.a.dir) && decide (v.a.toName = r.a.name)))) ∧ W = w5)
        case first =>
          rcases here_cases v.a r.a.dir r.a.name with ⟨d1, d2, q3⟩ | ⟨d1, d2, q3⟩ | ⟨d1, q3⟩
          all_goals rcases there_cases v.a r.a.dir r.a.name with ⟨t1, t2, q5⟩ | ⟨t1, t2, q5⟩ | ⟨t1, q5⟩
          all_goals have Q3 : Hid _ := q3
          all_goals have Q5 : Hid _ := q5
          all_goals clear q3 q5
          all_goals cases nm
          all_goals by_cases h5 : v.a.kind = 5
          all_goals first | (have k5 : (v.a.kind == 5) = true := by simp [h5]) | (have k5 : (v.a.kind == 5) = false := by simp [h5])
          all_goals first | (have E5 : Hid (decide (v.a.kind = 5) = true) := decide_eq_true h5) | (have E5 : Hid (decide (v.a.kind = 5) = false) := decide_eq_false h5)
          all_goals clear h5
          all_goals go_wp2_with (fail)
          all_goals go_meet
          all_goals exact ⟨congrArg Value.bool (by rw [Q3.out, Q5.out, E5.out]; rfl), rfl⟩
        obtain ⟨rfl, rfl⟩ := hcut
        rename World => w5
        have HHR : Hid (M.touchB x.act q.act.dir q.act.name = ((nm && (decide (v.a.dir = r.a.dir) && decide (v.a.name = r.a.name))) || (decide (v.a.kind = 5) && (decide (v.a.to = r.a.dir) && decide (v.a.toName = r.a.name))))) := by
          show _ = _
          rw [← touchV_is HX.out.2.1.1, ← HK.out.2.2.1, ← HK.out.2.2.2, ← HNM.out, ← HMK.out]
          rfl
        rw [← HHR.out]
        obtain ⟨hr, hhr⟩ : ∃ hr : Bool, M.touchB x.act q.act.dir q.act.name = hr := ⟨_, rfl⟩
        rw [hhr]
        have HHR2 : Hid (M.touchB x.act q.act.dir q.act.name = hr) := hhr
        clear hhr HHR
        have HMB : Hid (M.madeB q.act.fid x = (mk && decide (v.a.fid = r.a.fid))) := by
          show _ = _
          unfold M.madeB M.makeB
          rw [← HMK.out, HX.out.2.1.1.1, HX.out.2.1.1.2.1, HK.out.2.1]
        have HHB : Hid (M.hinderB x.act q.act = ((!decide (v.a.kind = 3) && M.nameFB x.act q.act.fid) || hr)) := by
          show _ = _
          unfold M.hinderB
          rw [HHR2.out, HX.out.2.1.1.1]
        go_upto_block 2 with (fail)
        go_cut [8] from 84 to 125 (fun t W => t = .int .i64 (M.stepS q.act st x) ∧ Below w5.heap.size w5 W)
        case first =>
          have hbd : ∀ W, Below w5.drew.heap.size w5.drew W → Below w5.heap.size w5 W := fun W hb => (Below.refl _ _).drew.trans hb
          have HBB : ∀ W, Below w5.drew.heap.size w5.drew W → ActAt W (wr.heap.size + 1) 0 v.a := fun W hb => H5.out.2.2.1.at_.below (hbd W hb) bz
          have HBA : ∀ W, Below w5.drew.heap.size w5.drew W → ActAt W (w.heap.size + 1) 0 r.a := fun W hb => H5.out.2.2.2.1.at_.below (hbd W hb) az5
          have HCX : ∀ W, Below w5.drew.heap.size w5.drew W → ContA W v.a x.act := fun W hb => HX.out.2.1.1.below (Nat.le_refl _) (H5.out.1.trans ((hbd W hb).mono H5.out.1.size))
          by_cases h0 : st = 0 ∧ mk = true ∧ v.a.fid = r.a.fid
          case' neg =>
            have hnf : ¬ (st = 0 ∧ M.madeB q.act.fid x = true) := fun ⟨e1, e2⟩ => by
              rw [HMB.out, Bool.and_eq_true, decide_eq_true_eq] at e2
              exact h0 ⟨e1, e2.1, e2.2⟩
            have HSB : Hid (M.stepS q.act st x = if st = 1 ∧ M.hinderB x.act q.act = true then 2 else st) := by show _ = _; unfold M.stepS; rw [if_neg hnf]
            clear hnf
            go_upto_region 12 with (fail)
            go_cut [83] from 84 to 95 (fun t W => t = .bool false ∧ W = w5)
            case first =>
              by_cases h1 : st = 0
              · have k0 : (st == 0) = true := by simp [h1]
                cases mk
                · clear h0 h1
                  go_wp2_with (fail)
                  go_meet
                  case rel => exact ⟨rfl, rfl⟩
                · have kf : (v.a.fid == r.a.fid) = false := by rw [beq_eq_false_iff_ne]; exact fun e => h0 ⟨h1, rfl, e⟩
                  clear h0 h1
                  go_wp2_with (fail)
                  go_meet
                  case rel => exact ⟨rfl, rfl⟩
              · have k0 : (st == 0) = false := by simp [h1]
                clear h0 h1
                go_wp2_with (fail)
                go_meet
                case rel => exact ⟨rfl, rfl⟩
            obtain ⟨rfl, rfl⟩ := hcut
            rename World => w5
            clear h0
            go_upto_region 16 with (fail)
            by_cases h1 : st = 1
            · have rs : (((st : Int)) == ((1 : Int))) = true := by simp [h1]
              cases hr
              · cases hnb : M.nameFB x.act q.act.fid
                · have HST : Hid (M.stepS q.act st x = st) := by show _ = _; rw [HSB.out, HHB.out, hnb]; simp
                  have HNB : decide (r.a.fid ∈ M.fidsS x.act) = false := by rw [HK.out.2.1]; exact hnb
                  clear h1 hnb
                  refine wp_region_vals (VAD st (w.heap.size + 1) v r x) (by kernel_rfl) (by kernel_rfl) (VAD_stays st (w.heap.size + 1) v r x) ?_ ?_
                  · intro i hi
                    match i, hi with
                    | 0, _ =>
                      refine StepAt.by rfl fun a' W hf hb hd => ?_
                      exact .inl ⟨want_none, does_move ((hf.keeps 8 (by kernel_rfl)).trans rfl) ⟨Below.refl _ _, rfl⟩⟩
                    | 1, _ =>
                      refine StepAt.by rfl fun a' W hf hb hd => ?_
                      exact .inl ⟨want_none, does_run (run_eqI (hd 0 (by kernel_rfl)) rfl) ⟨Below.refl _ _, by show Value.bool _ = _; rw [rs]⟩⟩
                    | 2, _ =>
                      refine StepAt.by rfl fun a' W hf hb hd => ?_
                      exact .inl ⟨want_none, does_move (hd 1 (by kernel_rfl)) ⟨Below.refl _ _, rfl⟩⟩
                    | 3, _ =>
                      refine StepAt.by rfl fun a' W hf hb hd => ?_
                      exact .inl ⟨want_some (k := 2) (t := 111) rfl (hd 2 (by kernel_rfl)), does_move ((hf.keeps 14 (by kernel_rfl)).trans rfl) ⟨Below.refl _ _, rfl⟩⟩
                    | 4, _ =>
                      refine StepAt.by rfl fun a' W hf hb hd => ?_
                      exact .inl ⟨want_some (k := 2) (t := 111) rfl (hd 2 (by kernel_rfl)), does_move (hd 3 (by kernel_rfl)) ⟨Below.refl _ _, rfl⟩⟩
                    | 5, _ =>
                      refine StepAt.by rfl fun a' W hf hb hd => ?_
                      exact .inl ⟨want_some (k := 4) (t := 113) rfl (hd 4 (by kernel_rfl)), does_run (run_loadA ((hf.keeps 11 (by kernel_rfl)).trans rfl) (HBB W hb)) ⟨Below.refl _ _, rfl⟩⟩
                    | 6, _ =>
                      refine StepAt.by rfl fun a' W hf hb hd => ?_
                      refine .inl ⟨want_some (k := 4) (t := 113) rfl (hd 4 (by kernel_rfl)), ?_⟩
                      exact does_call1 (enters_of Try.func17 (by kernel_rfl) (by kernel_rfl)) (hd 5 (by kernel_rfl)) ((refFids_any v.a x.act W (HCX W hb)).mono fun e W' ⟨A1, c1, he, ho, hb'⟩ => ⟨_, he, hb', A1, _, c1, _, rfl, ho⟩)
                    | 7, _ =>
                      refine StepAt.by rfl fun a' W hf hb hd => ?_
                      exact .inl ⟨want_some (k := 4) (t := 113) rfl (hd 4 (by kernel_rfl)), does_run (run_fieldAo ((hf.keeps 6 (by kernel_rfl)).trans rfl) (by decide)) ⟨Below.refl _ _, rfl⟩⟩
                    | 8, _ =>
                      refine StepAt.by rfl fun a' W hf hb hd => ?_
                      exact .inl ⟨want_some (k := 4) (t := 113) rfl (hd 4 (by kernel_rfl)), does_run (run_load3 (hd 7 (by kernel_rfl)) ((HBA W hb) 1 _ rfl)) ⟨Below.refl _ _, rfl⟩⟩
                    | 9, _ =>
                      refine StepAt.by rfl fun a' W hf hb hd => ?_
                      refine .inl ⟨want_some (k := 4) (t := 113) rfl (hd 4 (by kernel_rfl)), ?_⟩
                      obtain ⟨A1, n1, c1, B1, e1, ho1⟩ := hd 6 (by kernel_rfl)
                      exact does_call2 (enters_of Try.func44 (by kernel_rfl) (by kernel_rfl)) e1 (hd 8 (by kernel_rfl)) ((refHas_any A1 n1 c1 (M.fidsS x.act) r.a.fid W B1 ho1 (fids_small ho1)).mono fun e W' ⟨he, hw⟩ => ⟨_, he, by rw [hw]; exact Below.refl _ _, by show Value.bool _ = _; exact congrArg Value.bool HNB⟩)
                    | 10, _ =>
                      refine StepAt.by rfl fun a' W hf hb hd => ?_
                      exact .inl ⟨want_some (k := 4) (t := 113) rfl (hd 4 (by kernel_rfl)), does_move (hd 9 (by kernel_rfl)) ⟨Below.refl _ _, rfl⟩⟩
                    | 11, _ =>
                      refine StepAt.by rfl fun a' W hf hb hd => ?_
                      exact .inr ⟨want_some (k := 10) (t := 119) rfl (hd 10 (by kernel_rfl)), rfl⟩
                    | 12, _ =>
                      refine StepAt.by rfl fun a' W hf hb hd => ?_
                      exact .inr ⟨want_some (k := 10) (t := 119) rfl (hd 10 (by kernel_rfl)), rfl⟩
                    | 13, _ =>
                      refine StepAt.by rfl fun a' W hf hb hd => ?_
                      exact .inr ⟨want_some (k := 10) (t := 119) rfl (hd 10 (by kernel_rfl)), rfl⟩
                    | 14, _ =>
                      refine StepAt.by rfl fun a' W hf hb hd => ?_
                      exact .inl ⟨want_some (k := 4) (t := 113) rfl (hd 4 (by kernel_rfl)), does_pick (b := false) (hd 10 (by kernel_rfl)) rfl ⟨Below.refl _ _, rfl⟩⟩
                    | 15, _ =>
                      refine StepAt.by rfl fun a' W hf hb hd => ?_
                      exact .inl ⟨want_some (k := 2) (t := 111) rfl (hd 2 (by kernel_rfl)), does_pick (b := false) (hd 4 (by kernel_rfl)) (hd 14 (by kernel_rfl)) ⟨Below.refl _ _, rfl⟩⟩
                    | 16, _ =>
                      refine StepAt.by rfl fun a' W hf hb hd => ?_
                      exact .inl ⟨want_none, does_pick (b := true) (hd 2 (by kernel_rfl)) (hd 15 (by kernel_rfl)) ⟨Below.refl _ _, rfl⟩⟩
                    | 17, _ =>
                      refine StepAt.by rfl fun a' W hf hb hd => ?_
                      exact .inl ⟨want_none, does_assign (hd 16 (by kernel_rfl)) ⟨Below.refl _ _, rfl⟩⟩
                    | k + 18, hi => exact absurd hi (Nat.not_lt.2 (Nat.le_add_left _ _))
                  · intro a' W hf hb hv
                    have hlast : a'.eval (.tmp 108) = .bool false := hv 17 (by decide)
                    have HBW : Hid (Below w5.heap.size w5 W) := hb
                    have hl := hf.lit (fun t => decide (108 ≤ t) && decide (t ≤ 125)) (by kernel_rfl)
                    simp only [overL, Nat.reduceAdd, Nat.reduceLeDiff, decide_true, decide_false, Bool.and_true, Bool.and_false] at hl
                    rw [hl]
                    clear hl
                    rw [hlast]
                    clear hf hb hv hlast
                    go_wp2_with (fail)
                    go_meet
                    case rel => exact ⟨by rw [HST.out], HBW.out⟩
                · cases h3 : (v.a.kind != 3)
                  · have HST : Hid (M.stepS q.act st x = st) := by
                      show _ = _
                      have e : v.a.kind = 3 := by simpa using h3
                      rw [HSB.out, HHB.out, e]
                      simp
                    have HNB : decide (r.a.fid ∈ M.fidsS x.act) = true := by rw [HK.out.2.1]; exact hnb
                    clear h1 hnb
                    refine wp_region_vals (VAE st (w.heap.size + 1) (wr.heap.size + 1) v r x) (by kernel_rfl) (by kernel_rfl) (VAE_stays st (w.heap.size + 1) (wr.heap.size + 1) v r x) ?_ ?_
                    · intro i hi
                      match i, hi with
                      | 0, _ =>
                        refine StepAt.by rfl fun a' W hf hb hd => ?_
                        exact .inl ⟨want_none, does_move ((hf.keeps 8 (by kernel_rfl)).trans rfl) ⟨Below.refl _ _, rfl⟩⟩
                      | 1, _ =>
                        refine StepAt.by rfl fun a' W hf hb hd => ?_
                        exact .inl ⟨want_none, does_run (run_eqI (hd 0 (by kernel_rfl)) rfl) ⟨Below.refl _ _, by show Value.bool _ = _; rw [rs]⟩⟩
                      | 2, _ =>
                        refine StepAt.by rfl fun a' W hf hb hd => ?_
                        exact .inl ⟨want_none, does_move (hd 1 (by kernel_rfl)) ⟨Below.refl _ _, rfl⟩⟩
                      | 3, _ =>
                        refine StepAt.by rfl fun a' W hf hb hd => ?_
                        exact .inl ⟨want_some (k := 2) (t := 111) rfl (hd 2 (by kernel_rfl)), does_move ((hf.keeps 14 (by kernel_rfl)).trans rfl) ⟨Below.refl _ _, rfl⟩⟩
                      | 4, _ =>
                        refine StepAt.by rfl fun a' W hf hb hd => ?_
                        exact .inl ⟨want_some (k := 2) (t := 111) rfl (hd 2 (by kernel_rfl)), does_move (hd 3 (by kernel_rfl)) ⟨Below.refl _ _, rfl⟩⟩
                      | 5, _ =>
                        refine StepAt.by rfl fun a' W hf hb hd => ?_
                        exact .inl ⟨want_some (k := 4) (t := 113) rfl (hd 4 (by kernel_rfl)), does_run (run_loadA ((hf.keeps 11 (by kernel_rfl)).trans rfl) (HBB W hb)) ⟨Below.refl _ _, rfl⟩⟩
                      | 6, _ =>
                        refine StepAt.by rfl fun a' W hf hb hd => ?_
                        refine .inl ⟨want_some (k := 4) (t := 113) rfl (hd 4 (by kernel_rfl)), ?_⟩
                        exact does_call1 (enters_of Try.func17 (by kernel_rfl) (by kernel_rfl)) (hd 5 (by kernel_rfl)) ((refFids_any v.a x.act W (HCX W hb)).mono fun e W' ⟨A1, c1, he, ho, hb'⟩ => ⟨_, he, hb', A1, _, c1, _, rfl, ho⟩)
                      | 7, _ =>
                        refine StepAt.by rfl fun a' W hf hb hd => ?_
                        exact .inl ⟨want_some (k := 4) (t := 113) rfl (hd 4 (by kernel_rfl)), does_run (run_fieldAo ((hf.keeps 6 (by kernel_rfl)).trans rfl) (by decide)) ⟨Below.refl _ _, rfl⟩⟩
                      | 8, _ =>
                        refine StepAt.by rfl fun a' W hf hb hd => ?_
                        exact .inl ⟨want_some (k := 4) (t := 113) rfl (hd 4 (by kernel_rfl)), does_run (run_load3 (hd 7 (by kernel_rfl)) ((HBA W hb) 1 _ rfl)) ⟨Below.refl _ _, rfl⟩⟩
                      | 9, _ =>
                        refine StepAt.by rfl fun a' W hf hb hd => ?_
                        refine .inl ⟨want_some (k := 4) (t := 113) rfl (hd 4 (by kernel_rfl)), ?_⟩
                        obtain ⟨A1, n1, c1, B1, e1, ho1⟩ := hd 6 (by kernel_rfl)
                        exact does_call2 (enters_of Try.func44 (by kernel_rfl) (by kernel_rfl)) e1 (hd 8 (by kernel_rfl)) ((refHas_any A1 n1 c1 (M.fidsS x.act) r.a.fid W B1 ho1 (fids_small ho1)).mono fun e W' ⟨he, hw⟩ => ⟨_, he, by rw [hw]; exact Below.refl _ _, by show Value.bool _ = _; exact congrArg Value.bool HNB⟩)
                      | 10, _ =>
                        refine StepAt.by rfl fun a' W hf hb hd => ?_
                        exact .inl ⟨want_some (k := 4) (t := 113) rfl (hd 4 (by kernel_rfl)), does_move (hd 9 (by kernel_rfl)) ⟨Below.refl _ _, rfl⟩⟩
                      | 11, _ =>
                        refine StepAt.by rfl fun a' W hf hb hd => ?_
                        exact .inl ⟨want_some (k := 10) (t := 119) rfl (hd 10 (by kernel_rfl)), does_run (run_fieldAo ((hf.keeps 11 (by kernel_rfl)).trans rfl) (by decide)) ⟨Below.refl _ _, rfl⟩⟩
                      | 12, _ =>
                        refine StepAt.by rfl fun a' W hf hb hd => ?_
                        exact .inl ⟨want_some (k := 10) (t := 119) rfl (hd 10 (by kernel_rfl)), does_run (run_load3 (hd 11 (by kernel_rfl)) ((HBB W hb) 0 _ rfl)) ⟨Below.refl _ _, rfl⟩⟩
                      | 13, _ =>
                        refine StepAt.by rfl fun a' W hf hb hd => ?_
                        exact .inl ⟨want_some (k := 10) (t := 119) rfl (hd 10 (by kernel_rfl)), does_run (run_neqI (hd 12 (by kernel_rfl)) rfl) ⟨Below.refl _ _, by show Value.bool _ = _; rw [h3]⟩⟩
                      | 14, _ =>
                        refine StepAt.by rfl fun a' W hf hb hd => ?_
                        exact .inl ⟨want_some (k := 4) (t := 113) rfl (hd 4 (by kernel_rfl)), does_pick (b := true) (hd 10 (by kernel_rfl)) (hd 13 (by kernel_rfl)) ⟨Below.refl _ _, rfl⟩⟩
                      | 15, _ =>
                        refine StepAt.by rfl fun a' W hf hb hd => ?_
                        exact .inl ⟨want_some (k := 2) (t := 111) rfl (hd 2 (by kernel_rfl)), does_pick (b := false) (hd 4 (by kernel_rfl)) (hd 14 (by kernel_rfl)) ⟨Below.refl _ _, rfl⟩⟩
                      | 16, _ =>
                        refine StepAt.by rfl fun a' W hf hb hd => ?_
                        exact .inl ⟨want_none, does_pick (b := true) (hd 2 (by kernel_rfl)) (hd 15 (by kernel_rfl)) ⟨Below.refl _ _, rfl⟩⟩
                      | 17, _ =>
                        refine StepAt.by rfl fun a' W hf hb hd => ?_
                        exact .inl ⟨want_none, does_assign (hd 16 (by kernel_rfl)) ⟨Below.refl _ _, rfl⟩⟩
                      | k + 18, hi => exact absurd hi (Nat.not_lt.2 (Nat.le_add_left _ _))
                    · intro a' W hf hb hv
                      have hlast : a'.eval (.tmp 108) = .bool false := hv 17 (by decide)
                      have HBW : Hid (Below w5.heap.size w5 W) := hb
                      have hl := hf.lit (fun t => decide (108 ≤ t) && decide (t ≤ 125)) (by kernel_rfl)
                      simp only [overL, Nat.reduceAdd, Nat.reduceLeDiff, decide_true, decide_false, Bool.and_true, Bool.and_false] at hl
                      rw [hl]
                      clear hl
                      rw [hlast]
                      clear hf hb hv hlast
                      go_wp2_with (fail)
                      go_meet
                      case rel => exact ⟨by rw [HST.out], HBW.out⟩
                  · have HST : Hid (M.stepS q.act st x = 2) := by
                      show _ = _
                      have e : v.a.kind ≠ 3 := by simpa using h3
                      rw [HSB.out, HHB.out, hnb, h1]
                      simp [e]
                    have HNB : decide (r.a.fid ∈ M.fidsS x.act) = true := by rw [HK.out.2.1]; exact hnb
                    clear h1 hnb
                    refine wp_region_vals (VAF st (w.heap.size + 1) (wr.heap.size + 1) v r x) (by kernel_rfl) (by kernel_rfl) (VAF_stays st (w.heap.size + 1) (wr.heap.size + 1) v r x) ?_ ?_
                    · intro i hi
                      match i, hi with
                      | 0, _ =>
                        refine StepAt.by rfl fun a' W hf hb hd => ?_
                        exact .inl ⟨want_none, does_move ((hf.keeps 8 (by kernel_rfl)).trans rfl) ⟨Below.refl _ _, rfl⟩⟩
                      | 1, _ =>
                        refine StepAt.by rfl fun a' W hf hb hd => ?_
                        exact .inl ⟨want_none, does_run (run_eqI (hd 0 (by kernel_rfl)) rfl) ⟨Below.refl _ _, by show Value.bool _ = _; rw [rs]⟩⟩
                      | 2, _ =>
                        refine StepAt.by rfl fun a' W hf hb hd => ?_
                        exact .inl ⟨want_none, does_move (hd 1 (by kernel_rfl)) ⟨Below.refl _ _, rfl⟩⟩
                      | 3, _ =>
                        refine StepAt.by rfl fun a' W hf hb hd => ?_
                        exact .inl ⟨want_some (k := 2) (t := 111) rfl (hd 2 (by kernel_rfl)), does_move ((hf.keeps 14 (by kernel_rfl)).trans rfl) ⟨Below.refl _ _, rfl⟩⟩
                      | 4, _ =>
                        refine StepAt.by rfl fun a' W hf hb hd => ?_
                        exact .inl ⟨want_some (k := 2) (t := 111) rfl (hd 2 (by kernel_rfl)), does_move (hd 3 (by kernel_rfl)) ⟨Below.refl _ _, rfl⟩⟩
                      | 5, _ =>
                        refine StepAt.by rfl fun a' W hf hb hd => ?_
                        exact .inl ⟨want_some (k := 4) (t := 113) rfl (hd 4 (by kernel_rfl)), does_run (run_loadA ((hf.keeps 11 (by kernel_rfl)).trans rfl) (HBB W hb)) ⟨Below.refl _ _, rfl⟩⟩
                      | 6, _ =>
                        refine StepAt.by rfl fun a' W hf hb hd => ?_
                        refine .inl ⟨want_some (k := 4) (t := 113) rfl (hd 4 (by kernel_rfl)), ?_⟩
                        exact does_call1 (enters_of Try.func17 (by kernel_rfl) (by kernel_rfl)) (hd 5 (by kernel_rfl)) ((refFids_any v.a x.act W (HCX W hb)).mono fun e W' ⟨A1, c1, he, ho, hb'⟩ => ⟨_, he, hb', A1, _, c1, _, rfl, ho⟩)
                      | 7, _ =>
                        refine StepAt.by rfl fun a' W hf hb hd => ?_
                        exact .inl ⟨want_some (k := 4) (t := 113) rfl (hd 4 (by kernel_rfl)), does_run (run_fieldAo ((hf.keeps 6 (by kernel_rfl)).trans rfl) (by decide)) ⟨Below.refl _ _, rfl⟩⟩
                      | 8, _ =>
                        refine StepAt.by rfl fun a' W hf hb hd => ?_
                        exact .inl ⟨want_some (k := 4) (t := 113) rfl (hd 4 (by kernel_rfl)), does_run (run_load3 (hd 7 (by kernel_rfl)) ((HBA W hb) 1 _ rfl)) ⟨Below.refl _ _, rfl⟩⟩
                      | 9, _ =>
                        refine StepAt.by rfl fun a' W hf hb hd => ?_
                        refine .inl ⟨want_some (k := 4) (t := 113) rfl (hd 4 (by kernel_rfl)), ?_⟩
                        obtain ⟨A1, n1, c1, B1, e1, ho1⟩ := hd 6 (by kernel_rfl)
                        exact does_call2 (enters_of Try.func44 (by kernel_rfl) (by kernel_rfl)) e1 (hd 8 (by kernel_rfl)) ((refHas_any A1 n1 c1 (M.fidsS x.act) r.a.fid W B1 ho1 (fids_small ho1)).mono fun e W' ⟨he, hw⟩ => ⟨_, he, by rw [hw]; exact Below.refl _ _, by show Value.bool _ = _; exact congrArg Value.bool HNB⟩)
                      | 10, _ =>
                        refine StepAt.by rfl fun a' W hf hb hd => ?_
                        exact .inl ⟨want_some (k := 4) (t := 113) rfl (hd 4 (by kernel_rfl)), does_move (hd 9 (by kernel_rfl)) ⟨Below.refl _ _, rfl⟩⟩
                      | 11, _ =>
                        refine StepAt.by rfl fun a' W hf hb hd => ?_
                        exact .inl ⟨want_some (k := 10) (t := 119) rfl (hd 10 (by kernel_rfl)), does_run (run_fieldAo ((hf.keeps 11 (by kernel_rfl)).trans rfl) (by decide)) ⟨Below.refl _ _, rfl⟩⟩
                      | 12, _ =>
                        refine StepAt.by rfl fun a' W hf hb hd => ?_
                        exact .inl ⟨want_some (k := 10) (t := 119) rfl (hd 10 (by kernel_rfl)), does_run (run_load3 (hd 11 (by kernel_rfl)) ((HBB W hb) 0 _ rfl)) ⟨Below.refl _ _, rfl⟩⟩
                      | 13, _ =>
                        refine StepAt.by rfl fun a' W hf hb hd => ?_
                        exact .inl ⟨want_some (k := 10) (t := 119) rfl (hd 10 (by kernel_rfl)), does_run (run_neqI (hd 12 (by kernel_rfl)) rfl) ⟨Below.refl _ _, by show Value.bool _ = _; rw [h3]⟩⟩
                      | 14, _ =>
                        refine StepAt.by rfl fun a' W hf hb hd => ?_
                        exact .inl ⟨want_some (k := 4) (t := 113) rfl (hd 4 (by kernel_rfl)), does_pick (b := true) (hd 10 (by kernel_rfl)) (hd 13 (by kernel_rfl)) ⟨Below.refl _ _, rfl⟩⟩
                      | 15, _ =>
                        refine StepAt.by rfl fun a' W hf hb hd => ?_
                        exact .inl ⟨want_some (k := 2) (t := 111) rfl (hd 2 (by kernel_rfl)), does_pick (b := false) (hd 4 (by kernel_rfl)) (hd 14 (by kernel_rfl)) ⟨Below.refl _ _, rfl⟩⟩
                      | 16, _ =>
                        refine StepAt.by rfl fun a' W hf hb hd => ?_
                        exact .inl ⟨want_none, does_pick (b := true) (hd 2 (by kernel_rfl)) (hd 15 (by kernel_rfl)) ⟨Below.refl _ _, rfl⟩⟩
                      | 17, _ =>
                        refine StepAt.by rfl fun a' W hf hb hd => ?_
                        exact .inl ⟨want_none, does_assign (hd 16 (by kernel_rfl)) ⟨Below.refl _ _, rfl⟩⟩
                      | k + 18, hi => exact absurd hi (Nat.not_lt.2 (Nat.le_add_left _ _))
                    · intro a' W hf hb hv
                      have hlast : a'.eval (.tmp 108) = .bool true := hv 17 (by decide)
                      have HBW : Hid (Below w5.heap.size w5 W) := hb
                      have hl := hf.lit (fun t => decide (108 ≤ t) && decide (t ≤ 125)) (by kernel_rfl)
                      simp only [overL, Nat.reduceAdd, Nat.reduceLeDiff, decide_true, decide_false, Bool.and_true, Bool.and_false] at hl
                      rw [hl]
                      clear hl
                      rw [hlast]
                      clear hf hb hv hlast
                      go_wp2_with (fail)
                      go_meet
                      case rel => exact ⟨by rw [HST.out], HBW.out⟩
              · have HST : Hid (M.stepS q.act st x = 2) := by
                  show _ = _
                  rw [HSB.out, HHB.out, h1]
                  simp
                clear h1
                refine wp_region_vals (VAB st) (by kernel_rfl) (by kernel_rfl) (VAB_stays st) ?_ ?_
                · intro i hi
                  match i, hi with
                  | 0, _ =>
                    refine StepAt.by rfl fun a' W hf hb hd => ?_
                    exact .inl ⟨want_none, does_move ((hf.keeps 8 (by kernel_rfl)).trans rfl) ⟨Below.refl _ _, rfl⟩⟩
                  | 1, _ =>
                    refine StepAt.by rfl fun a' W hf hb hd => ?_
                    exact .inl ⟨want_none, does_run (run_eqI (hd 0 (by kernel_rfl)) rfl) ⟨Below.refl _ _, by show Value.bool _ = _; rw [rs]⟩⟩
                  | 2, _ =>
                    refine StepAt.by rfl fun a' W hf hb hd => ?_
                    exact .inl ⟨want_none, does_move (hd 1 (by kernel_rfl)) ⟨Below.refl _ _, rfl⟩⟩
                  | 3, _ =>
                    refine StepAt.by rfl fun a' W hf hb hd => ?_
                    exact .inl ⟨want_some (k := 2) (t := 111) rfl (hd 2 (by kernel_rfl)), does_move ((hf.keeps 14 (by kernel_rfl)).trans rfl) ⟨Below.refl _ _, rfl⟩⟩
                  | 4, _ =>
                    refine StepAt.by rfl fun a' W hf hb hd => ?_
                    exact .inl ⟨want_some (k := 2) (t := 111) rfl (hd 2 (by kernel_rfl)), does_move (hd 3 (by kernel_rfl)) ⟨Below.refl _ _, rfl⟩⟩
                  | 5, _ =>
                    refine StepAt.by rfl fun a' W hf hb hd => ?_
                    exact .inr ⟨want_some (k := 4) (t := 113) rfl (hd 4 (by kernel_rfl)), rfl⟩
                  | 6, _ =>
                    refine StepAt.by rfl fun a' W hf hb hd => ?_
                    exact .inr ⟨want_some (k := 4) (t := 113) rfl (hd 4 (by kernel_rfl)), rfl⟩
                  | 7, _ =>
                    refine StepAt.by rfl fun a' W hf hb hd => ?_
                    exact .inr ⟨want_some (k := 4) (t := 113) rfl (hd 4 (by kernel_rfl)), rfl⟩
                  | 8, _ =>
                    refine StepAt.by rfl fun a' W hf hb hd => ?_
                    exact .inr ⟨want_some (k := 4) (t := 113) rfl (hd 4 (by kernel_rfl)), rfl⟩
                  | 9, _ =>
                    refine StepAt.by rfl fun a' W hf hb hd => ?_
                    exact .inr ⟨want_some (k := 4) (t := 113) rfl (hd 4 (by kernel_rfl)), rfl⟩
                  | 10, _ =>
                    refine StepAt.by rfl fun a' W hf hb hd => ?_
                    exact .inr ⟨want_some (k := 4) (t := 113) rfl (hd 4 (by kernel_rfl)), rfl⟩
                  | 11, _ =>
                    refine StepAt.by rfl fun a' W hf hb hd => ?_
                    exact .inr ⟨want_undef (k := 10) (t := 119) rfl (hd 10 (by kernel_rfl)), rfl⟩
                  | 12, _ =>
                    refine StepAt.by rfl fun a' W hf hb hd => ?_
                    exact .inr ⟨want_undef (k := 10) (t := 119) rfl (hd 10 (by kernel_rfl)), rfl⟩
                  | 13, _ =>
                    refine StepAt.by rfl fun a' W hf hb hd => ?_
                    exact .inr ⟨want_undef (k := 10) (t := 119) rfl (hd 10 (by kernel_rfl)), rfl⟩
                  | 14, _ =>
                    refine StepAt.by rfl fun a' W hf hb hd => ?_
                    exact .inr ⟨want_some (k := 4) (t := 113) rfl (hd 4 (by kernel_rfl)), rfl⟩
                  | 15, _ =>
                    refine StepAt.by rfl fun a' W hf hb hd => ?_
                    exact .inl ⟨want_some (k := 2) (t := 111) rfl (hd 2 (by kernel_rfl)), does_pick (b := true) (hd 4 (by kernel_rfl)) rfl ⟨Below.refl _ _, rfl⟩⟩
                  | 16, _ =>
                    refine StepAt.by rfl fun a' W hf hb hd => ?_
                    exact .inl ⟨want_none, does_pick (b := true) (hd 2 (by kernel_rfl)) (hd 15 (by kernel_rfl)) ⟨Below.refl _ _, rfl⟩⟩
                  | 17, _ =>
                    refine StepAt.by rfl fun a' W hf hb hd => ?_
                    exact .inl ⟨want_none, does_assign (hd 16 (by kernel_rfl)) ⟨Below.refl _ _, rfl⟩⟩
                  | k + 18, hi => exact absurd hi (Nat.not_lt.2 (Nat.le_add_left _ _))
                · intro a' W hf hb hv
                  have hlast : a'.eval (.tmp 108) = .bool true := hv 17 (by decide)
                  have HBW : Hid (Below w5.heap.size w5 W) := hb
                  have hl := hf.lit (fun t => decide (108 ≤ t) && decide (t ≤ 125)) (by kernel_rfl)
                  simp only [overL, Nat.reduceAdd, Nat.reduceLeDiff, decide_true, decide_false, Bool.and_true, Bool.and_false] at hl
                  rw [hl]
                  clear hl
                  rw [hlast]
                  clear hf hb hv hlast
                  go_wp2_with (fail)
                  go_meet
                  case rel => exact ⟨by rw [HST.out], HBW.out⟩
            · have rs : (((st : Int)) == ((1 : Int))) = false := by simp [h1]
              have HST : Hid (M.stepS q.act st x = st) := by show _ = _; rw [HSB.out]; simp [h1]
              clear h1
              refine wp_region_vals (VAA st) (by kernel_rfl) (by kernel_rfl) (VAA_stays st) ?_ ?_
              · intro i hi
                match i, hi with
                | 0, _ =>
                  refine StepAt.by rfl fun a' W hf hb hd => ?_
                  exact .inl ⟨want_none, does_move ((hf.keeps 8 (by kernel_rfl)).trans rfl) ⟨Below.refl _ _, rfl⟩⟩
                | 1, _ =>
                  refine StepAt.by rfl fun a' W hf hb hd => ?_
                  exact .inl ⟨want_none, does_run (run_eqI (hd 0 (by kernel_rfl)) rfl) ⟨Below.refl _ _, by show Value.bool _ = _; rw [rs]⟩⟩
                | 2, _ =>
                  refine StepAt.by rfl fun a' W hf hb hd => ?_
                  exact .inl ⟨want_none, does_move (hd 1 (by kernel_rfl)) ⟨Below.refl _ _, rfl⟩⟩
                | 3, _ =>
                  refine StepAt.by rfl fun a' W hf hb hd => ?_
                  exact .inr ⟨want_some (k := 2) (t := 111) rfl (hd 2 (by kernel_rfl)), rfl⟩
                | 4, _ =>
                  refine StepAt.by rfl fun a' W hf hb hd => ?_
                  exact .inr ⟨want_some (k := 2) (t := 111) rfl (hd 2 (by kernel_rfl)), rfl⟩
                | 5, _ =>
                  refine StepAt.by rfl fun a' W hf hb hd => ?_
                  exact .inr ⟨want_undef (k := 4) (t := 113) rfl (hd 4 (by kernel_rfl)), rfl⟩
                | 6, _ =>
                  refine StepAt.by rfl fun a' W hf hb hd => ?_
                  exact .inr ⟨want_undef (k := 4) (t := 113) rfl (hd 4 (by kernel_rfl)), rfl⟩
                | 7, _ =>
                  refine StepAt.by rfl fun a' W hf hb hd => ?_
                  exact .inr ⟨want_undef (k := 4) (t := 113) rfl (hd 4 (by kernel_rfl)), rfl⟩
                | 8, _ =>
                  refine StepAt.by rfl fun a' W hf hb hd => ?_
                  exact .inr ⟨want_undef (k := 4) (t := 113) rfl (hd 4 (by kernel_rfl)), rfl⟩
                | 9, _ =>
                  refine StepAt.by rfl fun a' W hf hb hd => ?_
                  exact .inr ⟨want_undef (k := 4) (t := 113) rfl (hd 4 (by kernel_rfl)), rfl⟩
                | 10, _ =>
                  refine StepAt.by rfl fun a' W hf hb hd => ?_
                  exact .inr ⟨want_undef (k := 4) (t := 113) rfl (hd 4 (by kernel_rfl)), rfl⟩
                | 11, _ =>
                  refine StepAt.by rfl fun a' W hf hb hd => ?_
                  exact .inr ⟨want_undef (k := 10) (t := 119) rfl (hd 10 (by kernel_rfl)), rfl⟩
                | 12, _ =>
                  refine StepAt.by rfl fun a' W hf hb hd => ?_
                  exact .inr ⟨want_undef (k := 10) (t := 119) rfl (hd 10 (by kernel_rfl)), rfl⟩
                | 13, _ =>
                  refine StepAt.by rfl fun a' W hf hb hd => ?_
                  exact .inr ⟨want_undef (k := 10) (t := 119) rfl (hd 10 (by kernel_rfl)), rfl⟩
                | 14, _ =>
                  refine StepAt.by rfl fun a' W hf hb hd => ?_
                  exact .inr ⟨want_undef (k := 4) (t := 113) rfl (hd 4 (by kernel_rfl)), rfl⟩
                | 15, _ =>
                  refine StepAt.by rfl fun a' W hf hb hd => ?_
                  exact .inr ⟨want_some (k := 2) (t := 111) rfl (hd 2 (by kernel_rfl)), rfl⟩
                | 16, _ =>
                  refine StepAt.by rfl fun a' W hf hb hd => ?_
                  exact .inl ⟨want_none, does_pick (b := false) (hd 2 (by kernel_rfl)) rfl ⟨Below.refl _ _, rfl⟩⟩
                | 17, _ =>
                  refine StepAt.by rfl fun a' W hf hb hd => ?_
                  exact .inl ⟨want_none, does_assign (hd 16 (by kernel_rfl)) ⟨Below.refl _ _, rfl⟩⟩
                | k + 18, hi => exact absurd hi (Nat.not_lt.2 (Nat.le_add_left _ _))
              · intro a' W hf hb hv
                have hlast : a'.eval (.tmp 108) = .bool false := hv 17 (by decide)
                have HBW : Hid (Below w5.heap.size w5 W) := hb
                have hl := hf.lit (fun t => decide (108 ≤ t) && decide (t ≤ 125)) (by kernel_rfl)
                simp only [overL, Nat.reduceAdd, Nat.reduceLeDiff, decide_true, decide_false, Bool.and_true, Bool.and_false] at hl
                rw [hl]
                clear hl
                rw [hlast]
                clear hf hb hv hlast
                go_wp2_with (fail)
                go_meet
                case rel => exact ⟨by rw [HST.out], HBW.out⟩
          have hyf : st = 0 ∧ M.madeB q.act.fid x = true := ⟨h0.1, by rw [HMB.out, h0.2.1, h0.2.2]; simp⟩
          have HSB : Hid (M.stepS q.act st x = if (decide (v.a.dir = r.a.dir) && decide (v.a.name = r.a.name)) = true then 1 else 2) := by
            show _ = _
            unfold M.stepS
            rw [if_pos hyf, HX.out.2.1.1.2.2.1, HX.out.2.1.1.2.2.2.1, HK.out.2.2.1, HK.out.2.2.2]
            simp
          obtain ⟨h01, h02, h03⟩ := h0
          have k0 : (st == 0) = true := by simp [h01]
          have kf : (v.a.fid == r.a.fid) = true := by simp [h03]
          subst h02
          clear hyf h01 h03
          rcases here_cases v.a r.a.dir r.a.name with ⟨d1, d2, q3⟩ | ⟨d1, d2, q3⟩ | ⟨d1, q3⟩
          all_goals rw [q3] at HSB
          all_goals clear q3
          all_goals go_wp2_with (fail)
          all_goals go_meet
          all_goals exact ⟨by show Value.int .i64 _ = _; rw [HSB.out]; rfl, Below.refl _ _⟩
        obtain ⟨rfl, hb6⟩ := hcut
        rename World => w6
        have H6 : Hid (Below wr.heap.size wr w6 ∧ BoxR w6 wr.heap.size v ∧ BoxA w6 (wr.heap.size + 1) v.a ∧ BoxA w6 (w.heap.size + 1) r.a) := ⟨H5.out.1.trans (hb6.mono H5.out.1.size), H5.out.2.1.below hb6 (by omega), H5.out.2.2.1.below hb6 bz, H5.out.2.2.2.1.below hb6 az5⟩
        clear hb6 H5 b0 b1 b2 b3 b4 b5 b6 bf bz a0 a1 a2 a3 a4 a5 a6 af az5 HMB HHB HHR2 HNM HMK p4
        rw [← HSS.out]
        go_upto_region 18 with (fail)
        go_cut [131] from 126 to 131 (fun t W => t = .bool (!(M.nameFB x.act q.act.fid)) ∧ Below w6.heap.size w6 W)
        case first =>
          have hbd : ∀ W, Below w6.drew.heap.size w6.drew W → Below w6.heap.size w6 W := fun W hb => (Below.refl _ _).drew.trans hb
          have HBB : ∀ W, Below w6.drew.heap.size w6.drew W → ActAt W (wr.heap.size + 1) 0 v.a := fun W hb => H6.out.2.2.1.at_.below (hbd W hb) (lt_of_block H6.out.2.2.1)
          have HBA : ∀ W, Below w6.drew.heap.size w6.drew W → ActAt W (w.heap.size + 1) 0 r.a := fun W hb => H6.out.2.2.2.at_.below (hbd W hb) (lt_of_block H6.out.2.2.2)
          have HCX : ∀ W, Below w6.drew.heap.size w6.drew W → ContA W v.a x.act := fun W hb => HX.out.2.1.1.below (Nat.le_refl _) (H6.out.1.trans ((hbd W hb).mono H6.out.1.size))
          have hyf : r.a.fid = q.act.fid := HK.out.2.1
          refine wp_region_vals (VA18 (w.heap.size + 1) v r x q.act) (by kernel_rfl) (by kernel_rfl) (VA18_stays (w.heap.size + 1) v r x q.act) ?_ ?_
          · intro i hi
            match i, hi with
            | 0, _ =>
              refine StepAt.by rfl fun a' W hf hb hd => ?_
              exact .inl ⟨want_none, does_run (run_loadA ((hf.keeps 11 (by kernel_rfl)).trans rfl) (HBB W hb)) ⟨Below.refl _ _, rfl⟩⟩
            | 1, _ =>
              refine StepAt.by rfl fun a' W hf hb hd => ?_
              refine .inl ⟨want_none, ?_⟩
              exact does_call1 (enters_of Try.func17 (by kernel_rfl) (by kernel_rfl)) (hd 0 (by kernel_rfl)) ((refFids_any v.a x.act W (HCX W hb)).mono fun e W' ⟨A1, c1, he, ho, hb'⟩ => ⟨_, he, hb', A1, _, c1, _, rfl, ho⟩)
            | 2, _ =>
              refine StepAt.by rfl fun a' W hf hb hd => ?_
              exact .inl ⟨want_none, does_run (run_fieldAo ((hf.keeps 6 (by kernel_rfl)).trans rfl) (by decide)) ⟨Below.refl _ _, rfl⟩⟩
            | 3, _ =>
              refine StepAt.by rfl fun a' W hf hb hd => ?_
              exact .inl ⟨want_none, does_run (run_load3 (hd 2 (by kernel_rfl)) ((HBA W hb) 1 _ rfl)) ⟨Below.refl _ _, rfl⟩⟩
            | 4, _ =>
              refine StepAt.by rfl fun a' W hf hb hd => ?_
              refine .inl ⟨want_none, ?_⟩
              obtain ⟨A1, n1, c1, B1, e1, ho1⟩ := hd 1 (by kernel_rfl)
              exact does_call2 (enters_of Try.func44 (by kernel_rfl) (by kernel_rfl)) e1 (hd 3 (by kernel_rfl)) ((refHas_any A1 n1 c1 (M.fidsS x.act) r.a.fid W B1 ho1 (fids_small ho1)).mono fun e W' ⟨he, hw⟩ => ⟨_, he, by rw [hw]; exact Below.refl _ _, by show Value.bool _ = _; exact congrArg Value.bool (by unfold M.nameFB; rw [hyf])⟩)
            | 5, _ =>
              refine StepAt.by rfl fun a' W hf hb hd => ?_
              exact .inl ⟨want_none, does_not (hd 4 (by kernel_rfl)) ⟨Below.refl _ _, rfl⟩⟩
            | k + 6, hi => exact absurd hi (Nat.not_lt.2 (Nat.le_add_left _ _))
          · intro a' W hf hb hv
            have hlast : a'.eval (.tmp 131) = .bool (!(M.nameFB x.act q.act.fid)) := hv 5 (by decide)
            have HBW : Hid (Below w6.heap.size w6 W) := hb
            have hl := hf.lit (fun t => decide (126 ≤ t) && decide (t ≤ 131)) (by kernel_rfl)
            simp only [overL, Nat.reduceAdd, Nat.reduceLeDiff, decide_true, decide_false, Bool.and_true, Bool.and_false] at hl
            rw [hl]
            clear hl
            clear hf hb hv
            go_wp2_with (fail)
            go_meet
            case rel => exact ⟨hlast, HBW.out⟩
        obtain ⟨rfl, hb7⟩ := hcut
        rename World => w7
        have hz6 := H6.out.1.size
        have hz7 := hb7.size
        have H7 : Hid (Below w1.heap.size w1 w7 ∧ BoxR w7 wr.heap.size v ∧ ShareL w w7 w1.heap.size B m d us ((xs.take k).filter fun x => !M.nameFB x.act q.act.fid)) := ⟨HO.out.2.trans ((H6.out.1.trans (hb7.mono hz6)).mono hsz), H6.out.2.1.below hb7 (by have := lt_of_block H6.out.2.1; exact this), HO.out.1.below (H6.out.1.trans (hb7.mono hz6)) (Nat.le_refl _)⟩
        clear hb7 H6
        cases hnb : M.nameFB x.act q.act.fid
        · have HF2 : Hid ((xs.take (k + 1)).filter (fun x => !M.nameFB x.act q.act.fid) = (xs.take k).filter (fun x => !M.nameFB x.act q.act.fid) ++ [x]) := by show _ = _; rw [HFS.out, hnb]; rfl
          obtain ⟨b0, b1, b2, b3, b4, b5, b6, b7, b8, bf, bz⟩ := H7.out.2.1.facts
          have HWB : Hid _ := boxR_start w7 v
          clear hnb
          go_wp2_with (at_builtin; refine wpList_append_row _ (by rfl) (.tmp 132) (.tmp 134) 46 (by rfl) w1.heap.size 48 i48 _ 104 Try.underlying46 hi48 hz48 hs48 hb48 rfl (by decide) _ m _ (by rfl) (own_below H7.out.2.2.1 (HWB.out _ rfl).1 (Nat.le_refl _)) (some ⟨w7.heap.size, 0, none⟩) 1 1 [v] (by rfl) (rowR_box (HWB.out _ rfl).2.1) rec_len rec_one (by unfold maxLen; omega) (by omega) (by simp; omega) ?_; intro v4 w4 hown4 hg4; obtain ⟨A4, c4', rfl, _, _⟩ := own_form hown4; have HR : Hid (ShareL w w4 w1.heap.size A4 (m + 1) c4' (us ++ [v]) ((xs.take (k + 1)).filter fun x => !M.nameFB x.act q.act.fid) ∧ Below w1.heap.size w1 w4) := ⟨by rw [HF2.out]; exact ShareL.snoc H7.out.2.2.2 HX.out.2.2 (by simpa using hown4), own_grown_below (H7.out.1.trans ((HWB.out _ rfl).1.mono H7.out.1.size)) (by simp; omega) (own_below H7.out.2.2.1 (HWB.out _ rfl).1 (Nat.le_refl _)) hg4⟩; clear hown4 hg4)
          go_roundw
          case rel => exact ⟨k + 1, A4, m + 1, c4', us ++ [v], by omega, by go_num, rfl, rfl, HR.out.1, HR.out.2⟩
          case measure => simp [intOf]; omega
        · have HF2 : Hid ((xs.take (k + 1)).filter (fun x => !M.nameFB x.act q.act.fid) = (xs.take k).filter (fun x => !M.nameFB x.act q.act.fid)) := by show _ = _; rw [HFS.out, hnb]; simp
          clear hnb
          go_wp2_with (fail)
          go_roundw
          case rel => exact ⟨k + 1, B, m, d, us, by omega, by go_num, rfl, rfl, by rw [HF2.out]; exact H7.out.2.2, H7.out.1⟩
          case measure => simp [intOf]; omega
      · have HL : Hid (xs.take k = xs) := by show _ = _; exact List.take_of_length_le (by rw [← HT.out.2.2]; omega)
        rw [HL.out]
        by_cases h1 : M.stateS q.act xs = 1
        · have s1 : (M.stateS q.act xs == 1) = true := by simp [h1]
          have HA : Hid (M.addS xs q = (0, xs.filter fun x => !M.nameFB x.act q.act.fid)) := by show _ = _; unfold M.addS; rw [HSU.out, h1]; rfl
          clear h1
          go_wp2
          go_ret2
          have hshr := HO.out.1
          rw [HL.out] at hshr
          have hbw : Below w.heap.size w wr := H1.out.1.trans (hb.mono H1.out.1.size)
          exact AddedR.of HA.out (hshr.tree hbw) hbw
        · have s1 : (M.stateS q.act xs == 1) = false := by simp [h1]
          have HU : Hid (M.undoB xs q.act = false) := by show _ = _; rw [HSU.out]; simp [h1]
          clear h1
          go_wp2_with (fail)
          go_meet
          case rel => exact ⟨rfl, HU, hb⟩
  obtain ⟨rfl, HU, hb2⟩ := hcut
  rename World => w2
  have hz2 := hb2.size
  have H2 : Hid (Below w.heap.size w w2 ∧ BoxR w2 w.heap.size r ∧ BoxA w2 (w.heap.size + 1) r.a) := ⟨H1.out.1.trans (hb2.mono H1.out.1.size), H1.out.2.1.below hb2 (lt_of_block H1.out.2.1), H1.out.2.2.below hb2 az⟩
  clear hb2 H1 a0 a1 a2 a3 a4 a5 a6 af
  go_wp2_with (fail)
  go_loopw [7, 142] (fun t i wr => ∃ (k : Nat) (B : Option Addr) (m d : Nat) (us : List RV), k ≤ n ∧ i = .int .i64 k ∧ t = .slice B m d ∧ ShareL w wr w2.heap.size B m d us ((xs.take k).filter fun x => !M.overB q.act x.act) ∧ Below w2.heap.size w2 wr) (fun _ i _ => n - (intOf i).toNat)
  case atStart => exact ⟨0, none, 0, 0, [], Nat.zero_le _, rfl, rfl, ShareL.nil _ _ _, Below.refl _ _⟩
  case round =>
    obtain ⟨k, B, m, d, us, hk, rfl, rfl, hsh, hb⟩ := hrel
    have HO : Hid (ShareL w wr w2.heap.size B m d us ((xs.take k).filter fun x => !M.overB q.act x.act) ∧ Below w2.heap.size w2 wr) := ⟨hsh, hb⟩
    have hsz := hb.size
    have hml : m ≤ k := by rw [hsh.len]; exact Nat.le_trans (List.length_filter_le _ _) (by simp; omega)
    have HML : Hid (m = ((xs.take k).filter fun x => !M.overB q.act x.act).length) := hsh.len
    have hbw : Below w.heap.size w wr := H2.out.1.trans (hb.mono H2.out.1.size)
    clear hsh
    by_cases hlt : k < n
    · have htr := HT.out.1.below (Nat.le_refl _) hbw
      obtain ⟨g, o, v, rfl, hgb, hvk, c0, c1, c2, c3, c4, c5, c6, c7, c8⟩ := htr.1.at hlt
      obtain ⟨x, hx, hcx⟩ := htr.2.at hvk
      have hcx0 := HT.out.1.2.2 k v x hvk hx
      have HX : Hid (xs[k]? = some x ∧ ContR w v x) := ⟨hx, hcx0⟩
      have HFS : Hid ((xs.take (k + 1)).filter (fun x => !M.overB q.act x.act) = (xs.take k).filter (fun x => !M.overB q.act x.act) ++ (if (!M.overB q.act x.act) then [x] else [])) := filter_step hx _
      have HOV : Hid (M.overB q.act x.act = (decide (r.a.kind = 3) && decide (v.a.kind = 3) && decide (v.a.fid = r.a.fid))) := by
        show _ = _
        unfold M.overB
        rw [HK.out.1, HK.out.2.1, hcx.1.1, hcx.1.2.1]
        congr 1
        rw [decide_eq_decide]
        exact eq_comm
      have HWA : Hid _ := boxR_start wr v
      have hba := H2.out.2.2.below hb (lt_of_block H2.out.2.2)
      obtain ⟨a0, a1, a2, a3, a4, a5, a6, af, az5⟩ := hba.facts
      clear hvk htr hx hcx hcx0 hba
      go_upto_region 27 with (fail)
      go_cut [162] from 146 to 162 (fun t W => t = .bool (!(M.overB q.act x.act)) ∧ Below wr.heap.size wr W ∧ BoxR W wr.heap.size v ∧ W.heap.size = wr.heap.size + 1)
      case first =>
        by_cases h3 : r.a.kind = 3
        · have k3 : (r.a.kind != 3) = false := by simp [h3]
          have Eh3 : Hid (decide _ = true) := decide_eq_true h3
          clear h3
          by_cases h4 : v.a.kind = 3
          · have k4 : (v.a.kind != 3) = false := by simp [h4]
            have Eh4 : Hid (decide _ = true) := decide_eq_true h4
            clear h4
            by_cases hf : v.a.fid = r.a.fid
            · have kf : (v.a.fid != r.a.fid) = false := by simp [hf]
              have Ehf : Hid (decide _ = true) := decide_eq_true hf
              clear hf
              go_wp2_with (fail)
              go_meet
              case rel => exact ⟨congrArg Value.bool (by rw [HOV.out, Eh3.out, Eh4.out, Ehf.out]; rfl), HWA.out _ rfl⟩
            · have kf : (v.a.fid != r.a.fid) = true := by simp [hf]
              have Ehf : Hid (decide _ = false) := decide_eq_false hf
              clear hf
              go_wp2_with (fail)
              go_meet
              case rel => exact ⟨congrArg Value.bool (by rw [HOV.out, Eh3.out, Eh4.out, Ehf.out]; rfl), HWA.out _ rfl⟩
          · have k4 : (v.a.kind != 3) = true := by simp [h4]
            have Eh4 : Hid (decide _ = false) := decide_eq_false h4
            clear h4
            go_wp2_with (fail)
            go_meet
            case rel => exact ⟨congrArg Value.bool (by rw [HOV.out, Eh3.out, Eh4.out]; rfl), HWA.out _ rfl⟩
        · have k3 : (r.a.kind != 3) = true := by simp [h3]
          have Eh3 : Hid (decide _ = false) := decide_eq_false h3
          clear h3
          go_wp2_with (fail)
          go_meet
          case rel => exact ⟨congrArg Value.bool (by rw [HOV.out, Eh3.out]; rfl), HWA.out _ rfl⟩
      obtain ⟨rfl, p1, p2, p3⟩ := hcut
      rename World => w7
      have H7 : Hid (Below w2.heap.size w2 w7 ∧ BoxR w7 wr.heap.size v ∧ ShareL w w7 w2.heap.size B m d us ((xs.take k).filter fun x => !M.overB q.act x.act)) := ⟨HO.out.2.trans (p1.mono hsz), p2, HO.out.1.below p1 (Nat.le_refl _)⟩
      clear p1 p2 p3 HWA c0 c1 c2 c3 c4 c5 c6 c7 c8 a0 a1 a2 a3 a4 a5 a6 af az5 HOV
      cases hnb : M.overB q.act x.act
      · have HF2 : Hid ((xs.take (k + 1)).filter (fun x => !M.overB q.act x.act) = (xs.take k).filter (fun x => !M.overB q.act x.act) ++ [x]) := by show _ = _; rw [HFS.out, hnb]; rfl
        obtain ⟨b0, b1, b2, b3, b4, b5, b6, b7, b8, bf, bz⟩ := H7.out.2.1.facts
        have HWB : Hid _ := boxR_start w7 v
        clear hnb
        go_wp2_with (at_builtin; refine wpList_append_row _ (by rfl) (.tmp 163) (.tmp 165) 46 (by rfl) w2.heap.size 48 i48 _ 104 Try.underlying46 hi48 hz48 hs48 hb48 rfl (by decide) _ m _ (by rfl) (own_below H7.out.2.2.1 (HWB.out _ rfl).1 (Nat.le_refl _)) (some ⟨w7.heap.size, 0, none⟩) 1 1 [v] (by rfl) (rowR_box (HWB.out _ rfl).2.1) rec_len rec_one (by unfold maxLen; omega) (by omega) (by simp; omega) ?_; intro v4 w4 hown4 hg4; obtain ⟨A4, c4', rfl, _, _⟩ := own_form hown4; have HR : Hid (ShareL w w4 w2.heap.size A4 (m + 1) c4' (us ++ [v]) ((xs.take (k + 1)).filter fun x => !M.overB q.act x.act) ∧ Below w2.heap.size w2 w4) := ⟨by rw [HF2.out]; exact ShareL.snoc H7.out.2.2.2 HX.out.2 (by simpa using hown4), own_grown_below (H7.out.1.trans ((HWB.out _ rfl).1.mono H7.out.1.size)) (by simp; omega) (own_below H7.out.2.2.1 (HWB.out _ rfl).1 (Nat.le_refl _)) hg4⟩; clear hown4 hg4)
        go_roundw
        case rel => exact ⟨k + 1, A4, m + 1, c4', us ++ [v], by omega, by go_num, rfl, HR.out.1, HR.out.2⟩
        case measure => simp [intOf]; omega
      · have HF2 : Hid ((xs.take (k + 1)).filter (fun x => !M.overB q.act x.act) = (xs.take k).filter (fun x => !M.overB q.act x.act)) := by show _ = _; rw [HFS.out, hnb]; simp
        clear hnb
        go_wp2_with (fail)
        go_roundw
        case rel => exact ⟨k + 1, B, m, d, us, by omega, by go_num, rfl, by rw [HF2.out]; exact H7.out.2.2, H7.out.1⟩
        case measure => simp [intOf]; omega
    · have HL : Hid (xs.take k = xs) := by show _ = _; exact List.take_of_length_le (by rw [← HT.out.2.2]; omega)
      have hshr := HO.out.1
      rw [HL.out] at hshr HML
      have HA : Hid (M.addS xs q = if 20 ≤ m then (5, []) else (0, (xs.filter fun x => !M.overB q.act x.act) ++ [q])) := by
        show _ = _
        unfold M.addS
        rw [HU.out, if_neg (by simp), ← HML.out]
      have HSH : Hid (ShareL w wr w2.heap.size B m d us (xs.filter fun x => !M.overB q.act x.act)) := hshr
      have hbr := H2.out.2.1.below hb (lt_of_block H2.out.2.1)
      clear hshr
      by_cases h20 : 20 ≤ m
      · have h20' : (20 : Int) ≤ (m : Int) := by omega
        have HA2 : Hid (M.addS xs q = (5, [])) := by show _ = _; rw [HA.out, if_pos h20]
        clear hbr
        go_wp2
        go_ret2
        exact AddedR.of (us := []) HA2.out ⟨⟨rfl, .inl rfl⟩, All2.nil⟩ hbw
      · have h20' : ¬ (20 : Int) ≤ (m : Int) := by omega
        have HA2 : Hid (M.addS xs q = (0, (xs.filter fun x => !M.overB q.act x.act) ++ [q])) := by show _ = _; rw [HA.out, if_neg h20]
        obtain ⟨b0, b1, b2, b3, b4, b5, b6, b7, b8, bf, bz⟩ := hbr.facts
        have HWB : Hid _ := boxR_start wr r
        clear hbr
        go_wp2_with (at_builtin; refine wpList_append_row _ (by rfl) (.tmp 171) (.tmp 173) 46 (by rfl) w2.heap.size 48 i48 _ 104 Try.underlying46 hi48 hz48 hs48 hb48 rfl (by decide) _ m _ (by rfl) (own_below HSH.out.1 (HWB.out _ rfl).1 (Nat.le_refl _)) (some ⟨wr.heap.size, 0, none⟩) 1 1 [r] (by rfl) (rowR_box (HWB.out _ rfl).2.1) rec_len rec_one (by unfold maxLen; omega) (by omega) (by simp; omega) ?_; intro v4 w4 hown4 hg4; obtain ⟨A4, c4', rfl, _, _⟩ := own_form hown4; have HR : Hid (ShareL w w4 w2.heap.size A4 (m + 1) c4' (us ++ [r]) ((xs.filter fun x => !M.overB q.act x.act) ++ [q]) ∧ Below w2.heap.size w2 w4) := ⟨ShareL.snoc HSH.out.2 HT.out.2.1 (by simpa using hown4), own_grown_below (HO.out.2.trans ((HWB.out _ rfl).1.mono hsz)) (by simp; omega) (own_below HSH.out.1 (HWB.out _ rfl).1 (Nat.le_refl _)) hg4⟩; clear hown4 hg4)
        go_ret2
        have hbw4 : Below w.heap.size w w4 := H2.out.1.trans (HR.out.2.mono H2.out.1.size)
        exact AddedR.of HA2.out (HR.out.1.tree hbw4) hbw4
end Go.Proofs.Ytlegjdlmcphhlab
