/-
  THE REFERENCE's Leave AND Enter: lists of one's own, one entry behind the other.
-/
import Derived.Test.YtkdpdgbacladhaaRefe
namespace Go.Proofs.Ytkdpdgbacladhaa
open Go.RowKit

/-- a list of one's own since w0 -/
def Keep (w0 : World) (es : List (ByteArray × Int)) (A : Option Addr) (m c : Nat) (wr : World) : Prop :=
  wr.ownsRow w0.heap.size 72 2 (.slice A m c) m (es.flatMap entCells) ∧ Below w0.heap.size w0 wr
theorem Keep.start (w0 : World) : Keep w0 [] none 0 0 w0 := ⟨World.ownsRow_nil _ _ _ _, Below.refl _ _⟩
theorem Keep.alloc {w0 : World} {es : List (ByteArray × Int)} {A : Option Addr} {m c : Nat} {wr : World} (h : Keep w0 es A m c wr) (o : Obj) : Keep w0 es A m c (wr.alloc o) :=
  ⟨own_below h.1 ((Below.refl _ _).alloc (Nat.le_refl _) o) (Nat.le_refl _), h.2.alloc h.2.size o⟩
theorem Keep.drew {w0 : World} {es : List (ByteArray × Int)} {A : Option Addr} {m c : Nat} {wr : World} (h : Keep w0 es A m c wr) : Keep w0 es A m c wr.drew :=
  ⟨own_below h.1 ((Below.refl _ _).drew) (Nat.le_refl _), h.2.drew⟩
theorem Keep.app {w0 : World} {es : List (ByteArray × Int)} {e : ByteArray × Int} {A A' : Option Addr} {m c c' : Nat} {W w1 : World} (h : Keep w0 es A m c W) (hg : W.grownBy w1 (Value.slice A m c).ownBlock)
    (ho : w1.ownsRow w0.heap.size 72 2 (.slice A' (m + 1) c') (m + 1) (es.flatMap entCells ++ [e].flatMap entCells)) : Keep w0 (es ++ [e]) A' (m + 1) c' w1 := by
  refine ⟨by rw [List.flatMap_append]; exact ho, h.2.grown hg h.2.size fun k hk => (h.1.lt k hk).1⟩
theorem Keep.len {w0 : World} {es : List (ByteArray × Int)} {A : Option Addr} {m c : Nat} {wr : World} (h : Keep w0 es A m c wr) : m = es.length := own_len ent_len (by decide) h.1

theorem row_new2 (w : World) (o : Obj) (e : ByteArray × Int) : Row 2 entCells ((w.alloc o).alloc (.cells #[.string e.1, .int .i64 e.2] 72)) (some ⟨w.heap.size + 1, 0, none⟩) 1 [e] := by
  have := row_of_box2 (Box2.new (w.alloc o) e)
  simpa using this
theorem row_new1 (w : World) (e : ByteArray × Int) : Row 2 entCells (w.alloc (.cells #[.string e.1, .int .i64 e.2] 72)) (some ⟨w.heap.size, 0, none⟩) 1 [e] := row_of_box2 (Box2.new w e)

theorem dropE_snoc (es : List (ByteArray × Int)) (e : ByteArray × Int) (s : ByteArray) : M.dropE (es ++ [e]) s = if e.1 = s then M.dropE es s else M.dropE es s ++ [e] := by
  unfold M.dropE
  rw [List.filter_append]
  by_cases h : e.1 = s <;> simp [h]

set_option maxHeartbeats 2000000 in
theorem refLeave_own (v : NV) (x : M.Nd) (s : ByteArray) (w : World) (hc : Cont w v x) (hs : Small x) :
    Calls Try.prog 29 #[v.val, .string s] w fun e w' => ∃ (A : Option Addr) (m c : Nat), e = .returned (NV.val ⟨v.fid, v.dir, v.dA, v.dn, v.dc, A, m, c, v.ver⟩) ∧ w'.ownsRow w.heap.size 72 2 (.slice A m c) m ((M.dropE x.ents s).flatMap entCells) ∧ Below w.heap.size w w' := by
  have hB0 : ∀ W : World, W = (w.alloc (.cells #[.int .i64 v.fid, .bool v.dir, .slice v.dA v.dn v.dc, .slice v.eA v.en v.ec, .int .i64 v.ver] 26)).alloc (.cells #[.int .i64 0, .bool false, .slice none 0 0, .slice none 0 0, .int .i64 0] 26) → Box W w.heap.size v ∧ Box W (w.heap.size + 1) NV.zero ∧ W.heap.size = w.heap.size + 2 ∧ Below w.heap.size w W := by
    rintro W rfl
    exact ⟨(Box.new w v).alloc _, by have := Box.new0 (w.alloc (.cells #[.int .i64 v.fid, .bool v.dir, .slice v.dA v.dn v.dc, .slice v.eA v.en v.ec, .int .i64 v.ver] 26)); simpa using this, by simp, ((Below.refl _ _).alloc (Nat.le_refl _) _).alloc (by simp) _⟩
  have HB0 : Hid _ := hB0
  have HC : Hid (Cont w v x ∧ Small x) := ⟨hc, hs⟩
  have hen : v.en * 24 ≤ 140737488355328 := by have := hc.2.2.2.2.1; have := hs.2; omega
  have HL : Hid (v.en = x.ents.length) := hc.2.2.2.2.1
  obtain ⟨i58, hi58, hz58, hs58, hb58⟩ := info_parts info58
  clear hB0 hc hs
  go_enter Try.func29, Try.ntmps29
  go_wp2
  obtain ⟨q0, q1, q2, q3⟩ := HB0.out _ rfl
  generalize (w.alloc (.cells #[.int .i64 v.fid, .bool v.dir, .slice v.dA v.dn v.dc, .slice v.eA v.en v.ec, .int .i64 v.ver] 26)).alloc (.cells #[.int .i64 0, .bool false, .slice none 0 0, .slice none 0 0, .int .i64 0] 26) = W0 at q0 q1 q2 q3 ⊢
  have H0 : Hid (Box W0 w.heap.size v ∧ Box W0 (w.heap.size + 1) NV.zero ∧ Below w.heap.size w W0 ∧ W0.heap.size = w.heap.size + 2) := ⟨q0, q1, q3, q2⟩
  clear q0 q1 q2 q3 HB0
  go_loopw [5, 11] (fun l i wr => ∃ (k m c : Nat) (A : Option Addr), k ≤ v.en ∧ i = .int .i64 k ∧ l = .slice A m c ∧ m ≤ k ∧ Keep W0 (M.dropE (x.ents.take k) s) A m c wr) (fun _ i _ => v.en - (intOf i).toNat)
  case atStart => exact ⟨0, 0, 0, none, Nat.zero_le _, rfl, rfl, Nat.le_refl _, by rw [List.take_zero]; exact Keep.start W0⟩
  case round =>
    obtain ⟨k, m, c, A, hk, rfl, rfl, hmk, hkp⟩ := hrel
    have HK : Hid (Keep W0 (M.dropE (x.ents.take k) s) A m c wr) := hkp
    have HBX : Hid (Box wr w.heap.size v ∧ Box wr (w.heap.size + 1) NV.zero ∧ Below w.heap.size w wr) := ⟨H0.out.1.below hkp.2 (by rw [H0.out.2.2.2]; omega), H0.out.2.1.below hkp.2 (by rw [H0.out.2.2.2]; omega), H0.out.2.2.1.trans (hkp.2.mono (by rw [H0.out.2.2.2]; omega))⟩
    clear hkp
    obtain ⟨p0, p1, p2, p3, p4, pf, pz⟩ := HBX.out.1.facts
    obtain ⟨z0, z1, z2, z3, z4, zf, zz⟩ := HBX.out.2.1.facts
    by_cases hlt : k < v.en
    · obtain ⟨g, o, ⟨nm, fd⟩, ha, _, hak, a0, a1⟩ := Ents.at (HC.out.1.2.2.2.2.below (Nat.le_refl _) HBX.out.2.2) hlt
      have HA : Hid (x.ents[k]? = some (nm, fd)) := hak
      dsimp only at a0 a1
      have hkn : (k : Int) < (v.en : Int) := by omega
      have hk0 : (0 : Int) ≤ (k : Int) := by omega
      clear hak p0 p1 p2 p3 p4 z0 z1 z2 z3 z4
      by_cases hse : nm = s
      · have q : (nm.toList == s.toList) = true := by rw [raw_eq]; exact decide_eq_true hse
        have r : (nm.toList != s.toList) = false := by rw [bne, q]; rfl
        have HSE : Hid (nm = s) := hse
        clear hse
        go_wp2
        go_roundw
        case rel => exact ⟨k + 1, m, c, A, by omega, by go_num, rfl, by omega, by rw [take_step HA.out, dropE_snoc, if_pos HSE.out]; exact HK.out.alloc _⟩
        case measure => simp [intOf]; omega
      · have q : (nm.toList == s.toList) = false := by rw [raw_eq]; exact decide_eq_false hse
        have r : (nm.toList != s.toList) = true := by rw [bne, q]; rfl
        have HSE : Hid (nm ≠ s) := hse
        clear hse
        go_wp2_with (at_builtin; refine wpList_append_row _ (by rfl) (.tmp 19) (.tmp 21) 24 (by rfl) W0.heap.size 72 i58 (.agg #[.string ByteArray.empty, .int .i64 0]) 24 Try.underlying24 hi58 hz58 hs58 hb58 rfl (by decide) _ m _ (by rfl) ((HK.out.alloc _).alloc _).1 _ 1 1 [(nm, fd)] (by rfl) (row_new2 wr _ (nm, fd)) ent_len ent_one (by unfold maxLen; omega) (by omega) ((HK.out.alloc _).alloc _).2.size ?_; intro v1 w1 hown1 hg1; obtain ⟨A1, c1, rfl, hA1, hA2⟩ := own_form hown1; have HK1 : Hid (Keep W0 (M.dropE (x.ents.take k) s ++ [(nm, fd)]) A1 (m + 1) c1 w1) := ((HK.out.alloc _).alloc _).app hg1 hown1; clear hown1 hg1 ha)
        go_roundw
        case rel => exact ⟨k + 1, m + 1, c1, A1, by omega, by go_num, rfl, by omega, by rw [take_step HA.out, dropE_snoc, if_neg HSE.out]; exact HK1.out⟩
        case measure => simp [intOf]; omega
    · have HN : Hid (x.ents.take k = x.ents) := by have := HL.out; show _ = _; exact List.take_of_length_le (by omega)
      go_wp2
      have hkk := HK.out
      rw [HN.out] at hkk
      have hbr := put5_below (HBX.out.2.2.setCell (p := ⟨w.heap.size, 3, none⟩) (Nat.le_refl _) (.slice A m c)) (s := w.heap.size + 1) (by omega) 0 ⟨v.fid, v.dir, v.dA, v.dn, v.dc, A, m, c, v.ver⟩
      have hoe := put5_own (ownsRow_setCell_below hkk.1 (a := ⟨w.heap.size, 3, none⟩) (by show w.heap.size < _; rw [H0.out.2.2.2]; omega) (.slice A m c)) (s := w.heap.size + 1) (by rw [H0.out.2.2.2]; omega) 0 ⟨v.fid, v.dir, v.dA, v.dn, v.dc, A, m, c, v.ver⟩
      exact bodyPost_ret (v := NV.val ⟨v.fid, v.dir, v.dA, v.dn, v.dc, A, m, c, v.ver⟩) (by simp [results, Try.results29, go_sem, z0, z1, z2, z3, z4]) rfl ⟨A, m, c, rfl, own_mono hoe (by rw [H0.out.2.2.2]; omega), hbr⟩

theorem refLeave_any (v : NV) (x : M.Nd) (s : ByteArray) (w : World) (hc : Cont w v x) (hs : Small x) :
    Calls Try.prog 29 #[v.val, .string s] w fun e w' => ∃ v' : NV, e = .returned v'.val ∧ Cont w' v' (withE x (M.dropE x.ents s)) ∧ Below w.heap.size w w' := by
  refine (refLeave_own v x s w hc hs).mono ?_
  rintro e w' ⟨A, m, c, rfl, ho, hb⟩
  exact ⟨_, rfl, ⟨hc.1, hc.2.1, hc.2.2.1, hc.2.2.2.1.below (Nat.le_refl _) hb, Row.ofOwn ent_len (by decide) ho⟩, hb⟩
end Go.Proofs.Ytkdpdgbacladhaa
