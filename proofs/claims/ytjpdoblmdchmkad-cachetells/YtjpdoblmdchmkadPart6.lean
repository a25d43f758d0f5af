/- TEXTS LAID TOGETHER: Commonk, Kcb, Kcc, Vals, Does -/
import Derived.Test.YtjpdoblmdchmkadPart4
import Derived.Test.YtjpdoblmdchmkadPart5
import Derived.Test.YtjpdoblmdchmkadPart2
import Derived.Test.YtjpdoblmdchmkadPart1
import Derived.RegionTactic
/-
  CACHES AS THEY ARE READ.
-/
namespace Go.Proofs.Ytjpdoblmdchmkad
open Go.ChangeShapes Go.WideShapes Go.ChangeAt Go.RowKit Go.Deep

theorem cellsK : Try.prog.cellsOf 63 = 8 := by kernel_rfl
theorem bytesK : Try.prog.bytesOf 63 = 96 := by kernel_rfl
section
variable {H : Type} {enc : TypeId × Value → H}
instance : Inhabited KV := ⟨KV.zero⟩
instance : Inhabited M.Kp := ⟨⟨nd0, false, 0, 0⟩⟩
set_option maxRecDepth 8000 in
/-- one that is kept, as it came in -/
theorem open_kept {W : World} {sp : Nat → Bool} {held : Bool} {fuel : Nat} {cs : List Value} {x : DataW H × List MemPlace} (h : DataW.trod enc Try.prog W 0 sp held fuel 63 cs = some x) :
    ∃ (v : KV) (y : M.Kp), cs = v.cells ∧ ContC W v y ∧ (Sized 63 x.1 → y.node.data.length ≤ reachBytes ∧ y.node.ents.length * 24 ≤ reachBytes) := by
  obtain ⟨ys, m, _, rfl, hl, hys, hf⟩ := DataW.trod_struct Try.underlying63 h
  rw [cellsK] at hl
  obtain ⟨c0, c1, c2, c3, c4, c5, c6, c7, rfl⟩ : ∃ a b c d e f g i, cs = [a, b, c, d, e, f, g, i] := by
    match cs, hl with
    | [a, b, c, d, e, f, g, i], _ => exact ⟨a, b, c, d, e, f, g, i, rfl⟩
  have f0 : DataW.trod enc Try.prog W 0 sp held m 41 (([c0, c1, c2, c3, c4, c5, c6, c7].drop 0).take (Try.prog.cellsOf 41)) = ys[0]? := hf 0 _ rfl
  rw [cells26] at f0
  change DataW.trod enc Try.prog W 0 sp held m 41 [c0, c1, c2, c3, c4] = ys[0]? at f0
  have f1 : DataW.trod enc Try.prog W 0 sp held m 4 (([c0, c1, c2, c3, c4, c5, c6, c7].drop 5).take (Try.prog.cellsOf 4)) = ys[1]? := hf 1 _ rfl
  rw [cells4] at f1
  change DataW.trod enc Try.prog W 0 sp held m 4 [c5] = ys[1]? at f1
  have f2 : DataW.trod enc Try.prog W 0 sp held m 3 (([c0, c1, c2, c3, c4, c5, c6, c7].drop 6).take (Try.prog.cellsOf 3)) = ys[2]? := hf 2 _ rfl
  rw [cells3] at f2
  change DataW.trod enc Try.prog W 0 sp held m 3 [c6] = ys[2]? at f2
  have f3 : DataW.trod enc Try.prog W 0 sp held m 3 (([c0, c1, c2, c3, c4, c5, c6, c7].drop 7).take (Try.prog.cellsOf 3)) = ys[3]? := hf 3 _ rfl
  rw [cells3] at f3
  change DataW.trod enc Try.prog W 0 sp held m 3 [c7] = ys[3]? at f3
  have hlen : ys.length = 4 := hys
  have g : ∀ k, k < 4 → ∃ y, ys[k]? = some y := fun k hk => ⟨_, List.getElem?_eq_getElem (by omega)⟩
  obtain ⟨y0, g0⟩ := g 0 (by omega)
  obtain ⟨y1, g1⟩ := g 1 (by omega)
  obtain ⟨y2, g2⟩ := g 2 (by omega)
  obtain ⟨y3, g3⟩ := g 3 (by omega)
  rw [g0] at f0
  rw [g1] at f1
  rw [g2] at f2
  rw [g3] at f3
  obtain ⟨vn, y, e0, hc, s0⟩ := open_node f0
  obtain ⟨b1, e1, _⟩ := DataW.trod_bool Try.underlying4 f1
  obtain ⟨z2, e2, _, _⟩ := DataW.trod_int Try.underlying3 f2
  obtain ⟨z3, e3, _, _⟩ := DataW.trod_int Try.underlying3 f3
  cases e1; cases e2; cases e3
  refine ⟨⟨vn, b1, z2, z3⟩, ⟨y, b1, z2, z3⟩, ?_, ⟨hc, rfl, rfl, rfl⟩, fun hsz => ?_⟩
  · simp only [NV.cells, List.cons.injEq, and_true] at e0
    obtain ⟨rfl, rfl, rfl, rfl, rfl⟩ := e0
    rfl
  · exact s0 (sized_field (H := H) (j := 0) Try.underlying63 hsz rfl (by rw [List.getElem?_map, g0]; rfl))
/-- a cache that came in -/
theorem open_kepts {W : World} {sp : Nat → Bool} {held : Bool} {fuel : Nat} {l : List Value} {x : DataW H × List MemPlace} (h : DataW.trod enc Try.prog W 0 sp held fuel 61 l = some x) :
    ∃ (A : Option Addr) (n c : Nat) (vs : List KV) (xs : List M.Kp), l = [.slice A n c] ∧ TreeC W A n vs xs ∧ (Sized 61 x.1 → n * 96 ≤ reachBytes ∧ ∀ y ∈ xs, y.node.data.length ≤ reachBytes ∧ y.node.ents.length * 24 ≤ reachBytes) := by
  obtain ⟨A, n, c, vs, xs, rfl, h1, h2, h3, h4, h5⟩ := open_rows KV.cells kept_len (by decide) Try.underlying61 cellsK (ContC W) (fun d y => (Sized (H := H) 63 d → y.node.data.length ≤ reachBytes ∧ y.node.ents.length * 24 ≤ reachBytes)) (fun h => open_kept h) h
  have hnx : n = xs.length := by rw [h3.1, h4.1]
  refine ⟨A, n, c, vs, xs, rfl, ⟨h3, h4⟩, fun hs => ?_⟩
  rcases h5 with ⟨_, h0⟩ | ⟨es, spare, he, hl, hS⟩
  · refine ⟨by rw [h0]; simp, fun y hy => ?_⟩
    rw [h0] at hnx
    rw [List.eq_nil_of_length_eq_zero hnx.symm] at hy
    cases hy
  · rw [he] at hs
    refine ⟨?_, fun y hy => ?_⟩
    · have := sized_len Try.underlying61 hs
      rw [bytesK] at this
      omega
    · obtain ⟨j, hj⟩ := List.getElem?_of_mem hy
      obtain ⟨d, hd, s1⟩ := hS j y hj
      exact s1 (sized_elem Try.underlying61 hs (List.mem_of_getElem? hd))
theorem kept_val {v : Value} {x : KV} (h : v.cells.toList = x.cells) : v = x.val := by
  cases v <;> simp [Value.cells, KV.cells] at h
  rename_i xs
  rw [KV.val]
  congr 1
  apply Array.ext'
  exact h
end
end Go.Proofs.Ytjpdoblmdchmkad
/-
  PACKAGE cache: place, Has, own.
-/
namespace Go.Proofs.Ytjpdoblmdchmkad
open Go.RowKit

theorem place1_kept (v : KV) (p : Nat) (f : Int) (w : World) (hp : w.cell? ⟨p, 0, none⟩ = some (.int .i64 f)) :
    Calls Try.prog 71 #[v.val, .pointer (some ⟨p, 0, none⟩)] w fun e w' => e = .returned (.bool (decide (v.n.fid = f))) ∧ Below w.heap.size w w' := by
  have HW : Hid _ := boxK_one w v
  have hpl := cell_lt hp
  by_cases hf : v.n.fid = f
  · have kf : (v.n.fid == f) = true := by simp [hf]
    have HU : Hid (decide (v.n.fid = f) = true) := by show _ = _; simp [hf]
    clear hf
    go_enter Try.func71, Try.ntmps71
    go_wp2
    go_ret
    exact ⟨ret_bool HU.out.symm, (HW.out _ rfl).1⟩
  · have kf : (v.n.fid == f) = false := by simp [hf]
    have HU : Hid (decide (v.n.fid = f) = false) := by show _ = _; simp [hf]
    clear hf
    go_enter Try.func71, Try.ntmps71
    go_wp2
    go_ret
    exact ⟨ret_bool HU.out.symm, (HW.out _ rfl).1⟩
set_option maxHeartbeats 1000000 in
theorem placeIdx_kept (A : Option Addr) (n c : Nat) (vs : List KV) (xs : List M.Kp) (p : Nat) (f : Int) (w : World) (ht : TreeC w A n vs xs) (hn : n ≤ 140737488355328) (hp : w.cell? ⟨p, 0, none⟩ = some (.int .i64 f)) :
    Calls Try.prog 70 #[.slice A n c, .func (.func 71) #[] #[.pointer (some ⟨p, 0, none⟩)]] w fun e w' => e = .returned (.int .i64 (idxC (M.placeK xs f))) ∧ Below w.heap.size w w' := by
  have hpl : p < w.heap.size := cell_lt hp
  have HT : Hid (TreeC w A n vs xs ∧ w.cell? ⟨p, 0, none⟩ = some (.int .i64 f)) := ⟨ht, hp⟩
  clear ht hp
  go_enter Try.func70, Try.ntmps70
  go_wp2
  go_loopw [8] (fun i wr => ∃ k : Nat, k ≤ n ∧ i = .int .i64 k ∧ Hid (∀ x ∈ xs.take k, decide (x.node.fid = f) = false) ∧ Below w.heap.size w wr) (fun i _ => n - (intOf i).toNat)
  case atStart => exact ⟨0, Nat.zero_le _, rfl, (by show ∀ x ∈ _, _; simp), Below.refl _ _⟩
  case round =>
    obtain ⟨k, hk, rfl, HN, hb⟩ := hrel
    have hsz := hb.size
    by_cases hlt : k < n
    · have htr := HT.out.1.below (Nat.le_refl _) hb
      obtain ⟨g, o, v, rfl, hgb, hvk, c0, c1, c2, c3, c4, c5, c6, c7⟩ := htr.1.at hlt
      obtain ⟨x, hx, hcx⟩ := htr.2.at hvk
      have HX : Hid (xs[k]? = some x ∧ v.n.fid = x.node.fid ∧ wr.cell? ⟨p, 0, none⟩ = some (.int .i64 f)) := ⟨hx, hcx.1.1, by rw [hb.cell (p := ⟨p, 0, none⟩) hpl]; exact HT.out.2⟩
      have HB : Hid (Below w.heap.size w wr) := hb
      clear hvk htr hx hcx hb
      go_wp2_with (fail)
      refine (place1_kept v p f _ HX.out.2.2).mono ?_
      rintro e w1 ⟨rfl, hb1⟩
      have HB1 : Hid (Below w.heap.size w w1) := HB.out.trans (hb1.mono hsz)
      have HPX : Hid (decide (v.n.fid = f) = decide (x.node.fid = f)) := by show _ = _; rw [HX.out.2.1]
      clear hb1
      generalize decide (v.n.fid = f) = q at HPX ⊢
      cases q
      · have HN2 : Hid (∀ y ∈ xs.take (k + 1), decide (y.node.fid = f) = false) := by
          show ∀ y ∈ _, _
          intro y hy
          rw [take_step HX.out.1] at hy
          rcases List.mem_append.1 hy with h | h
          · exact HN.out y h
          · rw [List.mem_singleton.1 h]; exact HPX.out.symm
        go_wp2_with (fail)
        go_roundw
        case rel => exact ⟨k + 1, by omega, by go_num, HN2, HB1.out⟩
        case measure => simp [intOf]; omega
      · have HR : Hid (idxC (M.placeK xs f) = (k : Int)) := idxC_at HN.out HX.out.1 HPX.out.symm
        go_wp2_with (fail)
        go_ret
        exact ⟨ret_int HR.out.symm, HB1.out⟩
    · have HR : Hid (idxC (M.placeK xs f) = -1) := idxC_none (by
        have := HN.out
        rw [List.take_of_length_le (by rw [← HT.out.1.len]; omega)] at this
        exact this)
      go_wp2
      go_ret
      exact ⟨ret_int HR.out.symm, hb⟩
theorem cell_one (w : World) (f : Int) : (w.alloc (.cells #[.int .i64 f] 3)).cell? ⟨w.heap.size, 0, none⟩ = some (.int .i64 f) := by
  have h := heap_alloc_new w (.cells #[.int .i64 f] 3)
  unfold World.cell?
  rw [h]; rfl
theorem place_kept (A : Option Addr) (n c : Nat) (vs : List KV) (xs : List M.Kp) (f : Int) (w : World) (ht : TreeC w A n vs xs) (hn : n ≤ 140737488355328) :
    Calls Try.prog 47 #[.slice A n c, .int .i64 f] w fun e w' => e = .returned (.int .i64 (idxC (M.placeK xs f))) ∧ Below w.heap.size w w' := by
  have HT : Hid (TreeC w A n vs xs) := ht
  have HW : Hid (∀ W, W = w.alloc (.cells #[.int .i64 f] 3) → Below w.heap.size w W ∧ W.cell? ⟨w.heap.size, 0, none⟩ = some (.int .i64 f) ∧ W.heap.size = w.heap.size + 1) := by
    rintro W rfl
    exact ⟨(Below.refl _ _).alloc (Nat.le_refl _) _, cell_one w f, by simp⟩
  clear ht
  go_enter Try.func47, Try.ntmps47
  go_wp2_with (fail)
  obtain ⟨q1, q2, q3⟩ := HW.out _ rfl
  refine (placeIdx_kept A n c vs xs w.heap.size f _ (HT.out.below (Nat.le_refl _) q1) hn q2).mono ?_
  rintro e w1 ⟨rfl, hb1⟩
  have HB : Hid (Below w.heap.size w w1) := q1.trans (hb1.mono (by omega))
  clear q1 q2 q3 hb1 HW
  go_wp2
  go_ret
  exact ⟨rfl, HB.out⟩
theorem has_kept (A : Option Addr) (n c : Nat) (vs : List KV) (xs : List M.Kp) (f : Int) (w : World) (ht : TreeC w A n vs xs) (hn : n ≤ 140737488355328) :
    Calls Try.prog 32 #[.slice A n c, .int .i64 f] w fun e w' => e = .returned (.bool (M.hasK xs f)) ∧ Below w.heap.size w w' := by
  have HT : Hid (TreeC w A n vs xs) := ht
  have HU : Hid (M.hasK xs f = decide (0 ≤ idxC (M.placeK xs f))) := place_has xs f
  clear ht
  go_enter Try.func32, Try.ntmps32
  go_wp2_with (fail)
  refine (place_kept A n c vs xs f _ HT.out hn).mono ?_
  rintro e w1 ⟨rfl, hb1⟩
  have HB : Hid (Below w.heap.size w w1) := hb1
  clear hb1
  go_wp2
  go_ret
  exact ⟨ret_bool HU.out.symm, HB.out⟩
abbrev put8 (w : World) (s o : Nat) (v : KV) : World := (((put5 w s o v.n).setCell ⟨s, o + 5, none⟩ (.bool v.dirty)).setCell ⟨s, o + 6, none⟩ (.int .i64 v.worth)).setCell ⟨s, o + 7, none⟩ (.int .i64 v.last)
theorem put8_below {B : Nat} {a w : World} (h : Below B a w) {s : Nat} (hs : B ≤ s) (o : Nat) (v : KV) : Below B a (put8 w s o v) :=
  (((put5_below h hs o v.n).setCell (by exact hs) _).setCell (by exact hs) _).setCell (by exact hs) _
theorem put8_own {w : World} {B : Nat} {e : TypeId} {k : Nat} {v : Value} {n : Nat} {xs : List Value} (h : w.ownsRow B e k v n xs) {s : Nat} (hs : s < B) (o : Nat) (x : KV) : (put8 w s o x).ownsRow B e k v n xs :=
  ownsRow_setCell_below (ownsRow_setCell_below (ownsRow_setCell_below (put5_own h hs o x.n) (by exact hs) _) (by exact hs) _) (by exact hs) _
theorem ownK_start (w : World) (v : KV) : ∀ W, W = (w.alloc v.obj).alloc (.cells #[.int .i64 0, .bool false, .slice none 0 0, .slice none 0 0, .int .i64 0, .bool false, .int .i64 0, .int .i64 0] 63) → Below w.heap.size w W ∧ BoxK W w.heap.size v ∧ BoxK W (w.heap.size + 1) KV.zero ∧ W.heap.size = w.heap.size + 2 := by
  rintro W rfl
  refine ⟨((Below.refl _ _).alloc (Nat.le_refl _) _).alloc (by simp) _, (show BoxK (w.alloc v.obj) w.heap.size v from heap_alloc_new w _).alloc _, ?_, by simp⟩
  have h := heap_alloc_new (w.alloc v.obj) (.cells #[.int .i64 0, .bool false, .slice none 0 0, .slice none 0 0, .int .i64 0, .bool false, .int .i64 0, .int .i64 0] 63)
  unfold BoxK
  simpa [KV.zero, NV.zero] using h
theorem nodes_one {w : World} {s : Nat} {v : NV} (h : Box w s v) : Nodes w (some ⟨s, 0, none⟩) 1 [v] := by
  obtain ⟨b0, b1, b2, b3, b4, bf, bz⟩ := h.facts
  refine ⟨rfl, .inr ⟨s, 0, rfl, bz, fun j u hv i c hi => ?_⟩⟩
  cases j with
  | succ j => cases hv
  | zero =>
    cases hv
    match i, hi with
    | 0, hi => cases hi; exact b0
    | 1, hi => cases hi; exact b1
    | 2, hi => cases hi; exact b2
    | 3, hi => cases hi; exact b3
    | 4, hi => cases hi; exact b4
    | i + 5, hi => cases hi
theorem ownK_start2 (w : World) (v : KV) : ∀ W, W = ((w.alloc v.obj).alloc (.cells #[.int .i64 0, .bool false, .slice none 0 0, .slice none 0 0, .int .i64 0, .bool false, .int .i64 0, .int .i64 0] 63)).alloc (.cells #[.int .i64 v.n.fid, .bool v.n.dir, .slice v.n.dA v.n.dn v.n.dc, .slice v.n.eA v.n.en v.n.ec, .int .i64 v.n.ver] 41) → Below w.heap.size w W ∧ BoxK W w.heap.size v ∧ BoxK W (w.heap.size + 1) KV.zero ∧ Box W (w.heap.size + 2) v.n ∧ W.heap.size = w.heap.size + 3 := by
  rintro W rfl
  obtain ⟨h1, h2, h3, h4⟩ := ownK_start w v _ rfl
  have h5 := Box.new ((w.alloc v.obj).alloc (.cells #[.int .i64 0, .bool false, .slice none 0 0, .slice none 0 0, .int .i64 0, .bool false, .int .i64 0, .int .i64 0] 63)) v.n
  rw [h4] at h5
  exact ⟨h1.alloc (by rw [h4]; omega) _, h2.alloc _, h3.alloc _, h5, by simp⟩
set_option maxRecDepth 8000 in
set_option maxHeartbeats 1000000 in
theorem own_kept (v : KV) (x : M.Kp) (w : World) (hc : ContC w v x) (hs : Small x.node) :
    Calls Try.prog 48 #[v.val] w fun e w' => ∃ v' : KV, e = .returned v'.val ∧ OwnKp w' w.heap.size v' x ∧ Below w.heap.size w w' := by
  have HW : Hid _ := ownK_start2 w v
  have HC : Hid (ContC w v x ∧ Small x.node) := ⟨hc, hs⟩
  clear hc hs
  go_enter Try.func48, Try.ntmps48
  go_wp2_with (fail)
  obtain ⟨q1, q2, q3, q5, q4⟩ := HW.out _ rfl
  refine (own_any (some ⟨w.heap.size + 2, 0, none⟩) 1 1 [v.n] [x.node] _ ⟨nodes_one q5, All2.one (HC.out.1.1.below (Nat.le_refl _) q1)⟩ (by decide) (by intro y hy; rw [List.mem_singleton.1 hy]; exact HC.out.2)).mono ?_
  rintro e w1 ⟨g, us, rfl, ho, hb1⟩
  have hz1 := hb1.size
  rw [q4] at hz1 ho
  obtain ⟨u, rfl⟩ : ∃ u, us = [u] := List.length_eq_one_iff.1 ho.2.1
  have hou : OwnN w1 (w.heap.size + 3) u x.node := ho.2.2 0 u x.node rfl rfl
  obtain ⟨u', hu', a0, a1, a2, a3, a4, af, az⟩ := own_at5 ho.1 (j := 0) (by decide)
  cases hu'
  have hgl := ho.1.lt g rfl
  have HB : Hid (Below w.heap.size w w1 ∧ BoxK w1 w.heap.size v ∧ BoxK w1 (w.heap.size + 1) KV.zero) := ⟨q1.trans (hb1.mono (by omega)), q2.below hb1 (by omega), q3.below hb1 (by omega)⟩
  have HO : Hid (OwnN w1 (w.heap.size + 3) u x.node) := hou
  obtain ⟨b0, b1, b2, b3, b4, b5, b6, b7, bf, bz⟩ := HB.out.2.1.facts
  obtain ⟨z0, z1, z2, z3, z4, z5, z6, z7, zf, zz⟩ := HB.out.2.2.facts
  clear q1 q2 q3 q4 q5 hb1 HW ho hou
  go_wp2
  refine bodyPost_ret (v := KV.val ⟨u, v.dirty, v.worth, v.last⟩) (by simp [results, Try.results48, go_sem, z0, z1, z2, z3, z4, z5, z6, z7]) rfl ⟨⟨u, v.dirty, v.worth, v.last⟩, rfl, ⟨⟨HO.out.1, HO.out.2.1, HO.out.2.2.1, own_mono ?_ (Nat.le_add_right _ 3), own_mono ?_ (Nat.le_add_right _ 3)⟩, HC.out.1.2⟩, ?_⟩
  · exact put8_own (put5_own HO.out.2.2.2.1 (s := w.heap.size) (by omega) 0 u) (s := w.heap.size + 1) (by omega) 0 ⟨u, v.dirty, v.worth, v.last⟩
  · exact put8_own (put5_own HO.out.2.2.2.2 (s := w.heap.size) (by omega) 0 u) (s := w.heap.size + 1) (by omega) 0 ⟨u, v.dirty, v.worth, v.last⟩
  · exact put8_below (put5_below HB.out.1 (s := w.heap.size) (Nat.le_refl _) 0 u) (s := w.heap.size + 1) (by omega) 0 ⟨u, v.dirty, v.worth, v.last⟩
end Go.Proofs.Ytjpdoblmdchmkad
/-
  PACKAGE cache: who stays; Own, Fresh, Clean.
-/
namespace Go.Proofs.Ytjpdoblmdchmkad
open Go.RowKit

theorem own1_kept (v : KV) (w : World) : Calls Try.prog 51 #[v.val] w fun e w' => e = .returned (.bool true) ∧ Below w.heap.size w w' := by
  have HW : Hid _ := boxK_one w v
  go_enter Try.func51, Try.ntmps51
  go_wp2
  go_ret
  exact ⟨rfl, (HW.out _ rfl).1⟩
theorem clean1_kept (v : KV) (w : World) : Calls Try.prog 61 #[v.val] w fun e w' => e = .returned (.bool (!v.dirty)) ∧ Below w.heap.size w w' := by
  have HW : Hid _ := boxK_one w v
  go_enter Try.func61, Try.ntmps61
  go_wp2
  go_ret
  exact ⟨rfl, (HW.out _ rfl).1⟩
set_option maxHeartbeats 1000000 in
theorem fresh11_kept (y : NV) (p : Nat) (v : KV) (w : World) (hp : BoxK w p v) :
    Calls Try.prog 58 #[y.val, .pointer (some ⟨p, 0, none⟩)] w fun e w' => e = .returned (.bool (decide (y.fid = v.n.fid) && decide (y.ver = v.n.ver))) ∧ Below w.heap.size w w' := by
  have HW : Hid (∀ W, W = w.alloc (.cells #[.int .i64 y.fid, .bool y.dir, .slice y.dA y.dn y.dc, .slice y.eA y.en y.ec, .int .i64 y.ver] 41) → Below w.heap.size w W) := by
    rintro W rfl
    exact (Below.refl _ _).alloc (Nat.le_refl _) _
  obtain ⟨b0, b1, b2, b3, b4, b5, b6, b7, bf, bz⟩ := hp.facts
  clear hp
  by_cases hf : y.fid = v.n.fid
  · have kf : (y.fid == v.n.fid) = true := by simp [hf]
    by_cases hv : y.ver = v.n.ver
    · have kv : (y.ver == v.n.ver) = true := by simp [hv]
      have HU : Hid ((decide (y.fid = v.n.fid) && decide (y.ver = v.n.ver)) = true) := by show _ = _; simp [hf, hv]
      clear hf hv
      go_enter Try.func58, Try.ntmps58
      go_wp2
      go_ret
      exact ⟨ret_bool HU.out.symm, HW.out _ rfl⟩
    · have kv : (y.ver == v.n.ver) = false := by simp [hv]
      have HU : Hid ((decide (y.fid = v.n.fid) && decide (y.ver = v.n.ver)) = false) := by show _ = _; simp [hv]
      clear hf hv
      go_enter Try.func58, Try.ntmps58
      go_wp2
      go_ret
      exact ⟨ret_bool HU.out.symm, HW.out _ rfl⟩
  · have kf : (y.fid == v.n.fid) = false := by simp [hf]
    have HU : Hid ((decide (y.fid = v.n.fid) && decide (y.ver = v.n.ver)) = false) := by show _ = _; simp [hf]
    clear hf
    go_enter Try.func58, Try.ntmps58
    go_wp2
    go_ret
    exact ⟨ret_bool HU.out.symm, HW.out _ rfl⟩
/-- where such a node stands -/
def idxN : Option Nat → Int
  | none => -1
  | some k => k
theorem idxN_none {xs : List M.Nd} {p : M.Nd → Bool} (h : ∀ x ∈ xs, p x = false) : idxN (xs.findIdx? p) = -1 := by
  rw [List.findIdx?_eq_none_iff.2 (fun x hx => by simpa using h x hx)]; rfl
theorem idxN_at {xs : List M.Nd} {p : M.Nd → Bool} {k : Nat} {x : M.Nd} (h : ∀ x ∈ xs.take k, p x = false) (hx : xs[k]? = some x) (hp : p x = true) : idxN (xs.findIdx? p) = (k : Int) := by
  obtain ⟨hk, he⟩ := List.getElem?_eq_some_iff.1 hx
  have : xs.findIdx? p = some k := by
    rw [List.findIdx?_eq_some_iff_getElem]
    refine ⟨hk, by rw [he]; exact hp, fun j hj => ?_⟩
    have hjl : j < xs.length := by omega
    have := h xs[j] (List.mem_of_getElem? (i := j) (by rw [List.getElem?_take, if_pos hj]; exact List.getElem?_eq_getElem hjl))
    rw [this]; simp
  rw [this]; rfl
theorem idxN_any (xs : List M.Nd) (p : M.Nd → Bool) : xs.any p = decide (0 ≤ idxN (xs.findIdx? p)) := by
  cases h : xs.findIdx? p with
  | none =>
    rw [List.findIdx?_eq_none_iff] at h
    rw [List.any_eq_false.2 (fun x hx => by rw [h x hx]; decide)]
    simp [idxN]
  | some k =>
    obtain ⟨hk, hp, _⟩ := List.findIdx?_eq_some_iff_getElem.1 h
    rw [List.any_eq_true.2 ⟨xs[k], List.getElem_mem hk, hp⟩]
    simp [idxN]
def M.verB (f v : Int) (y : M.Nd) : Bool := decide (y.fid = f) && decide (y.ver = v)
set_option maxHeartbeats 1000000 in
theorem freshIdx_kept (A : Option Addr) (n c : Nat) (vs : List NV) (xs : List M.Nd) (p : Nat) (v : KV) (w : World) (ht : Tree w A n vs xs) (hn : n ≤ 140737488355328) (hp : BoxK w p v) :
    Calls Try.prog 75 #[.slice A n c, .func (.func 58) #[] #[.pointer (some ⟨p, 0, none⟩)]] w fun e w' => e = .returned (.int .i64 (idxN (xs.findIdx? (M.verB v.n.fid v.n.ver)))) ∧ Below w.heap.size w w' := by
  have hpl : p < w.heap.size := lt_of_block hp
  have HT : Hid (Tree w A n vs xs ∧ BoxK w p v) := ⟨ht, hp⟩
  have HL : Hid (n = xs.length) := by show _ = _; rw [ht.1.1, ht.2.1]
  clear ht hp
  go_enter Try.func75, Try.ntmps75
  go_wp2
  go_loopw [8] (fun i wr => ∃ k : Nat, k ≤ n ∧ i = .int .i64 k ∧ Hid (∀ x ∈ xs.take k, M.verB v.n.fid v.n.ver x = false) ∧ Below w.heap.size w wr) (fun i _ => n - (intOf i).toNat)
  case atStart => exact ⟨0, Nat.zero_le _, rfl, (by show ∀ x ∈ _, _; simp), Below.refl _ _⟩
  case round =>
    obtain ⟨k, hk, rfl, HN, hb⟩ := hrel
    have hsz := hb.size
    by_cases hlt : k < n
    · have htr := HT.out.1.below (Nat.le_refl _) hb
      obtain ⟨g, o, y, rfl, hgb, hvk, c0, c1, c2, c3, c4⟩ := htr.1.at hlt
      obtain ⟨x, hx, hcx⟩ := htr.2.at hvk
      have HX : Hid (xs[k]? = some x ∧ (decide (y.fid = v.n.fid) && decide (y.ver = v.n.ver)) = M.verB v.n.fid v.n.ver x ∧ BoxK wr p v) := ⟨hx, by unfold M.verB; rw [hcx.1, hcx.2.2.1], HT.out.2.below hb hpl⟩
      have HB : Hid (Below w.heap.size w wr) := hb
      clear hvk htr hx hcx hb
      go_wp2_with (fail)
      refine (fresh11_kept y p v _ HX.out.2.2).mono ?_
      rintro e w1 ⟨rfl, hb1⟩
      have HB1 : Hid (Below w.heap.size w w1) := HB.out.trans (hb1.mono hsz)
      have HPX : Hid ((decide (y.fid = v.n.fid) && decide (y.ver = v.n.ver)) = M.verB v.n.fid v.n.ver x) := HX.out.2.1
      clear hb1
      generalize (decide (y.fid = v.n.fid) && decide (y.ver = v.n.ver)) = q at HPX ⊢
      cases q
      · have HN2 : Hid (∀ y ∈ xs.take (k + 1), M.verB v.n.fid v.n.ver y = false) := by
          show ∀ y ∈ _, _
          intro y hy
          rw [take_step HX.out.1] at hy
          rcases List.mem_append.1 hy with h | h
          · exact HN.out y h
          · rw [List.mem_singleton.1 h]; exact HPX.out.symm
        go_wp2_with (fail)
        go_roundw
        case rel => exact ⟨k + 1, by omega, by go_num, HN2, HB1.out⟩
        case measure => simp [intOf]; omega
      · have HR : Hid (idxN (xs.findIdx? (M.verB v.n.fid v.n.ver)) = (k : Int)) := idxN_at HN.out HX.out.1 HPX.out.symm
        go_wp2_with (fail)
        go_ret
        exact ⟨ret_int HR.out.symm, HB1.out⟩
    · have HR : Hid (idxN (xs.findIdx? (M.verB v.n.fid v.n.ver)) = -1) := idxN_none (by
        have := HN.out
        rw [List.take_of_length_le (by rw [← HL.out]; omega)] at this
        exact this)
      go_wp2
      go_ret
      exact ⟨ret_int HR.out.symm, hb⟩
theorem freshHas_kept (A : Option Addr) (n c : Nat) (vs : List NV) (xs : List M.Nd) (p : Nat) (v : KV) (w : World) (ht : Tree w A n vs xs) (hn : n ≤ 140737488355328) (hp : BoxK w p v) :
    Calls Try.prog 57 #[.slice A n c, .func (.func 58) #[] #[.pointer (some ⟨p, 0, none⟩)]] w fun e w' => e = .returned (.bool (xs.any (M.verB v.n.fid v.n.ver))) ∧ Below w.heap.size w w' := by
  have HT : Hid (Tree w A n vs xs ∧ BoxK w p v) := ⟨ht, hp⟩
  have HU : Hid (xs.any (M.verB v.n.fid v.n.ver) = decide (0 ≤ idxN (xs.findIdx? (M.verB v.n.fid v.n.ver)))) := idxN_any _ _
  clear ht hp
  go_enter Try.func57, Try.ntmps57
  go_wp2_with (fail)
  refine (freshIdx_kept A n c vs xs p v _ HT.out.1 hn HT.out.2).mono ?_
  rintro e w1 ⟨rfl, hb1⟩
  have HB : Hid (Below w.heap.size w w1) := hb1
  clear hb1
  go_wp2
  go_ret
  exact ⟨ret_bool HU.out.symm, HB.out⟩
/-- a list's header in a block of its own -/
def BoxH (w : World) (p : Nat) (A : Option Addr) (n c : Nat) : Prop := w.heap[p]? = some (.cells #[.slice A n c] 22 (0, 0))
theorem BoxH.below {w w' : World} {p : Nat} {A : Option Addr} {n c B : Nat} (h : BoxH w p A n c) (hb : Below B w w') (hs : p < B) : BoxH w' p A n c := by
  unfold BoxH at h ⊢; rw [hb.block p hs]; exact h
theorem BoxH.cell {w : World} {p : Nat} {A : Option Addr} {n c : Nat} (h : BoxH w p A n c) : w.cell? ⟨p, 0, none⟩ = some (.slice A n c) := by
  unfold BoxH at h; simp [World.cell?, h]
def M.stayB (ts : List M.Nd) (x : M.Kp) : Bool := x.dirty || ts.any (M.verB x.node.fid x.node.ver)
set_option maxHeartbeats 1000000 in
theorem fresh1_kept (v : KV) (x : M.Kp) (p : Nat) (A : Option Addr) (n c : Nat) (us : List NV) (ts : List M.Nd) (w : World) (hv : ContC w v x) (hp : BoxH w p A n c) (ht : Tree w A n us ts) (hn : n ≤ 140737488355328) :
    Calls Try.prog 56 #[v.val, .pointer (some ⟨p, 0, none⟩)] w fun e w' => e = .returned (.bool (M.stayB ts x)) ∧ Below w.heap.size w w' := by
  have HT : Hid (Tree w A n us ts) := ht
  have HP : Hid (v.dirty = x.dirty ∧ v.n.fid = x.node.fid ∧ v.n.ver = x.node.ver) := ⟨hv.2.1, hv.1.1, hv.1.2.2.1⟩
  have hpl : p < w.heap.size := lt_of_block hp
  have hpc := hp.cell
  clear ht hv hp
  obtain ⟨vn, vd, vw, vl⟩ := v
  have HW : Hid _ := boxK_one w ⟨vn, vd, vw, vl⟩
  cases vd
  · have HS : Hid (M.stayB ts x = ts.any (M.verB vn.fid vn.ver)) := by
      show _ = _
      unfold M.stayB
      rw [← HP.out.1, ← HP.out.2.1, ← HP.out.2.2]; rfl
    go_enter Try.func56, Try.ntmps56
    go_wp2_with (fail)
    obtain ⟨q1, q2, q3⟩ := HW.out _ rfl
    refine (freshHas_kept A n c us ts w.heap.size ⟨vn, false, vw, vl⟩ _ (HT.out.below (Nat.le_refl _) q1) hn q2).mono ?_
    rintro e w1 ⟨rfl, hb1⟩
    have HB : Hid (Below w.heap.size w w1) := q1.trans (hb1.mono (by omega))
    clear q1 q2 q3 hb1 HW
    go_wp2
    go_ret
    exact ⟨ret_bool HS.out.symm, HB.out⟩
  · have HS : Hid (M.stayB ts x = true) := by
      show _ = _
      unfold M.stayB
      rw [← HP.out.1]; rfl
    go_enter Try.func56, Try.ntmps56
    go_wp2_with (fail)
    go_ret
    exact ⟨ret_bool HS.out.symm, (HW.out _ rfl).1⟩
theorem filterK_step {xs : List M.Kp} {k : Nat} {x : M.Kp} (h : xs[k]? = some x) (p : M.Kp → Bool) : (xs.take (k + 1)).filter p = (xs.take k).filter p ++ (if p x then [x] else []) := by
  rw [take_step h, List.filter_append]
  congr 1
  cases hp : p x <;> simp [hp]
set_option maxRecDepth 8000 in
set_option maxHeartbeats 4000000 in
theorem thoseOwn_kept (A : Option Addr) (n c : Nat) (vs : List KV) (xs : List M.Kp) (w : World) (ht : TreeC w A n vs xs) (hs : ∀ x ∈ xs, Small x.node) (hn : (n + 1) * 96 ≤ 140737488355328) :
    Calls Try.prog 50 #[.slice A n c, .func (.func 51) #[] #[]] w fun e w' => ∃ (B : Option Addr) (m d : Nat) (us : List KV), e = .returned (.slice B m d) ∧ OwnC w' w.heap.size B m d us (xs.filter (fun _ => true)) ∧ Below w.heap.size w w' := by
  have HT : Hid (TreeC w A n vs xs ∧ (∀ x ∈ xs, Small x.node) ∧ True) := ⟨ht, hs, trivial⟩
  have HLN : Hid (n = xs.length) := ht.len
  obtain ⟨iK, hiK, hzK, hsK, hbK⟩ := info_parts infoK
  have H0 : Hid (OwnC w w.heap.size none 0 0 [] [] ∧ Below w.heap.size w w) := ⟨OwnC.nil _ _, Below.refl _ _⟩
  clear ht hs
  go_enter Try.func50, Try.ntmps50
  go_wp2_with (fail)
  go_loopw [5, 10] (fun u i W => ∃ (k : Nat) (V : Option Addr) (m d : Nat) (us : List KV), k ≤ n ∧ m ≤ k ∧ i = .int .i64 k ∧ u = .slice V m d ∧ Hid (OwnC W w.heap.size V m d us ((xs.take k).filter (fun _ => true)) ∧ Below w.heap.size w W)) (fun _ i _ => n - (intOf i).toNat)
  case atStart => exact ⟨0, none, 0, 0, [], Nat.zero_le _, Nat.le_refl _, rfl, rfl, H0⟩
  case round =>
    obtain ⟨k, V, m, d, us, hk, hmk, rfl, rfl, HK⟩ := hrel
    rename World => wr
    have hsz := HK.out.2.size
    by_cases hlt : k < n
    · have htr := HT.out.1.below (Nat.le_refl _) HK.out.2
      obtain ⟨g, o, v, rfl, hgb, hvk, c0, c1, c2, c3, c4, c5, c6, c7⟩ := htr.1.at hlt
      obtain ⟨x, hx, hcx⟩ := htr.2.at hvk
      have HX : Hid (xs[k]? = some x ∧ ContC wr v x ∧ Small x.node) := ⟨hx, hcx, HT.out.2.1 x (List.mem_of_getElem? hx)⟩
      have HWA : Hid _ := boxK_one wr v
      have HKN : Hid (m + 1 ≤ maxLen ∧ (m + 1) * 96 ≤ 140737488355328) := ⟨by unfold maxLen; omega, Nat.le_trans (Nat.mul_le_mul_right 96 (by omega)) hn⟩
      have HFS : Hid ((xs.take (k + 1)).filter (fun _ => true) = (xs.take k).filter (fun _ => true) ++ (if true then [x] else [])) := filterK_step hx (fun _ => true)
      clear htr hvk hx hcx hgb
      go_wp2_with (fail)
      obtain ⟨q1, q2, q3⟩ := HWA.out _ rfl
      refine (own1_kept v _).mono ?_
      rintro e w2 ⟨rfl, hb2⟩
      have hz2 := hb2.size
      rw [q3] at hz2
      have h12 : Below wr.heap.size wr w2 := q1.trans (hb2.mono (by omega))
      have HB2 : Hid (Below w.heap.size w w2 ∧ BoxK w2 wr.heap.size v ∧ OwnC w2 w.heap.size V m d us ((xs.take k).filter (fun _ => true)) ∧ Below wr.heap.size wr w2) := ⟨HK.out.2.trans (h12.mono hsz), q2.below hb2 (by omega), HK.out.1.below (Nat.le_refl _) h12, h12⟩
      obtain ⟨b0, b1, b2, b3, b4, b5, b6, b7, bf, bz⟩ := HB2.out.2.1.facts
      have HFS1 := HFS
      clear q1 q2 q3 hb2 HWA h12 c0 c1 c2 c3 c4 c5 c6 c7
      obtain ⟨px, hpx⟩ : ∃ px : Bool, true = px := ⟨_, rfl⟩
      rw [hpx]
      cases px
      · have HFS2 : Hid ((xs.take (k + 1)).filter (fun _ => true) = (xs.take k).filter (fun _ => true)) := by show _ = _; cases hpx
        have HPX : Hid (true = false) := hpx
        clear hpx
        go_wp2_with (fail)
        go_roundw
        case rel => exact ⟨k + 1, V, m, d, us, by omega, by omega, by go_num, rfl, (by show _ ∧ _; rw [HFS2.out]; exact ⟨HB2.out.2.2.1, HB2.out.1⟩)⟩
        case measure => simp [intOf]; omega
      · have HFS2 : Hid ((xs.take (k + 1)).filter (fun _ => true) = (xs.take k).filter (fun _ => true) ++ [x]) := by show _ = _; rw [HFS.out]; rfl
        have HPX : Hid (true = true) := hpx
        clear hpx
        go_wp2_with (fail)
        refine (own_kept v x _ (HX.out.2.1.below (Nat.le_refl _) HB2.out.2.2.2) HX.out.2.2).mono ?_
        rintro e w3 ⟨r', rfl, hor, hb3⟩
        have hz3 := hb3.size
        have HB3 : Hid (Below w.heap.size w w3 ∧ OwnC w3 w.heap.size V m d us ((xs.take k).filter (fun _ => true)) ∧ OwnKp w3 w.heap.size r' x) := ⟨HB2.out.1.trans (hb3.mono (by omega)), HB2.out.2.2.1.below (Nat.le_refl _) hb3, hor.mono (by omega)⟩
        have HWB : Hid _ := boxK_one w3 r'
        have hz3w : w.heap.size ≤ w3.heap.size := HB3.out.1.size
        clear hor hb3
        go_wp2_with (at_builtin; refine wpList_append_row _ (by rfl) (.tmp 17) (.tmp 20) 61 (by rfl) w.heap.size 63 iK _ 96 Try.underlying61 hiK hzK hsK hbK rfl (by decide) _ m _ (by rfl) (own_below HB3.out.2.1.1 (HWB.out _ rfl).1 (Nat.le_refl _)) (some ⟨w3.heap.size, 0, none⟩) 1 1 [r'] (by rfl) (rowK_box (HWB.out _ rfl).2.1) kept_len kept_one HKN.out.1 HKN.out.2 (Nat.le_trans hz3w (HWB.out _ rfl).1.size) ?_; intro v4 w4 hown4 hg4; obtain ⟨A4, c4', rfl, _, _⟩ := own_form hown4; have HR : Hid (OwnC w4 w.heap.size A4 (m + 1) c4' (us ++ [r']) ((xs.take (k + 1)).filter (fun _ => true)) ∧ Below w.heap.size w w4) := ⟨by rw [HFS2.out]; exact OwnC.snoc (HB3.out.2.1.below (Nat.le_refl _) (HWB.out _ rfl).1) (HB3.out.2.2.below (Nat.le_refl _) (HWB.out _ rfl).1) (by simpa using hown4) hg4, snoc_belowK (HB3.out.1.trans ((HWB.out _ rfl).1.mono HB3.out.1.size)) (Nat.le_refl _) (own_below HB3.out.2.1.1 (HWB.out _ rfl).1 (Nat.le_refl _)) hg4⟩; clear hown4 hg4)
        go_roundw
        case rel => exact ⟨k + 1, A4, m + 1, c4', us ++ [r'], by omega, by omega, by go_num, rfl, HR⟩
        case measure => simp [intOf]; omega
    · have HE : Hid (OwnC wr w.heap.size V m d us (xs.filter (fun _ => true)) ∧ Below w.heap.size w wr) := by
        have h := HK.out
        rw [List.take_of_length_le (by rw [← HLN.out]; omega)] at h
        exact h
      clear HK H0
      go_wp2_with (fail)
      go_ret
      exact ⟨V, m, d, us, rfl, HE.out⟩
set_option maxRecDepth 8000 in
set_option maxHeartbeats 4000000 in
theorem thoseClean_kept (A : Option Addr) (n c : Nat) (vs : List KV) (xs : List M.Kp) (w : World) (ht : TreeC w A n vs xs) (hs : ∀ x ∈ xs, Small x.node) (hn : (n + 1) * 96 ≤ 140737488355328) :
    Calls Try.prog 50 #[.slice A n c, .func (.func 61) #[] #[]] w fun e w' => ∃ (B : Option Addr) (m d : Nat) (us : List KV), e = .returned (.slice B m d) ∧ OwnC w' w.heap.size B m d us (xs.filter (fun x => !x.dirty)) ∧ Below w.heap.size w w' := by
  have HT : Hid (TreeC w A n vs xs ∧ (∀ x ∈ xs, Small x.node) ∧ True) := ⟨ht, hs, trivial⟩
  have HLN : Hid (n = xs.length) := ht.len
  obtain ⟨iK, hiK, hzK, hsK, hbK⟩ := info_parts infoK
  have H0 : Hid (OwnC w w.heap.size none 0 0 [] [] ∧ Below w.heap.size w w) := ⟨OwnC.nil _ _, Below.refl _ _⟩
  clear ht hs
  go_enter Try.func50, Try.ntmps50
  go_wp2_with (fail)
  go_loopw [5, 10] (fun u i W => ∃ (k : Nat) (V : Option Addr) (m d : Nat) (us : List KV), k ≤ n ∧ m ≤ k ∧ i = .int .i64 k ∧ u = .slice V m d ∧ Hid (OwnC W w.heap.size V m d us ((xs.take k).filter (fun x => !x.dirty)) ∧ Below w.heap.size w W)) (fun _ i _ => n - (intOf i).toNat)
  case atStart => exact ⟨0, none, 0, 0, [], Nat.zero_le _, Nat.le_refl _, rfl, rfl, H0⟩
  case round =>
    obtain ⟨k, V, m, d, us, hk, hmk, rfl, rfl, HK⟩ := hrel
    rename World => wr
    have hsz := HK.out.2.size
    by_cases hlt : k < n
    · have htr := HT.out.1.below (Nat.le_refl _) HK.out.2
      obtain ⟨g, o, v, rfl, hgb, hvk, c0, c1, c2, c3, c4, c5, c6, c7⟩ := htr.1.at hlt
      obtain ⟨x, hx, hcx⟩ := htr.2.at hvk
      have HX : Hid (xs[k]? = some x ∧ ContC wr v x ∧ Small x.node) := ⟨hx, hcx, HT.out.2.1 x (List.mem_of_getElem? hx)⟩
      have HWA : Hid _ := boxK_one wr v
      have HKN : Hid (m + 1 ≤ maxLen ∧ (m + 1) * 96 ≤ 140737488355328) := ⟨by unfold maxLen; omega, Nat.le_trans (Nat.mul_le_mul_right 96 (by omega)) hn⟩
      have HFS : Hid ((xs.take (k + 1)).filter (fun x => !x.dirty) = (xs.take k).filter (fun x => !x.dirty) ++ (if (!x.dirty) then [x] else [])) := filterK_step hx (fun x => !x.dirty)
      clear htr hvk hx hcx hgb
      go_wp2_with (fail)
      obtain ⟨q1, q2, q3⟩ := HWA.out _ rfl
      refine (clean1_kept v _).mono ?_
      rintro e w2 ⟨rfl, hb2⟩
      have hz2 := hb2.size
      rw [q3] at hz2
      have h12 : Below wr.heap.size wr w2 := q1.trans (hb2.mono (by omega))
      have HB2 : Hid (Below w.heap.size w w2 ∧ BoxK w2 wr.heap.size v ∧ OwnC w2 w.heap.size V m d us ((xs.take k).filter (fun x => !x.dirty)) ∧ Below wr.heap.size wr w2) := ⟨HK.out.2.trans (h12.mono hsz), q2.below hb2 (by omega), HK.out.1.below (Nat.le_refl _) h12, h12⟩
      obtain ⟨b0, b1, b2, b3, b4, b5, b6, b7, bf, bz⟩ := HB2.out.2.1.facts
      have HVX : Hid (v.dirty = x.dirty) := HX.out.2.1.2.1
      have HFS1 := HFS
      clear q1 q2 q3 hb2 HWA h12 c0 c1 c2 c3 c4 c5 c6 c7
      obtain ⟨px, hpx⟩ : ∃ px : Bool, (!v.dirty) = px := ⟨_, rfl⟩
      rw [hpx]
      cases px
      · have HFS2 : Hid ((xs.take (k + 1)).filter (fun x => !x.dirty) = (xs.take k).filter (fun x => !x.dirty)) := by show _ = _; rw [HFS.out, ← HVX.out, hpx]; simp
        have HPX : Hid ((!v.dirty) = false) := hpx
        clear hpx
        go_wp2_with (fail)
        go_roundw
        case rel => exact ⟨k + 1, V, m, d, us, by omega, by omega, by go_num, rfl, (by show _ ∧ _; rw [HFS2.out]; exact ⟨HB2.out.2.2.1, HB2.out.1⟩)⟩
        case measure => simp [intOf]; omega
      · have HFS2 : Hid ((xs.take (k + 1)).filter (fun x => !x.dirty) = (xs.take k).filter (fun x => !x.dirty) ++ [x]) := by show _ = _; rw [HFS.out, ← HVX.out, hpx]; rfl
        have HPX : Hid ((!v.dirty) = true) := hpx
        clear hpx
        go_wp2_with (fail)
        refine (own_kept v x _ (HX.out.2.1.below (Nat.le_refl _) HB2.out.2.2.2) HX.out.2.2).mono ?_
        rintro e w3 ⟨r', rfl, hor, hb3⟩
        have hz3 := hb3.size
        have HB3 : Hid (Below w.heap.size w w3 ∧ OwnC w3 w.heap.size V m d us ((xs.take k).filter (fun x => !x.dirty)) ∧ OwnKp w3 w.heap.size r' x) := ⟨HB2.out.1.trans (hb3.mono (by omega)), HB2.out.2.2.1.below (Nat.le_refl _) hb3, hor.mono (by omega)⟩
        have HWB : Hid _ := boxK_one w3 r'
        have hz3w : w.heap.size ≤ w3.heap.size := HB3.out.1.size
        clear hor hb3
        go_wp2_with (at_builtin; refine wpList_append_row _ (by rfl) (.tmp 17) (.tmp 20) 61 (by rfl) w.heap.size 63 iK _ 96 Try.underlying61 hiK hzK hsK hbK rfl (by decide) _ m _ (by rfl) (own_below HB3.out.2.1.1 (HWB.out _ rfl).1 (Nat.le_refl _)) (some ⟨w3.heap.size, 0, none⟩) 1 1 [r'] (by rfl) (rowK_box (HWB.out _ rfl).2.1) kept_len kept_one HKN.out.1 HKN.out.2 (Nat.le_trans hz3w (HWB.out _ rfl).1.size) ?_; intro v4 w4 hown4 hg4; obtain ⟨A4, c4', rfl, _, _⟩ := own_form hown4; have HR : Hid (OwnC w4 w.heap.size A4 (m + 1) c4' (us ++ [r']) ((xs.take (k + 1)).filter (fun x => !x.dirty)) ∧ Below w.heap.size w w4) := ⟨by rw [HFS2.out]; exact OwnC.snoc (HB3.out.2.1.below (Nat.le_refl _) (HWB.out _ rfl).1) (HB3.out.2.2.below (Nat.le_refl _) (HWB.out _ rfl).1) (by simpa using hown4) hg4, snoc_belowK (HB3.out.1.trans ((HWB.out _ rfl).1.mono HB3.out.1.size)) (Nat.le_refl _) (own_below HB3.out.2.1.1 (HWB.out _ rfl).1 (Nat.le_refl _)) hg4⟩; clear hown4 hg4)
        go_roundw
        case rel => exact ⟨k + 1, A4, m + 1, c4', us ++ [r'], by omega, by omega, by go_num, rfl, HR⟩
        case measure => simp [intOf]; omega
    · have HE : Hid (OwnC wr w.heap.size V m d us (xs.filter (fun x => !x.dirty)) ∧ Below w.heap.size w wr) := by
        have h := HK.out
        rw [List.take_of_length_le (by rw [← HLN.out]; omega)] at h
        exact h
      clear HK H0
      go_wp2_with (fail)
      go_ret
      exact ⟨V, m, d, us, rfl, HE.out⟩
set_option maxRecDepth 8000 in
set_option maxHeartbeats 4000000 in
theorem thoseFresh_kept (A : Option Addr) (n c : Nat) (vs : List KV) (xs : List M.Kp) (w : World) (p : Nat) (AT : Option Addr) (nt ct : Nat) (ut : List NV) (ts : List M.Nd) (hp : BoxH w p AT nt ct) (htt : Tree w AT nt ut ts) (hnt : nt ≤ 140737488355328) (ht : TreeC w A n vs xs) (hs : ∀ x ∈ xs, Small x.node) (hn : (n + 1) * 96 ≤ 140737488355328) :
    Calls Try.prog 50 #[.slice A n c, .func (.func 56) #[] #[.pointer (some ⟨p, 0, none⟩)]] w fun e w' => ∃ (B : Option Addr) (m d : Nat) (us : List KV), e = .returned (.slice B m d) ∧ OwnC w' w.heap.size B m d us (xs.filter (M.stayB ts)) ∧ Below w.heap.size w w' := by
  have HT : Hid (TreeC w A n vs xs ∧ (∀ x ∈ xs, Small x.node) ∧ BoxH w p AT nt ct ∧ Tree w AT nt ut ts ∧ p < w.heap.size) := ⟨ht, hs, hp, htt, lt_of_block hp⟩
  have HLN : Hid (n = xs.length) := ht.len
  obtain ⟨iK, hiK, hzK, hsK, hbK⟩ := info_parts infoK
  have H0 : Hid (OwnC w w.heap.size none 0 0 [] [] ∧ Below w.heap.size w w) := ⟨OwnC.nil _ _, Below.refl _ _⟩
  clear ht hs hp htt
  go_enter Try.func50, Try.ntmps50
  go_wp2_with (fail)
  go_loopw [5, 10] (fun u i W => ∃ (k : Nat) (V : Option Addr) (m d : Nat) (us : List KV), k ≤ n ∧ m ≤ k ∧ i = .int .i64 k ∧ u = .slice V m d ∧ Hid (OwnC W w.heap.size V m d us ((xs.take k).filter (M.stayB ts)) ∧ Below w.heap.size w W)) (fun _ i _ => n - (intOf i).toNat)
  case atStart => exact ⟨0, none, 0, 0, [], Nat.zero_le _, Nat.le_refl _, rfl, rfl, H0⟩
  case round =>
    obtain ⟨k, V, m, d, us, hk, hmk, rfl, rfl, HK⟩ := hrel
    rename World => wr
    have hsz := HK.out.2.size
    by_cases hlt : k < n
    · have htr := HT.out.1.below (Nat.le_refl _) HK.out.2
      obtain ⟨g, o, v, rfl, hgb, hvk, c0, c1, c2, c3, c4, c5, c6, c7⟩ := htr.1.at hlt
      obtain ⟨x, hx, hcx⟩ := htr.2.at hvk
      have HX : Hid (xs[k]? = some x ∧ ContC wr v x ∧ Small x.node) := ⟨hx, hcx, HT.out.2.1 x (List.mem_of_getElem? hx)⟩
      have HWA : Hid _ := boxK_one wr v
      have HKN : Hid (m + 1 ≤ maxLen ∧ (m + 1) * 96 ≤ 140737488355328) := ⟨by unfold maxLen; omega, Nat.le_trans (Nat.mul_le_mul_right 96 (by omega)) hn⟩
      have HFS : Hid ((xs.take (k + 1)).filter (M.stayB ts) = (xs.take k).filter (M.stayB ts) ++ (if (M.stayB ts x) then [x] else [])) := filterK_step hx (M.stayB ts)
      clear htr hvk hx hcx hgb
      go_wp2_with (fail)
      obtain ⟨q1, q2, q3⟩ := HWA.out _ rfl
      refine (fresh1_kept v x p AT nt ct ut ts _ (HX.out.2.1.below (Nat.le_refl _) q1) ((HT.out.2.2.1.below HK.out.2 HT.out.2.2.2.2).below q1 (by have := HT.out.2.2.2.2; omega)) ((HT.out.2.2.2.1.below (Nat.le_refl _) HK.out.2).below (Nat.le_refl _) q1) hnt).mono ?_
      rintro e w2 ⟨rfl, hb2⟩
      have hz2 := hb2.size
      rw [q3] at hz2
      have h12 : Below wr.heap.size wr w2 := q1.trans (hb2.mono (by omega))
      have HB2 : Hid (Below w.heap.size w w2 ∧ BoxK w2 wr.heap.size v ∧ OwnC w2 w.heap.size V m d us ((xs.take k).filter (M.stayB ts)) ∧ Below wr.heap.size wr w2) := ⟨HK.out.2.trans (h12.mono hsz), q2.below hb2 (by omega), HK.out.1.below (Nat.le_refl _) h12, h12⟩
      obtain ⟨b0, b1, b2, b3, b4, b5, b6, b7, bf, bz⟩ := HB2.out.2.1.facts
      have HFS1 := HFS
      clear q1 q2 q3 hb2 HWA h12 c0 c1 c2 c3 c4 c5 c6 c7
      obtain ⟨px, hpx⟩ : ∃ px : Bool, M.stayB ts x = px := ⟨_, rfl⟩
      rw [hpx]
      cases px
      · have HFS2 : Hid ((xs.take (k + 1)).filter (M.stayB ts) = (xs.take k).filter (M.stayB ts)) := by show _ = _; rw [HFS.out, hpx]; simp
        have HPX : Hid (M.stayB ts x = false) := hpx
        clear hpx
        go_wp2_with (fail)
        go_roundw
        case rel => exact ⟨k + 1, V, m, d, us, by omega, by omega, by go_num, rfl, (by show _ ∧ _; rw [HFS2.out]; exact ⟨HB2.out.2.2.1, HB2.out.1⟩)⟩
        case measure => simp [intOf]; omega
      · have HFS2 : Hid ((xs.take (k + 1)).filter (M.stayB ts) = (xs.take k).filter (M.stayB ts) ++ [x]) := by show _ = _; rw [HFS.out, hpx]; rfl
        have HPX : Hid (M.stayB ts x = true) := hpx
        clear hpx
        go_wp2_with (fail)
        refine (own_kept v x _ (HX.out.2.1.below (Nat.le_refl _) HB2.out.2.2.2) HX.out.2.2).mono ?_
        rintro e w3 ⟨r', rfl, hor, hb3⟩
        have hz3 := hb3.size
        have HB3 : Hid (Below w.heap.size w w3 ∧ OwnC w3 w.heap.size V m d us ((xs.take k).filter (M.stayB ts)) ∧ OwnKp w3 w.heap.size r' x) := ⟨HB2.out.1.trans (hb3.mono (by omega)), HB2.out.2.2.1.below (Nat.le_refl _) hb3, hor.mono (by omega)⟩
        have HWB : Hid _ := boxK_one w3 r'
        have hz3w : w.heap.size ≤ w3.heap.size := HB3.out.1.size
        clear hor hb3
        go_wp2_with (at_builtin; refine wpList_append_row _ (by rfl) (.tmp 17) (.tmp 20) 61 (by rfl) w.heap.size 63 iK _ 96 Try.underlying61 hiK hzK hsK hbK rfl (by decide) _ m _ (by rfl) (own_below HB3.out.2.1.1 (HWB.out _ rfl).1 (Nat.le_refl _)) (some ⟨w3.heap.size, 0, none⟩) 1 1 [r'] (by rfl) (rowK_box (HWB.out _ rfl).2.1) kept_len kept_one HKN.out.1 HKN.out.2 (Nat.le_trans hz3w (HWB.out _ rfl).1.size) ?_; intro v4 w4 hown4 hg4; obtain ⟨A4, c4', rfl, _, _⟩ := own_form hown4; have HR : Hid (OwnC w4 w.heap.size A4 (m + 1) c4' (us ++ [r']) ((xs.take (k + 1)).filter (M.stayB ts)) ∧ Below w.heap.size w w4) := ⟨by rw [HFS2.out]; exact OwnC.snoc (HB3.out.2.1.below (Nat.le_refl _) (HWB.out _ rfl).1) (HB3.out.2.2.below (Nat.le_refl _) (HWB.out _ rfl).1) (by simpa using hown4) hg4, snoc_belowK (HB3.out.1.trans ((HWB.out _ rfl).1.mono HB3.out.1.size)) (Nat.le_refl _) (own_below HB3.out.2.1.1 (HWB.out _ rfl).1 (Nat.le_refl _)) hg4⟩; clear hown4 hg4)
        go_roundw
        case rel => exact ⟨k + 1, A4, m + 1, c4', us ++ [r'], by omega, by omega, by go_num, rfl, HR⟩
        case measure => simp [intOf]; omega
    · have HE : Hid (OwnC wr w.heap.size V m d us (xs.filter (M.stayB ts)) ∧ Below w.heap.size w wr) := by
        have h := HK.out
        rw [List.take_of_length_le (by rw [← HLN.out]; omega)] at h
        exact h
      clear HK H0
      go_wp2_with (fail)
      go_ret
      exact ⟨V, m, d, us, rfl, HE.out⟩
theorem ownL_kept (A : Option Addr) (n c : Nat) (vs : List KV) (xs : List M.Kp) (w : World) (ht : TreeC w A n vs xs) (hs : ∀ x ∈ xs, Small x.node) (hn : (n + 1) * 96 ≤ 140737488355328) :
    Calls Try.prog 24 #[.slice A n c] w fun e w' => ∃ (B : Option Addr) (d : Nat) (us : List KV), e = .returned (.slice B n d) ∧ OwnC w' w.heap.size B n d us xs ∧ Below w.heap.size w w' := by
  have HT : Hid (TreeC w A n vs xs ∧ ∀ x ∈ xs, Small x.node) := ⟨ht, hs⟩
  clear ht hs
  go_enter Try.func24, Try.ntmps24
  go_wp2_with (fail)
  refine (thoseOwn_kept A n c vs xs w HT.out.1 HT.out.2 hn).mono ?_
  rintro e w1 ⟨B, m, d, us, rfl, ho, hb⟩
  have e : (xs.filter fun _ => true) = xs := List.filter_eq_self.2 (fun _ _ => rfl)
  rw [e] at ho
  obtain rfl : m = n := by rw [ho.len, HT.out.1.len]
  have HO : Hid (OwnC w1 w.heap.size B m d us xs ∧ Below w.heap.size w w1) := ⟨ho, hb⟩
  clear ho hb e
  go_wp2
  go_ret
  exact ⟨B, d, us, rfl, HO.out⟩
theorem cleanL_kept (A : Option Addr) (n c : Nat) (vs : List KV) (xs : List M.Kp) (w : World) (ht : TreeC w A n vs xs) (hs : ∀ x ∈ xs, Small x.node) (hn : (n + 1) * 96 ≤ 140737488355328) :
    Calls Try.prog 34 #[.slice A n c] w fun e w' => ∃ (B : Option Addr) (m d : Nat) (us : List KV), e = .returned (.slice B m d) ∧ OwnC w' w.heap.size B m d us (xs.filter fun x => !x.dirty) ∧ Below w.heap.size w w' := by
  have HT : Hid (TreeC w A n vs xs ∧ ∀ x ∈ xs, Small x.node) := ⟨ht, hs⟩
  clear ht hs
  go_enter Try.func34, Try.ntmps34
  go_wp2_with (fail)
  refine (thoseClean_kept A n c vs xs w HT.out.1 HT.out.2 hn).mono ?_
  rintro e w1 ⟨B, m, d, us, rfl, ho, hb⟩
  have HO : Hid (OwnC w1 w.heap.size B m d us (xs.filter fun x => !x.dirty) ∧ Below w.heap.size w w1) := ⟨ho, hb⟩
  clear ho hb
  go_wp2
  go_ret
  exact ⟨B, m, d, us, rfl, HO.out⟩
theorem freshL_kept (A : Option Addr) (n c : Nat) (vs : List KV) (xs : List M.Kp) (AT : Option Addr) (nt ct : Nat) (ut : List NV) (ts : List M.Nd) (w : World) (ht : TreeC w A n vs xs) (hs : ∀ x ∈ xs, Small x.node) (hn : (n + 1) * 96 ≤ 140737488355328) (htt : Tree w AT nt ut ts) (hnt : nt ≤ 140737488355328) :
    Calls Try.prog 28 #[.slice A n c, .slice AT nt ct] w fun e w' => ∃ (B : Option Addr) (m d : Nat) (us : List KV), e = .returned (.slice B m d) ∧ OwnC w' w.heap.size B m d us (xs.filter (M.stayB ts)) ∧ Below w.heap.size w w' := by
  have HT : Hid (TreeC w A n vs xs ∧ (∀ x ∈ xs, Small x.node) ∧ Tree w AT nt ut ts) := ⟨ht, hs, htt⟩
  have HW : Hid (∀ W, W = w.alloc (.cells #[.slice AT nt ct] 22) → Below w.heap.size w W ∧ BoxH W w.heap.size AT nt ct ∧ W.heap.size = w.heap.size + 1) := by
    rintro W rfl
    exact ⟨(Below.refl _ _).alloc (Nat.le_refl _) _, heap_alloc_new w _, by simp⟩
  clear ht hs htt
  go_enter Try.func28, Try.ntmps28
  go_wp2_with (fail)
  obtain ⟨q1, q2, q3⟩ := HW.out _ rfl
  refine (thoseFresh_kept A n c vs xs _ w.heap.size AT nt ct ut ts q2 (HT.out.2.2.below (Nat.le_refl _) q1) hnt (HT.out.1.below (Nat.le_refl _) q1) HT.out.2.1 hn).mono ?_
  rintro e w1 ⟨B, m, d, us, rfl, ho, hb⟩
  have HO : Hid (OwnC w1 w.heap.size B m d us (xs.filter (M.stayB ts)) ∧ Below w.heap.size w w1) := ⟨ho.mono (by omega), q1.trans (hb.mono (by omega))⟩
  clear ho hb q1 q2 q3 HW
  go_wp2
  go_ret
  exact ⟨B, m, d, us, rfl, HO.out⟩
end Go.Proofs.Ytjpdoblmdchmkad
/-
  A REGION THAT DRAWS THE ORDER OF MANY OPERATIONS: of each operation it is said what its value is, in words that last while memory below is as it was;
  each operation is looked at once, whatever came up before it.
-/
namespace Go.Proofs.Ytjpdoblmdchmkad
open Go.RowKit

/-- the slot of operation j -/
def slotAt (ops : Array Oper) (j : Nat) : Nat := ((ops[j]?).bind (·.dst)).getD 0
/-- each operation has a slot of its own in the frame, and waits for earlier ones alone -/
def tidy (ops : Array Oper) (size : Nat) : Bool :=
  (List.range ops.size).all fun i => match ops[i]? with
    | some o => (o.after.all fun e => decide (e.on < i)) && (match o.dst with
        | some d => decide (d < size) && ((List.range i).all fun j => ((ops[j]?).bind (·.dst)) != some d)
        | none => false)
    | none => true
/-- operation i waits for operation j -/
def waits (o : Oper) (j : Nat) : Bool := o.after.any fun e => Region.binds .any e && e.on == j
/-- slot t is no operation's -/
def apart (ops : Array Oper) (t : Nat) : Bool := ops.all fun o => o.dst != some t

theorem tidy_at {ops : Array Oper} {size i : Nat} {o : Oper} (h : tidy ops size = true) (hi : ops[i]? = some o) :
    (∀ e ∈ o.after, e.on < i) ∧ ∃ d, o.dst = some d ∧ d < size ∧ slotAt ops i = d ∧ ∀ j, j < i → ((ops[j]?).bind (·.dst)) ≠ some d := by
  unfold tidy at h
  rw [List.all_eq_true] at h
  have hlt : i < ops.size := (Array.getElem?_eq_some_iff.1 hi).1
  have h1 := h i (List.mem_range.2 hlt)
  rw [hi] at h1
  simp only [Bool.and_eq_true] at h1
  obtain ⟨h2, h3⟩ := h1
  refine ⟨fun e he => ?_, ?_⟩
  · have := Array.all_eq_true_iff_forall_mem.1 h2 e he
    simpa using this
  · cases hd : o.dst with
    | none => rw [hd] at h3; cases h3
    | some d =>
      rw [hd] at h3
      simp only [Bool.and_eq_true, decide_eq_true_eq, List.all_eq_true, List.mem_range] at h3
      refine ⟨d, rfl, h3.1, by simp [slotAt, hi, hd], fun j hj => ?_⟩
      have := h3.2 j hj
      simpa using this

theorem tidy_ne {ops : Array Oper} {size i j : Nat} {o u : Oper} (h : tidy ops size = true) (hi : ops[i]? = some o) (hj : ops[j]? = some u) (hne : i ≠ j) : slotAt ops i ≠ slotAt ops j := by
  obtain ⟨_, d, hd, _, hs, hall⟩ := tidy_at h hi
  obtain ⟨_, e, he, _, ht, hall'⟩ := tidy_at h hj
  rw [hs, ht]
  intro hde
  subst hde
  rcases Nat.lt_or_gt_of_ne hne with hl | hl
  · exact hall' i hl (by rw [hi]; exact hd)
  · exact hall j hl (by rw [hj]; exact he)

/-- what lasts while memory below is as it was -/
def Stays (p : Value → World → Prop) : Prop := ∀ v w w', Below w.heap.size w w' → p v w → p v w'

/-- the frame behind some operations of the region -/
structure Framed (ops : Array Oper) (a0 a : Act) : Prop where
  size : a.tmps.size = a0.tmps.size
  defers : a.defers = a0.defers
  keeps : ∀ t, apart ops t = true → a.eval (.tmp t) = a0.eval (.tmp t)

/-- slot t holds, when operation i comes up, what it held when the region began: whoever writes it waits for i -/
def freeFor (ops : Array Oper) (i t : Nat) : Bool := (List.range ops.size).all fun j => match ops[j]? with
  | some o => j == i || o.dst != some t || waits o i
  | none => true
structure FramedAt (ops : Array Oper) (i : Nat) (a0 a : Act) : Prop where
  size : a.tmps.size = a0.tmps.size
  defers : a.defers = a0.defers
  keeps : ∀ t, freeFor ops i t = true → a.eval (.tmp t) = a0.eval (.tmp t)
/-- the frame behind the operations that are listed; what is listed waits for nothing more -/
structure FramedBy (ops : Array Oper) (listed : Array Bool) (a0 a : Act) : Prop where
  size : a.tmps.size = a0.tmps.size
  defers : a.defers = a0.defers
  keeps : ∀ t, (∀ j o, ops[j]? = some o → listed.getD j true = true → o.dst ≠ some t) → a.eval (.tmp t) = a0.eval (.tmp t)
  closed : ∀ j o, ops[j]? = some o → listed.getD j true = true → ∀ i, waits o i = true → listed.getD i true = true
theorem FramedBy.at_ {ops : Array Oper} {listed : Array Bool} {a0 a : Act} (h : FramedBy ops listed a0 a) {i : Nat} (hi : listed.getD i true = false) : FramedAt ops i a0 a := by
  refine ⟨h.size, h.defers, fun t ht => h.keeps t fun j o hj hl hd => ?_⟩
  unfold freeFor at ht
  rw [List.all_eq_true] at ht
  have h1 := ht j (List.mem_range.2 (Array.getElem?_eq_some_iff.1 hj).1)
  simp only [hj, hd, bne_self_eq_false, Bool.or_false, Bool.or_eq_true, beq_iff_eq] at h1
  rcases h1 with h1 | h1
  · subst h1; rw [hl] at hi; cases hi
  · have := h.closed j o hj hl i h1; rw [this] at hi; cases hi
theorem FramedBy.all {ops : Array Oper} {listed : Array Bool} {a0 a : Act} (h : FramedBy ops listed a0 a) : Framed ops a0 a := by
  refine ⟨h.size, h.defers, fun t ht => h.keeps t fun j o hj _ hd => ?_⟩
  have := Array.all_eq_true_iff_forall_mem.1 ht o (Array.mem_of_getElem? hj)
  simp [hd] at this
theorem FramedBy.put {ops : Array Oper} {listed : Array Bool} {a0 a : Act} (h : FramedBy ops listed a0 a) {i : Nat} {o : Oper} (hi : ops[i]? = some o) (hsz : listed.size = ops.size)
    (hw : ∀ j, waits o j = true → listed.getD j true = true) (v : Value) : FramedBy ops (listed.setIfInBounds i true) a0 (a.put o.dst v) := by
  have hil : i < listed.size := by rw [hsz]; exact (Array.getElem?_eq_some_iff.1 hi).1
  have hself : (listed.setIfInBounds i true).getD i true = true := by simp [hil]
  have hup : ∀ j, listed.getD j true = true → (listed.setIfInBounds i true).getD j true = true := by
    intro j hj
    by_cases hji : j = i
    · rw [hji]; exact hself
    · rw [getD_set_ne true (Ne.symm hji)]; exact hj
  refine ⟨?_, ?_, fun t ht => ?_, fun j u hj hl q hq => ?_⟩
  · cases hd : o.dst <;> simp [Act.put, h.size]
  · cases hd : o.dst <;> simp [Act.put, h.defers]
  · rw [Act.eval_put, h.keeps t fun j u hj hl => ht j u hj (hup j hl)]
    intro d hd e
    injection e with e
    exact ht i o hi hself (by rw [hd, e])
  · by_cases hji : j = i
    · subst hji
      rw [hi] at hj
      injection hj with hj
      subst hj
      exact hup q (hw q hq)
    · rw [getD_set_ne true (Ne.symm hji)] at hl
      exact hup q (h.closed j u hj hl q hq)

/-- What is asked of operation i: whatever came up before it, its value is as it is said. -/
def StepAt (P : Program) (ops : Array Oper) (Q : Exit → Act → World → Prop) (a0 : Act) (w0 : World) (V : Nat → Value → World → Prop) (i : Nat) : Prop :=
  ∀ o, ops[i]? = some o → ∀ a w, FramedAt ops i a0 a → Below w0.heap.size w0 w → (∀ j, waits o j = true → V j (a.eval (.tmp (slotAt ops j))) w) →
    ∀ K : Act → World → Prop, Hid (∀ v w', Below w.heap.size w w' → V i v w' → K (a.put o.dst v) w') →
      if Region.wanted o (yielded ops a.tmps) = true then Oper.wp P o a w K Q else K (a.put o.dst undef) w

def unlisted (listed : Array Bool) : Nat := (listed.toList.filter (fun b => !b)).length

theorem unlisted_set {listed : Array Bool} {i : Nat} (h : listed.getD i true = false) : unlisted (listed.setIfInBounds i true) + 1 = unlisted listed := by
  obtain ⟨l⟩ := listed
  simp only [unlisted, Array.getD_eq_getD_getElem?, List.getElem?_toArray, List.setIfInBounds_toArray] at h ⊢
  induction l generalizing i with
  | nil => simp at h
  | cons b l ih =>
    cases i with
    | zero => simp at h; subst h; simp
    | succ i =>
      simp only [List.getElem?_cons_succ] at h
      have := ih (i := i) (by simpa using h)
      cases b <;> simp [List.set_cons_succ] at this ⊢ <;> omega

theorem wpAny_vals {P : Program} {ops : Array Oper} {Q : Exit → Act → World → Prop} {a0 : Act} {w0 : World} {V : Nat → Value → World → Prop} (ht : tidy ops a0.tmps.size = true) (hst : ∀ i, Stays (V i))
    (steps : ∀ i, i < ops.size → StepAt P ops Q a0 w0 V i)
    (last : ∀ a w, Framed ops a0 a → Below w0.heap.size w0 w → (∀ j, j < ops.size → V j (a.eval (.tmp (slotAt ops j))) w) → Q .normal a w) :
    ∀ (fuel : Nat) (listed : Array Bool) (a : Act) (w : World), listed.size = ops.size → unlisted listed ≤ fuel → FramedBy ops listed a0 a → Below w0.heap.size w0 w →
      (∀ j, j < ops.size → listed.getD j true = true → V j (a.eval (.tmp (slotAt ops j))) w) → wpAny P .any ops Q fuel listed a w := by
  have hdone : ∀ (listed : Array Bool), listed.size = ops.size → Region.ready .any ops listed = [] → ∀ j, j < ops.size → listed.getD j true = true := by
    intro listed hsz hr j
    induction j using Nat.strongRecOn with
    | ind j ih =>
      intro hj
      cases hb : listed.getD j true with
      | true => rfl
      | false =>
        have ho : ops[j]? = some ops[j] := Array.getElem?_eq_getElem hj
        have hm : j ∈ Region.ready .any ops listed := by
          rw [mem_ready]
          refine ⟨hb, _, ho, fun e he _ => ?_⟩
          have hlt := (tidy_at ht ho).1 e he
          have h1 := ih e.on hlt (by omega)
          have h2 : e.on < listed.size := by omega
          simp only [Array.getD_eq_getD_getElem?, Array.getElem?_eq_getElem h2, Option.getD_some] at h1 ⊢
          exact h1
        rw [hr] at hm
        cases hm
  intro fuel
  induction fuel with
  | zero =>
    intro listed a w hsz hu hf hb hV
    have hall : ∀ j, listed.getD j true = true := by
      intro j
      have h0 : listed.toList.filter (fun b => !b) = [] := List.eq_nil_of_length_eq_zero (by simpa [unlisted] using hu)
      rw [List.filter_eq_nil_iff] at h0
      rcases Nat.lt_or_ge j listed.size with h | h
      · have := h0 listed[j] (by simp)
        simp [h] at this ⊢
        exact this
      · simp [h]
    refine ⟨?_, last a w hf.all hb fun j hj => hV j hj (hall j)⟩
    unfold Region.ready
    rw [List.filter_eq_nil_iff]
    intro j _
    rw [hall j]
    simp
  | succ fuel ih =>
    intro listed a w hsz hu hf hb hV
    refine ⟨fun hr => last a w hf.all hb fun j hj => hV j hj (hdone listed hsz hr j hj), fun i hi => ?_⟩
    obtain ⟨hun, o, ho, hall⟩ := mem_ready.1 hi
    have hilt : i < ops.size := (Array.getElem?_eq_some_iff.1 ho).1
    obtain ⟨hback, d, hd, hdlt, hslot, _⟩ := tidy_at ht ho
    refine wpOp_step ho fun K' hK => ?_
    have hlw : ∀ j, waits o j = true → listed.getD j true = true := by
      intro j hj
      obtain ⟨e, he, hbe⟩ := Array.any_eq_true'.1 hj
      simp only [Bool.and_eq_true, beq_iff_eq] at hbe
      have h1 := hall e he hbe.1
      have h2 := hback e he
      rw [← hbe.2]
      have h3 : e.on < listed.size := by omega
      simp only [Array.getD_eq_getD_getElem?, Array.getElem?_eq_getElem h3, Option.getD_some] at h1 ⊢
      exact h1
    refine steps i hilt o ho a w (hf.at_ hun) hb ?_ K' ?_
    · intro j hj
      obtain ⟨e, he, hbe⟩ := Array.any_eq_true'.1 hj
      simp only [Bool.and_eq_true, beq_iff_eq] at hbe
      have h1 := hall e he hbe.1
      have h2 := hback e he
      rw [← hbe.2]
      refine hV e.on (by omega) ?_
      have h3 : e.on < listed.size := by omega
      simp only [Array.getD_eq_getD_getElem?, Array.getElem?_eq_getElem h3, Option.getD_some] at h1 ⊢
      exact h1
    · intro v w' hw hv
      refine hK _ _ (ih _ _ _ (by simp [hsz]) (by have := unlisted_set hun; omega) (hf.put ho hsz hlw v) (hb.trans (hw.mono hb.size)) fun j hj hl => ?_)
      by_cases hji : j = i
      · subst hji
        have : (a.put o.dst v).eval (.tmp (slotAt ops j)) = v := by
          rw [hslot, hd]
          have hlt : d < a.tmps.size := by rw [hf.size]; exact hdlt
          simp [Act.eval, Act.put, hlt]
        rw [this]
        exact hv
      · have hoj : ops[j]? = some ops[j] := Array.getElem?_eq_getElem hj
        have hne := tidy_ne ht hoj ho hji
        rw [Act.eval_put (by intro d' hd' e; injection e with e; rw [hd] at hd'; injection hd' with hd'; rw [hslot] at hne; exact hne (e.trans hd'.symm))]
        rw [getD_set_ne true (Ne.symm hji)] at hl
        exact hst j _ _ _ hw (hV j hj hl)

/-- THE RULE. -/
theorem wp_region_vals {P : Program} {ops : Array Oper} {Q : Exit → Act → World → Prop} {a0 : Act} {w0 : World} (V : Nat → Value → World → Prop) {id : Nat} (hm : P.follows .mixedOrders = true)
    (ht : tidy ops a0.tmps.size = true) (hst : ∀ i, Stays (V i)) (steps : ∀ i, i < ops.size → StepAt P ops Q a0 w0.drew V i)
    (last : ∀ a w, Framed ops a0 a → Below w0.heap.size w0 w → (∀ j, j < ops.size → V j (a.eval (.tmp (slotAt ops j))) w) → Q .normal a w) :
    (Code.region id ops true).wp P Q a0 w0 := by
  refine wp_region_any hm ?_
  refine wpAny_vals (w0 := w0.drew) ht hst steps (fun a w hf hb hv => last a w hf ((Below.refl _ _).drew.trans hb) hv) _ _ _ _ (by simp) ?_ ?_ (Below.refl _ _) ?_
  · simp [unlisted]
  · refine ⟨rfl, rfl, fun _ _ => rfl, fun j o hj hl => ?_⟩
    have hlt := (Array.getElem?_eq_some_iff.1 hj).1
    simp [hlt] at hl
  · intro j hj hl
    simp [hj] at hl
end Go.Proofs.Ytjpdoblmdchmkad
/-
  WHAT SINGLE OPERATIONS DO, for regions that draw their order (text Vals).
-/
namespace Go.Proofs.Ytjpdoblmdchmkad
open Go.RowKit

/-- the operation makes a value and a world of which R is true, by itself or by a call -/
def Does (P : Program) (o : Oper) (a : Act) (w : World) (R : Value → World → Prop) : Prop :=
  (∃ v w', (execOp a.eval o).run P w = .ok (.value v) w' ∧ R v w') ∨
  ∃ f args w', (execOp a.eval o).run P w = .ok (.enter f args) w' ∧ Calls P f args w' fun e w'' => ∃ r, e = .returned r ∧ R r w''

theorem StepAt.by {P : Program} {ops : Array Oper} {Q : Exit → Act → World → Prop} {a0 : Act} {w0 : World} {V : Nat → Value → World → Prop} {i : Nat} {o : Oper} (ho : ops[i]? = some o)
    (h : ∀ a w, FramedAt ops i a0 a → Below w0.heap.size w0 w → (∀ j, waits o j = true → V j (a.eval (.tmp (slotAt ops j))) w) →
      (Region.wanted o (yielded ops a.tmps) = true ∧ Does P o a w (fun v w' => Below w.heap.size w w' ∧ V i v w')) ∨ (Region.wanted o (yielded ops a.tmps) = false ∧ V i undef w)) : StepAt P ops Q a0 w0 V i := by
  intro o' ho' a w hf hb hd K hK
  have e : o = o' := Option.some.inj (ho.symm.trans ho')
  subst e
  rcases h a w hf hb hd with ⟨hw, hr⟩ | ⟨hw, hv⟩
  · rw [if_pos hw]
    unfold Oper.wp
    rcases hr with ⟨v, w', hr, hb', hv⟩ | ⟨f, args, w', hr, hc⟩
    · rw [hr]
      exact hK.out v w' hb' hv
    · rw [hr]
      refine Calls.mono hc ?_
      rintro e w'' ⟨r, rfl, hb', hv⟩
      exact hK.out r w'' hb' hv
  · rw [hw]
    exact hK.out undef w (Below.refl _ _) hv

/-- function f is the program's own -/
def Enters (P : Program) (f : FuncId) : Prop := ∀ args w, (callFunc f args).run P w = .ok (.enter f args) w
theorem Enters.out {P : Program} {f : FuncId} (h : Enters P f) (args : Array Value) (w : World) : (callFunc f args).run P w = .ok (.enter f args) w := h args w
theorem eval_func (a : Act) (f : FuncId) : a.eval (.func f) = .func (.func f) #[] #[] := rfl
theorem eval_const (a : Act) (v : Value) : a.eval (.const v) = v := rfl
theorem enters_of {P : Program} {f : FuncId} {fn : Func} (hf : P.funcs[f]? = some fn) (hn : (fn.name == "runtime.NumGoroutine") = false) (hb : fn.body.isNone = false) : Enters P f := by
  intro args w
  unfold callFunc
  simp only [Sem.run_bind, run_program, Result.andThen_ok, hf, hn, hb, Bool.false_eq_true, if_false]
  rfl
theorem run_call {P : Program} {ρ : Operand → Value} {w : World} {d : Option Tmp} {ty : TypeId} {pos : String} {af : Array Edge} {g : Option (Nat × Bool)} {f : FuncId} {xs : Array Operand} {us : Array Value} {ts : Array TypeId} (hcf : Enters P f) (hfn : ρ (.func f) = .func (.func f) #[] #[]) (hx : xs.map ρ = us) :
    (execOp ρ ⟨d, .call { callee := .value (.func f), args := xs, argTypes := ts }, ty, pos, af, g⟩).run P w = .ok (.enter f us) w := by
  simp [execOp, resolve, invoke, hcf.out, hfn, hx, go_sem]
theorem run_not {P : Program} {ρ : Operand → Value} {w : World} {d : Option Tmp} {ty : TypeId} {pos : String} {af : Array Edge} {g : Option (Nat × Bool)} {x : Operand} {b : Bool} {t : TypeId} (hx : ρ x = .bool b) : (execOp ρ ⟨d, .unOp .not t x, ty, pos, af, g⟩).run P w = .ok (.value (.bool !b)) w := by
  simp [execOp, hx, go_sem]
theorem run_pick {P : Program} {ρ : Operand → Value} {w : World} {d : Option Tmp} {ty : TypeId} {pos : String} {af : Array Edge} {g : Option (Nat × Bool)} {c x y : Operand} {b : Bool} (hc : ρ c = .bool b) : (execOp ρ ⟨d, .pick c x y, ty, pos, af, g⟩).run P w = .ok (.value (if b then ρ x else ρ y)) w := by
  cases b <;> simp [execOp, hc, go_sem]
theorem run_neqB {ρ : Operand → Value} {w : World} {d : Option Tmp} {ty : TypeId} {pos : String} {af : Array Edge} {g : Option (Nat × Bool)} {x y : Operand} {b c : Bool} (hx : ρ x = .bool b) (hy : ρ y = .bool c) : (execOp ρ ⟨d, .binOp .neq 4 x y 4, ty, pos, af, g⟩).run Try.prog w = .ok (.value (.bool (b != c))) w := by
  simp [execOp, hx, hy, go_sem, bne]
theorem run_neqI {ρ : Operand → Value} {w : World} {d : Option Tmp} {ty : TypeId} {pos : String} {af : Array Edge} {g : Option (Nat × Bool)} {x y : Operand} {b c : Int} (hx : ρ x = .int .i64 b) (hy : ρ y = .int .i64 c) : (execOp ρ ⟨d, .binOp .neq 3 x y 3, ty, pos, af, g⟩).run Try.prog w = .ok (.value (.bool (b != c))) w := by
  simp [execOp, hx, hy, go_sem, bne]
theorem run_load26 {ρ : Operand → Value} {w : World} {d : Option Tmp} {ty : TypeId} {pos : String} {af : Array Edge} {g : Option (Nat × Bool)} {x : Operand} {s : Nat} {v : NV} (hx : ρ x = .pointer (some ⟨s, 0, none⟩)) (hb : Box w s v) : (execOp ρ ⟨d, .load 41 x, ty, pos, af, g⟩).run Try.prog w = .ok (.value v.val) w := by
  obtain ⟨p0, p1, p2, p3, p4, pf, pz⟩ := hb.facts
  simp [execOp, hx, go_sem, p0, p1, p2, p3, p4]
section
variable {P : Program} {ops : Array Oper} {a : Act} {w : World} {R : Value → World → Prop} {d : Option Tmp} {ty : TypeId} {pos : String} {af : Array Edge} {g : Option (Nat × Bool)} {op : Op}
theorem want_none : Region.wanted ⟨d, op, ty, pos, af, none⟩ (yielded ops a.tmps) = true := rfl
theorem want_some {k t : Nat} {b want : Bool} (hk : (ops[k]?).bind (·.dst) = some t) (h : a.eval (.tmp t) = .bool b) : Region.wanted ⟨d, op, ty, pos, af, some (k, want)⟩ (yielded ops a.tmps) = (b == want) := by
  have ht : a.tmps[t]? = some (.bool b) := by
    have h : a.tmps.getD t undef = .bool b := h
    rw [Array.getD_eq_getD_getElem?] at h
    cases hx : a.tmps[t]? with
    | none => rw [hx] at h; cases h
    | some v => rw [hx] at h; exact congrArg some h
  unfold Region.wanted yielded
  simp only [hk, Option.bind_some, ht]
  cases b <;> cases want <;> rfl

theorem does_move {x : Operand} {v : Value} (hx : a.eval x = v) (h : R v w) : Does P ⟨d, .move x, ty, pos, af, g⟩ a w R := .inl ⟨_, _, rfl, by rw [hx]; exact h⟩
theorem does_assign {x : Operand} {v : Value} (hx : a.eval x = v) (h : R v w) : Does P ⟨d, .assign x, ty, pos, af, g⟩ a w R := .inl ⟨_, _, rfl, by rw [hx]; exact h⟩
theorem does_call0 {f : FuncId} {ts : Array TypeId} (hcf : Enters P f) (h : Calls P f #[] w fun e w'' => ∃ r, e = .returned r ∧ R r w'') :
    Does P ⟨d, .call { callee := .value (.func f), args := #[], argTypes := ts }, ty, pos, af, g⟩ a w R := .inr ⟨f, #[], w, run_call hcf rfl (by simp), h⟩
theorem does_call1 {f : FuncId} {x : Operand} {u : Value} {ts : Array TypeId} (hcf : Enters P f) (hx : a.eval x = u) (h : Calls P f #[u] w fun e w'' => ∃ r, e = .returned r ∧ R r w'') :
    Does P ⟨d, .call { callee := .value (.func f), args := #[x], argTypes := ts }, ty, pos, af, g⟩ a w R := .inr ⟨f, #[u], w, run_call hcf rfl (by simp [hx]), h⟩
theorem does_call2 {f : FuncId} {x y : Operand} {u v : Value} {ts : Array TypeId} (hcf : Enters P f) (hx : a.eval x = u) (hy : a.eval y = v) (h : Calls P f #[u, v] w fun e w'' => ∃ r, e = .returned r ∧ R r w'') :
    Does P ⟨d, .call { callee := .value (.func f), args := #[x, y], argTypes := ts }, ty, pos, af, g⟩ a w R := .inr ⟨f, #[u, v], w, run_call hcf rfl (by simp [hx, hy]), h⟩
theorem does_call3 {f : FuncId} {x y z : Operand} {u v t : Value} {ts : Array TypeId} (hcf : Enters P f) (hx : a.eval x = u) (hy : a.eval y = v) (hz : a.eval z = t) (h : Calls P f #[u, v, t] w fun e w'' => ∃ r, e = .returned r ∧ R r w'') :
    Does P ⟨d, .call { callee := .value (.func f), args := #[x, y, z], argTypes := ts }, ty, pos, af, g⟩ a w R := .inr ⟨f, #[u, v, t], w, run_call hcf rfl (by simp [hx, hy, hz]), h⟩
theorem does_not {x : Operand} {b : Bool} {t : TypeId} (hx : a.eval x = .bool b) (h : R (.bool !b) w) : Does P ⟨d, .unOp .not t x, ty, pos, af, g⟩ a w R := .inl ⟨_, _, run_not hx, h⟩
theorem does_pick {c x y : Operand} {b : Bool} {v : Value} (hc : a.eval c = .bool b) (hv : (if b then a.eval x else a.eval y) = v) (h : R v w) : Does P ⟨d, .pick c x y, ty, pos, af, g⟩ a w R := .inl ⟨_, _, run_pick hc, by rw [hv]; exact h⟩
end
theorem does_neqB {a : Act} {w : World} {R : Value → World → Prop} {d : Option Tmp} {ty : TypeId} {pos : String} {af : Array Edge} {g : Option (Nat × Bool)} {x y : Operand} {b c : Bool} (hx : a.eval x = .bool b) (hy : a.eval y = .bool c) (h : R (.bool (b != c)) w) : Does Try.prog ⟨d, .binOp .neq 4 x y 4, ty, pos, af, g⟩ a w R := .inl ⟨_, _, run_neqB hx hy, h⟩
theorem does_neqI {a : Act} {w : World} {R : Value → World → Prop} {d : Option Tmp} {ty : TypeId} {pos : String} {af : Array Edge} {g : Option (Nat × Bool)} {x y : Operand} {b c : Int} (hx : a.eval x = .int .i64 b) (hy : a.eval y = .int .i64 c) (h : R (.bool (b != c)) w) : Does Try.prog ⟨d, .binOp .neq 3 x y 3, ty, pos, af, g⟩ a w R := .inl ⟨_, _, run_neqI hx hy, h⟩
theorem does_load26 {a : Act} {w : World} {R : Value → World → Prop} {d : Option Tmp} {ty : TypeId} {pos : String} {af : Array Edge} {g : Option (Nat × Bool)} {x : Operand} {s : Nat} {v : NV} (hx : a.eval x = .pointer (some ⟨s, 0, none⟩)) (hb : Box w s v) (h : R v.val w) : Does Try.prog ⟨d, .load 41 x, ty, pos, af, g⟩ a w R := .inl ⟨_, _, run_load26 hx hb, h⟩
end Go.Proofs.Ytjpdoblmdchmkad
