/- TEXTS LAID TOGETHER: Srvw, Swhole -/
import Derived.Test.YtcjobmbbikfnaadPart12
import Derived.Test.YtcjobmbbikfnaadPart9
import Derived.Test.YtcjobmbbikfnaadPart4
import Derived.Test.YtcjobmbbikfnaadPart10
import Derived.Deep.CutRange
import Derived.Test.YtcjobmbbikfnaadPart13
/-
  THE REFERENCE's Whole, of a tree that is as it must be.
-/
namespace Go.Proofs.Ytcjobmbbikfnaad
open Go.RowKit
open Go.ChangeMaps (setBlock)

theorem ask_cnt {w : World} {b : Nat} {f : Int → Option Int} (h : IMap w b (intF f)) (k : Int) :
    (Instr.lookup 66 (.map (some b)) (.int .i64 k) false).run Try.prog w = .ok (.int .i64 ((f k).getD 0)) w := by
  rw [run_lookup_map 66 3 Try.underlying66 (zeroI w) h k false]
  unfold intF
  cases f k <;> rfl
theorem cntF_upd (f : Int → Option Int) (k v : Int) : updF (intF f) k (.int .i64 v) = intF (M.updM f k v) := by
  funext q
  unfold updF intF M.updM
  by_cases h : q = k
  · rw [if_pos h, if_pos h]; rfl
  · rw [if_neg h, if_neg h]
theorem put_cnt {w : World} {b : Nat} {f : Int → Option Int} (h : IMap w b (intF f)) (k v : Int) :
    ∃ o : Obj, (Instr.mapUpdate 66 (.map (some b)) (.int .i64 k) (.int .i64 v)).run Try.prog w = .ok () (setBlock w b o) ∧ IMap (setBlock w b o) b (intF (M.updM f k v)) := by
  obtain ⟨o, hr, hi⟩ := run_update_map 66 3 Try.underlying66 h k (.int .i64 v)
  rw [cntF_upd] at hi
  exact ⟨o, hr, hi⟩
/-- the map counts -/
def CntI (f : Int → Option Int) (m : Int → Nat) : Prop := ∀ g, (f g).getD 0 = ((m g : Nat) : Int)
theorem cnt_step {f : Int → Option Int} {m m' : Int → Nat} {k : Int} (h : CntI f m) (hm : ∀ g, m' g = m g + if k = g then 1 else 0) : CntI (M.updM f k (((m k : Nat) : Int) + 1)) m' := by
  intro g
  unfold M.updM
  rw [hm]
  by_cases e : g = k
  · subst e; simp
  · rw [if_neg e, if_neg (fun e2 => e e2.symm)]; simpa using h g
theorem tm_take {xs : List M.Nd} {k : Nat} {x : M.Nd} (h : xs[k]? = some x) (f : Int) : M.tm (xs.take (k + 1)) f = M.tm (xs.take k) f + M.ec x.ents f := by
  rw [take_step h, M.tm_append, M.tm_cons, M.tm_nil]; omega
theorem ec_take {es : List (ByteArray × Int)} {k : Nat} {e : ByteArray × Int} (h : es[k]? = some e) (f : Int) : M.ec (es.take (k + 1)) f = M.ec (es.take k) f + if e.2 = f then 1 else 0 := by
  rw [take_step h, M.ec_append, M.ec_cons, M.ec_nil]; omega
theorem tm_le (xs : List M.Nd) (f : Int) : M.tm xs f ≤ (allF xs).length := List.count_le_length
theorem ec_le (es : List (ByteArray × Int)) (f : Int) : M.ec es f ≤ es.length := by
  have := List.count_le_length (a := f) (l := es.map (·.2))
  rw [List.length_map] at this
  exact this
theorem allF_take (xs : List M.Nd) (k : Nat) : (allF (xs.take k)).length ≤ (allF xs).length := by
  conv => rhs; rw [← List.take_append_drop k xs]
  unfold allF
  rw [List.flatMap_append, List.length_append]
  omega
theorem allF_six : ∀ {xs : List M.Nd}, (∀ x ∈ xs, x.ents.length ≤ 6) → (allF xs).length ≤ xs.length * 6
  | [], _ => by simp [allF]
  | x :: xs, h => by
    have h1 := h x List.mem_cons_self
    have h2 := allF_six fun y hy => h y (List.mem_cons_of_mem _ hy)
    unfold allF at h2 ⊢
    rw [List.flatMap_cons, List.length_append, List.length_map, List.length_cons]
    omega
theorem M.WholeS.fit {xs : List M.Nd} (h : M.WholeS xs) : Good xs ∧ (allF xs).length ≤ 144 ∧ 0 < xs.length := by
  have hn : ∀ x ∈ xs, M.NodeOK x := fun x hx => h.node x.fid x (mem_find h.rise.1 hx)
  refine ⟨⟨h.rise, fun x hx => ⟨?_, ?_⟩, ?_⟩, ?_, ?_⟩
  · have := (hn x hx).2.2.2.1; omega
  · have := (hn x hx).2.2.1; omega
  · have := h.len; omega
  · have := allF_six fun x hx => (hn x hx).2.2.1
    have := h.len
    omega
  · obtain ⟨r, hr, _⟩ := h.root
    exact List.length_pos_of_mem (M.find_mem hr).1

theorem nameB_small {s : ByteArray} (h : M.nameB s.data.toList = true) : s.size ≤ maxLen := by
  unfold M.nameB at h
  simp only [Bool.and_eq_true, decide_eq_true_eq] at h
  have h1 := h.1.2
  have e : s.data.toList.length = s.size := by rw [Array.length_toList]; rfl
  rw [e] at h1
  unfold maxLen
  omega
/-- what the first loop keeps -/
def CntM (w2 : World) (xs : List M.Nd) (k : Nat) (es : List (ByteArray × Int)) (W : World) : Prop :=
  Below w2.heap.size w2 W ∧ ∃ f, IMap W w2.heap.size (intF f) ∧ CntI f fun g => M.tm (xs.take k) g + M.ec es g

theorem CntM.call {w2 : World} {xs : List M.Nd} {k : Nat} {es : List (ByteArray × Int)} {W W' : World} (h : CntM w2 xs k es W) (hb : Below W.heap.size W W') : CntM w2 xs k es W' := by
  obtain ⟨h1, f, hi, hc⟩ := h
  exact ⟨h1.trans (hb.mono h1.size), f, hi.below (Nat.le_refl _) hb, hc⟩
/-- one entry more -/
theorem CntM.one {w2 : World} {xs : List M.Nd} {k : Nat} {es : List (ByteArray × Int)} {W : World} {j : Nat} {e : ByteArray × Int} (h : CntM w2 xs k (es.take j) W) (he : es[j]? = some e) : ∃ (o : Obj) (m : Int), 0 ≤ m ∧ m = ((M.tm (xs.take k) e.2 + M.ec (es.take j) e.2 : Nat) : Int) ∧
    (Instr.lookup 66 (.map (some w2.heap.size)) (.int .i64 e.2) false).run Try.prog W = .ok (.int .i64 m) W ∧
    (Instr.mapUpdate 66 (.map (some w2.heap.size)) (.int .i64 e.2) (.int .i64 (m + 1))).run Try.prog W = .ok () (setBlock W w2.heap.size o) ∧ CntM w2 xs k (es.take (j + 1)) (setBlock W w2.heap.size o) := by
  obtain ⟨hb, f, hi, hc⟩ := h
  obtain ⟨ob, h1, h2⟩ := put_cnt hi e.2 (((M.tm (xs.take k) e.2 + M.ec (es.take j) e.2 : Nat) : Int) + 1)
  have hl := ask_cnt hi e.2
  rw [hc e.2] at hl
  exact ⟨ob, _, Int.natCast_nonneg _, rfl, hl, h1, setBlock_below hb (Nat.le_refl _) ob, _, h2, cnt_step (m := fun g => M.tm (xs.take k) g + M.ec (es.take j) g) hc fun g => by rw [ec_take he]; omega⟩
theorem CntM.next {w2 : World} {xs : List M.Nd} {k : Nat} {x : M.Nd} {W : World} (h : CntM w2 xs k x.ents W) (hx : xs[k]? = some x) : CntM w2 xs (k + 1) [] W := by
  obtain ⟨hb, f, hi, hc⟩ := h
  refine ⟨hb, f, hi, fun g => ?_⟩
  have e := tm_take hx g
  rw [hc g]
  show ((M.tm (xs.take k) g + M.ec x.ents g : Nat) : Int) = ((M.tm (xs.take (k + 1)) g + M.ec [] g : Nat) : Int)
  rw [e, M.ec_nil, Nat.add_zero]
theorem CntM.ask {w2 : World} {xs : List M.Nd} {n : Nat} {W : World} (h : CntM w2 xs n [] W) (hn : n = xs.length) (g : Int) : (Instr.lookup 66 (.map (some w2.heap.size)) (.int .i64 g) false).run Try.prog W = .ok (.int .i64 ((M.tm xs g : Nat) : Int)) W := by
  obtain ⟨hb, f, hi, hc⟩ := h
  have hl := ask_cnt hi g
  rw [hc g, List.take_of_length_le (by omega)] at hl
  exact hl
theorem boxE_one (w : World) (e : ByteArray × Int) : ∀ W, W = w.alloc (.cells #[.string e.1, .int .i64 e.2] 62) → Below w.heap.size w W ∧ W.heap[w.heap.size]? = some (.cells #[.string e.1, .int .i64 e.2] 62 (0, 0)) ∧ W.heap.size = w.heap.size + 1 := by
  rintro W rfl
  exact ⟨(Below.refl _ _).alloc (Nat.le_refl _) _, heap_alloc_new w _, by simp⟩
theorem boxE_facts {W : World} {g : Nat} {e : ByteArray × Int} (h : W.heap[g]? = some (.cells #[.string e.1, .int .i64 e.2] 62 (0, 0))) : W.cell? ⟨g, 0, none⟩ = some (.string e.1) ∧ W.cell? ⟨g, 1, none⟩ = some (.int .i64 e.2) ∧ (∀ o, W.frozen? ⟨g, o, none⟩ = false) ∧ g < W.heap.size :=
  ⟨by simp [World.cell?, h], by simp [World.cell?, h], fun o => by simp [World.frozen?, h], lt_of_block h⟩

set_option maxRecDepth 8000 in
set_option maxHeartbeats 4000000 in
theorem refWhole_any (A : Option Addr) (n c : Nat) (vs : List NV) (xs : List M.Nd) (w : World) (ht : Tree w A n vs xs) (hw : M.WholeS xs) :
    Calls Try.prog 17 #[.slice A n c] w fun e w' => e = .returned (.bool true) ∧ Below w.heap.size w w' := by
  have HF : Hid (Good xs ∧ (allF xs).length ≤ 144 ∧ 0 < xs.length) := hw.fit
  have HT : Hid (Tree w A n vs xs ∧ M.WholeS xs) := ⟨ht, hw⟩
  have HLN : Hid (n = xs.length) := by show n = _; rw [ht.1.1, ht.2.1]
  have hn24 : n ≤ 24 := by have h1 := hw.len; have h2 : n = xs.length := HLN.out; omega
  have hn0 : 0 < n := by have h1 := HF.out.2.2; have h2 : n = xs.length := HLN.out; omega
  have hmm := @run_makeMap Try.prog
  clear ht hw
  go_enter Try.func17, Try.ntmps17
  go_wp2_with (fail)
  refine (of_any A n c vs xs w HT.out.1 HT.out.2.rise.1 (by omega)).mono ?_
  rintro e w2 ⟨b0, rfl, ht2, hb2⟩
  have H2 : Hid (TMap w2 b0 xs ∧ Below w.heap.size w w2) := ⟨ht2, hb2⟩
  have H0 : Hid (CntM w2 xs 0 [] (w2.alloc (.map #[] 0))) := ⟨(Below.refl _ _).alloc (Nat.le_refl _) _, fun _ => none, IMap.new w2, fun g => rfl⟩
  clear ht2 hb2
  go_wp2_with (fail)
  go_loopw [18] (fun i W => ∃ k : Nat, k ≤ n ∧ i = .int .i64 k ∧ Hid (CntM w2 xs k [] W)) (fun i _ => n - (intOf i).toNat)
  case atStart => exact ⟨0, Nat.zero_le _, rfl, H0⟩
  case round =>
    obtain ⟨k, hk, rfl, HK⟩ := hrel
    rename World => wr
    have hbw : Below w.heap.size w wr := H2.out.2.trans (HK.out.1.mono H2.out.2.size)
    by_cases hlt : k < n
    · have htr := HT.out.1.below (Nat.le_refl _) hbw
      obtain ⟨g, o, v, rfl, hgb, hvk, c0, c1, c2, c3, c4⟩ := htr.1.at hlt
      obtain ⟨x, hx, hcx⟩ := HT.out.1.2.at hvk
      have hxm := List.mem_of_getElem? hx
      have HX : Hid (xs[k]? = some x ∧ Cont w v x ∧ M.NodeOK x ∧ x ∈ xs) := ⟨hx, hcx, HT.out.2.node x.fid x (mem_find HT.out.2.rise.1 hxm), hxm⟩
      obtain ⟨fi, di, dA, dn, dc, eA, en, ec, ve⟩ := v
      have hen : en ≤ 6 := by rw [show en = x.ents.length from hcx.2.2.2.2.1]; exact HX.out.2.2.1.2.2.1
      have hdn : dn ≤ 20 := by rw [show dn = x.data.length from hcx.2.2.2.1.1]; exact HX.out.2.2.1.2.2.2.1
      have hdf : di = false → en = 0 := fun h => by rw [show en = x.ents.length from hcx.2.2.2.2.1, HX.out.2.2.1.1 (by rw [← hcx.2.1]; exact h)]; rfl
      have hdt : di = true → dn = 0 := fun h => by rw [show dn = x.data.length from hcx.2.2.2.1.1, HX.out.2.2.1.2.1 (by rw [← hcx.2.1]; exact h)]; rfl
      have HEN : Hid (en = x.ents.length) := hcx.2.2.2.2.1
      have HD : Hid ((di = false → en = 0) ∧ (di = true → dn = 0)) := ⟨hdf, hdt⟩
      have HWA : Hid _ := box_start wr ⟨fi, di, dA, dn, dc, eA, en, ec, ve⟩
      clear htr hvk hx hcx hgb hxm hdf hdt
      go_upto_region 6 with (fail)
      obtain ⟨w3, hw3⟩ : ∃ W, W = wr.alloc (.cells #[.int .i64 fi, .bool di, .slice dA dn dc, .slice eA en ec, .int .i64 ve] 41) := ⟨_, rfl⟩
      have H3 : Hid (Below wr.heap.size wr w3 ∧ Box w3 wr.heap.size ⟨fi, di, dA, dn, dc, eA, en, ec, ve⟩) := by
        obtain ⟨q1, q2, q3⟩ := HWA.out _ hw3
        exact ⟨q1, q2⟩
      rw [← hw3]
      clear hw3 HWA c0 c1 c2 c3 c4
      obtain ⟨z0, z1, z2, z3, z4, zf, zz⟩ := H3.out.2.facts
      go_cut [52] from 22 to 52 (fun t W => t = .bool false ∧ W = w3)
      case first =>
        have g1 : ¬ 6 < en := by omega
        have g2 : ¬ 20 < dn := by omega
        cases di
        · have h := HD.out.1 rfl
          subst h
          go_wp2_with (fail)
          go_meet
          case rel => exact ⟨congrArg Value.bool (by simp; omega), rfl⟩
        · have h := HD.out.2 rfl
          subst h
          go_wp2_with (fail)
          go_meet
          case rel => exact ⟨congrArg Value.bool (by simp; omega), rfl⟩
      obtain ⟨rfl, rfl⟩ := hcut
      rename World => w3
      clear z0 z1 z2 z3 z4 zf zz
      have HLT : Hid (w2.heap.size < wr.heap.size) := by
        obtain ⟨_, f, hi, _⟩ := HK.out
        exact hi.lt
      have H3C : Hid (CntM w2 xs k (x.ents.take 0) w3 ∧ Box w3 wr.heap.size ⟨fi, di, dA, dn, dc, eA, en, ec, ve⟩) := ⟨by rw [List.take_zero]; exact HK.out.call H3.out.1, H3.out.2⟩
      obtain ⟨z0, z1, z2, z3, z4, zf, zz⟩ := H3.out.2.facts
      go_wp2_with (fail)
      go_loopw [56] (fun i W => ∃ j : Nat, j ≤ en ∧ i = .int .i64 j ∧ Hid (CntM w2 xs k (x.ents.take j) W ∧ Box W wr.heap.size ⟨fi, di, dA, dn, dc, eA, en, ec, ve⟩)) (fun i _ => en - (intOf i).toNat)
      case atStart => exact ⟨0, Nat.zero_le _, rfl, H3C⟩
      case round =>
        obtain ⟨j, hj, rfl, HJ⟩ := hrel
        rename World => w4
        clear z0 z1 z2 z3 z4 zf zz
        by_cases hlt2 : j < en
        · have her := HX.out.2.1.2.2.2.2.below (Nat.le_refl _) (H2.out.2.trans (HJ.out.1.1.mono H2.out.2.size))
          obtain ⟨b, o2, e, hA, hgb, hek, e0, e1⟩ := Ents.at (A := eA) (n := en) her hlt2
          subst hA
          have HE : Hid (x.ents[j]? = some e ∧ (∃ y, M.find xs e.2 = some y) ∧ M.nameB e.1.data.toList = true) := ⟨hek, HT.out.2.ent x.fid x (mem_find HT.out.2.rise.1 HX.out.2.2.2) e (List.mem_of_getElem? hek), HX.out.2.2.1.2.2.2.2 e (List.mem_of_getElem? hek)⟩
          have HWE : Hid _ := boxE_one w4 e
          obtain ⟨ei1, ei2⟩ := e
          simp only at e0 e1
          clear her hek hgb
          go_upto_region 11 with (fail)
          obtain ⟨w5, hw5⟩ : ∃ W, W = w4.alloc (.cells #[.string ei1, .int .i64 ei2] 62) := ⟨_, rfl⟩
          have H5 : Hid (Below w4.heap.size w4 w5 ∧ w5.heap[w4.heap.size]? = some (.cells #[.string ei1, .int .i64 ei2] 62 (0, 0))) := by
            obtain ⟨q1, q2, q3⟩ := HWE.out _ hw5
            exact ⟨q1, q2⟩
          rw [← hw5]
          clear hw5 HWE e0 e1
          obtain ⟨y0, y1, yf, yz⟩ := boxE_facts (e := (ei1, ei2)) H5.out.2
          obtain ⟨ob, m, hm0, hme, hl, hst, hc5⟩ := (HJ.out.1.call H5.out.1).one HE.out.1
          have hm1 : m ≤ 1000 := by
            have h1 := tm_le (xs.take k) ei2
            have h2 := allF_take xs k
            have h3 := ec_le (x.ents.take j) ei2
            have h4 : (x.ents.take j).length ≤ j := List.length_take_le _ _
            have h5 := HF.out.2.1
            simp only at hme
            omega
          have hz4 := lt_of_block HJ.out.2
          have hlt3 : w2.heap.size < wr.heap.size := HLT.out
          have hlt4 : w2.heap.size < w4.heap.size := by omega
          have H6 : Hid (∀ W, W = setBlock w5 w2.heap.size ob → CntM w2 xs k (x.ents.take (j + 1)) W ∧ Box W wr.heap.size ⟨fi, di, dA, dn, dc, some ⟨b, o2, none⟩, en, ec, ve⟩ ∧ W.heap[w4.heap.size]? = some (.cells #[.string ei1, .int .i64 ei2] 62 (0, 0))) := by
            rintro W rfl
            refine ⟨hc5, ?_, by rw [setBlock_other (by omega)]; exact H5.out.2⟩
            unfold Box
            rw [setBlock_other (by omega)]
            exact HJ.out.2.below H5.out.1 hz4
          clear hme hc5 hz4 hlt3 hlt4
          go_upto_region 12 with (fail)
          obtain ⟨w6, hw6⟩ : ∃ W, W = setBlock w5 w2.heap.size ob := ⟨_, rfl⟩
          have H7 : Hid _ := H6.out _ hw6
          rw [← hw6]
          clear hw6 H6 hl hst y0 y1 yf yz
          obtain ⟨y0, y1, yf, yz⟩ := boxE_facts (e := (ei1, ei2)) H7.out.2.2
          have HNM : Hid (M.nameB ei1.data.toList = true) := HE.out.2.2
          obtain ⟨yy, hyy⟩ := HE.out.2.1
          rcases IMap.ask (H2.out.1.below (Nat.le_refl _) H7.out.1.1) ei2 with ⟨hno, _⟩ | ⟨nv, ny, _, _, hl2⟩
          · rw [hyy] at hno; cases hno
          have hl2 := hl2 true
          simp only [if_true] at hl2
          have HWN : Hid _ := box_start w6 nv
          clear hyy
          go_upto_region 13 with (fail)
          obtain ⟨w7, hw7⟩ : ∃ W, W = w6.alloc (.cells #[.int .i64 nv.fid, .bool nv.dir, .slice nv.dA nv.dn nv.dc, .slice nv.eA nv.en nv.ec, .int .i64 nv.ver] 41) := ⟨_, rfl⟩
          have H8 : Hid (CntM w2 xs k (x.ents.take (j + 1)) w7 ∧ Box w7 wr.heap.size ⟨fi, di, dA, dn, dc, some ⟨b, o2, none⟩, en, ec, ve⟩ ∧ w7.heap[w4.heap.size]? = some (.cells #[.string ei1, .int .i64 ei2] 62 (0, 0))) := by
            obtain ⟨q1, q2, q3⟩ := HWN.out _ hw7
            exact ⟨H7.out.1.call q1, H7.out.2.1.below q1 (lt_of_block H7.out.2.1), by rw [q1.block _ (lt_of_block H7.out.2.2)]; exact H7.out.2.2⟩
          rw [← hw7]
          clear hw7 HWN H7 hl2 y0 y1 yf yz
          obtain ⟨y0, y1, yf, yz⟩ := boxE_facts (e := (ei1, ei2)) H8.out.2.2
          simp only at y0 y1
          have hnb := HNM.out
          go_wp2_with (go_at_call 27; refine (refName_any ei1 _ (nameB_small HNM.out)).mono ?_; rintro e w8 ⟨rfl, hw⟩; rw [hw, hnb]; clear hw)
          go_roundw
          case rel => exact ⟨j + 1, by omega, by go_num, H8.out.1, H8.out.2.1⟩
          case measure => simp [intOf]; omega
        · have HE : Hid (CntM w2 xs (k + 1) [] w4) := by
            have h := HJ.out.1
            rw [List.take_of_length_le (by rw [← HEN.out]; omega)] at h
            exact h.next HX.out.1
          clear HJ H3C H3
          go_wp2_with (fail)
          go_roundw
          case rel => exact ⟨k + 1, by omega, by go_num, HE⟩
          case measure => simp [intOf]; omega
    · have hkn : k = n := by omega
      subst hkn
      have H3 : Hid (CntM w2 xs k [] wr) := HK.out
      clear HK H0 hbw hlt hk
      go_wp2_with (fail)
      go_loopw [84] (fun i W => ∃ j : Nat, j ≤ k ∧ i = .int .i64 j ∧ Hid (CntM w2 xs k [] W)) (fun i _ => k - (intOf i).toNat)
      case atStart => exact ⟨0, Nat.zero_le _, rfl, H3⟩
      case round =>
        obtain ⟨j, hj, rfl, HJ⟩ := hrel
        rename World => w4
        have hbw : Below w.heap.size w w4 := H2.out.2.trans (HJ.out.1.mono H2.out.2.size)
        by_cases hlt2 : j < k
        · have htr := HT.out.1.below (Nat.le_refl _) hbw
          obtain ⟨g, o, v, rfl, hgb, hvk, c0, c1, c2, c3, c4⟩ := htr.1.at hlt2
          obtain ⟨x, hx, hcx⟩ := HT.out.1.2.at hvk
          have hxm := List.mem_of_getElem? hx
          have hfx := mem_find HT.out.2.rise.1 hxm
          obtain ⟨fi, di, dA, dn, dc, eA, en, ec, ve⟩ := v
          have hfid : fi = x.fid := hcx.1
          have hdir : di = x.dir := hcx.2.1
          have HFX : Hid (M.find xs fi = some x ∧ di = x.dir) := ⟨by rw [hfid]; exact hfx, hdir⟩
          have HWA : Hid _ := box_start w4 ⟨fi, di, dA, dn, dc, eA, en, ec, ve⟩
          clear htr hvk hx hcx hgb hxm hfx hfid hdir
          go_upto_region 20 with (fail)
          obtain ⟨w5, hw5⟩ : ∃ W, W = w4.alloc (.cells #[.int .i64 fi, .bool di, .slice dA dn dc, .slice eA en ec, .int .i64 ve] 41) := ⟨_, rfl⟩
          have H5 : Hid (CntM w2 xs k [] w5 ∧ Box w5 w4.heap.size ⟨fi, di, dA, dn, dc, eA, en, ec, ve⟩) := by
            obtain ⟨q1, q2, q3⟩ := HWA.out _ hw5
            exact ⟨HJ.out.call q1, q2⟩
          rw [← hw5]
          clear hw5 HWA c0 c1 c2 c3 c4
          obtain ⟨z0, z1, z2, z3, z4, zf, zz⟩ := H5.out.2.facts
          go_cut [119] from 88 to 119 (fun t W => t = .bool false ∧ Hid (CntM w2 xs k [] W))
          case first =>
            have hl := H5.out.1.ask HLN.out fi
            by_cases hf0 : fi = 0
            · subst hf0
              have hdt : di = true := by
                obtain ⟨r, hr, hrd⟩ := HT.out.2.root
                rw [HFX.out.1] at hr
                cases hr
                rw [HFX.out.2]; exact hrd
              subst hdt
              rw [HT.out.2.t0] at hl
              go_wp2_with (fail)
              go_meet
              case rel => exact ⟨rfl, H5.out.1⟩
            · have d0 : (fi == 0) = false := by simp [hf0]
              have d1 : (fi != 0) = true := by simp [hf0]
              rw [HT.out.2.t1 fi x HFX.out.1 hf0] at hl
              have HRE : Hid (M.Reach xs 0 fi) := HT.out.2.reach fi x HFX.out.1
              clear hf0
              go_wp2_with (go_at_call 28; refine (refWithin_any b0 xs fi 0 _ (H2.out.1.below (Nat.le_refl _) H5.out.1.1) HF.out.1.2.1 (by have := HF.out.2.1; omega)).mono ?_; rintro e w6 ⟨rb, rfl, hrb, hb6⟩; obtain rfl : rb = true := hrb.2 HRE.out; have H6 : Hid (CntM w2 xs k [] w6) := H5.out.1.call hb6; clear hrb hb6)
              go_meet
              case rel => exact ⟨rfl, H6⟩
          obtain ⟨rfl, H6⟩ := hcut
          clear H5 z0 z1 z2 z3 z4 zf zz
          go_wp2_with (fail)
          go_roundw
          case rel => exact ⟨j + 1, by omega, by go_num, H6⟩
          case measure => simp [intOf]; omega
        · have H6 : Hid (Below w.heap.size w w4) := hbw
          clear hbw HJ H3
          go_wp2_with (fail)
          refine (rises_any A k c vs xs w4 (HT.out.1.below (Nat.le_refl _) H6.out) (by omega) HF.out.1.2.1).mono ?_
          rintro e w7 ⟨rfl, hb7⟩
          have H7 : Hid (Below w.heap.size w w7) := H6.out.trans (hb7.mono H6.out.size)
          rw [riseB_iff.2 HT.out.2.rise]
          clear hb7 H6
          go_wp2_with (fail)
          go_ret
          exact ⟨ret_bool (by simp; omega), H7.out⟩
end Go.Proofs.Ytcjobmbbikfnaad
/-
  THE LAW ServerWhole, walked: of any acts and any log that are few enough it answers true, and all that was there stays.
-/
namespace Go.Proofs.Ytcjobmbbikfnaad
open Go.RowKit

set_option maxRecDepth 8000 in
set_option maxHeartbeats 8000000 in
theorem whole_law_any (A C : Option Addr) (n c p q : Nat) (avs : List AV) (acs : List M.Act) (rvs : List RV) (recs : List M.Rec) (w : World) (ha : TreeA w A n avs acs) (hsa : ∀ x ∈ acs, SmallA x) (hr : TreeR w C p rvs recs) (hsr : ∀ x ∈ recs, SmallA x.act) (hn : n ≤ 1048576) (hp : p ≤ 1048576) :
    Calls Try.prog 5 #[.slice A n c, .slice C p q] w fun e w' => e = .returned (.bool true) ∧ Below w.heap.size w w' := by
  have HT : Hid (TreeA w A n avs acs ∧ (∀ x ∈ acs, SmallA x) ∧ TreeR w C p rvs recs ∧ ∀ x ∈ recs, SmallA x.act) := ⟨ha, hsa, hr, hsr⟩
  have HLN : Hid (p = recs.length) := hr.len
  clear ha hsa hr hsr
  go_enter Try.func5, Try.ntmps5
  go_wp2_with (fail)
  refine (alive7_any w).mono ?_
  rintro e w1 ⟨rfl, hb1⟩
  have H1 : Hid (Below w.heap.size w w1) := hb1
  clear hb1
  go_wp2_with (fail)
  refine (newS_any w1).mono ?_
  rintro e w2 ⟨v0, rfl, ho, hb2⟩
  have H2 : Hid (OwnS w2 w.heap.size v0 M.newS ∧ Below w.heap.size w w2) := ⟨ho.mono H1.out.size, H1.out.trans (hb2.mono H1.out.size)⟩
  have HW : Hid _ := boxS_one w2 v0.A v0.n v0.c v0.next v0.P v0.p v0.q
  clear ho hb2 H1
  go_upto_region 4 with (fail)
  obtain ⟨w3, hw3⟩ : ∃ W, W = w2.alloc (.cells #[.slice v0.A v0.n v0.c, .int .i64 v0.next, .slice v0.P v0.p v0.q] 51) := ⟨_, rfl⟩
  have H3 : Hid (LawI w w3 w2.heap.size v0 M.newS 0) := by
    obtain ⟨q1, q2, q3⟩ := HW.out _ hw3
    exact ⟨q2, H2.out.1.below (Nat.le_refl _) q1, ok_new, M.whole_root, H2.out.2.trans (q1.mono H2.out.2.size), H2.out.2.size⟩
  rw [← hw3]
  clear hw3 HW H2
  generalize w2.heap.size = g0 at H3 ⊢
  go_wp2_with (fail)
  go_loopw [15] (fun i W => ∃ (k : Nat) (v : SV) (s : M.Srv), k ≤ n ∧ i = .int .i64 k ∧ Hid (LawI w W g0 v s k)) (fun i _ => n - (intOf i).toNat)
  case atStart => exact ⟨0, v0, M.newS, Nat.zero_le _, rfl, H3⟩
  case round =>
    obtain ⟨k, v, s, hk, rfl, HK⟩ := hrel
    rename World => wr
    by_cases hlt : k < n
    · have hta := HT.out.1.below (Nat.le_refl _) HK.out.below
      obtain ⟨b, o, av, rfl, hgb, hvk, c0, c1, c2, c3, c4, c5, c6⟩ := Acts.at hta.1 hlt
      obtain ⟨x, hx, hcx⟩ := hta.2.at hvk
      have HX : Hid (ContA wr av x ∧ SmallA x) := ⟨hcx, HT.out.2.1 x (List.mem_of_getElem? hx)⟩
      have HWA : Hid _ := boxA_start wr av
      clear hta hvk hx hcx hgb
      go_upto_region 7 with (fail)
      obtain ⟨w4, hw4⟩ : ∃ W, W = wr.alloc (.cells #[.int .i64 av.kind, .int .i64 av.fid, .int .i64 av.dir, .string av.name, .int .i64 av.to, .string av.toName, .slice av.dA av.dn av.dc] 36) := ⟨_, rfl⟩
      have H4 : Hid (LawI w w4 g0 v s k ∧ BoxA w4 wr.heap.size av ∧ ContA w4 av x) := by
        obtain ⟨q1, q2, q3⟩ := HWA.out _ hw4
        exact ⟨HK.out.call q1, q2, HX.out.1.below (Nat.le_refl _) q1⟩
      rw [← hw4]
      clear hw4 HWA c0 c1 c2 c3 c4 c5 c6
      obtain ⟨f0, f1, f2, ff, fz⟩ := H4.out.1.box.facts
      obtain ⟨a0, a1, a2, a3, a4, a5, a6, af, az⟩ := H4.out.2.1.facts
      go_wp2_with (fail)
      refine (do_any v s (k : Int) av x k w4 H4.out.1.own.serv H4.out.1.ok (by omega) H4.out.2.2 HX.out.2).mono ?_
      rintro e w5 ⟨v', rfl, ho, hb5⟩
      have H5 : Hid (LawI w w5 g0 v s k ∧ OwnS w5 w.heap.size v' (M.doS s (k : Int) x).2) := ⟨H4.out.1.call hb5, ho.mono H4.out.1.below.size⟩
      have HW : Hid _ := boxS_one w5 v'.A v'.n v'.c v'.next v'.P v'.p v'.q
      clear ho hb5 f0 f1 f2 ff fz a0 a1 a2 a3 a4 a5 a6 af az H4
      go_upto_region 8 with (fail)
      obtain ⟨w6, hw6⟩ : ∃ W, W = w5.alloc (.cells #[.slice v'.A v'.n v'.c, .int .i64 v'.next, .slice v'.P v'.p v'.q] 51) := ⟨_, rfl⟩
      have H6 : Hid (LawI w w6 g0 v s k ∧ OwnS w6 w.heap.size v' (M.doS s (k : Int) x).2 ∧ BoxS w6 w5.heap.size v') := by
        obtain ⟨q1, q2, q3⟩ := HW.out _ hw6
        exact ⟨H5.out.1.call q1, H5.out.2.below (Nat.le_refl _) q1, q2⟩
      rw [← hw6]
      clear hw6 HW H5
      obtain ⟨f0, f1, f2, ff, fz⟩ := H6.out.1.box.facts
      obtain ⟨g1, g2, g3, gf, gz⟩ := H6.out.2.2.facts
      by_cases h0 : (M.doS s (k : Int) x).1 = 0
      · have HP : Hid _ := H6.out.1.put H6.out.2.1 (ok_do H6.out.1.ok HX.out.2 h0) (whole_do H6.out.1.whole h0)
        rw [h0]
        clear h0
        generalize (M.doS s (k : Int) x).2 = s2 at HP
        go_upto_region 12 with (fail)
        obtain ⟨w7, hw7⟩ : ∃ W, W = ((w6.setCell ⟨g0, 0, none⟩ (.slice v'.A v'.n v'.c)).setCell ⟨g0, 1, none⟩ (.int .i64 v'.next)).setCell ⟨g0, 2, none⟩ (.slice v'.P v'.p v'.q) := ⟨_, rfl⟩
        have H7 : Hid (LawI w w7 g0 v' s2 (k + 1)) := HP.out _ hw7
        rw [← hw7]
        clear hw7 HP H6 f0 f1 f2 ff fz g1 g2 g3 gf gz
        obtain ⟨f0, f1, f2, ff, fz⟩ := H7.out.box.facts
        obtain ⟨vs, htr⟩ := H7.out.own.serv.2.1
        have HTR : Hid (Tree w7 v'.A v'.n vs s2.tr) := htr
        clear htr
        go_wp2_with (fail)
        refine (refWhole_any v'.A v'.n v'.c vs s2.tr w7 HTR.out H7.out.whole).mono ?_
        rintro e w8 ⟨rfl, hb8⟩
        have H8 : Hid (LawI w w8 g0 v' s2 (k + 1)) := H7.out.call hb8
        clear hb8 H7 HTR f0 f1 f2 ff fz
        go_wp2_with (fail)
        go_roundw
        case rel => exact ⟨k + 1, v', s2, by omega, by go_num, H8⟩
        case measure => simp [intOf]; omega
      · have hne : ((M.doS s (k : Int) x).1 == 0) = false := by simp [h0]
        have hz : (M.doS s (k : Int) x).2 = ⟨[], 0, []⟩ := by
          by_cases h1 : (M.applyS s.tr (M.actN s x) ((s.past.length : Int) + 1)).1 = 0
          · rw [M.do_yes h1] at h0; exact absurd rfl h0
          · rw [M.do_no h1]
        have hl := H6.out.2.1.serv.lens
        rw [hz] at hl
        have hn0 : v'.n = 0 := hl.1
        have hp0 : v'.p = 0 := hl.2
        rw [hn0] at g1
        rw [hp0] at g3
        clear h0 hz hl
        obtain ⟨vs, htr⟩ := H6.out.1.own.serv.2.1
        have HTR : Hid (Tree w6 v.A v.n vs s.tr) := htr
        clear htr
        go_wp2_with (fail)
        refine (refWhole_any v.A v.n v.c vs s.tr w6 HTR.out H6.out.1.whole).mono ?_
        rintro e w8 ⟨rfl, hb8⟩
        have H8 : Hid (LawI w w8 g0 v s (k + 1)) := (H6.out.1.mono (Nat.le_succ _)).call hb8
        clear hb8 H6 HTR f0 f1 f2 ff fz g1 g2 g3 gf gz
        go_wp2_with (fail)
        go_roundw
        case rel => exact ⟨k + 1, v, s, by omega, by go_num, H8⟩
        case measure => simp [intOf]; omega
    · have HKN : Hid (k ≤ 1048576) := by show k ≤ _; omega
      obtain ⟨f0, f1, f2, ff, fz⟩ := HK.out.box.facts
      clear H3
      go_wp2_with (fail)
      refine (take_any v s 9 C p q rvs recs k wr HK.out.own.serv HK.out.ok (by have := HKN.out; omega) (HT.out.2.2.1.below (Nat.le_refl _) HK.out.below) HT.out.2.2.2 (by omega)).mono ?_
      rintro e w5 ⟨v', V, m, d, rfl, ho, hv, hb5⟩
      have HOK : Hid (SrvOK (M.takeS s 9 recs) (k + recs.length) ∧ M.WholeS (M.takeS s 9 recs).tr ∧ k + recs.length ≤ 2097152) := ⟨ok_take HK.out.ok 9 HT.out.2.2.2, whole_take HK.out.whole 9 recs, by have h1 := HLN.out; have h2 := HKN.out; omega⟩
      generalize M.takeS s 9 recs = t at ho HOK
      have H5 : Hid (LawI w w5 g0 v s k ∧ OwnS w5 w.heap.size v' t) := ⟨HK.out.call hb5, ho.mono HK.out.below.size⟩
      clear ho hv hb5 f0 f1 f2 ff fz
      obtain ⟨f0, f1, f2, ff, fz⟩ := H5.out.1.box.facts
      have HP : Hid _ := H5.out.1.put H5.out.2 HOK.out.1 HOK.out.2.1
      go_upto_region 16 with (fail)
      obtain ⟨w6, hw6⟩ : ∃ W, W = ((w5.setCell ⟨g0, 0, none⟩ (.slice v'.A v'.n v'.c)).setCell ⟨g0, 1, none⟩ (.int .i64 v'.next)).setCell ⟨g0, 2, none⟩ (.slice v'.P v'.p v'.q) := ⟨_, rfl⟩
      have H6 : Hid (LawI w w6 g0 v' t (k + recs.length)) := HP.out _ hw6
      rw [← hw6]
      clear hw6 HP H5 HK f0 f1 f2 ff fz
      obtain ⟨f0, f1, f2, ff, fz⟩ := H6.out.box.facts
      obtain ⟨vs, htr⟩ := H6.out.own.serv.2.1
      have HTR : Hid (Tree w6 v'.A v'.n vs t.tr) := htr
      clear htr
      go_wp2_with (fail)
      refine (refWhole_any v'.A v'.n v'.c vs t.tr w6 HTR.out H6.out.whole).mono ?_
      rintro e w8 ⟨rfl, hb8⟩
      have H8 : Hid (Below w.heap.size w w8) := H6.out.below.trans (hb8.mono H6.out.below.size)
      clear hb8 H6 HTR f0 f1 f2 ff fz
      go_wp2_with (fail)
      go_ret
      exact ⟨rfl, H8.out⟩
end Go.Proofs.Ytcjobmbbikfnaad
