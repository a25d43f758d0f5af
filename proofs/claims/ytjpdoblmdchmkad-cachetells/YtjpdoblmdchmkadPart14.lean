/- TEXTS LAID TOGETHER: Klist, Kln -/
import Derived.Test.YtjpdoblmdchmkadPart5
import Derived.Test.YtjpdoblmdchmkadPart13
import Derived.Deep.Cut
import Derived.Deep.CutRange
import Derived.Test.YtjpdoblmdchmkadPart11
import Derived.Test.YtjpdoblmdchmkadKkeep
import Derived.Test.YtjpdoblmdchmkadPart4
/-
  TREES WHOSE LISTS STAY: List.
-/
namespace Go.Proofs.Ytjpdoblmdchmkad
open Go.RowKit
open Go.ChangeMaps (setBlock)
variable [Inhabited BaseN]

/-- the list so far -/
structure LIK (w : World) (bm : Nat) (es : Array MapEntry) (clock : Nat) (xs : List M.Nd) (seen : Array Nat) (A : Option Addr) (m c : Nat) (us : List NV) (wr : World) : Prop where
  it : It w w.heap.size bm es clock seen wr
  own : wr.ownsRow (w.heap.size + 1) 41 5 (.slice A m c) m (us.flatMap NV.cells)
  con : All2 (ContK w) us (xs.filter fun x => seenK es seen x.fid)
theorem LIK.start {w : World} {bm : Nat} {es : Array MapEntry} {clock : Nat} (xs : List M.Nd) (hb : w.heap[bm]? = some (.map es clock)) : LIK w bm es clock xs #[] none 0 0 [] (w.alloc (.mapIter (some bm) clock #[] clock)) := by
  refine ⟨⟨⟨clock, heap_alloc_new w _, Nat.le_refl _⟩, hb, Nat.le_refl _, (Below.refl _ _).alloc (Nat.le_refl _) _⟩, World.ownsRow_nil _ _ _ _, ?_⟩
  have : (xs.filter fun x => seenK es #[] x.fid) = [] := List.filter_eq_nil_iff.2 (fun x _ => by simp [seenK])
  rw [this]
  exact All2.nil

/-- one more is in its place -/
theorem list_conK {w : World} {es : Array MapEntry} {seen : Array Nat} {xs : List M.Nd} {us : List NV} {ve : NV} {x : M.Nd} {b j : Nat} (hr : M.RsN xs) (hx : x ∈ xs) (hc : ContK w ve x) (hcon : All2 (ContK w) us (xs.filter fun y => seenK es seen y.fid))
    (hpush : ∀ q, seenK es (seen.push b) q = (seenK es seen q || decide (q = x.fid))) (hnot : seenK es seen x.fid = false) (hlo : ∀ u ∈ us.take j, u.fid < ve.fid) (hup : ∀ u, us[j]? = some u → ¬ u.fid < ve.fid) :
    All2 (ContK w) (us.take j ++ [ve] ++ us.drop j) (xs.filter fun y => seenK es (seen.push b) y.fid) := by
  rw [filter_put hr hx (seenK es seen) (seenK es (seen.push b)) hnot hpush]
  have hrs : M.RsN (xs.filter fun y => seenK es seen y.fid) := M.rs_sub hr (List.filter_sublist.map _)
  have hfx : ve.fid = x.fid := hc.1.1
  rw [put_place (k := j) hrs ?_ ?_]
  · exact All2.append (All2.append (hcon.take j) (All2.one hc)) (hcon.drop j)
  · intro y hy
    obtain ⟨i, hi⟩ := List.getElem?_of_mem hy
    have ht := hcon.take j
    have hlt : i < ((xs.filter fun y => seenK es seen y.fid).take j).length := (List.getElem?_eq_some_iff.1 hi).1
    have hiu : i < (us.take j).length := by rw [ht.1]; exact hlt
    have hu : (us.take j)[i]? = some (us.take j)[i] := List.getElem?_eq_getElem hiu
    have hcu := ht.2 i _ y hu hi
    have := hlo _ (List.mem_of_getElem? hu)
    rw [hcu.1.1, hfx] at this
    exact this
  · intro y hy
    have hlt := (List.getElem?_eq_some_iff.1 hy).1
    have hju : j < us.length := by rw [hcon.1]; exact hlt
    have hu : us[j]? = some us[j] := List.getElem?_eq_getElem hju
    have hcu := hcon.2 j _ y hu hy
    have h1 := hup _ hu
    rw [hcu.1.1, hfx] at h1
    have hne : y.fid ≠ x.fid := by
      intro e
      have hm := (List.mem_filter.1 (List.mem_of_getElem? hy)).2
      simp only [e] at hm
      rw [hnot] at hm; cases hm
    omega

set_option maxHeartbeats 4000000 in
theorem listK_any (bm : Nat) (xs : List M.Nd) (w : World) (ht : TMapK w bm xs) (hr : M.RsN xs) (hn : (xs.length + 1) * 72 ≤ 140737488355328) :
    Calls Try.prog 27 #[.map (some bm)] w fun e w' => ∃ (A : Option Addr) (m c : Nat) (us : List NV), e = .returned (.slice A m c) ∧ TreeK w' A m us xs ∧ Lies w' A m 41 ∧ Below w.heap.size w w' := by
  obtain ⟨f, ⟨es, clock, hb, hh, hnd, hcl⟩, ha⟩ := ht
  have H0 : Hid (w.heap[bm]? = some (.map es clock) ∧ AgreeK w f xs ∧ M.RsN xs) := ⟨hb, ha, hr⟩
  have HH : Hid (Holds es.toList f ∧ (es.toList.map (·.born)).Nodup ∧ ∀ e ∈ es.toList, e.born < clock) := ⟨hh, hnd, hcl⟩
  have hrg := run_range_map (P := Try.prog) w 31 3 41 bm es clock Try.underlying31 hb
  clear hb hh hnd hcl ha hr
  go_enter Try.func27, Try.ntmps27
  go_wp2
  clear hrg
  go_loopw [3] (fun l wr => ∃ (seen : Array Nat) (A : Option Addr) (m c : Nat) (us : List NV), l = .slice A m c ∧ LIK w bm es clock xs seen A m c us wr) (fun _ wr => (leftOf es (wr.iterSeen w.heap.size)).size)
  case atStart => exact ⟨#[], none, 0, 0, [], rfl, LIK.start xs H0.out.1⟩
  case round =>
    obtain ⟨seen, A, m, c, us, rfl, hli⟩ := hrel
    have HLI : Hid (LIK w bm es clock xs seen A m c us wr) := hli
    have hse := hli.it.seen
    rcases hli.it.next HH.out.2.1 HH.out.2.2 0 with ⟨h0, hnx⟩ | ⟨e, he, W, hnx, hen, hit, hsz, hoth⟩
    · have HF : Hid (TreeK wr A m us xs ∧ Lies wr A m 41 ∧ Below w.heap.size w wr) := by
        have hall := all_seen es seen h0
        have hfil : (xs.filter fun x => seenK es seen x.fid) = xs := by
          rw [List.filter_eq_self]
          intro x hx
          obtain ⟨i, hi⟩ := List.getElem?_of_mem hx
          have hfx := M.find_self H0.out.2.2 hi
          rcases H0.out.2.1 x.fid with ⟨_, h2⟩ | ⟨v, y, h1, _, _⟩
          · rw [hfx] at h2; cases h2
          · obtain ⟨e, he, hk, _⟩ := HH.out.1.all _ _ h1
            unfold seenK
            rw [List.any_eq_true]
            exact ⟨e, he, by rw [hall e he, intKey_iff.2 hk]; simp⟩
        have hc := hli.con
        rw [hfil] at hc
        exact ⟨⟨Row.ofOwn nod_len (by decide) hli.own, hc.imp fun v x h => h.below (Nat.le_refl _) hli.it.bel⟩, .own hli.own, hli.it.bel⟩
      clear hli hse h0
      go_wp2
      go_ret
      exact ⟨A, m, c, us, rfl, HF.out⟩
    · obtain ⟨hem, hns⟩ := mem_left he
      obtain ⟨k, hk, hfk⟩ := HH.out.1.key e hem
      rcases H0.out.2.1 k with ⟨h6, _⟩ | ⟨ve, x, h6, hfx, hcx⟩
      · rw [h6] at hfk; cases hfk
      · rw [h6] at hfk
        injection hfk with hfk
        rw [hk, ← hfk] at hnx hen
        have hlt := left_shrinks es seen e he
        have hwa : Below W.heap.size W (W.alloc (.cells #[.int .i64 ve.fid, .bool ve.dir, .slice ve.dA ve.dn ve.dc, .slice ve.eA ve.en ve.ec, .int .i64 ve.ver] 41)) := (Below.refl _ _).alloc (Nat.le_refl _) _
        have HX : Hid (ContK w ve x ∧ x ∈ xs ∧ x.fid = k) := ⟨hcx, List.mem_of_find?_eq_some hfx, find_fid hfx⟩
        have HL1 : Hid (LIK w bm es clock xs seen A m c us wr) := hli
        have HSK : Hid ((∀ q, seenK es (seen.push e.born) q = (seenK es seen q || decide (q = x.fid))) ∧ seenK es seen x.fid = false) := by
          have hxk : x.fid = k := find_fid hfx
          exact ⟨fun q => by rw [hxk]; exact seenK_push hem hk HH.out.2.1 q, by rw [hxk]; exact seenK_not hem hk hns HH.out.1.one⟩
        have HM : Hid ((leftOf es (seen.push e.born)).size < (leftOf es seen).size ∧ wr.iterSeen w.heap.size = seen) := ⟨hlt, hse⟩
        have HI2 : Hid (It w w.heap.size bm es clock (seen.push e.born) (W.alloc (.cells #[.int .i64 ve.fid, .bool ve.dir, .slice ve.dA ve.dn ve.dc, .slice ve.eA ve.en ve.ec, .int .i64 ve.ver] 41)) ∧ (W.alloc (.cells #[.int .i64 ve.fid, .bool ve.dir, .slice ve.dA ve.dn ve.dc, .slice ve.eA ve.en ve.ec, .int .i64 ve.ver] 41)).ownsRow (w.heap.size + 1) 41 5 (.slice A m c) m (us.flatMap NV.cells) ∧ Box (W.alloc (.cells #[.int .i64 ve.fid, .bool ve.dir, .slice ve.dA ve.dn ve.dc, .slice ve.eA ve.en ve.ec, .int .i64 ve.ver] 41)) W.heap.size ve) := by
          refine ⟨hit.below hwa, ?_, Box.new W ve⟩
          refine own_below ?_ hwa (Nat.le_refl _)
          refine ⟨hli.own.1, ?_⟩
          rcases hli.own.2 with h2 | ⟨g, cap, cur, e1, h1, hg, r⟩
          · exact .inl h2
          · exact .inr ⟨g, cap, cur, e1, h1, by rw [hoth g (by omega)]; exact hg, r⟩
        clear hli hlt hse hem hns hk h6 hfx hcx he hit hoth hwa hfk hsz
        go_upto_region 5 with (fail)
        clear hnx hen
        generalize W.alloc (.cells #[.int .i64 ve.fid, .bool ve.dir, .slice ve.dA ve.dn ve.dc, .slice ve.eA ve.en ve.ec, .int .i64 ve.ver] 41) = Wa at HI2 ⊢
        generalize W.heap.size = sb at HI2 ⊢
        have hmx : m ≤ xs.length := by
          have h1 := own_len nod_len (by decide) HL1.out.own
          have h2 := HL1.out.con.1
          have h3 := List.length_filter_le (fun x : M.Nd => seenK es seen x.fid) xs
          omega
        have hml : m = us.length := own_len nod_len (by decide) HL1.out.own
        have HML : Hid (m = us.length) := hml
        clear hml
        go_wp2
        go_loopw [6] (fun i wi => ∃ j : Nat, j ≤ m ∧ i = .int .i64 j ∧ Hid (∀ u ∈ us.take j, u.fid < ve.fid) ∧ Below Wa.heap.size Wa wi) (fun i _ => m - (intOf i).toNat)
        case atStart => exact ⟨0, Nat.zero_le _, rfl, (by intro u hu; simp at hu), Below.refl _ _⟩
        case round =>
          rename World => wi
          obtain ⟨j, hj, rfl, HLO, hbi⟩ := hrel
          obtain ⟨p0, p1, p2, p3, p4, pf, pz⟩ := (HI2.out.2.2.below hbi (lt_of_block HI2.out.2.2)).facts
          clear p1 p2 p3 p4
          by_cases hjm : j < m
          · obtain ⟨b, o, v, hA, _, hvj, c0, c1, c2, c3, c4⟩ := Nodes.at (Row.ofOwn nod_len (by decide) (own_below HI2.out.2.1 hbi (Nat.le_refl _))) hjm
            have HVJ : Hid (us[j]? = some v) := hvj
            have hd1 : decide ((j : Int) < (m : Int)) = true := by rw [decide_eq_true_eq]; omega
            have hjn : (j : Int) < (m : Int) := by omega
            have hj0 : (0 : Int) ≤ (j : Int) := by omega
            subst hA
            clear hvj c1 c2 c3 c4
            by_cases hlo : v.fid < ve.fid
            · have hd2 : decide (v.fid < ve.fid) = true := by rw [decide_eq_true_eq]; exact hlo
              have HLV : Hid (v.fid < ve.fid) := hlo
              clear hlo
              go_wp2
              go_quiet (fail)
              go_wp2
              go_roundw
              case rel => exact ⟨j + 1, by omega, by go_num, (by intro u hu; rw [take_step HVJ.out] at hu; rcases List.mem_append.1 hu with h1 | h1; exact HLO.out u h1; rw [List.mem_singleton.1 h1]; exact HLV.out), below_drewN hbi _⟩
              case measure => simp [intOf]; omega
            · have hd2 : decide (v.fid < ve.fid) = false := by rw [decide_eq_false_iff_not]; exact hlo
              have HUP : Hid (∀ u, us[j]? = some u → ¬ u.fid < ve.fid) := by intro u hu; rw [HVJ.out] at hu; injection hu with hu; subst hu; exact hlo
              clear hlo
              go_wp2
              go_quiet (fail)
              go_upto_region 8 with (fail)
              refine region8 (j := j) (B := w.heap.size + 1) (sb := sb) (us := us) (ve := ve) rfl rfl rfl rfl (own_below HI2.out.2.1 (below_drewN hbi _) (Nat.le_refl _)) (HI2.out.2.2.below (below_drewN hbi _) (lt_of_block HI2.out.2.2)) hj (by omega) ?_
              intro a' w' hf hb ho
              have hl := hf.lit (fun t => decide (t = 3) || (decide (29 ≤ t) && decide (t ≤ 40))) (by kernel_rfl)
              simp only [overL, Nat.reduceAdd, Nat.reduceLeDiff, Nat.reduceEqDiff, decide_true, decide_false, Bool.and_true, Bool.and_false, Bool.false_or, Bool.true_or] at hl
              obtain ⟨A', c', hv, _, _⟩ := own_form ho
              have ho' : w'.ownsRow (w.heap.size + 1) 41 5 (.slice A' (us.take j ++ [ve] ++ us.drop j).length c') (us.take j ++ [ve] ++ us.drop j).length ((us.take j ++ [ve] ++ us.drop j).flatMap NV.cells) := by
                rw [← hv]
                refine own_mono ho ?_
                have h1 := lt_of_block HI2.out.1.it.choose_spec.1
                have h2 := (below_drewN hbi nq).size
                omega
              have HLI2 : Hid (LIK w bm es clock xs (seen.push e.born) A' (us.take j ++ [ve] ++ us.drop j).length c' (us.take j ++ [ve] ++ us.drop j) w') :=
                ⟨HI2.out.1.below ((below_drewN hbi _).trans (hb.mono (below_drewN hbi nq).size)), ho', list_conK H0.out.2.2 HX.out.2.1 HX.out.1 HL1.out.con HSK.out.1 HSK.out.2 HLO.out (fun u hu => Int.not_lt.2 (HUP.out u hu))⟩
              rw [hl, hv]
              clear hl hv ho ho' hf hb
              go_wp2_with (fail)
              go_roundw
              case rel => exact ⟨seen.push e.born, A', _, c', _, rfl, HLI2.out⟩
              case measure => rw [HLI2.out.it.seen, HM.out.2]; exact HM.out.1
          · have HUP : Hid (∀ u, us[j]? = some u → ¬ u.fid < ve.fid) := by
              intro u hu
              have := (List.getElem?_eq_some_iff.1 hu).1
              have := HML.out
              omega
            have hd1 : decide ((j : Int) < (m : Int)) = false := by rw [decide_eq_false_iff_not]; omega
            go_wp2
            go_quiet (fail)
            go_upto_region 8 with (fail)
            refine region8 (j := j) (B := w.heap.size + 1) (sb := sb) (us := us) (ve := ve) rfl rfl rfl rfl (own_below HI2.out.2.1 (below_drewN hbi _) (Nat.le_refl _)) (HI2.out.2.2.below (below_drewN hbi _) (lt_of_block HI2.out.2.2)) hj (by omega) ?_
            intro a' w' hf hb ho
            have hl := hf.lit (fun t => decide (t = 3) || (decide (29 ≤ t) && decide (t ≤ 40))) (by kernel_rfl)
            simp only [overL, Nat.reduceAdd, Nat.reduceLeDiff, Nat.reduceEqDiff, decide_true, decide_false, Bool.and_true, Bool.and_false, Bool.false_or, Bool.true_or] at hl
            obtain ⟨A', c', hv, _, _⟩ := own_form ho
            have ho' : w'.ownsRow (w.heap.size + 1) 41 5 (.slice A' (us.take j ++ [ve] ++ us.drop j).length c') (us.take j ++ [ve] ++ us.drop j).length ((us.take j ++ [ve] ++ us.drop j).flatMap NV.cells) := by
              rw [← hv]
              refine own_mono ho ?_
              have h1 := lt_of_block HI2.out.1.it.choose_spec.1
              have h2 := (below_drewN hbi nq).size
              omega
            have HLI2 : Hid (LIK w bm es clock xs (seen.push e.born) A' (us.take j ++ [ve] ++ us.drop j).length c' (us.take j ++ [ve] ++ us.drop j) w') :=
              ⟨HI2.out.1.below ((below_drewN hbi _).trans (hb.mono (below_drewN hbi nq).size)), ho', list_conK H0.out.2.2 HX.out.2.1 HX.out.1 HL1.out.con HSK.out.1 HSK.out.2 HLO.out (fun u hu => Int.not_lt.2 (HUP.out u hu))⟩
            rw [hl, hv]
            clear hl hv ho ho' hf hb
            go_wp2_with (fail)
            go_roundw
            case rel => exact ⟨seen.push e.born, A', _, c', _, rfl, HLI2.out⟩
            case measure => rw [HLI2.out.it.seen, HM.out.2]; exact HM.out.1
end Go.Proofs.Ytjpdoblmdchmkad
/-
  TWO CACHES that grow beside each other, and a box of one that is kept.
-/
namespace Go.Proofs.Ytjpdoblmdchmkad
open Go.RowKit
theorem BoxK.row {w w' : World} {g : Nat} {v : KV} {row : Option Nat} (h : BoxK w g v) (hg : w.grownBy w' row) (hne : row ≠ some g) : BoxK w' g v := by
  unfold BoxK at h ⊢
  rw [hg.block g (lt_of_block h) (fun e => hne e.symm)]
  exact h
theorem grown_set (w : World) (g o : Nat) (u : Value) : w.grownBy (w.setCell ⟨g, o, none⟩ u) (some g) := ⟨rfl, rfl, rfl, by simp, fun k _ hk => Below.heap_setCell _ _ _ _ (fun e => hk (by rw [e]))⟩
/-- their blocks are two -/
def Apt (u v : Value) : Prop := ∀ g, u.ownBlock = some g → v.ownBlock ≠ some g
theorem boxC_last (w : World) (g : Nat) (v : KV) (x : Int) (h : BoxK w g v) : BoxK (w.setCell ⟨g, 7, none⟩ (.int .i64 x)) g ⟨v.n, v.dirty, v.worth, x⟩ := by
  have h1 := heap_setCell_same w g 7 _ 63 (.int .i64 x) h
  unfold BoxK
  rw [h1]
  rfl
theorem allB_self : ∀ l : List M.Nd, allB (sameNd true) l l = true
  | [] => rfl
  | x :: l => by
    unfold allB
    rw [same_self, allB_self l]
    rfl
variable [Inhabited BaseN]

/-- what is written is a block of caches, and no other one's -/
def RowO (w : World) (row : Option Nat) : Prop := ∀ s, row = some s → kbase ≤ s ∧ ∃ cur, w.heap[s]? = some (.cells cur 63 (0, 0))
theorem RowO.own {w : World} {B : Nat} {A : Option Addr} {n c : Nat} {L : List Value} (h : w.ownsRow B 63 8 (.slice A n c) n L) (hB : kbase ≤ B) : RowO w (Value.slice A n c).ownBlock := by
  intro s hs
  rcases h.2 with ⟨e, _⟩ | ⟨g, cap, cur, e, hb, hg, _⟩
  · rw [e] at hs; cases hs
  · rw [e] at hs; cases hs
    exact ⟨Nat.le_trans hB hb, cur, hg⟩
theorem keepE_row {w w' : World} {row : Option Nat} {e : TypeId} (hr : RowO w row) (hg : w.grownBy w' row) (he : e ≠ 63) : KeepE e w w' := fun g cur hc => by
  rw [hg.block g (lt_of_block hc) (fun hk => ?_)]
  · exact hc
  · obtain ⟨_, cur2, h2⟩ := hr g hk.symm
    rw [hc] at h2
    injection h2 with h2
    injection h2 with _ h2 _
    exact he h2
theorem below_row {w w' : World} {row : Option Nat} (hr : RowO w row) (hg : w.grownBy w' row) (hk : kbase ≤ w.heap.size) : Below kbase w w' := ⟨hg.os, hg.tape, hg.output, hg.size, fun g hlt => hg.block g (by omega) (fun e => by have := (hr g e.symm).1; omega)⟩
theorem ContKp.row {w w' : World} {row : Option Nat} {v : KV} {x : M.Kp} (h : ContKp w v x) (hr : RowO w row) (hg : w.grownBy w' row) (hk : kbase ≤ w.heap.size) : ContKp w' v x :=
  h.keep (below_row hr hg hk) (keepE_row hr hg (by decide)) (keepE_row hr hg (by decide))
theorem OwnK.row {w w' : World} {B : Nat} {A : Option Addr} {n c : Nat} {vs : List KV} {xs : List M.Kp} {row : Option Nat} (h : OwnK w B A n c vs xs) (hr : RowO w row) (hg : w.grownBy w' row) (hk : kbase ≤ w.heap.size) (hne : ∀ g, (Value.slice A n c).ownBlock = some g → row ≠ some g) : OwnK w' B A n c vs xs := by
  refine ⟨h.1.kept hg ?_, h.2.imp fun _ _ k => k.row hr hg hk⟩
  cases hb : (Value.slice A n c).ownBlock with
  | none => exact .inl rfl
  | some g => exact .inr (fun e => hne g hb e.symm)
/-- where both are, and the box -/
structure Two (wL W : World) (xs : List M.Kp) (f now : Int) (k : Nat) (VU : Option Addr) (dU : Nat) (usU : List KV) (VC : Option Addr) (mC dC : Nat) (usC : List KV) (q : Nat) : Prop where
  used : OwnK W wL.heap.size VU k dU usU ((xs.take k).map (M.useK f now))
  clean : OwnK W wL.heap.size VC mC dC usC ((xs.take q).filter fun x => !x.dirty)
  bel : Below wL.heap.size wL W
  apt : Apt (.slice VU k dU) (.slice VC mC dC)
theorem Two.lt {wL W : World} {xs : List M.Kp} {f now : Int} {k : Nat} {VU : Option Addr} {dU : Nat} {usU : List KV} {VC : Option Addr} {mC dC : Nat} {usC : List KV} {q : Nat} (h : Two wL W xs f now k VU dU usU VC mC dC usC q) : (∀ g, (Value.slice VU k dU).ownBlock = some g → g < W.heap.size) ∧ ∀ g, (Value.slice VC mC dC).ownBlock = some g → g < W.heap.size :=
  ⟨fun g hg => (h.used.1.lt g hg).2, fun g hg => (h.clean.1.lt g hg).2⟩
theorem Two.below {wL W W' : World} {xs : List M.Kp} {f now : Int} {k : Nat} {VU : Option Addr} {dU : Nat} {usU : List KV} {VC : Option Addr} {mC dC : Nat} {usC : List KV} {q : Nat} (h : Two wL W xs f now k VU dU usU VC mC dC usC q) (hb : Below W.heap.size W W') : Two wL W' xs f now k VU dU usU VC mC dC usC q :=
  ⟨h.used.below (Nat.le_refl _) hb, h.clean.below (Nat.le_refl _) hb, h.bel.trans (hb.mono h.bel.size), h.apt⟩
/-- one more that is clean -/
theorem Two.more {wL W W' : World} {xs : List M.Kp} {f now : Int} {k : Nat} {VU : Option Addr} {dU : Nat} {usU : List KV} {VC : Option Addr} {mC dC : Nat} {usC : List KV} {v : KV} {x : M.Kp} {VC' : Option Addr} {dC' : Nat} (h : Two wL W xs f now k VU dU usU VC mC dC usC k) (hk : kbase ≤ wL.heap.size) (hx : xs[k]? = some x) (hd : x.dirty = false) (hc : ContKp W v x)
    (ho : W'.ownsRow wL.heap.size 63 8 (.slice VC' (mC + 1) dC') (mC + 1) (usC.flatMap KV.cells ++ v.cells)) (hg : W.grownBy W' (Value.slice VC mC dC).ownBlock) (hw : (Value.slice VC' (mC + 1) dC').ownBlock = (Value.slice VC mC dC).ownBlock ∨ ∀ g, (Value.slice VC' (mC + 1) dC').ownBlock = some g → W.heap.size ≤ g) :
    Two wL W' xs f now k VU dU usU VC' (mC + 1) dC' (usC ++ [v]) (k + 1) := by
  have hkW : kbase ≤ W.heap.size := Nat.le_trans hk h.bel.size
  have hr : RowO W (Value.slice VC mC dC).ownBlock := .own h.clean.1 hk
  refine ⟨h.used.row hr hg hkW (fun g hu => h.apt g hu), ?_, Below.grown h.bel hg h.bel.size (fun g hg2 => (h.clean.1.lt g hg2).1), fun g hu => ?_⟩
  · rw [take_step hx, List.filter_append]
    have : ([x].filter fun x => !x.dirty) = [x] := by simp [hd]
    rw [this]
    exact h.clean.snoc hk hkW hc ho hg
  · rcases hw with hw | hw
    · rw [hw]; exact h.apt g hu
    · intro e
      have h1 := hw g e
      have h2 := (h.used.1.lt g hu).2
      omega
theorem Two.skip {wL W : World} {xs : List M.Kp} {f now : Int} {k : Nat} {VU : Option Addr} {dU : Nat} {usU : List KV} {VC : Option Addr} {mC dC : Nat} {usC : List KV} {x : M.Kp} (h : Two wL W xs f now k VU dU usU VC mC dC usC k) (hx : xs[k]? = some x) (hd : x.dirty = true) : Two wL W xs f now k VU dU usU VC mC dC usC (k + 1) := by
  refine ⟨h.used, ?_, h.bel, h.apt⟩
  rw [take_step hx, List.filter_append]
  have : ([x].filter fun x => !x.dirty) = [] := by simp [hd]
  rw [this, List.append_nil]
  exact h.clean
/-- the box is written: it is neither's block -/
theorem Two.box {wL W : World} {xs : List M.Kp} {f now : Int} {k : Nat} {VU : Option Addr} {dU : Nat} {usU : List KV} {VC : Option Addr} {mC dC : Nat} {usC : List KV} {q : Nat} (h : Two wL W xs f now k VU dU usU VC mC dC usC q) (hk : kbase ≤ wL.heap.size) {g : Nat} {v : KV} (hg : BoxK W g v) (hL : wL.heap.size ≤ g) (hU : (Value.slice VU k dU).ownBlock ≠ some g) (hC : (Value.slice VC mC dC).ownBlock ≠ some g) (o : Nat) (u : Value) :
    Two wL (W.setCell ⟨g, o, none⟩ u) xs f now k VU dU usU VC mC dC usC q := by
  have hkW : kbase ≤ W.heap.size := Nat.le_trans hk h.bel.size
  have hr : RowO W (some g) := fun s hs => by cases hs; exact ⟨Nat.le_trans hk hL, _, hg⟩
  have hgr := grown_set W g o u
  exact ⟨h.used.row hr hgr hkW (fun s hs e => hU (by cases e; exact hs)), h.clean.row hr hgr hkW (fun s hs e => hC (by cases e; exact hs)), h.bel.setCell hL _, h.apt⟩
/-- one more that is used -/
theorem Two.use {wL W W' : World} {xs : List M.Kp} {f now : Int} {k : Nat} {VU : Option Addr} {dU : Nat} {usU : List KV} {VC : Option Addr} {mC dC : Nat} {usC : List KV} {q : Nat} {v : KV} {x : M.Kp} {VU' : Option Addr} {dU' : Nat} (h : Two wL W xs f now k VU dU usU VC mC dC usC q) (hk : kbase ≤ wL.heap.size) (hx : xs[k]? = some x) (hc : ContKp W v (M.useK f now x))
    (ho : W'.ownsRow wL.heap.size 63 8 (.slice VU' (k + 1) dU') (k + 1) (usU.flatMap KV.cells ++ v.cells)) (hg : W.grownBy W' (Value.slice VU k dU).ownBlock) (hw : (Value.slice VU' (k + 1) dU').ownBlock = (Value.slice VU k dU).ownBlock ∨ ∀ g, (Value.slice VU' (k + 1) dU').ownBlock = some g → W.heap.size ≤ g) :
    Two wL W' xs f now (k + 1) VU' dU' (usU ++ [v]) VC mC dC usC q := by
  have hkW : kbase ≤ W.heap.size := Nat.le_trans hk h.bel.size
  have hr : RowO W (Value.slice VU k dU).ownBlock := .own h.used.1 hk
  refine ⟨?_, h.clean.row hr hg hkW (fun g hc2 hu => h.apt g hu hc2), Below.grown h.bel hg h.bel.size (fun g hg2 => (h.used.1.lt g hg2).1), fun g hu => ?_⟩
  · rw [M.use_step hx]
    exact h.used.snoc hk hkW hc ho hg
  · rcases hw with hw | hw
    · rw [hw] at hu; exact h.apt g hu
    · intro e
      have h1 := hw g hu
      have h2 := (h.clean.1.lt g e).2
      omega
/-- the same, with the box and what else stays -/
theorem clean_more {w wL W Wa W' : World} {xs : List M.Kp} {f now : Int} {k : Nat} {VU : Option Addr} {dU : Nat} {usU : List KV} {VC : Option Addr} {mC dC : Nat} {usC : List KV} {v : KV} {x : M.Kp} {VC' : Option Addr} {dC' sK : Nat} (h : Two wL W xs f now k VU dU usU VC mC dC usC k) (hk : kbase ≤ wL.heap.size) (hx : xs[k]? = some x) (hd : x.dirty = false) (hc : ContKp W v x)
    (hbx : BoxK W sK v) (hw0 : Below w.heap.size w W) (hwL : w.heap.size ≤ wL.heap.size) (ha : Below W.heap.size W Wa) (hne : (Value.slice VC mC dC).ownBlock ≠ some sK)
    (ho : W'.ownsRow wL.heap.size 63 8 (.slice VC' (mC + 1) dC') (mC + 1) (usC.flatMap KV.cells ++ v.cells)) (hg : Wa.grownBy W' (Value.slice VC mC dC).ownBlock) (hw : (Value.slice VC' (mC + 1) dC').ownBlock = (Value.slice VC mC dC).ownBlock ∨ ∀ g, (Value.slice VC' (mC + 1) dC').ownBlock = some g → Wa.heap.size ≤ g) :
    Two wL W' xs f now k VU dU usU VC' (mC + 1) dC' (usC ++ [v]) (k + 1) ∧ BoxK W' sK v ∧ ContKp W' v x ∧ Below w.heap.size w W' ∧ (Value.slice VC' (mC + 1) dC').ownBlock ≠ some sK := by
  have h1 := h.below ha
  have hca : ContKp Wa v x := hc.below (Nat.le_refl _) ha
  have hkW : kbase ≤ Wa.heap.size := Nat.le_trans hk h1.bel.size
  have hr : RowO Wa (Value.slice VC mC dC).ownBlock := .own h1.clean.1 hk
  have hbl := lt_of_block hbx
  refine ⟨h1.more hk hx hd hca ho hg hw, (hbx.below ha hbl).row hg hne, hca.row hr hg hkW, Below.grown (hw0.trans (ha.mono hw0.size)) hg (hw0.trans (ha.mono hw0.size)).size (fun g hg2 => Nat.le_trans hwL (h1.clean.1.lt g hg2).1), fun e => ?_⟩
  rcases hw with hw | hw
  · rw [hw] at e; exact hne e
  · have h2 := hw sK e
    have h3 := ha.size
    omega
end Go.Proofs.Ytjpdoblmdchmkad
