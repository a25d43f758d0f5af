/-
  THE REFERENCE's List.
-/
import Derived.Test.YtkdpdgbacladhaaWith
import Derived.Test.YtkdpdgbacladhaaRegionb
import Derived.Deep.Cut
import Derived.Deep.CutRange
namespace Go.Proofs.Ytkdpdgbacladhaa
open Go.RowKit
open Go.ChangeMaps (setBlock)

/-- is the key among those seen? -/
def seenK (es : Array MapEntry) (seen : Array Nat) (k : Int) : Bool := es.toList.any fun e => seen.contains e.born && decide (intKey e.key = some k)
/-- the list so far -/
structure LI (w : World) (bm : Nat) (es : Array MapEntry) (clock : Nat) (xs : List M.Nd) (seen : Array Nat) (A : Option Addr) (m c : Nat) (us : List NV) (wr : World) : Prop where
  it : It w w.heap.size bm es clock seen wr
  own : wr.ownsRow (w.heap.size + 1) 26 5 (.slice A m c) m (us.flatMap NV.cells)
  con : All2 (Cont w) us (xs.filter fun x => seenK es seen x.fid)
theorem LI.start {w : World} {bm : Nat} {es : Array MapEntry} {clock : Nat} (xs : List M.Nd) (hb : w.heap[bm]? = some (.map es clock)) : LI w bm es clock xs #[] none 0 0 [] (w.alloc (.mapIter (some bm) clock #[] clock)) := by
  refine ⟨⟨⟨clock, heap_alloc_new w _, Nat.le_refl _⟩, hb, Nat.le_refl _, (Below.refl _ _).alloc (Nat.le_refl _) _⟩, World.ownsRow_nil _ _ _ _, ?_⟩
  have : (xs.filter fun x => seenK es #[] x.fid) = [] := List.filter_eq_nil_iff.2 (fun x _ => by simp [seenK])
  rw [this]
  exact All2.nil

theorem seenK_push {es : Array MapEntry} {seen : Array Nat} {e : MapEntry} {k : Int} (he : e ∈ es.toList) (hk : e.key = .int .i64 k) (hnd : (es.toList.map (·.born)).Nodup) (q : Int) : seenK es (seen.push e.born) q = (seenK es seen q || decide (q = k)) := by
  have hone : ∀ e' ∈ es.toList, e'.born = e.born → e' = e := by
    intro e' he' hb
    obtain ⟨i, hi⟩ := List.getElem?_of_mem he'
    obtain ⟨j, hj⟩ := List.getElem?_of_mem he
    have hi' : (es.toList.map (·.born))[i]? = some e.born := by rw [List.getElem?_map, hi]; simp [hb]
    have hj' : (es.toList.map (·.born))[j]? = some e.born := by rw [List.getElem?_map, hj]; rfl
    obtain ⟨hil, hie⟩ := List.getElem?_eq_some_iff.1 hi'
    obtain ⟨hjl, hje⟩ := List.getElem?_eq_some_iff.1 hj'
    have hij : i = j := (List.getElem_inj hnd).1 (hie.trans hje.symm)
    subst hij
    rw [hi] at hj
    exact Option.some.inj hj
  rw [Bool.eq_iff_iff, Bool.or_eq_true, decide_eq_true_eq]
  unfold seenK
  simp only [List.any_eq_true, Bool.and_eq_true, decide_eq_true_eq, Array.contains_eq_mem, Array.mem_push]
  constructor
  · rintro ⟨e', he', hs, hq⟩
    rcases hs with hs | hs
    · exact .inl ⟨e', he', hs, hq⟩
    · have := hone e' he' hs
      subst this
      rw [hk] at hq
      simp [intKey] at hq
      exact .inr hq.symm
  · rintro (⟨e', he', hs, hq⟩ | rfl)
    · exact ⟨e', he', .inl hs, hq⟩
    · exact ⟨e, he, .inr rfl, by rw [hk]; rfl⟩
theorem seenK_not {es : Array MapEntry} {seen : Array Nat} {e : MapEntry} {k : Int} (he : e ∈ es.toList) (hk : e.key = .int .i64 k) (hns : seen.contains e.born = false) (hone : es.toList.Pairwise fun a b => a.key ≠ b.key) : seenK es seen k = false := by
  rw [Bool.eq_false_iff]
  intro h
  unfold seenK at h
  rw [List.any_eq_true] at h
  obtain ⟨e', he', h⟩ := h
  simp only [Bool.and_eq_true, decide_eq_true_eq] at h
  have hk' := intKey_iff.1 h.2
  have : e' = e := by
    obtain ⟨i, hi⟩ := List.getElem?_of_mem he'
    obtain ⟨j, hj⟩ := List.getElem?_of_mem he
    obtain ⟨hil, hie⟩ := List.getElem?_eq_some_iff.1 hi
    obtain ⟨hjl, hje⟩ := List.getElem?_eq_some_iff.1 hj
    rcases Nat.lt_trichotomy i j with hlt | heq | hlt
    · exact absurd (by rw [hie, hje, hk, hk']) (List.pairwise_iff_getElem.1 hone i j hil hjl hlt)
    · subst heq; rw [← hie, ← hje]
    · exact absurd (by rw [hie, hje, hk, hk']) (List.pairwise_iff_getElem.1 hone j i hjl hil hlt)
  subst this
  rw [hns] at h
  cases h.1
/-- one more is in its place -/
theorem list_con {w : World} {es : Array MapEntry} {seen : Array Nat} {xs : List M.Nd} {us : List NV} {ve : NV} {x : M.Nd} {b j : Nat} (hr : M.RsN xs) (hx : x ∈ xs) (hc : Cont w ve x) (hcon : All2 (Cont w) us (xs.filter fun y => seenK es seen y.fid))
    (hpush : ∀ q, seenK es (seen.push b) q = (seenK es seen q || decide (q = x.fid))) (hnot : seenK es seen x.fid = false) (hlo : ∀ u ∈ us.take j, u.fid < ve.fid) (hup : ∀ u, us[j]? = some u → ¬ u.fid < ve.fid) :
    All2 (Cont w) (us.take j ++ [ve] ++ us.drop j) (xs.filter fun y => seenK es (seen.push b) y.fid) := by
  rw [filter_put hr hx (seenK es seen) (seenK es (seen.push b)) hnot hpush]
  have hrs : M.RsN (xs.filter fun y => seenK es seen y.fid) := M.rs_sub hr (List.filter_sublist.map _)
  have hfx : ve.fid = x.fid := hc.1
  rw [put_place (k := j) hrs ?_ ?_]
  · exact All2.append (All2.append (hcon.take j) (All2.one hc)) (hcon.drop j)
  · intro y hy
    obtain ⟨i, hi⟩ := List.getElem?_of_mem hy
    have ht := hcon.take j
    have hlt : i < ((xs.filter fun y => seenK es seen y.fid).take j).length := (List.getElem?_eq_some_iff.1 hi).1
    have hiu : i < (us.take j).length := by rw [ht.1]; exact hlt
    have hu : (us.take j)[i]? = some (us.take j)[i] := List.getElem?_eq_getElem hiu
    have hcu := ht.2 i _ y hu hi
    have := hlo _ (List.mem_of_getElem? hu)
    rw [hcu.1, hfx] at this
    exact this
  · intro y hy
    have hlt := (List.getElem?_eq_some_iff.1 hy).1
    have hju : j < us.length := by rw [hcon.1]; exact hlt
    have hu : us[j]? = some us[j] := List.getElem?_eq_getElem hju
    have hcu := hcon.2 j _ y hu hy
    have h1 := hup _ hu
    rw [hcu.1, hfx] at h1
    have hne : y.fid ≠ x.fid := by
      intro e
      have hm := (List.mem_filter.1 (List.mem_of_getElem? hy)).2
      simp only [e] at hm
      rw [hnot] at hm; cases hm
    omega

set_option maxHeartbeats 4000000 in
theorem list_any (bm : Nat) (xs : List M.Nd) (w : World) (ht : TMap w bm xs) (hr : M.RsN xs) (hn : (xs.length + 1) * 72 ≤ 140737488355328) :
    Calls Try.prog 14 #[.map (some bm)] w fun e w' => ∃ (A : Option Addr) (m c : Nat) (us : List NV), e = .returned (.slice A m c) ∧ Tree w' A m us xs ∧ Below w.heap.size w w' := by
  obtain ⟨f, ⟨es, clock, hb, hh, hnd, hcl⟩, ha⟩ := ht
  have H0 : Hid (w.heap[bm]? = some (.map es clock) ∧ Agree w f xs ∧ M.RsN xs) := ⟨hb, ha, hr⟩
  have HH : Hid (Holds es.toList f ∧ (es.toList.map (·.born)).Nodup ∧ ∀ e ∈ es.toList, e.born < clock) := ⟨hh, hnd, hcl⟩
  have hrg := run_range_map (P := Try.prog) w 30 3 26 bm es clock Try.underlying30 hb
  clear hb hh hnd hcl ha hr
  go_enter Try.func14, Try.ntmps14
  go_wp2
  clear hrg
  go_loopw [3] (fun l wr => ∃ (seen : Array Nat) (A : Option Addr) (m c : Nat) (us : List NV), l = .slice A m c ∧ LI w bm es clock xs seen A m c us wr) (fun _ wr => (leftOf es (wr.iterSeen w.heap.size)).size)
  case atStart => exact ⟨#[], none, 0, 0, [], rfl, LI.start xs H0.out.1⟩
  case round =>
    obtain ⟨seen, A, m, c, us, rfl, hli⟩ := hrel
    have HLI : Hid (LI w bm es clock xs seen A m c us wr) := hli
    have hse := hli.it.seen
    rcases hli.it.next HH.out.2.1 HH.out.2.2 0 with ⟨h0, hnx⟩ | ⟨e, he, W, hnx, hen, hit, hsz, hoth⟩
    · have HF : Hid (Tree wr A m us xs ∧ Below w.heap.size w wr) := by
        have hall := all_seen es seen h0
        have hfil : (xs.filter fun x => seenK es seen x.fid) = xs := by
          rw [List.filter_eq_self]
          intro x hx
          obtain ⟨i, hi⟩ := List.getElem?_of_mem hx
          have hfx := M.find_self H0.out.2.2 hi
          rcases H0.out.2.1 x.fid with ⟨_, h2⟩ | ⟨v, y, h1, _, _⟩
          · rw [hfx] at h2; cases h2
          · obtain ⟨e, he, hk, _⟩ := HH.out.1.all _ _ h1
            unfold seenK
            rw [List.any_eq_true]
            exact ⟨e, he, by rw [hall e he, intKey_iff.2 hk]; simp⟩
        have hc := hli.con
        rw [hfil] at hc
        exact ⟨⟨Row.ofOwn nod_len (by decide) hli.own, hc.imp fun v x h => h.below (Nat.le_refl _) hli.it.bel⟩, hli.it.bel⟩
      clear hli hse h0
      go_wp2
      go_ret
      exact ⟨A, m, c, us, rfl, HF.out.1, HF.out.2⟩
    · obtain ⟨hem, hns⟩ := mem_left he
      obtain ⟨k, hk, hfk⟩ := HH.out.1.key e hem
      rcases H0.out.2.1 k with ⟨h6, _⟩ | ⟨ve, x, h6, hfx, hcx⟩
      · rw [h6] at hfk; cases hfk
      · rw [h6] at hfk
        injection hfk with hfk
        rw [hk, ← hfk] at hnx hen
        have hlt := left_shrinks es seen e he
        have hwa : Below W.heap.size W (W.alloc (.cells #[.int .i64 ve.fid, .bool ve.dir, .slice ve.dA ve.dn ve.dc, .slice ve.eA ve.en ve.ec, .int .i64 ve.ver] 26)) := (Below.refl _ _).alloc (Nat.le_refl _) _
        have HX : Hid (Cont w ve x ∧ x ∈ xs ∧ x.fid = k) := ⟨hcx, List.mem_of_find?_eq_some hfx, find_fid hfx⟩
        have HL1 : Hid (LI w bm es clock xs seen A m c us wr) := hli
        have HSK : Hid ((∀ q, seenK es (seen.push e.born) q = (seenK es seen q || decide (q = x.fid))) ∧ seenK es seen x.fid = false) := by
          have hxk : x.fid = k := find_fid hfx
          exact ⟨fun q => by rw [hxk]; exact seenK_push hem hk HH.out.2.1 q, by rw [hxk]; exact seenK_not hem hk hns HH.out.1.one⟩
        have HM : Hid ((leftOf es (seen.push e.born)).size < (leftOf es seen).size ∧ wr.iterSeen w.heap.size = seen) := ⟨hlt, hse⟩
        have HI2 : Hid (It w w.heap.size bm es clock (seen.push e.born) (W.alloc (.cells #[.int .i64 ve.fid, .bool ve.dir, .slice ve.dA ve.dn ve.dc, .slice ve.eA ve.en ve.ec, .int .i64 ve.ver] 26)) ∧ (W.alloc (.cells #[.int .i64 ve.fid, .bool ve.dir, .slice ve.dA ve.dn ve.dc, .slice ve.eA ve.en ve.ec, .int .i64 ve.ver] 26)).ownsRow (w.heap.size + 1) 26 5 (.slice A m c) m (us.flatMap NV.cells) ∧ Box (W.alloc (.cells #[.int .i64 ve.fid, .bool ve.dir, .slice ve.dA ve.dn ve.dc, .slice ve.eA ve.en ve.ec, .int .i64 ve.ver] 26)) W.heap.size ve) := by
          refine ⟨hit.below hwa, ?_, Box.new W ve⟩
          refine own_below ?_ hwa (Nat.le_refl _)
          refine ⟨hli.own.1, ?_⟩
          rcases hli.own.2 with h2 | ⟨g, cap, cur, e1, h1, hg, r⟩
          · exact .inl h2
          · exact .inr ⟨g, cap, cur, e1, h1, by rw [hoth g (by omega)]; exact hg, r⟩
        clear hli hlt hse hem hns hk h6 hfx hcx he hit hoth hwa hfk hsz
        go_upto_region 5 with (fail)
        clear hnx hen
        generalize W.alloc (.cells #[.int .i64 ve.fid, .bool ve.dir, .slice ve.dA ve.dn ve.dc, .slice ve.eA ve.en ve.ec, .int .i64 ve.ver] 26) = Wa at HI2 ⊢
        generalize W.heap.size = sb at HI2 ⊢
        have hmx : m ≤ xs.length := by
          have h1 := own_len nod_len (by decide) HL1.out.own
          have h2 := HL1.out.con.1
          have h3 := List.length_filter_le (fun x : M.Nd => seenK es seen x.fid) xs
          omega
        have hml : m = us.length := own_len nod_len (by decide) HL1.out.own
        have HML : Hid (m = us.length) := hml
        clear hml
        go_wp2
        go_loopw [6] (fun i wi => ∃ j : Nat, j ≤ m ∧ i = .int .i64 j ∧ Hid (∀ u ∈ us.take j, u.fid < ve.fid) ∧ Below Wa.heap.size Wa wi) (fun i _ => m - (intOf i).toNat)
        case atStart => exact ⟨0, Nat.zero_le _, rfl, (by intro u hu; simp at hu), Below.refl _ _⟩
        case round =>
          rename World => wi
          obtain ⟨j, hj, rfl, HLO, hbi⟩ := hrel
          obtain ⟨p0, p1, p2, p3, p4, pf, pz⟩ := (HI2.out.2.2.below hbi (lt_of_block HI2.out.2.2)).facts
          clear p1 p2 p3 p4
          by_cases hjm : j < m
          · obtain ⟨b, o, v, hA, _, hvj, c0, c1, c2, c3, c4⟩ := Nodes.at (Row.ofOwn nod_len (by decide) (own_below HI2.out.2.1 hbi (Nat.le_refl _))) hjm
            have HVJ : Hid (us[j]? = some v) := hvj
            have hd1 : decide ((j : Int) < (m : Int)) = true := by rw [decide_eq_true_eq]; omega
            have hjn : (j : Int) < (m : Int) := by omega
            have hj0 : (0 : Int) ≤ (j : Int) := by omega
            subst hA
            clear hvj c1 c2 c3 c4
            by_cases hlo : v.fid < ve.fid
            · have hd2 : decide (v.fid < ve.fid) = true := by rw [decide_eq_true_eq]; exact hlo
              have HLV : Hid (v.fid < ve.fid) := hlo
              clear hlo
              go_wp2
              go_quiet (fail)
              go_wp2
              go_roundw
              case rel => exact ⟨j + 1, by omega, by go_num, (by intro u hu; rw [take_step HVJ.out] at hu; rcases List.mem_append.1 hu with h1 | h1; exact HLO.out u h1; rw [List.mem_singleton.1 h1]; exact HLV.out), below_drewN hbi _⟩
              case measure => simp [intOf]; omega
            · have hd2 : decide (v.fid < ve.fid) = false := by rw [decide_eq_false_iff_not]; exact hlo
              have HUP : Hid (∀ u, us[j]? = some u → ¬ u.fid < ve.fid) := by intro u hu; rw [HVJ.out] at hu; injection hu with hu; subst hu; exact hlo
              clear hlo
              go_wp2
              go_quiet (fail)
              go_upto_region 8 with (fail)
              refine region8 (j := j) (B := w.heap.size + 1) (sb := sb) (us := us) (ve := ve) rfl rfl rfl rfl (own_below HI2.out.2.1 (below_drewN hbi _) (Nat.le_refl _)) (HI2.out.2.2.below (below_drewN hbi _) (lt_of_block HI2.out.2.2)) hj (by omega) ?_
              intro a' w' hf hb ho
              have hl := hf.lit (fun t => decide (t = 3) || (decide (29 ≤ t) && decide (t ≤ 40))) (by kernel_rfl)
              simp only [overL, Nat.reduceAdd, Nat.reduceLeDiff, Nat.reduceEqDiff, decide_true, decide_false, Bool.and_true, Bool.and_false, Bool.false_or, Bool.true_or] at hl
              obtain ⟨A', c', hv, _, _⟩ := own_form ho
              have ho' : w'.ownsRow (w.heap.size + 1) 26 5 (.slice A' (us.take j ++ [ve] ++ us.drop j).length c') (us.take j ++ [ve] ++ us.drop j).length ((us.take j ++ [ve] ++ us.drop j).flatMap NV.cells) := by
                rw [← hv]
                refine own_mono ho ?_
                have h1 := lt_of_block HI2.out.1.it.choose_spec.1
                have h2 := (below_drewN hbi nq).size
                omega
              have HLI2 : Hid (LI w bm es clock xs (seen.push e.born) A' (us.take j ++ [ve] ++ us.drop j).length c' (us.take j ++ [ve] ++ us.drop j) w') :=
                ⟨HI2.out.1.below ((below_drewN hbi _).trans (hb.mono (below_drewN hbi nq).size)), ho', list_con H0.out.2.2 HX.out.2.1 HX.out.1 HL1.out.con HSK.out.1 HSK.out.2 HLO.out (fun u hu => Int.not_lt.2 (HUP.out u hu))⟩
              rw [hl, hv]
              clear hl hv ho ho' hf hb
              go_wp2_with (fail)
              go_roundw
              case rel => exact ⟨seen.push e.born, A', _, c', _, rfl, HLI2.out⟩
              case measure => rw [HLI2.out.it.seen, HM.out.2]; exact HM.out.1
          · have HUP : Hid (∀ u, us[j]? = some u → ¬ u.fid < ve.fid) := by
              intro u hu
              have := (List.getElem?_eq_some_iff.1 hu).1
              have := HML.out
              omega
            have hd1 : decide ((j : Int) < (m : Int)) = false := by rw [decide_eq_false_iff_not]; omega
            go_wp2
            go_quiet (fail)
            go_upto_region 8 with (fail)
            refine region8 (j := j) (B := w.heap.size + 1) (sb := sb) (us := us) (ve := ve) rfl rfl rfl rfl (own_below HI2.out.2.1 (below_drewN hbi _) (Nat.le_refl _)) (HI2.out.2.2.below (below_drewN hbi _) (lt_of_block HI2.out.2.2)) hj (by omega) ?_
            intro a' w' hf hb ho
            have hl := hf.lit (fun t => decide (t = 3) || (decide (29 ≤ t) && decide (t ≤ 40))) (by kernel_rfl)
            simp only [overL, Nat.reduceAdd, Nat.reduceLeDiff, Nat.reduceEqDiff, decide_true, decide_false, Bool.and_true, Bool.and_false, Bool.false_or, Bool.true_or] at hl
            obtain ⟨A', c', hv, _, _⟩ := own_form ho
            have ho' : w'.ownsRow (w.heap.size + 1) 26 5 (.slice A' (us.take j ++ [ve] ++ us.drop j).length c') (us.take j ++ [ve] ++ us.drop j).length ((us.take j ++ [ve] ++ us.drop j).flatMap NV.cells) := by
              rw [← hv]
              refine own_mono ho ?_
              have h1 := lt_of_block HI2.out.1.it.choose_spec.1
              have h2 := (below_drewN hbi nq).size
              omega
            have HLI2 : Hid (LI w bm es clock xs (seen.push e.born) A' (us.take j ++ [ve] ++ us.drop j).length c' (us.take j ++ [ve] ++ us.drop j) w') :=
              ⟨HI2.out.1.below ((below_drewN hbi _).trans (hb.mono (below_drewN hbi nq).size)), ho', list_con H0.out.2.2 HX.out.2.1 HX.out.1 HL1.out.con HSK.out.1 HSK.out.2 HLO.out (fun u hu => Int.not_lt.2 (HUP.out u hu))⟩
            rw [hl, hv]
            clear hl hv ho ho' hf hb
            go_wp2_with (fail)
            go_roundw
            case rel => exact ⟨seen.push e.born, A', _, c', _, rfl, HLI2.out⟩
            case measure => rw [HLI2.out.it.seen, HM.out.2]; exact HM.out.1
end Go.Proofs.Ytkdpdgbacladhaa
