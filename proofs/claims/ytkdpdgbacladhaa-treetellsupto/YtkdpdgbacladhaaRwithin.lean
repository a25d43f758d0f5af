/-
  THE REFERENCE's Within: all that can be seen from a fid on.
-/
import Derived.Test.YtkdpdgbacladhaaQueue
import Derived.Deep.LoopGhost
namespace Go.Proofs.Ytkdpdgbacladhaa
open Go.RowKit
open Go.ChangeMaps (setBlock)

theorem len_le_of_nodup : ∀ {l m : List Int}, l.Nodup → (∀ x ∈ l, x ∈ m) → l.length ≤ m.length
  | [], _, _, _ => Nat.zero_le _
  | x :: l, m, hn, h => by
    rw [List.nodup_cons] at hn
    have hx : x ∈ m := h x List.mem_cons_self
    have ih := len_le_of_nodup (l := l) (m := m.erase x) hn.2 (fun y hy => by
      have hne : y ≠ x := fun e => hn.1 (e ▸ hy)
      exact (List.mem_erase_of_ne hne).2 (h y (List.mem_cons_of_mem _ hy)))
    have := List.length_erase_of_mem hx
    have := List.length_pos_of_mem hx
    rw [List.length_cons]
    omega
/-- the fids of all entries -/
def allF (xs : List M.Nd) : List Int := xs.flatMap fun x => x.ents.map (·.2)
/-- what the search keeps: those had, in turn; k of them are done -/
structure BI (xs : List M.Nd) (a : Int) (H : List Int) (k : Nat) : Prop where
  nd : H.Nodup
  ina : a ∈ H
  re : ∀ q ∈ H, M.Reach xs a q
  cl : ∀ (i : Nat) q x, i < k → H[i]? = some q → M.find xs q = some x → ∀ e ∈ x.ents, e.2 ∈ H
theorem BI.start (xs : List M.Nd) (a : Int) : BI xs a [a] 0 := ⟨by simp, by simp, fun q hq => by rw [List.mem_singleton.1 hq]; exact .refl, fun i q x hi => absurd hi (Nat.not_lt_zero _)⟩
theorem BI.len {xs : List M.Nd} {a : Int} {H : List Int} {k : Nat} (h : BI xs a H k) : H.length ≤ (allF xs).length + 1 := by
  have := len_le_of_nodup (m := a :: allF xs) h.nd (fun q hq => by
    have hr := h.re q hq
    cases hr with
    | refl => exact List.mem_cons_self
    | step _ hf he => exact List.mem_cons_of_mem _ (List.mem_flatMap.2 ⟨_, List.mem_of_find?_eq_some hf, List.mem_map.2 ⟨_, he, rfl⟩⟩))
  simpa using this
theorem BI.done {xs : List M.Nd} {a t : Int} {H : List Int} {k : Nat} (h : BI xs a H k) (hk : H.length ≤ k) : t ∈ H ↔ M.Reach xs a t := by
  refine ⟨h.re t, fun hr => ?_⟩
  induction hr with
  | refl => exact h.ina
  | step _ hf he ih =>
    obtain ⟨i, hi⟩ := List.getElem?_of_mem ih
    have := (List.getElem?_eq_some_iff.1 hi).1
    exact h.cl i _ _ (by omega) hi hf _ he
/-- one entry's fid is met -/
def meetH (H : List Int) (q : Int) : List Int := if q ∈ H then H else H ++ [q]
theorem meetH_pre (H : List Int) (q : Int) : ∃ S, meetH H q = H ++ S := by
  unfold meetH
  split
  · exact ⟨[], by simp⟩
  · exact ⟨[q], rfl⟩
theorem meetH_mem (H : List Int) (q : Int) : q ∈ meetH H q := by unfold meetH; split <;> simp_all
theorem foldH_pre : ∀ (ts : List Int) (H : List Int), ∃ S, ts.foldl meetH H = H ++ S
  | [], H => ⟨[], by simp⟩
  | t :: ts, H => by
    obtain ⟨S, hS⟩ := meetH_pre H t
    obtain ⟨R, hR⟩ := foldH_pre ts (meetH H t)
    exact ⟨S ++ R, by rw [List.foldl_cons, hR, hS, List.append_assoc]⟩
theorem foldH_mem : ∀ (ts : List Int) (H : List Int), ∀ t ∈ ts, t ∈ ts.foldl meetH H
  | [], _, _, h => by cases h
  | t :: ts, H, u, h => by
    rw [List.foldl_cons]
    rcases List.mem_cons.1 h with rfl | h
    · obtain ⟨R, hR⟩ := foldH_pre ts (meetH H u)
      rw [hR]; exact List.mem_append.2 (.inl (meetH_mem H u))
    · exact foldH_mem ts _ u h
theorem foldH_nd : ∀ (ts : List Int) (H : List Int), H.Nodup → (ts.foldl meetH H).Nodup
  | [], _, h => h
  | t :: ts, H, h => by
    rw [List.foldl_cons]
    refine foldH_nd ts _ ?_
    unfold meetH
    split
    · exact h
    · rename_i hn
      rw [List.nodup_append]
      exact ⟨h, by simp, fun x hx y hy e => by rw [List.mem_singleton.1 hy] at e; exact hn (e ▸ hx)⟩
theorem foldH_re {P : Int → Prop} : ∀ (ts : List Int) (H : List Int), (∀ q ∈ H, P q) → (∀ t ∈ ts, P t) → ∀ q ∈ ts.foldl meetH H, P q
  | [], _, h, _ => h
  | t :: ts, H, h, ht => by
    rw [List.foldl_cons]
    refine foldH_re ts _ (fun q hq => ?_) (fun u hu => ht u (List.mem_cons_of_mem _ hu))
    unfold meetH at hq
    split at hq
    · exact h q hq
    · rcases List.mem_append.1 hq with hq | hq
      · exact h q hq
      · rw [List.mem_singleton.1 hq]; exact ht t List.mem_cons_self
/-- one that was ahead is done -/
theorem BI.step {xs : List M.Nd} {a : Int} {H : List Int} {k : Nat} {q : Int} (h : BI xs a H k) (hq : H[k]? = some q) (es : List (ByteArray × Int)) (he : es = ((M.find xs q).map (·.ents)).getD []) (j : Nat) : BI xs a (((es.take j).map (·.2)).foldl meetH H) k ∧ BI xs a ((es.map (·.2)).foldl meetH H) (k + 1) := by
  have key : ∀ ts : List (ByteArray × Int), (∀ e ∈ ts, e ∈ es) → BI xs a ((ts.map (·.2)).foldl meetH H) k := by
    intro ts hts
    obtain ⟨S, hS⟩ := foldH_pre (ts.map (·.2)) H
    have hre : ∀ t ∈ ts.map (·.2), M.Reach xs a t := by
      intro t ht
      obtain ⟨e, he1, rfl⟩ := List.mem_map.1 ht
      have hee := hts e he1
      rw [he] at hee
      cases hf : M.find xs q with
      | none => rw [hf] at hee; cases hee
      | some x => rw [hf] at hee; exact .step (h.re q (List.mem_of_getElem? hq)) hf hee
    refine ⟨foldH_nd _ _ h.nd, by rw [hS]; exact List.mem_append.2 (.inl h.ina), foldH_re _ _ h.re hre, fun i p x hi hp hf e hex => ?_⟩
    have hil : i < H.length := by have := (List.getElem?_eq_some_iff.1 hq).1; omega
    rw [hS] at hp ⊢
    rw [List.getElem?_append_left hil] at hp
    exact List.mem_append.2 (.inl (h.cl i p x hi hp hf e hex))
  refine ⟨key _ (fun e he => List.mem_of_mem_take he), ?_⟩
  have h1 := key es (fun e he => he)
  obtain ⟨S, hS⟩ := foldH_pre (es.map (·.2)) H
  refine ⟨h1.nd, h1.ina, h1.re, fun i p x hi hp hf e hex => ?_⟩
  rcases Nat.lt_or_ge i k with hik | hik
  · exact h1.cl i p x hik hp hf e hex
  · have hik : i = k := by omega
    subst hik
    have hil : i < H.length := (List.getElem?_eq_some_iff.1 hq).1
    rw [hS, List.getElem?_append_left hil, hq] at hp
    cases hp
    rw [hf] at he
    have hex2 : e ∈ es := by rw [he]; exact hex
    exact foldH_mem _ _ _ (List.mem_map.2 ⟨e, hex2, rfl⟩)

/-- the search's memory -/
structure WM (w : World) (bm : Nat) (xs : List M.Nd) (H : List Int) (k g off c : Nat) (wr : World) : Prop where
  bel : Below w.heap.size w wr
  had : IMap wr w.heap.size (hadF H)
  que : Que wr (w.heap.size + 1) g off c (H.drop k)
theorem zero4 (w : World) : (zeroValue 4).run Try.prog w = .ok (.bool false) w := by
  obtain ⟨i, hi, hz, hs, hb⟩ := info_parts info4
  simp [zeroValue, typeInfo, hi, hz]
theorem had_ask {w : World} {b : Nat} {H : List Int} (h : IMap w b (hadF H)) (q : Int) : (Instr.lookup 87 (.map (some b)) (.int .i64 q) false).run Try.prog w = .ok (.bool (decide (q ∈ H))) w := by
  rw [run_lookup_map 87 4 Try.underlying87 (zero4 w) h q false, hadF_ask]
  rfl
theorem had_add {w : World} {b : Nat} {H : List Int} (h : IMap w b (hadF H)) (q : Int) : ∃ o : Obj, (Instr.mapUpdate 87 (.map (some b)) (.int .i64 q) (.bool true)).run Try.prog w = .ok () (setBlock w b o) ∧ IMap (setBlock w b o) b (hadF (H ++ [q])) := by
  obtain ⟨o, h1, h2⟩ := run_update_map 87 4 Try.underlying87 h q (.bool true)
  rw [hadF_add] at h2
  exact ⟨o, h1, h2⟩
theorem had_new (w : World) : IMap (w.alloc (.map #[] 0)) w.heap.size (hadF []) := by
  have h : (fun _ => none : Int → Option Value) = hadF [] := by funext q; simp [hadF]
  rw [← h]
  exact IMap.new w
theorem ents_of {w wr : World} {bm : Nat} {xs : List M.Nd} (h : TMap w bm xs) (hb : Below w.heap.size w wr) (hs : ∀ x ∈ xs, Small x) (q : Int) : ∃ (v : NV) (es : List (ByteArray × Int)), (Instr.lookup 30 (.map (some bm)) (.int .i64 q) false).run Try.prog wr = .ok v.val wr ∧ es = ((M.find xs q).map (·.ents)).getD [] ∧ Ents w v.eA v.en es ∧ v.en * 24 ≤ 140737488355328 := by
  obtain ⟨f, hi, ha⟩ := h
  have hr := run_lookup_map 30 26 Try.underlying30 (zero26 wr) (hi.below (Nat.le_refl _) hb) q false
  rcases ha q with ⟨h1, h2⟩ | ⟨v, x, h1, h2, h3⟩
  · rw [h1] at hr
    exact ⟨NV.zero, [], hr, by rw [h2]; rfl, ⟨rfl, .inl rfl⟩, by simp [NV.zero]⟩
  · rw [h1] at hr
    exact ⟨v, x.ents, hr, by rw [h2]; rfl, h3.2.2.2.2, by rw [h3.2.2.2.2.1]; exact (hs x (List.mem_of_find?_eq_some h2)).2⟩
theorem WM.box {w : World} {bm : Nat} {xs : List M.Nd} {H : List Int} {k g off c : Nat} {wr : World} (h : WM w bm xs H k g off c wr) (o : Obj) : WM w bm xs H k g off c (wr.alloc o) :=
  ⟨h.bel.alloc h.bel.size o, h.had.same (Below.heap_alloc _ _ _ h.had.lt), h.que.alloc o⟩
theorem WM.add {w : World} {bm : Nat} {xs : List M.Nd} {H : List Int} {k g off c : Nat} {wr W : World} {q : Int} {o E : Obj} {g' off' c' : Nat} (h : WM w bm xs H k g off c wr) (hm : IMap (setBlock wr w.heap.size o) w.heap.size (hadF (H ++ [q]))) (hk : k ≤ H.length)
    (hq : Que W (w.heap.size + 1) g' off' c' (H.drop k ++ [q])) (hg : ((setBlock wr w.heap.size o).alloc E).grownBy W (some g)) : WM w bm xs (H ++ [q]) k g' off' c' W := by
  have hgB := h.que.1
  have hlt : w.heap.size < wr.heap.size := h.had.lt
  refine ⟨Below.grown ((setBlock_below h.bel (Nat.le_refl _) o).alloc (by rw [setBlock_size]; omega) E) hg (by simp [setBlock_size]; omega) (fun k hk => by cases hk; omega), hm.same ?_, by rw [List.drop_append_of_le_length hk]; exact hq⟩
  rw [hg.block w.heap.size (by simp [setBlock_size]; omega) (by simp only [ne_eq, Option.some.injEq]; omega), Below.heap_alloc _ _ _ (by rw [setBlock_size]; omega)]
theorem fieldE (v : NV) (w : World) : (Instr.field 26 v.val 3).run Try.prog w = .ok (.slice v.eA v.en v.ec) w := by kernel_rfl

set_option maxRecDepth 4000 in
set_option maxHeartbeats 4000000 in
theorem refWithin_any (bm : Nat) (xs : List M.Nd) (t a : Int) (w : World) (ht : TMap w bm xs) (hs : ∀ x ∈ xs, Small x) (hN : ((allF xs).length + 2) * 8 ≤ 140737488355328) :
    Calls Try.prog 23 #[.map (some bm), .int .i64 t, .int .i64 a] w fun e w' => ∃ b : Bool, e = .returned (.bool b) ∧ (b = true ↔ M.Reach xs a t) ∧ Below w.heap.size w w' := by
  obtain ⟨i3, hi3, hz3, hs3, hb3⟩ := info_parts info3
  have HT : Hid (TMap w bm xs ∧ (∀ x ∈ xs, Small x)) := ⟨ht, hs⟩
  have hmm := @run_makeMap Try.prog
  obtain ⟨o0, hup, hm0⟩ := had_add (had_new w) a
  have H0 : Hid (WM w bm xs [a] 0 (w.heap.size + 1) 0 1 ((setBlock (w.alloc (.map #[] 0)) w.heap.size o0).alloc (.cells #[.int .i64 a] 3))) := by
    have hz : (setBlock (w.alloc (.map #[] 0)) w.heap.size o0).heap.size = w.heap.size + 1 := by rw [setBlock_size]; simp
    refine ⟨(setBlock_below ((Below.refl _ _).alloc (Nat.le_refl _) _) (Nat.le_refl _) o0).alloc (by rw [hz]; omega) _, hm0.same (Below.heap_alloc _ _ _ (by rw [hz]; omega)), ?_⟩
    have h := que_new (setBlock (w.alloc (.map #[] 0)) w.heap.size o0) (w.heap.size + 1) a (by rw [hz]; omega)
    rw [hz] at h
    exact h
  have hz0 : (setBlock (w.alloc (.map #[] 0)) w.heap.size o0).heap.size = w.heap.size + 1 := by rw [setBlock_size]; simp
  clear ht hs hm0
  go_enter Try.func23, Try.ntmps23
  go_wp2_with (fail)
  go_loopg [8] ((allF xs).length + 1) (fun gk v wr => ∃ (H : List Int) (k g off c n : Nat), v = .slice (some ⟨g, off, none⟩) n c ∧ Hid (n = H.length - k) ∧ k ≤ H.length ∧ (allF xs).length + 1 - k ≤ gk ∧ BI xs a H k ∧ WM w bm xs H k g off c wr)
  case atStart => exact ⟨[a], 0, w.heap.size + 1, 0, 1, 1, rfl, rfl, Nat.zero_le _, by omega, BI.start xs a, H0.out⟩
  case round =>
    obtain ⟨H, k, g, off, c, n, rfl, hn, hk, hgk, hbi, hwm⟩ := hrel
    rename World => wo
    have HB : Hid (BI xs a H k) := hbi
    have HM : Hid (WM w bm xs H k g off c wo) := hwm
    have hlen := hbi.len
    clear hbi hwm hup hmm hz0 H0
    by_cases hkn : k = H.length
    · have hn0 : n = 0 := by have h := hn.out; omega
      subst hn0
      have hlk := had_ask HM.out.had t
      have HR : Hid (t ∈ H ↔ M.Reach xs a t) := HB.out.done (by omega)
      clear hkn hk hn
      go_wp2
      go_ret
      exact ⟨_, rfl, by rw [decide_eq_true_eq]; exact HR.out, HM.out.bel⟩
    · have hkl : k < H.length := by omega
      have hq : H[k]? = some H[k] := List.getElem?_eq_getElem hkl
      have HQ : Hid (H[k]? = some H[k]) := hq
      have hc0 := HM.out.que.cell (j := 0) (f := H[k]) (by rw [List.getElem?_drop, Nat.add_zero]; exact hq)
      rw [Nat.add_zero] at hc0
      generalize H[k] = q at hq HQ hc0
      obtain ⟨v, es, hlk, hes, hent, hen⟩ := ents_of HT.out.1 HM.out.bel HT.out.2 q
      have HES : Hid (es = ((M.find xs q).map (·.ents)).getD []) := hes
      have HEN : Hid (Ents w v.eA v.en es) := hent
      have hfe := fieldE v
      have hn0 : (0 : Int) < (n : Int) := by have h := hn.out; omega
      have hnn : 0 < n := by have h := hn.out; omega
      clear hq hes hent
      go_wp2_with (fail)
      go_loopw [8, 26] (fun u i wq => ∃ (j g' off' c' n' : Nat), i = .int .i64 j ∧ j ≤ v.en ∧ u = .slice (some ⟨g', off', none⟩) n' c' ∧ Hid (n' = (((es.take j).map (·.2)).foldl meetH H).length - k) ∧ WM w bm xs (((es.take j).map (·.2)).foldl meetH H) k g' off' c' wq) (fun _ i _ => v.en - (intOf i).toNat)
      case atStart => exact ⟨0, g, off, c, n, rfl, Nat.zero_le _, rfl, hn, HM.out⟩
      case round =>
        obtain ⟨j, g', off', c', n', rfl, hj, rfl, hn', hwm⟩ := hrel
        have HMJ : Hid (WM w bm xs (((es.take j).map (·.2)).foldl meetH H) k g' off' c' wr) := hwm
        have hbij := (HB.out.step HQ.out es HES.out j).1
        have HPRE : Hid (k < (((es.take j).map (·.2)).foldl meetH H).length) := by
          obtain ⟨S, hS⟩ := foldH_pre ((es.take j).map (·.2)) H
          show k < _
          rw [hS, List.length_append]; omega
        have hlenj := hbij.len
        clear hwm hbij
        by_cases hjl : j < v.en
        · obtain ⟨b, o, e, hvA, _, hej, e0, e1⟩ := Ents.at (HEN.out.below (Nat.le_refl _) HMJ.out.bel) hjl
          have HF : Hid (((es.take (j + 1)).map (·.2)).foldl meetH H = meetH (((es.take j).map (·.2)).foldl meetH H) e.2) := by
            show _ = _
            rw [take_step hej, List.map_append, List.foldl_append]; rfl
          generalize ((es.take j).map (·.2)).foldl meetH H = HJ at HMJ HPRE hlenj HF hn'
          have hwb := HMJ.out.box (.cells #[.string e.1, .int .i64 e.2] 72)
          have hask := had_ask hwb.had e.2
          obtain ⟨ob, hupd, hmm⟩ := had_add hwb.had e.2
          have HWB : Hid (WM w bm xs HJ k g' off' c' (wr.alloc (.cells #[.string e.1, .int .i64 e.2] 72)) ∧ IMap (setBlock (wr.alloc (.cells #[.string e.1, .int .i64 e.2] 72)) w.heap.size ob) w.heap.size (hadF (HJ ++ [e.2]))) := ⟨hwb, hmm⟩
          have hjs : (j : Int) < (v.en : Int) := by omega
          have hj0 : (0 : Int) ≤ (j : Int) := by omega
          clear hwb hmm hej
          by_cases hin : e.2 ∈ HJ
          · have hd : decide (e.2 ∈ HJ) = true := decide_eq_true hin
            rw [hd] at hask
            have HI : Hid (meetH HJ e.2 = HJ) := by show _ = _; unfold meetH; rw [if_pos hin]
            clear hin hd hupd
            go_wp2
            go_roundw
            case rel => exact ⟨j + 1, g', off', c', n', by go_num, by omega, rfl, by rw [HF.out, HI.out]; exact hn', by rw [HF.out, HI.out]; exact HWB.out.1⟩
            case measure => simp [intOf]; omega
          · have hd : decide (e.2 ∈ HJ) = false := decide_eq_false hin
            rw [hd] at hask
            have HI : Hid (meetH HJ e.2 = HJ ++ [e.2]) := by show _ = _; unfold meetH; rw [if_neg hin]
            have hz2 : (setBlock (wr.alloc (.cells #[.string e.1, .int .i64 e.2] 72)) w.heap.size ob).heap.size = wr.heap.size + 1 := by rw [setBlock_size]; simp
            have hwr : w.heap.size < wr.heap.size := HMJ.out.had.lt
            have hcb : (setBlock (wr.alloc (.cells #[.string e.1, .int .i64 e.2] 72)) w.heap.size ob).cell? ⟨wr.heap.size, 1, none⟩ = some (.int .i64 e.2) := by
              have hb2 : (setBlock (wr.alloc (.cells #[.string e.1, .int .i64 e.2] 72)) w.heap.size ob).heap[wr.heap.size]? = some (.cells #[.string e.1, .int .i64 e.2] 72 (0, 0)) := by
                rw [setBlock_other (by omega)]; exact heap_alloc_new wr _
              simp [World.cell?, hb2]
            have HL : Hid (n' = (HJ.drop k).length ∧ (n' + 1) * 8 ≤ 140737488355328) := by
              refine ⟨by rw [List.length_drop]; exact hn'.out, ?_⟩
              have := hn'.out
              omega
            clear hin hd
            go_wp2_with (at_builtin; refine wpList_append_que _ (by rfl) (.tmp 38) (.tmp 41) 62 (by rfl) (w.heap.size + 1) i3 Try.underlying62 hi3 hz3 hs3 hb3 g' off' c' n' (HJ.drop k) HL.out.1 (by rfl) ((HWB.out.1.que.setBlock (by have := HWB.out.1.que.1; omega) ob).alloc _) ⟨wr.heap.size + 1, 0, none⟩ 1 e.2 (by rfl) (cell_new1 _ _ _ _ hz2.symm) (by rw [← HL.out.1]; exact HL.out.2) (by simp [setBlock_size]; omega) ?_; intro g2 off2 c2 W4 hq4 hg4; have HW4 : Hid (WM w bm xs (HJ ++ [e.2]) k g2 off2 c2 W4) := HWB.out.1.add HWB.out.2 (Nat.le_of_lt HPRE.out) hq4 hg4; clear hq4 hg4 hvA)
            go_roundw
            case rel => exact ⟨j + 1, g2, off2, c2, n' + 1, by go_num, by omega, by go_num, (by show n' + 1 = _; rw [HF.out, HI.out, List.length_append]; have h1 := hn'.out; have h2 := HPRE.out; simp; omega), by rw [HF.out, HI.out]; exact HW4.out⟩
            case measure => simp [intOf]; omega
        · have HEJ : Hid (es.take j = es) := by show _ = _; exact List.take_of_length_le (by rw [← HEN.out.1]; omega)
          rw [HEJ.out] at HMJ HPRE hn'
          have HB2 : Hid (BI xs a ((es.map (·.2)).foldl meetH H) (k + 1)) := (HB.out.step HQ.out es HES.out j).2
          generalize (es.map (·.2)).foldl meetH H = HJ at HMJ HPRE HB2 hn'
          have hlen2 := HB2.out.len
          have hjs : ¬ (j : Int) < (v.en : Int) := by omega
          obtain ⟨f0, l0, hl0⟩ : ∃ f0 l0, HJ.drop k = f0 :: l0 := ⟨HJ[k]'HPRE.out, HJ.drop (k + 1), List.drop_eq_getElem_cons HPRE.out⟩
          have hl1 : l0 = HJ.drop (k + 1) := by have h := congrArg List.tail hl0; rw [List.tail_drop] at h; exact h.symm
          have hqq := HMJ.out.que
          rw [hl0] at hqq
          have hn1 : 1 ≤ n' ∧ n' ≤ c' ∧ c' ≤ 9223372036854775807 := by
            have h1 := hn'.out
            have h2 := HPRE.out
            have h3 := HMJ.out.que.2.1
            have h4 := HMJ.out.que.2.2.1
            rw [List.length_drop] at h3
            unfold maxLen at h4
            exact ⟨by omega, by omega, by omega⟩
          obtain ⟨hn1, hn2, hn3⟩ := hn1
          have hn4 : (1 : Int) ≤ (n' : Int) := by omega
          by_cases hc1 : c' = 1
          · subst hc1
            have HQ2 : Hid (Que wr (w.heap.size + 1) g' off' 0 (HJ.drop (k + 1))) := by rw [← hl1]; exact hqq.tail1
            clear hqq hl0 hl1
            go_wp2
            go_roundg ((allF xs).length + 1 - (k + 1))
            case measure => have h2 := HPRE.out; omega
            case rel => exact ⟨HJ, k + 1, g', off', 0, n' - 1, by go_num, (by show n' - 1 = _; have h1 := hn'.out; omega), HPRE.out, Nat.le_refl _, HB2.out, ⟨HMJ.out.bel, HMJ.out.had, HQ2.out⟩⟩
          · have HQ2 : Hid (Que wr (w.heap.size + 1) g' (off' + 1) (c' - 1) (HJ.drop (k + 1))) := by rw [← hl1]; exact hqq.tail
            clear hqq hl0 hl1
            go_wp2
            go_roundg ((allF xs).length + 1 - (k + 1))
            case measure => have h2 := HPRE.out; omega
            case rel => exact ⟨HJ, k + 1, g', off' + 1, c' - 1, n' - 1, by go_num, (by show n' - 1 = _; have h1 := hn'.out; omega), HPRE.out, Nat.le_refl _, HB2.out, ⟨HMJ.out.bel, HMJ.out.had, HQ2.out⟩⟩
end Go.Proofs.Ytkdpdgbacladhaa
