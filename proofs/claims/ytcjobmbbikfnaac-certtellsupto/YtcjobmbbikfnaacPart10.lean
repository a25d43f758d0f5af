/- TEXTS LAID TOGETHER: Rwithin, Vals, Does, Doesb, Frame, Refa, Kbase -/
import Derived.Test.YtcjobmbbikfnaacPart8
import Derived.Deep.LoopGhost
import Derived.Test.YtcjobmbbikfnaacPart1
import Derived.RegionTactic
import Derived.Test.YtcjobmbbikfnaacPart7
import Derived.Test.YtcjobmbbikfnaacPart5
import Derived.Test.YtcjobmbbikfnaacPart9
import Derived.Test.YtcjobmbbikfnaacPart6
/-
  THE REFERENCE's Within: all that can be seen from a fid on.
-/
namespace Go.Proofs.Ytcjobmbbikfnaac
open Go.RowKit
open Go.ChangeMaps (setBlock)

theorem len_le_of_nodup : ∀ {l m : List Int}, l.Nodup → (∀ x ∈ l, x ∈ m) → l.length ≤ m.length
  | [], _, _, _ => Nat.zero_le _
  | x :: l, m, hn, h => by
    rw [List.nodup_cons] at hn
    have hx : x ∈ m := h x List.mem_cons_self
    have ih := len_le_of_nodup (l := l) (m := m.erase x) hn.2 (fun y hy => by
      have hne : y ≠ x := fun e => hn.1 (e ▸ hy)
      exact (List.mem_erase_of_ne hne).2 (h y (List.mem_cons_of_mem _ hy)))
    have := List.length_erase_of_mem hx
    have := List.length_pos_of_mem hx
    rw [List.length_cons]
    omega
/-- the fids of all entries -/
def allF (xs : List M.Nd) : List Int := xs.flatMap fun x => x.ents.map (·.2)
/-- what the search keeps: those had, in turn; k of them are done -/
structure BI (xs : List M.Nd) (a : Int) (H : List Int) (k : Nat) : Prop where
  nd : H.Nodup
  ina : a ∈ H
  re : ∀ q ∈ H, M.Reach xs a q
  cl : ∀ (i : Nat) q x, i < k → H[i]? = some q → M.find xs q = some x → ∀ e ∈ x.ents, e.2 ∈ H
theorem BI.start (xs : List M.Nd) (a : Int) : BI xs a [a] 0 := ⟨by simp, by simp, fun q hq => by rw [List.mem_singleton.1 hq]; exact .refl, fun i q x hi => absurd hi (Nat.not_lt_zero _)⟩
theorem BI.len {xs : List M.Nd} {a : Int} {H : List Int} {k : Nat} (h : BI xs a H k) : H.length ≤ (allF xs).length + 1 := by
  have := len_le_of_nodup (m := a :: allF xs) h.nd (fun q hq => by
    have hr := h.re q hq
    cases hr with
    | refl => exact List.mem_cons_self
    | step _ hf he => exact List.mem_cons_of_mem _ (List.mem_flatMap.2 ⟨_, List.mem_of_find?_eq_some hf, List.mem_map.2 ⟨_, he, rfl⟩⟩))
  simpa using this
theorem BI.done {xs : List M.Nd} {a t : Int} {H : List Int} {k : Nat} (h : BI xs a H k) (hk : H.length ≤ k) : t ∈ H ↔ M.Reach xs a t := by
  refine ⟨h.re t, fun hr => ?_⟩
  induction hr with
  | refl => exact h.ina
  | step _ hf he ih =>
    obtain ⟨i, hi⟩ := List.getElem?_of_mem ih
    have := (List.getElem?_eq_some_iff.1 hi).1
    exact h.cl i _ _ (by omega) hi hf _ he
/-- one entry's fid is met -/
def meetH (H : List Int) (q : Int) : List Int := if q ∈ H then H else H ++ [q]
theorem meetH_pre (H : List Int) (q : Int) : ∃ S, meetH H q = H ++ S := by
  unfold meetH
  split
  · exact ⟨[], by simp⟩
  · exact ⟨[q], rfl⟩
theorem meetH_mem (H : List Int) (q : Int) : q ∈ meetH H q := by unfold meetH; split <;> simp_all
theorem foldH_pre : ∀ (ts : List Int) (H : List Int), ∃ S, ts.foldl meetH H = H ++ S
  | [], H => ⟨[], by simp⟩
  | t :: ts, H => by
    obtain ⟨S, hS⟩ := meetH_pre H t
    obtain ⟨R, hR⟩ := foldH_pre ts (meetH H t)
    exact ⟨S ++ R, by rw [List.foldl_cons, hR, hS, List.append_assoc]⟩
theorem foldH_mem : ∀ (ts : List Int) (H : List Int), ∀ t ∈ ts, t ∈ ts.foldl meetH H
  | [], _, _, h => by cases h
  | t :: ts, H, u, h => by
    rw [List.foldl_cons]
    rcases List.mem_cons.1 h with rfl | h
    · obtain ⟨R, hR⟩ := foldH_pre ts (meetH H u)
      rw [hR]; exact List.mem_append.2 (.inl (meetH_mem H u))
    · exact foldH_mem ts _ u h
theorem foldH_nd : ∀ (ts : List Int) (H : List Int), H.Nodup → (ts.foldl meetH H).Nodup
  | [], _, h => h
  | t :: ts, H, h => by
    rw [List.foldl_cons]
    refine foldH_nd ts _ ?_
    unfold meetH
    split
    · exact h
    · rename_i hn
      rw [List.nodup_append]
      exact ⟨h, by simp, fun x hx y hy e => by rw [List.mem_singleton.1 hy] at e; exact hn (e ▸ hx)⟩
theorem foldH_re {P : Int → Prop} : ∀ (ts : List Int) (H : List Int), (∀ q ∈ H, P q) → (∀ t ∈ ts, P t) → ∀ q ∈ ts.foldl meetH H, P q
  | [], _, h, _ => h
  | t :: ts, H, h, ht => by
    rw [List.foldl_cons]
    refine foldH_re ts _ (fun q hq => ?_) (fun u hu => ht u (List.mem_cons_of_mem _ hu))
    unfold meetH at hq
    split at hq
    · exact h q hq
    · rcases List.mem_append.1 hq with hq | hq
      · exact h q hq
      · rw [List.mem_singleton.1 hq]; exact ht t List.mem_cons_self
/-- one that was ahead is done -/
theorem BI.step {xs : List M.Nd} {a : Int} {H : List Int} {k : Nat} {q : Int} (h : BI xs a H k) (hq : H[k]? = some q) (es : List (ByteArray × Int)) (he : es = ((M.find xs q).map (·.ents)).getD []) (j : Nat) : BI xs a (((es.take j).map (·.2)).foldl meetH H) k ∧ BI xs a ((es.map (·.2)).foldl meetH H) (k + 1) := by
  have key : ∀ ts : List (ByteArray × Int), (∀ e ∈ ts, e ∈ es) → BI xs a ((ts.map (·.2)).foldl meetH H) k := by
    intro ts hts
    obtain ⟨S, hS⟩ := foldH_pre (ts.map (·.2)) H
    have hre : ∀ t ∈ ts.map (·.2), M.Reach xs a t := by
      intro t ht
      obtain ⟨e, he1, rfl⟩ := List.mem_map.1 ht
      have hee := hts e he1
      rw [he] at hee
      cases hf : M.find xs q with
      | none => rw [hf] at hee; cases hee
      | some x => rw [hf] at hee; exact .step (h.re q (List.mem_of_getElem? hq)) hf hee
    refine ⟨foldH_nd _ _ h.nd, by rw [hS]; exact List.mem_append.2 (.inl h.ina), foldH_re _ _ h.re hre, fun i p x hi hp hf e hex => ?_⟩
    have hil : i < H.length := by have := (List.getElem?_eq_some_iff.1 hq).1; omega
    rw [hS] at hp ⊢
    rw [List.getElem?_append_left hil] at hp
    exact List.mem_append.2 (.inl (h.cl i p x hi hp hf e hex))
  refine ⟨key _ (fun e he => List.mem_of_mem_take he), ?_⟩
  have h1 := key es (fun e he => he)
  obtain ⟨S, hS⟩ := foldH_pre (es.map (·.2)) H
  refine ⟨h1.nd, h1.ina, h1.re, fun i p x hi hp hf e hex => ?_⟩
  rcases Nat.lt_or_ge i k with hik | hik
  · exact h1.cl i p x hik hp hf e hex
  · have hik : i = k := by omega
    subst hik
    have hil : i < H.length := (List.getElem?_eq_some_iff.1 hq).1
    rw [hS, List.getElem?_append_left hil, hq] at hp
    cases hp
    rw [hf] at he
    have hex2 : e ∈ es := by rw [he]; exact hex
    exact foldH_mem _ _ _ (List.mem_map.2 ⟨e, hex2, rfl⟩)

/-- the search's memory -/
structure WM (w : World) (bm : Nat) (xs : List M.Nd) (H : List Int) (k g off c : Nat) (wr : World) : Prop where
  bel : Below w.heap.size w wr
  had : IMap wr w.heap.size (hadF H)
  que : Que wr (w.heap.size + 1) g off c (H.drop k)
theorem zero4 (w : World) : (zeroValue 4).run Try.prog w = .ok (.bool false) w := by
  obtain ⟨i, hi, hz, hs, hb⟩ := info_parts info4
  simp [zeroValue, typeInfo, hi, hz]
theorem had_ask {w : World} {b : Nat} {H : List Int} (h : IMap w b (hadF H)) (q : Int) : (Instr.lookup 66 (.map (some b)) (.int .i64 q) false).run Try.prog w = .ok (.bool (decide (q ∈ H))) w := by
  rw [run_lookup_map 66 4 Try.underlying66 (zero4 w) h q false, hadF_ask]
  rfl
theorem had_add {w : World} {b : Nat} {H : List Int} (h : IMap w b (hadF H)) (q : Int) : ∃ o : Obj, (Instr.mapUpdate 66 (.map (some b)) (.int .i64 q) (.bool true)).run Try.prog w = .ok () (setBlock w b o) ∧ IMap (setBlock w b o) b (hadF (H ++ [q])) := by
  obtain ⟨o, h1, h2⟩ := run_update_map 66 4 Try.underlying66 h q (.bool true)
  rw [hadF_add] at h2
  exact ⟨o, h1, h2⟩
theorem had_new (w : World) : IMap (w.alloc (.map #[] 0)) w.heap.size (hadF []) := by
  have h : (fun _ => none : Int → Option Value) = hadF [] := by funext q; simp [hadF]
  rw [← h]
  exact IMap.new w
theorem ents_of {w wr : World} {bm : Nat} {xs : List M.Nd} (h : TMap w bm xs) (hb : Below w.heap.size w wr) (hs : ∀ x ∈ xs, Small x) (q : Int) : ∃ (v : NV) (es : List (ByteArray × Int)), (Instr.lookup 30 (.map (some bm)) (.int .i64 q) false).run Try.prog wr = .ok v.val wr ∧ es = ((M.find xs q).map (·.ents)).getD [] ∧ Ents w v.eA v.en es ∧ v.en * 24 ≤ 140737488355328 := by
  obtain ⟨f, hi, ha⟩ := h
  have hr := run_lookup_map 30 56 Try.underlying30 (zero26 wr) (hi.below (Nat.le_refl _) hb) q false
  rcases ha q with ⟨h1, h2⟩ | ⟨v, x, h1, h2, h3⟩
  · rw [h1] at hr
    exact ⟨NV.zero, [], hr, by rw [h2]; rfl, ⟨rfl, .inl rfl⟩, by simp [NV.zero]⟩
  · rw [h1] at hr
    exact ⟨v, x.ents, hr, by rw [h2]; rfl, h3.2.2.2.2, by rw [h3.2.2.2.2.1]; exact (hs x (List.mem_of_find?_eq_some h2)).2⟩
theorem WM.box {w : World} {bm : Nat} {xs : List M.Nd} {H : List Int} {k g off c : Nat} {wr : World} (h : WM w bm xs H k g off c wr) (o : Obj) : WM w bm xs H k g off c (wr.alloc o) :=
  ⟨h.bel.alloc h.bel.size o, h.had.same (Below.heap_alloc _ _ _ h.had.lt), h.que.alloc o⟩
theorem WM.add {w : World} {bm : Nat} {xs : List M.Nd} {H : List Int} {k g off c : Nat} {wr W : World} {q : Int} {o E : Obj} {g' off' c' : Nat} (h : WM w bm xs H k g off c wr) (hm : IMap (setBlock wr w.heap.size o) w.heap.size (hadF (H ++ [q]))) (hk : k ≤ H.length)
    (hq : Que W (w.heap.size + 1) g' off' c' (H.drop k ++ [q])) (hg : ((setBlock wr w.heap.size o).alloc E).grownBy W (some g)) : WM w bm xs (H ++ [q]) k g' off' c' W := by
  have hgB := h.que.1
  have hlt : w.heap.size < wr.heap.size := h.had.lt
  refine ⟨Below.grown ((setBlock_below h.bel (Nat.le_refl _) o).alloc (by rw [setBlock_size]; omega) E) hg (by simp [setBlock_size]; omega) (fun k hk => by cases hk; omega), hm.same ?_, by rw [List.drop_append_of_le_length hk]; exact hq⟩
  rw [hg.block w.heap.size (by simp [setBlock_size]; omega) (by simp only [ne_eq, Option.some.injEq]; omega), Below.heap_alloc _ _ _ (by rw [setBlock_size]; omega)]
theorem fieldE (v : NV) (w : World) : (Instr.field 56 v.val 3).run Try.prog w = .ok (.slice v.eA v.en v.ec) w := by kernel_rfl

set_option maxRecDepth 4000 in
set_option maxHeartbeats 4000000 in
theorem refWithin_any (bm : Nat) (xs : List M.Nd) (t a : Int) (w : World) (ht : TMap w bm xs) (hs : ∀ x ∈ xs, Small x) (hN : ((allF xs).length + 2) * 8 ≤ 140737488355328) :
    Calls Try.prog 31 #[.map (some bm), .int .i64 t, .int .i64 a] w fun e w' => ∃ b : Bool, e = .returned (.bool b) ∧ (b = true ↔ M.Reach xs a t) ∧ Below w.heap.size w w' := by
  obtain ⟨i3, hi3, hz3, hs3, hb3⟩ := info_parts info3
  have HT : Hid (TMap w bm xs ∧ (∀ x ∈ xs, Small x)) := ⟨ht, hs⟩
  have hmm := @run_makeMap Try.prog
  obtain ⟨o0, hup, hm0⟩ := had_add (had_new w) a
  have H0 : Hid (WM w bm xs [a] 0 (w.heap.size + 1) 0 1 ((setBlock (w.alloc (.map #[] 0)) w.heap.size o0).alloc (.cells #[.int .i64 a] 3))) := by
    have hz : (setBlock (w.alloc (.map #[] 0)) w.heap.size o0).heap.size = w.heap.size + 1 := by rw [setBlock_size]; simp
    refine ⟨(setBlock_below ((Below.refl _ _).alloc (Nat.le_refl _) _) (Nat.le_refl _) o0).alloc (by rw [hz]; omega) _, hm0.same (Below.heap_alloc _ _ _ (by rw [hz]; omega)), ?_⟩
    have h := que_new (setBlock (w.alloc (.map #[] 0)) w.heap.size o0) (w.heap.size + 1) a (by rw [hz]; omega)
    rw [hz] at h
    exact h
  have hz0 : (setBlock (w.alloc (.map #[] 0)) w.heap.size o0).heap.size = w.heap.size + 1 := by rw [setBlock_size]; simp
  clear ht hs hm0
  go_enter Try.func31, Try.ntmps31
  go_wp2_with (fail)
  go_loopg [8] ((allF xs).length + 1) (fun gk v wr => ∃ (H : List Int) (k g off c n : Nat), v = .slice (some ⟨g, off, none⟩) n c ∧ Hid (n = H.length - k) ∧ k ≤ H.length ∧ (allF xs).length + 1 - k ≤ gk ∧ BI xs a H k ∧ WM w bm xs H k g off c wr)
  case atStart => exact ⟨[a], 0, w.heap.size + 1, 0, 1, 1, rfl, rfl, Nat.zero_le _, by omega, BI.start xs a, H0.out⟩
  case round =>
    obtain ⟨H, k, g, off, c, n, rfl, hn, hk, hgk, hbi, hwm⟩ := hrel
    rename World => wo
    have HB : Hid (BI xs a H k) := hbi
    have HM : Hid (WM w bm xs H k g off c wo) := hwm
    have hlen := hbi.len
    clear hbi hwm hup hmm hz0 H0
    by_cases hkn : k = H.length
    · have hn0 : n = 0 := by have h := hn.out; omega
      subst hn0
      have hlk := had_ask HM.out.had t
      have HR : Hid (t ∈ H ↔ M.Reach xs a t) := HB.out.done (by omega)
      clear hkn hk hn
      go_wp2
      go_ret
      exact ⟨_, rfl, by rw [decide_eq_true_eq]; exact HR.out, HM.out.bel⟩
    · have hkl : k < H.length := by omega
      have hq : H[k]? = some H[k] := List.getElem?_eq_getElem hkl
      have HQ : Hid (H[k]? = some H[k]) := hq
      have hc0 := HM.out.que.cell (j := 0) (f := H[k]) (by rw [List.getElem?_drop, Nat.add_zero]; exact hq)
      rw [Nat.add_zero] at hc0
      generalize H[k] = q at hq HQ hc0
      obtain ⟨v, es, hlk, hes, hent, hen⟩ := ents_of HT.out.1 HM.out.bel HT.out.2 q
      have HES : Hid (es = ((M.find xs q).map (·.ents)).getD []) := hes
      have HEN : Hid (Ents w v.eA v.en es) := hent
      have hfe := fieldE v
      have hn0 : (0 : Int) < (n : Int) := by have h := hn.out; omega
      have hnn : 0 < n := by have h := hn.out; omega
      clear hq hes hent
      go_wp2_with (fail)
      go_loopw [8, 26] (fun u i wq => ∃ (j g' off' c' n' : Nat), i = .int .i64 j ∧ j ≤ v.en ∧ u = .slice (some ⟨g', off', none⟩) n' c' ∧ Hid (n' = (((es.take j).map (·.2)).foldl meetH H).length - k) ∧ WM w bm xs (((es.take j).map (·.2)).foldl meetH H) k g' off' c' wq) (fun _ i _ => v.en - (intOf i).toNat)
      case atStart => exact ⟨0, g, off, c, n, rfl, Nat.zero_le _, rfl, hn, HM.out⟩
      case round =>
        obtain ⟨j, g', off', c', n', rfl, hj, rfl, hn', hwm⟩ := hrel
        have HMJ : Hid (WM w bm xs (((es.take j).map (·.2)).foldl meetH H) k g' off' c' wr) := hwm
        have hbij := (HB.out.step HQ.out es HES.out j).1
        have HPRE : Hid (k < (((es.take j).map (·.2)).foldl meetH H).length) := by
          obtain ⟨S, hS⟩ := foldH_pre ((es.take j).map (·.2)) H
          show k < _
          rw [hS, List.length_append]; omega
        have hlenj := hbij.len
        clear hwm hbij
        by_cases hjl : j < v.en
        · obtain ⟨b, o, e, hvA, _, hej, e0, e1⟩ := Ents.at (HEN.out.below (Nat.le_refl _) HMJ.out.bel) hjl
          have HF : Hid (((es.take (j + 1)).map (·.2)).foldl meetH H = meetH (((es.take j).map (·.2)).foldl meetH H) e.2) := by
            show _ = _
            rw [take_step hej, List.map_append, List.foldl_append]; rfl
          generalize ((es.take j).map (·.2)).foldl meetH H = HJ at HMJ HPRE hlenj HF hn'
          have hwb := HMJ.out.box (.cells #[.string e.1, .int .i64 e.2] 58)
          have hask := had_ask hwb.had e.2
          obtain ⟨ob, hupd, hmm⟩ := had_add hwb.had e.2
          have HWB : Hid (WM w bm xs HJ k g' off' c' (wr.alloc (.cells #[.string e.1, .int .i64 e.2] 58)) ∧ IMap (setBlock (wr.alloc (.cells #[.string e.1, .int .i64 e.2] 58)) w.heap.size ob) w.heap.size (hadF (HJ ++ [e.2]))) := ⟨hwb, hmm⟩
          have hjs : (j : Int) < (v.en : Int) := by omega
          have hj0 : (0 : Int) ≤ (j : Int) := by omega
          clear hwb hmm hej
          by_cases hin : e.2 ∈ HJ
          · have hd : decide (e.2 ∈ HJ) = true := decide_eq_true hin
            rw [hd] at hask
            have HI : Hid (meetH HJ e.2 = HJ) := by show _ = _; unfold meetH; rw [if_pos hin]
            clear hin hd hupd
            go_wp2
            go_roundw
            case rel => exact ⟨j + 1, g', off', c', n', by go_num, by omega, rfl, by rw [HF.out, HI.out]; exact hn', by rw [HF.out, HI.out]; exact HWB.out.1⟩
            case measure => simp [intOf]; omega
          · have hd : decide (e.2 ∈ HJ) = false := decide_eq_false hin
            rw [hd] at hask
            have HI : Hid (meetH HJ e.2 = HJ ++ [e.2]) := by show _ = _; unfold meetH; rw [if_neg hin]
            have hz2 : (setBlock (wr.alloc (.cells #[.string e.1, .int .i64 e.2] 58)) w.heap.size ob).heap.size = wr.heap.size + 1 := by rw [setBlock_size]; simp
            have hwr : w.heap.size < wr.heap.size := HMJ.out.had.lt
            have hcb : (setBlock (wr.alloc (.cells #[.string e.1, .int .i64 e.2] 58)) w.heap.size ob).cell? ⟨wr.heap.size, 1, none⟩ = some (.int .i64 e.2) := by
              have hb2 : (setBlock (wr.alloc (.cells #[.string e.1, .int .i64 e.2] 58)) w.heap.size ob).heap[wr.heap.size]? = some (.cells #[.string e.1, .int .i64 e.2] 58 (0, 0)) := by
                rw [setBlock_other (by omega)]; exact heap_alloc_new wr _
              simp [World.cell?, hb2]
            have HL : Hid (n' = (HJ.drop k).length ∧ (n' + 1) * 8 ≤ 140737488355328) := by
              refine ⟨by rw [List.length_drop]; exact hn'.out, ?_⟩
              have := hn'.out
              omega
            clear hin hd
            go_wp2_with (at_builtin; refine wpList_append_que _ (by rfl) (.tmp 38) (.tmp 41) 50 (by rfl) (w.heap.size + 1) i3 Try.underlying50 hi3 hz3 hs3 hb3 g' off' c' n' (HJ.drop k) HL.out.1 (by rfl) ((HWB.out.1.que.setBlock (by have := HWB.out.1.que.1; omega) ob).alloc _) ⟨wr.heap.size + 1, 0, none⟩ 1 e.2 (by rfl) (cell_new1 _ _ _ _ hz2.symm) (by rw [← HL.out.1]; exact HL.out.2) (by simp [setBlock_size]; omega) ?_; intro g2 off2 c2 W4 hq4 hg4; have HW4 : Hid (WM w bm xs (HJ ++ [e.2]) k g2 off2 c2 W4) := HWB.out.1.add HWB.out.2 (Nat.le_of_lt HPRE.out) hq4 hg4; clear hq4 hg4 hvA)
            go_roundw
            case rel => exact ⟨j + 1, g2, off2, c2, n' + 1, by go_num, by omega, by go_num, (by show n' + 1 = _; rw [HF.out, HI.out, List.length_append]; have h1 := hn'.out; have h2 := HPRE.out; simp; omega), by rw [HF.out, HI.out]; exact HW4.out⟩
            case measure => simp [intOf]; omega
        · have HEJ : Hid (es.take j = es) := by show _ = _; exact List.take_of_length_le (by rw [← HEN.out.1]; omega)
          rw [HEJ.out] at HMJ HPRE hn'
          have HB2 : Hid (BI xs a ((es.map (·.2)).foldl meetH H) (k + 1)) := (HB.out.step HQ.out es HES.out j).2
          generalize (es.map (·.2)).foldl meetH H = HJ at HMJ HPRE HB2 hn'
          have hlen2 := HB2.out.len
          have hjs : ¬ (j : Int) < (v.en : Int) := by omega
          obtain ⟨f0, l0, hl0⟩ : ∃ f0 l0, HJ.drop k = f0 :: l0 := ⟨HJ[k]'HPRE.out, HJ.drop (k + 1), List.drop_eq_getElem_cons HPRE.out⟩
          have hl1 : l0 = HJ.drop (k + 1) := by have h := congrArg List.tail hl0; rw [List.tail_drop] at h; exact h.symm
          have hqq := HMJ.out.que
          rw [hl0] at hqq
          have hn1 : 1 ≤ n' ∧ n' ≤ c' ∧ c' ≤ 9223372036854775807 := by
            have h1 := hn'.out
            have h2 := HPRE.out
            have h3 := HMJ.out.que.2.1
            have h4 := HMJ.out.que.2.2.1
            rw [List.length_drop] at h3
            unfold maxLen at h4
            exact ⟨by omega, by omega, by omega⟩
          obtain ⟨hn1, hn2, hn3⟩ := hn1
          have hn4 : (1 : Int) ≤ (n' : Int) := by omega
          by_cases hc1 : c' = 1
          · subst hc1
            have HQ2 : Hid (Que wr (w.heap.size + 1) g' off' 0 (HJ.drop (k + 1))) := by rw [← hl1]; exact hqq.tail1
            clear hqq hl0 hl1
            go_wp2
            go_roundg ((allF xs).length + 1 - (k + 1))
            case measure => have h2 := HPRE.out; omega
            case rel => exact ⟨HJ, k + 1, g', off', 0, n' - 1, by go_num, (by show n' - 1 = _; have h1 := hn'.out; omega), HPRE.out, Nat.le_refl _, HB2.out, ⟨HMJ.out.bel, HMJ.out.had, HQ2.out⟩⟩
          · have HQ2 : Hid (Que wr (w.heap.size + 1) g' (off' + 1) (c' - 1) (HJ.drop (k + 1))) := by rw [← hl1]; exact hqq.tail
            clear hqq hl0 hl1
            go_wp2
            go_roundg ((allF xs).length + 1 - (k + 1))
            case measure => have h2 := HPRE.out; omega
            case rel => exact ⟨HJ, k + 1, g', off' + 1, c' - 1, n' - 1, by go_num, (by show n' - 1 = _; have h1 := hn'.out; omega), HPRE.out, Nat.le_refl _, HB2.out, ⟨HMJ.out.bel, HMJ.out.had, HQ2.out⟩⟩
end Go.Proofs.Ytcjobmbbikfnaac
/-
  A REGION THAT DRAWS THE ORDER OF MANY OPERATIONS: of each operation it is said what its value is, in words that last while memory below is as it was;
  each operation is looked at once, whatever came up before it.
-/
namespace Go.Proofs.Ytcjobmbbikfnaac
open Go.RowKit

/-- the slot of operation j -/
def slotAt (ops : Array Oper) (j : Nat) : Nat := ((ops[j]?).bind (·.dst)).getD 0
/-- each operation has a slot of its own in the frame, and waits for earlier ones alone -/
def tidy (ops : Array Oper) (size : Nat) : Bool :=
  (List.range ops.size).all fun i => match ops[i]? with
    | some o => (o.after.all fun e => decide (e.on < i)) && (match o.dst with
        | some d => decide (d < size) && ((List.range i).all fun j => ((ops[j]?).bind (·.dst)) != some d)
        | none => false)
    | none => true
/-- operation i waits for operation j -/
def waits (o : Oper) (j : Nat) : Bool := o.after.any fun e => Region.binds .any e && e.on == j
/-- slot t is no operation's -/
def apart (ops : Array Oper) (t : Nat) : Bool := ops.all fun o => o.dst != some t

theorem tidy_at {ops : Array Oper} {size i : Nat} {o : Oper} (h : tidy ops size = true) (hi : ops[i]? = some o) :
    (∀ e ∈ o.after, e.on < i) ∧ ∃ d, o.dst = some d ∧ d < size ∧ slotAt ops i = d ∧ ∀ j, j < i → ((ops[j]?).bind (·.dst)) ≠ some d := by
  unfold tidy at h
  rw [List.all_eq_true] at h
  have hlt : i < ops.size := (Array.getElem?_eq_some_iff.1 hi).1
  have h1 := h i (List.mem_range.2 hlt)
  rw [hi] at h1
  simp only [Bool.and_eq_true] at h1
  obtain ⟨h2, h3⟩ := h1
  refine ⟨fun e he => ?_, ?_⟩
  · have := Array.all_eq_true_iff_forall_mem.1 h2 e he
    simpa using this
  · cases hd : o.dst with
    | none => rw [hd] at h3; cases h3
    | some d =>
      rw [hd] at h3
      simp only [Bool.and_eq_true, decide_eq_true_eq, List.all_eq_true, List.mem_range] at h3
      refine ⟨d, rfl, h3.1, by simp [slotAt, hi, hd], fun j hj => ?_⟩
      have := h3.2 j hj
      simpa using this

theorem tidy_ne {ops : Array Oper} {size i j : Nat} {o u : Oper} (h : tidy ops size = true) (hi : ops[i]? = some o) (hj : ops[j]? = some u) (hne : i ≠ j) : slotAt ops i ≠ slotAt ops j := by
  obtain ⟨_, d, hd, _, hs, hall⟩ := tidy_at h hi
  obtain ⟨_, e, he, _, ht, hall'⟩ := tidy_at h hj
  rw [hs, ht]
  intro hde
  subst hde
  rcases Nat.lt_or_gt_of_ne hne with hl | hl
  · exact hall' i hl (by rw [hi]; exact hd)
  · exact hall j hl (by rw [hj]; exact he)

/-- what lasts while memory below is as it was -/
def Stays (p : Value → World → Prop) : Prop := ∀ v w w', Below w.heap.size w w' → p v w → p v w'

/-- the frame behind some operations of the region -/
structure Framed (ops : Array Oper) (a0 a : Act) : Prop where
  size : a.tmps.size = a0.tmps.size
  defers : a.defers = a0.defers
  keeps : ∀ t, apart ops t = true → a.eval (.tmp t) = a0.eval (.tmp t)

/-- slot t holds, when operation i comes up, what it held when the region began: whoever writes it waits for i -/
def freeFor (ops : Array Oper) (i t : Nat) : Bool := (List.range ops.size).all fun j => match ops[j]? with
  | some o => j == i || o.dst != some t || waits o i
  | none => true
structure FramedAt (ops : Array Oper) (i : Nat) (a0 a : Act) : Prop where
  size : a.tmps.size = a0.tmps.size
  defers : a.defers = a0.defers
  keeps : ∀ t, freeFor ops i t = true → a.eval (.tmp t) = a0.eval (.tmp t)
/-- the frame behind the operations that are listed; what is listed waits for nothing more -/
structure FramedBy (ops : Array Oper) (listed : Array Bool) (a0 a : Act) : Prop where
  size : a.tmps.size = a0.tmps.size
  defers : a.defers = a0.defers
  keeps : ∀ t, (∀ j o, ops[j]? = some o → listed.getD j true = true → o.dst ≠ some t) → a.eval (.tmp t) = a0.eval (.tmp t)
  closed : ∀ j o, ops[j]? = some o → listed.getD j true = true → ∀ i, waits o i = true → listed.getD i true = true
theorem FramedBy.at_ {ops : Array Oper} {listed : Array Bool} {a0 a : Act} (h : FramedBy ops listed a0 a) {i : Nat} (hi : listed.getD i true = false) : FramedAt ops i a0 a := by
  refine ⟨h.size, h.defers, fun t ht => h.keeps t fun j o hj hl hd => ?_⟩
  unfold freeFor at ht
  rw [List.all_eq_true] at ht
  have h1 := ht j (List.mem_range.2 (Array.getElem?_eq_some_iff.1 hj).1)
  simp only [hj, hd, bne_self_eq_false, Bool.or_false, Bool.or_eq_true, beq_iff_eq] at h1
  rcases h1 with h1 | h1
  · subst h1; rw [hl] at hi; cases hi
  · have := h.closed j o hj hl i h1; rw [this] at hi; cases hi
theorem FramedBy.all {ops : Array Oper} {listed : Array Bool} {a0 a : Act} (h : FramedBy ops listed a0 a) : Framed ops a0 a := by
  refine ⟨h.size, h.defers, fun t ht => h.keeps t fun j o hj _ hd => ?_⟩
  have := Array.all_eq_true_iff_forall_mem.1 ht o (Array.mem_of_getElem? hj)
  simp [hd] at this
theorem FramedBy.put {ops : Array Oper} {listed : Array Bool} {a0 a : Act} (h : FramedBy ops listed a0 a) {i : Nat} {o : Oper} (hi : ops[i]? = some o) (hsz : listed.size = ops.size)
    (hw : ∀ j, waits o j = true → listed.getD j true = true) (v : Value) : FramedBy ops (listed.setIfInBounds i true) a0 (a.put o.dst v) := by
  have hil : i < listed.size := by rw [hsz]; exact (Array.getElem?_eq_some_iff.1 hi).1
  have hself : (listed.setIfInBounds i true).getD i true = true := by simp [hil]
  have hup : ∀ j, listed.getD j true = true → (listed.setIfInBounds i true).getD j true = true := by
    intro j hj
    by_cases hji : j = i
    · rw [hji]; exact hself
    · rw [getD_set_ne true (Ne.symm hji)]; exact hj
  refine ⟨?_, ?_, fun t ht => ?_, fun j u hj hl q hq => ?_⟩
  · cases hd : o.dst <;> simp [Act.put, h.size]
  · cases hd : o.dst <;> simp [Act.put, h.defers]
  · rw [Act.eval_put, h.keeps t fun j u hj hl => ht j u hj (hup j hl)]
    intro d hd e
    injection e with e
    exact ht i o hi hself (by rw [hd, e])
  · by_cases hji : j = i
    · subst hji
      rw [hi] at hj
      injection hj with hj
      subst hj
      exact hup q (hw q hq)
    · rw [getD_set_ne true (Ne.symm hji)] at hl
      exact hup q (h.closed j u hj hl q hq)

/-- What is asked of operation i: whatever came up before it, its value is as it is said. -/
def StepAt (P : Program) (ops : Array Oper) (Q : Exit → Act → World → Prop) (a0 : Act) (w0 : World) (V : Nat → Value → World → Prop) (i : Nat) : Prop :=
  ∀ o, ops[i]? = some o → ∀ a w, FramedAt ops i a0 a → Below w0.heap.size w0 w → (∀ j, waits o j = true → V j (a.eval (.tmp (slotAt ops j))) w) →
    ∀ K : Act → World → Prop, Hid (∀ v w', Below w.heap.size w w' → V i v w' → K (a.put o.dst v) w') →
      if Region.wanted o (yielded ops a.tmps) = true then Oper.wp P o a w K Q else K (a.put o.dst undef) w

def unlisted (listed : Array Bool) : Nat := (listed.toList.filter (fun b => !b)).length

theorem unlisted_set {listed : Array Bool} {i : Nat} (h : listed.getD i true = false) : unlisted (listed.setIfInBounds i true) + 1 = unlisted listed := by
  obtain ⟨l⟩ := listed
  simp only [unlisted, Array.getD_eq_getD_getElem?, List.getElem?_toArray, List.setIfInBounds_toArray] at h ⊢
  induction l generalizing i with
  | nil => simp at h
  | cons b l ih =>
    cases i with
    | zero => simp at h; subst h; simp
    | succ i =>
      simp only [List.getElem?_cons_succ] at h
      have := ih (i := i) (by simpa using h)
      cases b <;> simp [List.set_cons_succ] at this ⊢ <;> omega

theorem wpAny_vals {P : Program} {ops : Array Oper} {Q : Exit → Act → World → Prop} {a0 : Act} {w0 : World} {V : Nat → Value → World → Prop} (ht : tidy ops a0.tmps.size = true) (hst : ∀ i, Stays (V i))
    (steps : ∀ i, i < ops.size → StepAt P ops Q a0 w0 V i)
    (last : ∀ a w, Framed ops a0 a → Below w0.heap.size w0 w → (∀ j, j < ops.size → V j (a.eval (.tmp (slotAt ops j))) w) → Q .normal a w) :
    ∀ (fuel : Nat) (listed : Array Bool) (a : Act) (w : World), listed.size = ops.size → unlisted listed ≤ fuel → FramedBy ops listed a0 a → Below w0.heap.size w0 w →
      (∀ j, j < ops.size → listed.getD j true = true → V j (a.eval (.tmp (slotAt ops j))) w) → wpAny P .any ops Q fuel listed a w := by
  have hdone : ∀ (listed : Array Bool), listed.size = ops.size → Region.ready .any ops listed = [] → ∀ j, j < ops.size → listed.getD j true = true := by
    intro listed hsz hr j
    induction j using Nat.strongRecOn with
    | ind j ih =>
      intro hj
      cases hb : listed.getD j true with
      | true => rfl
      | false =>
        have ho : ops[j]? = some ops[j] := Array.getElem?_eq_getElem hj
        have hm : j ∈ Region.ready .any ops listed := by
          rw [mem_ready]
          refine ⟨hb, _, ho, fun e he _ => ?_⟩
          have hlt := (tidy_at ht ho).1 e he
          have h1 := ih e.on hlt (by omega)
          have h2 : e.on < listed.size := by omega
          simp only [Array.getD_eq_getD_getElem?, Array.getElem?_eq_getElem h2, Option.getD_some] at h1 ⊢
          exact h1
        rw [hr] at hm
        cases hm
  intro fuel
  induction fuel with
  | zero =>
    intro listed a w hsz hu hf hb hV
    have hall : ∀ j, listed.getD j true = true := by
      intro j
      have h0 : listed.toList.filter (fun b => !b) = [] := List.eq_nil_of_length_eq_zero (by simpa [unlisted] using hu)
      rw [List.filter_eq_nil_iff] at h0
      rcases Nat.lt_or_ge j listed.size with h | h
      · have := h0 listed[j] (by simp)
        simp [h] at this ⊢
        exact this
      · simp [h]
    refine ⟨?_, last a w hf.all hb fun j hj => hV j hj (hall j)⟩
    unfold Region.ready
    rw [List.filter_eq_nil_iff]
    intro j _
    rw [hall j]
    simp
  | succ fuel ih =>
    intro listed a w hsz hu hf hb hV
    refine ⟨fun hr => last a w hf.all hb fun j hj => hV j hj (hdone listed hsz hr j hj), fun i hi => ?_⟩
    obtain ⟨hun, o, ho, hall⟩ := mem_ready.1 hi
    have hilt : i < ops.size := (Array.getElem?_eq_some_iff.1 ho).1
    obtain ⟨hback, d, hd, hdlt, hslot, _⟩ := tidy_at ht ho
    refine wpOp_step ho fun K' hK => ?_
    have hlw : ∀ j, waits o j = true → listed.getD j true = true := by
      intro j hj
      obtain ⟨e, he, hbe⟩ := Array.any_eq_true'.1 hj
      simp only [Bool.and_eq_true, beq_iff_eq] at hbe
      have h1 := hall e he hbe.1
      have h2 := hback e he
      rw [← hbe.2]
      have h3 : e.on < listed.size := by omega
      simp only [Array.getD_eq_getD_getElem?, Array.getElem?_eq_getElem h3, Option.getD_some] at h1 ⊢
      exact h1
    refine steps i hilt o ho a w (hf.at_ hun) hb ?_ K' ?_
    · intro j hj
      obtain ⟨e, he, hbe⟩ := Array.any_eq_true'.1 hj
      simp only [Bool.and_eq_true, beq_iff_eq] at hbe
      have h1 := hall e he hbe.1
      have h2 := hback e he
      rw [← hbe.2]
      refine hV e.on (by omega) ?_
      have h3 : e.on < listed.size := by omega
      simp only [Array.getD_eq_getD_getElem?, Array.getElem?_eq_getElem h3, Option.getD_some] at h1 ⊢
      exact h1
    · intro v w' hw hv
      refine hK _ _ (ih _ _ _ (by simp [hsz]) (by have := unlisted_set hun; omega) (hf.put ho hsz hlw v) (hb.trans (hw.mono hb.size)) fun j hj hl => ?_)
      by_cases hji : j = i
      · subst hji
        have : (a.put o.dst v).eval (.tmp (slotAt ops j)) = v := by
          rw [hslot, hd]
          have hlt : d < a.tmps.size := by rw [hf.size]; exact hdlt
          simp [Act.eval, Act.put, hlt]
        rw [this]
        exact hv
      · have hoj : ops[j]? = some ops[j] := Array.getElem?_eq_getElem hj
        have hne := tidy_ne ht hoj ho hji
        rw [Act.eval_put (by intro d' hd' e; injection e with e; rw [hd] at hd'; injection hd' with hd'; rw [hslot] at hne; exact hne (e.trans hd'.symm))]
        rw [getD_set_ne true (Ne.symm hji)] at hl
        exact hst j _ _ _ hw (hV j hj hl)

/-- THE RULE. -/
theorem wp_region_vals {P : Program} {ops : Array Oper} {Q : Exit → Act → World → Prop} {a0 : Act} {w0 : World} (V : Nat → Value → World → Prop) {id : Nat} (hm : P.follows .mixedOrders = true)
    (ht : tidy ops a0.tmps.size = true) (hst : ∀ i, Stays (V i)) (steps : ∀ i, i < ops.size → StepAt P ops Q a0 w0.drew V i)
    (last : ∀ a w, Framed ops a0 a → Below w0.heap.size w0 w → (∀ j, j < ops.size → V j (a.eval (.tmp (slotAt ops j))) w) → Q .normal a w) :
    (Code.region id ops true).wp P Q a0 w0 := by
  refine wp_region_any hm ?_
  refine wpAny_vals (w0 := w0.drew) ht hst steps (fun a w hf hb hv => last a w hf ((Below.refl _ _).drew.trans hb) hv) _ _ _ _ (by simp) ?_ ?_ (Below.refl _ _) ?_
  · simp [unlisted]
  · refine ⟨rfl, rfl, fun _ _ => rfl, fun j o hj hl => ?_⟩
    have hlt := (Array.getElem?_eq_some_iff.1 hj).1
    simp [hlt] at hl
  · intro j hj hl
    simp [hj] at hl
end Go.Proofs.Ytcjobmbbikfnaac
/-
  WHAT SINGLE OPERATIONS DO, for regions that draw their order (text Vals).
-/
namespace Go.Proofs.Ytcjobmbbikfnaac
open Go.RowKit

/-- the operation makes a value and a world of which R is true, by itself or by a call -/
def Does (P : Program) (o : Oper) (a : Act) (w : World) (R : Value → World → Prop) : Prop :=
  (∃ v w', (execOp a.eval o).run P w = .ok (.value v) w' ∧ R v w') ∨
  ∃ f args w', (execOp a.eval o).run P w = .ok (.enter f args) w' ∧ Calls P f args w' fun e w'' => ∃ r, e = .returned r ∧ R r w''

theorem StepAt.by {P : Program} {ops : Array Oper} {Q : Exit → Act → World → Prop} {a0 : Act} {w0 : World} {V : Nat → Value → World → Prop} {i : Nat} {o : Oper} (ho : ops[i]? = some o)
    (h : ∀ a w, FramedAt ops i a0 a → Below w0.heap.size w0 w → (∀ j, waits o j = true → V j (a.eval (.tmp (slotAt ops j))) w) →
      (Region.wanted o (yielded ops a.tmps) = true ∧ Does P o a w (fun v w' => Below w.heap.size w w' ∧ V i v w')) ∨ (Region.wanted o (yielded ops a.tmps) = false ∧ V i undef w)) : StepAt P ops Q a0 w0 V i := by
  intro o' ho' a w hf hb hd K hK
  have e : o = o' := Option.some.inj (ho.symm.trans ho')
  subst e
  rcases h a w hf hb hd with ⟨hw, hr⟩ | ⟨hw, hv⟩
  · rw [if_pos hw]
    unfold Oper.wp
    rcases hr with ⟨v, w', hr, hb', hv⟩ | ⟨f, args, w', hr, hc⟩
    · rw [hr]
      exact hK.out v w' hb' hv
    · rw [hr]
      refine Calls.mono hc ?_
      rintro e w'' ⟨r, rfl, hb', hv⟩
      exact hK.out r w'' hb' hv
  · rw [hw]
    exact hK.out undef w (Below.refl _ _) hv

/-- function f is the program's own -/
def Enters (P : Program) (f : FuncId) : Prop := ∀ args w, (callFunc f args).run P w = .ok (.enter f args) w
theorem Enters.out {P : Program} {f : FuncId} (h : Enters P f) (args : Array Value) (w : World) : (callFunc f args).run P w = .ok (.enter f args) w := h args w
theorem eval_func (a : Act) (f : FuncId) : a.eval (.func f) = .func (.func f) #[] #[] := rfl
theorem eval_const (a : Act) (v : Value) : a.eval (.const v) = v := rfl
theorem enters_of {P : Program} {f : FuncId} {fn : Func} (hf : P.funcs[f]? = some fn) (hn : (fn.name == "runtime.NumGoroutine") = false) (hb : fn.body.isNone = false) : Enters P f := by
  intro args w
  unfold callFunc
  simp only [Sem.run_bind, run_program, Result.andThen_ok, hf, hn, hb, Bool.false_eq_true, if_false]
  rfl
theorem run_call {P : Program} {ρ : Operand → Value} {w : World} {d : Option Tmp} {ty : TypeId} {pos : String} {af : Array Edge} {g : Option (Nat × Bool)} {f : FuncId} {xs : Array Operand} {us : Array Value} {ts : Array TypeId} (hcf : Enters P f) (hfn : ρ (.func f) = .func (.func f) #[] #[]) (hx : xs.map ρ = us) :
    (execOp ρ ⟨d, .call { callee := .value (.func f), args := xs, argTypes := ts }, ty, pos, af, g⟩).run P w = .ok (.enter f us) w := by
  simp [execOp, resolve, invoke, hcf.out, hfn, hx, go_sem]
theorem run_not {P : Program} {ρ : Operand → Value} {w : World} {d : Option Tmp} {ty : TypeId} {pos : String} {af : Array Edge} {g : Option (Nat × Bool)} {x : Operand} {b : Bool} {t : TypeId} (hx : ρ x = .bool b) : (execOp ρ ⟨d, .unOp .not t x, ty, pos, af, g⟩).run P w = .ok (.value (.bool !b)) w := by
  simp [execOp, hx, go_sem]
theorem run_pick {P : Program} {ρ : Operand → Value} {w : World} {d : Option Tmp} {ty : TypeId} {pos : String} {af : Array Edge} {g : Option (Nat × Bool)} {c x y : Operand} {b : Bool} (hc : ρ c = .bool b) : (execOp ρ ⟨d, .pick c x y, ty, pos, af, g⟩).run P w = .ok (.value (if b then ρ x else ρ y)) w := by
  cases b <;> simp [execOp, hc, go_sem]
theorem run_neqB {ρ : Operand → Value} {w : World} {d : Option Tmp} {ty : TypeId} {pos : String} {af : Array Edge} {g : Option (Nat × Bool)} {x y : Operand} {b c : Bool} (hx : ρ x = .bool b) (hy : ρ y = .bool c) : (execOp ρ ⟨d, .binOp .neq 4 x y 4, ty, pos, af, g⟩).run Try.prog w = .ok (.value (.bool (b != c))) w := by
  simp [execOp, hx, hy, go_sem, bne]
theorem run_neqI {ρ : Operand → Value} {w : World} {d : Option Tmp} {ty : TypeId} {pos : String} {af : Array Edge} {g : Option (Nat × Bool)} {x y : Operand} {b c : Int} (hx : ρ x = .int .i64 b) (hy : ρ y = .int .i64 c) : (execOp ρ ⟨d, .binOp .neq 3 x y 3, ty, pos, af, g⟩).run Try.prog w = .ok (.value (.bool (b != c))) w := by
  simp [execOp, hx, hy, go_sem, bne]
theorem run_load26 {ρ : Operand → Value} {w : World} {d : Option Tmp} {ty : TypeId} {pos : String} {af : Array Edge} {g : Option (Nat × Bool)} {x : Operand} {s : Nat} {v : NV} (hx : ρ x = .pointer (some ⟨s, 0, none⟩)) (hb : Box w s v) : (execOp ρ ⟨d, .load 56 x, ty, pos, af, g⟩).run Try.prog w = .ok (.value v.val) w := by
  obtain ⟨p0, p1, p2, p3, p4, pf, pz⟩ := hb.facts
  simp [execOp, hx, go_sem, p0, p1, p2, p3, p4]
section
variable {P : Program} {ops : Array Oper} {a : Act} {w : World} {R : Value → World → Prop} {d : Option Tmp} {ty : TypeId} {pos : String} {af : Array Edge} {g : Option (Nat × Bool)} {op : Op}
theorem want_none : Region.wanted ⟨d, op, ty, pos, af, none⟩ (yielded ops a.tmps) = true := rfl
theorem want_some {k t : Nat} {b want : Bool} (hk : (ops[k]?).bind (·.dst) = some t) (h : a.eval (.tmp t) = .bool b) : Region.wanted ⟨d, op, ty, pos, af, some (k, want)⟩ (yielded ops a.tmps) = (b == want) := by
  have ht : a.tmps[t]? = some (.bool b) := by
    have h : a.tmps.getD t undef = .bool b := h
    rw [Array.getD_eq_getD_getElem?] at h
    cases hx : a.tmps[t]? with
    | none => rw [hx] at h; cases h
    | some v => rw [hx] at h; exact congrArg some h
  unfold Region.wanted yielded
  simp only [hk, Option.bind_some, ht]
  cases b <;> cases want <;> rfl

theorem does_move {x : Operand} {v : Value} (hx : a.eval x = v) (h : R v w) : Does P ⟨d, .move x, ty, pos, af, g⟩ a w R := .inl ⟨_, _, rfl, by rw [hx]; exact h⟩
theorem does_assign {x : Operand} {v : Value} (hx : a.eval x = v) (h : R v w) : Does P ⟨d, .assign x, ty, pos, af, g⟩ a w R := .inl ⟨_, _, rfl, by rw [hx]; exact h⟩
theorem does_call0 {f : FuncId} {ts : Array TypeId} (hcf : Enters P f) (h : Calls P f #[] w fun e w'' => ∃ r, e = .returned r ∧ R r w'') :
    Does P ⟨d, .call { callee := .value (.func f), args := #[], argTypes := ts }, ty, pos, af, g⟩ a w R := .inr ⟨f, #[], w, run_call hcf rfl (by simp), h⟩
theorem does_call1 {f : FuncId} {x : Operand} {u : Value} {ts : Array TypeId} (hcf : Enters P f) (hx : a.eval x = u) (h : Calls P f #[u] w fun e w'' => ∃ r, e = .returned r ∧ R r w'') :
    Does P ⟨d, .call { callee := .value (.func f), args := #[x], argTypes := ts }, ty, pos, af, g⟩ a w R := .inr ⟨f, #[u], w, run_call hcf rfl (by simp [hx]), h⟩
theorem does_call2 {f : FuncId} {x y : Operand} {u v : Value} {ts : Array TypeId} (hcf : Enters P f) (hx : a.eval x = u) (hy : a.eval y = v) (h : Calls P f #[u, v] w fun e w'' => ∃ r, e = .returned r ∧ R r w'') :
    Does P ⟨d, .call { callee := .value (.func f), args := #[x, y], argTypes := ts }, ty, pos, af, g⟩ a w R := .inr ⟨f, #[u, v], w, run_call hcf rfl (by simp [hx, hy]), h⟩
theorem does_call3 {f : FuncId} {x y z : Operand} {u v t : Value} {ts : Array TypeId} (hcf : Enters P f) (hx : a.eval x = u) (hy : a.eval y = v) (hz : a.eval z = t) (h : Calls P f #[u, v, t] w fun e w'' => ∃ r, e = .returned r ∧ R r w'') :
    Does P ⟨d, .call { callee := .value (.func f), args := #[x, y, z], argTypes := ts }, ty, pos, af, g⟩ a w R := .inr ⟨f, #[u, v, t], w, run_call hcf rfl (by simp [hx, hy, hz]), h⟩
theorem does_not {x : Operand} {b : Bool} {t : TypeId} (hx : a.eval x = .bool b) (h : R (.bool !b) w) : Does P ⟨d, .unOp .not t x, ty, pos, af, g⟩ a w R := .inl ⟨_, _, run_not hx, h⟩
theorem does_pick {c x y : Operand} {b : Bool} {v : Value} (hc : a.eval c = .bool b) (hv : (if b then a.eval x else a.eval y) = v) (h : R v w) : Does P ⟨d, .pick c x y, ty, pos, af, g⟩ a w R := .inl ⟨_, _, run_pick hc, by rw [hv]; exact h⟩
end
theorem does_neqB {a : Act} {w : World} {R : Value → World → Prop} {d : Option Tmp} {ty : TypeId} {pos : String} {af : Array Edge} {g : Option (Nat × Bool)} {x y : Operand} {b c : Bool} (hx : a.eval x = .bool b) (hy : a.eval y = .bool c) (h : R (.bool (b != c)) w) : Does Try.prog ⟨d, .binOp .neq 4 x y 4, ty, pos, af, g⟩ a w R := .inl ⟨_, _, run_neqB hx hy, h⟩
theorem does_neqI {a : Act} {w : World} {R : Value → World → Prop} {d : Option Tmp} {ty : TypeId} {pos : String} {af : Array Edge} {g : Option (Nat × Bool)} {x y : Operand} {b c : Int} (hx : a.eval x = .int .i64 b) (hy : a.eval y = .int .i64 c) (h : R (.bool (b != c)) w) : Does Try.prog ⟨d, .binOp .neq 3 x y 3, ty, pos, af, g⟩ a w R := .inl ⟨_, _, run_neqI hx hy, h⟩
theorem does_load26 {a : Act} {w : World} {R : Value → World → Prop} {d : Option Tmp} {ty : TypeId} {pos : String} {af : Array Edge} {g : Option (Nat × Bool)} {x : Operand} {s : Nat} {v : NV} (hx : a.eval x = .pointer (some ⟨s, 0, none⟩)) (hb : Box w s v) (h : R v.val w) : Does Try.prog ⟨d, .load 56 x, ty, pos, af, g⟩ a w R := .inl ⟨_, _, run_load26 hx hb, h⟩
end Go.Proofs.Ytcjobmbbikfnaac
/-
  WHAT SINGLE OPERATIONS DO, further: fields of an act.
-/
namespace Go.Proofs.Ytcjobmbbikfnaac
open Go.RowKit

section
variable {a : Act} {w : World} {R : Value → World → Prop} {d : Option Tmp} {ty : TypeId} {pos : String} {af : Array Edge} {g : Option (Nat × Bool)}
theorem run_neqE {ρ : Operand → Value} {x y : Operand} {b c : Int} (hx : ρ x = .int .i64 b) (hy : ρ y = .int .i64 c) : (execOp ρ ⟨d, .binOp .neq 44 x y 44, ty, pos, af, g⟩).run Try.prog w = .ok (.value (.bool (b != c))) w := by
  simp [execOp, hx, hy, go_sem, bne]
theorem run_eqE {ρ : Operand → Value} {x y : Operand} {b c : Int} (hx : ρ x = .int .i64 b) (hy : ρ y = .int .i64 c) : (execOp ρ ⟨d, .binOp .eql 44 x y 44, ty, pos, af, g⟩).run Try.prog w = .ok (.value (.bool (b == c))) w := by
  simp [execOp, hx, hy, go_sem]
theorem run_fieldA {ρ : Operand → Value} {x : Operand} {s k : Nat} (hx : ρ x = .pointer (some ⟨s, 0, none⟩)) (hk : k < 7) : (execOp ρ ⟨d, .fieldAddr 43 x k, ty, pos, af, g⟩).run Try.prog w = .ok (.value (.pointer (some ⟨s, k, none⟩))) w := by
  match k, hk with
  | 0, _ => simp [execOp, hx, go_sem]
  | 1, _ => simp [execOp, hx, go_sem]
  | 2, _ => simp [execOp, hx, go_sem]
  | 3, _ => simp [execOp, hx, go_sem]
  | 4, _ => simp [execOp, hx, go_sem]
  | 5, _ => simp [execOp, hx, go_sem]
  | 6, _ => simp [execOp, hx, go_sem]
theorem run_load3 {ρ : Operand → Value} {x : Operand} {p : Addr} {i : Int} (hx : ρ x = .pointer (some p)) (hc : w.cell? p = some (.int .i64 i)) : (execOp ρ ⟨d, .load 3 x, ty, pos, af, g⟩).run Try.prog w = .ok (.value (.int .i64 i)) w := by
  simp [execOp, hx, go_sem, hc]
theorem run_load9 {ρ : Operand → Value} {x : Operand} {p : Addr} {s : ByteArray} (hx : ρ x = .pointer (some p)) (hc : w.cell? p = some (.string s)) : (execOp ρ ⟨d, .load 9 x, ty, pos, af, g⟩).run Try.prog w = .ok (.value (.string s)) w := by
  simp [execOp, hx, go_sem, hc]
theorem does_neqE {x y : Operand} {b c : Int} (hx : a.eval x = .int .i64 b) (hy : a.eval y = .int .i64 c) (h : R (.bool (b != c)) w) : Does Try.prog ⟨d, .binOp .neq 44 x y 44, ty, pos, af, g⟩ a w R := .inl ⟨_, _, run_neqE hx hy, h⟩
theorem does_fieldA {x : Operand} {s k : Nat} (hx : a.eval x = .pointer (some ⟨s, 0, none⟩)) (hk : k < 7) (h : R (.pointer (some ⟨s, k, none⟩)) w) : Does Try.prog ⟨d, .fieldAddr 43 x k, ty, pos, af, g⟩ a w R := .inl ⟨_, _, run_fieldA hx hk, h⟩
theorem does_load3 {x : Operand} {p : Addr} {i : Int} (hx : a.eval x = .pointer (some p)) (hc : w.cell? p = some (.int .i64 i)) (h : R (.int .i64 i) w) : Does Try.prog ⟨d, .load 3 x, ty, pos, af, g⟩ a w R := .inl ⟨_, _, run_load3 hx hc, h⟩
theorem does_load9 {x : Operand} {p : Addr} {s : ByteArray} (hx : a.eval x = .pointer (some p)) (hc : w.cell? p = some (.string s)) (h : R (.string s) w) : Does Try.prog ⟨d, .load 9 x, ty, pos, af, g⟩ a w R := .inl ⟨_, _, run_load9 hx hc, h⟩
end
end Go.Proofs.Ytcjobmbbikfnaac
/-
  THE FRAME behind a region that draws its order, written out.
-/
namespace Go.Proofs.Ytcjobmbbikfnaac
open Go.RowKit

/-- the frame behind a region: slots for which wr is true hold something -/
def overL (wr : Nat → Bool) (a : Act) : Nat → List Value → List Value
  | _, [] => []
  | t, v :: vs => (match wr t with | true => a.eval (.tmp t) | false => v) :: overL wr a (t + 1) vs
theorem overL_len (wr : Nat → Bool) (a : Act) : ∀ (l : List Value) (t : Nat), (overL wr a t l).length = l.length
  | [], _ => rfl
  | _ :: l, t => by simp [overL, overL_len wr a l (t + 1)]
theorem overL_get (wr : Nat → Bool) (a : Act) : ∀ (l : List Value) (t i : Nat) (v : Value), l[i]? = some v → (overL wr a t l)[i]? = some (match wr (t + i) with | true => a.eval (.tmp (t + i)) | false => v)
  | [], _, _, _, h => by cases h
  | x :: l, t, 0, v, h => by
    simp at h
    subst h
    simp [overL]
  | x :: l, t, i + 1, v, h => by
    simp only [List.getElem?_cons_succ] at h
    have := overL_get wr a l (t + 1) i v h
    simp only [overL, List.getElem?_cons_succ]
    rw [this, show t + 1 + i = t + (i + 1) by omega]
theorem Framed.lit {ops : Array Oper} {a0 a : Act} (hf : Framed ops a0 a) (wr : Nat → Bool) (hw : (ops.all fun o => match o.dst with | some d => wr d | none => true) = true) : a = ⟨(overL wr a 0 a0.tmps.toList).toArray, a0.defers⟩ := by
  have hs : a.tmps = (overL wr a 0 a0.tmps.toList).toArray := by
    apply Array.ext_getElem?
    intro i
    have hr : (overL wr a 0 a0.tmps.toList).toArray[i]? = (overL wr a 0 a0.tmps.toList)[i]? := by simp
    rw [hr]
    rcases Nat.lt_or_ge i a0.tmps.size with hi | hi
    · have h0 : a0.tmps.toList[i]? = some a0.tmps[i] := by rw [Array.getElem?_toList]; exact Array.getElem?_eq_getElem hi
      rw [overL_get wr a _ 0 i _ h0, Nat.zero_add]
      have hi' : i < a.tmps.size := by rw [hf.size]; exact hi
      have hev : a.eval (.tmp i) = a.tmps[i] := by simp [Act.eval, hi']
      rw [Array.getElem?_eq_getElem hi']
      cases hwi : wr i with
      | true => rw [← hev]
      | false =>
        have hap : apart ops i = true := by
          unfold apart
          rw [Array.all_eq_true_iff_forall_mem] at hw ⊢
          intro o ho
          have := hw o ho
          cases hd : o.dst with
          | none => rfl
          | some d =>
            rw [hd] at this
            simp only at this
            simp only [bne_iff_ne, ne_eq, Option.some.injEq]
            intro e
            subst e
            rw [hwi] at this
            cases this
        have := hf.keeps i hap
        rw [hev] at this
        rw [this]
        simp [Act.eval, hi]
    · rw [Array.getElem?_eq_none (by rw [hf.size]; exact hi), List.getElem?_eq_none (by rw [overL_len]; simpa using hi)]
  have hd := hf.defers
  cases a
  simp only at hs hd
  subst hd
  rw [Act.mk.injEq]
  exact ⟨hs, rfl⟩

end Go.Proofs.Ytcjobmbbikfnaac
/-
  THE REFERENCE's Apply: a tree's map as it is counted; what is asked, and answered.
-/
namespace Go.Proofs.Ytcjobmbbikfnaac
open Go.RowKit

theorem nodup_le {α : Type} [DecidableEq α] : ∀ {l m : List α}, l.Nodup → (∀ a ∈ l, a ∈ m) → l.length ≤ m.length
  | [], _, _, _ => Nat.zero_le _
  | a :: l, m, hn, hs => by
    rw [List.nodup_cons] at hn
    have ha : a ∈ m := hs a List.mem_cons_self
    have h1 : l.length ≤ (m.erase a).length := nodup_le hn.2 fun b hb => by
      rw [List.mem_erase_of_ne (fun e => hn.1 (by rw [← e]; exact hb))]
      exact hs b (List.mem_cons_of_mem _ hb)
    rw [List.length_erase_of_mem ha] at h1
    have := List.length_pos_of_mem ha
    simp only [List.length_cons]
    omega
/-- the keys of entries that hold numbers alone -/
def keyI (e : MapEntry) : Int := match e.key with | .int _ k => k | _ => 0
theorem rs_nodup {xs : List M.Nd} (h : M.RsN xs) : (xs.map (·.fid)).Nodup := List.Pairwise.imp (fun {a b} hab e => by subst e; simp [M.ltI] at hab) h
/-- a map counts as many as the tree has -/
theorem TMap.count {w : World} {bm : Nat} {xs : List M.Nd} (h : TMap w bm xs) (hr : M.RsN xs) : ∃ (es : Array MapEntry) (clock : Nat), w.heap[bm]? = some (.map es clock) ∧ es.size = xs.length := by
  obtain ⟨f, ⟨es, clock, hb, hh, hn, hcl⟩, ha⟩ := h
  refine ⟨es, clock, hb, ?_⟩
  have hk : ∀ e ∈ es.toList, e.key = .int .i64 (keyI e) ∧ f (keyI e) = some e.val := fun e he => by
    obtain ⟨k, h1, h2⟩ := hh.key e he
    have : keyI e = k := by unfold keyI; rw [h1]
    rw [this]; exact ⟨h1, h2⟩
  have hnd : (es.toList.map keyI).Nodup := by
    rw [List.nodup_iff_pairwise_ne, List.pairwise_map]
    refine List.Pairwise.imp_of_mem ?_ hh.one
    intro a b ha2 hb2 hab e
    apply hab
    rw [(hk a ha2).1, (hk b hb2).1, e]
  have h1 : (es.toList.map keyI).length ≤ (xs.map (·.fid)).length := nodup_le hnd fun k hkm => by
    obtain ⟨e, he, rfl⟩ := List.mem_map.1 hkm
    rcases ha (keyI e) with ⟨q1, _⟩ | ⟨v, x, _, q2, _⟩
    · rw [(hk e he).2] at q1; cases q1
    · have := M.find_mem q2
      exact List.mem_map.2 ⟨x, this.1, this.2⟩
  have h2 : (xs.map (·.fid)).length ≤ (es.toList.map keyI).length := nodup_le (rs_nodup hr) fun k hkm => by
    obtain ⟨x, hx, rfl⟩ := List.mem_map.1 hkm
    rcases ha x.fid with ⟨_, q2⟩ | ⟨v, y, q1, _, _⟩
    · exact absurd q2 (by
        intro hf
        unfold M.find at hf
        rw [List.find?_eq_none] at hf
        exact hf x hx (by simp))
    · obtain ⟨e, he, h3, h4⟩ := hh.all _ _ q1
      refine List.mem_map.2 ⟨e, he, ?_⟩
      unfold keyI; rw [h3]
  simp only [List.length_map] at h1 h2
  simp at h1 h2
  omega
/-- a node's map; a map of a tree; a node -/
def IsMp (xs : List M.Nd) : Value → World → Prop := fun v W => ∃ b, v = .map (some b) ∧ TMap W b xs
theorem isMp_below {xs : List M.Nd} {v : Value} {W W' : World} (hb : Below W.heap.size W W') (h : IsMp xs v W) : IsMp xs v W' := by
  obtain ⟨b, e, ht⟩ := h
  exact ⟨b, e, ht.below (Nat.le_refl _) hb⟩
def IsNd (x : M.Nd) : Value → World → Prop := fun v W => ∃ v' : NV, v = v'.val ∧ Cont W v' x
theorem isNd_below {x : M.Nd} {v : Value} {W W' : World} (hb : Below W.heap.size W W') (h : IsNd x v W) : IsNd x v W' := by
  obtain ⟨v', e, hc⟩ := h
  exact ⟨v', e, hc.below (Nat.le_refl _) hb⟩
/-- what the reference's Apply answers -/
def AppliedM (w : World) (spec : Int × List M.Nd) (e : Ending) (w' : World) : Prop :=
  Below w.heap.size w w' ∧ ∃ m, e = .returned (.tuple #[.map m, .int .i64 spec.1]) ∧ ((spec.1 = 0 ∧ ∃ bm, m = some bm ∧ TMap w' bm spec.2) ∨ (spec.1 ≠ 0 ∧ m = none))
theorem AppliedM.no {w w' : World} {s : Int × List M.Nd} {k : Int} (h : s.1 = k) (hk : k ≠ 0) (hb : Below w.heap.size w w') : AppliedM w s (.returned (.tuple #[.map none, .int .i64 k])) w' := by
  subst h; exact ⟨hb, none, rfl, .inr ⟨hk, rfl⟩⟩
theorem AppliedM.yes {w w' : World} {s : Int × List M.Nd} {ys : List M.Nd} {bm : Nat} (h : s = (0, ys)) (ht : TMap w' bm ys) (hb : Below w.heap.size w w') : AppliedM w s (.returned (.tuple #[.map (some bm), .int .i64 0])) w' := by
  subst h; exact ⟨hb, some bm, rfl, .inl ⟨rfl, bm, rfl, ht⟩⟩
/-- an act in a box, and a version -/
def ApW (w : World) (a : AV) (ver : Int) (W : World) : Prop := Below w.heap.size w W ∧ BoxA W w.heap.size a ∧ W.heap[w.heap.size + 1]? = some (.cells #[.int .i64 ver] 3 (0, 0))
theorem apw_start (w : World) (a : AV) (ver : Int) : ∀ W, W = (w.alloc (.cells #[.int .i64 a.kind, .int .i64 a.fid, .int .i64 a.dir, .string a.name, .int .i64 a.to, .string a.toName, .slice a.dA a.dn a.dc] 43)).alloc (.cells #[.int .i64 ver] 3) → ApW w a ver W := by
  rintro W rfl
  refine ⟨((Below.refl _ _).alloc (Nat.le_refl _) _).alloc (by simp) _, (BoxA.new w a).alloc _, ?_⟩
  have := heap_alloc_new (w.alloc (.cells #[.int .i64 a.kind, .int .i64 a.fid, .int .i64 a.dir, .string a.name, .int .i64 a.to, .string a.toName, .slice a.dA a.dn a.dc] 43)) (.cells #[.int .i64 ver] 3)
  simpa using this
theorem ApW.next {w W W' : World} {a : AV} {ver : Int} (h : ApW w a ver W) (hb : Below W.heap.size W W') : ApW w a ver W' := by
  have hz : w.heap.size + 1 < W.heap.size := lt_of_block h.2.2
  exact ⟨h.1.trans (hb.mono h.1.size), h.2.1.below hb (lt_of_block h.2.1), by rw [hb.block _ hz]; exact h.2.2⟩
theorem ApW.ver {w W : World} {a : AV} {ver : Int} (h : ApW w a ver W) : W.cell? ⟨w.heap.size + 1, 0, none⟩ = some (.int .i64 ver) := by simp [World.cell?, h.2.2]
end Go.Proofs.Ytcjobmbbikfnaac
/-
  NODES WHOSE LISTS STAY: each lies in memory that was there at the start, or in a block of bytes, or of entries; so it stays while others are written.
-/
namespace Go.Proofs.Ytcjobmbbikfnaac
open Go.RowKit
open Go.ChangeMaps (setBlock)

/-- where the memory ends that was there at the start -/
structure BaseN where
  n : Nat
def kbase [Inhabited BaseN] : Nat := (default : BaseN).n
section
variable [Inhabited BaseN]
/-- a list lies there, or in a block of its type -/
def Lies (w : World) (A : Option Addr) (n : Nat) (e : TypeId) : Prop := n = 0 ∨ ∃ b o, A = some ⟨b, o, none⟩ ∧ b < w.heap.size ∧ (b < kbase ∨ ∃ cur, w.heap[b]? = some (.cells cur e (0, 0)))
theorem Lies.keep {w w' : World} {A : Option Addr} {n : Nat} {e : TypeId} (h : Lies w A n e) (hs : w.heap.size ≤ w'.heap.size) (hk : KeepE e w w') : Lies w' A n e := by
  rcases h with h | ⟨b, o, e1, hb, h⟩
  · exact .inl h
  · refine .inr ⟨b, o, e1, by omega, h.imp id fun ⟨cur, h⟩ => ⟨cur, hk b cur h⟩⟩
theorem Lies.below {B : Nat} {w w' : World} {A : Option Addr} {n : Nat} {e : TypeId} (h : Lies w A n e) (hB : w.heap.size ≤ B) (hb : Below B w w') : Lies w' A n e := h.keep hb.size (.below hb hB)
theorem Lies.none (w : World) (A : Option Addr) (e : TypeId) : Lies w A 0 e := .inl rfl
theorem Lies.own {w : World} {B : Nat} {e : TypeId} {k : Nat} {A : Option Addr} {n c : Nat} {xs : List Value} (h : w.ownsRow B e k (.slice A n c) n xs) : Lies w A n e := by
  rcases h.2 with ⟨h1, h2⟩ | ⟨g, cap, cur, e1, h1, hg, _⟩
  · exact .inl h2
  · cases e1
    exact .inr ⟨g, 0, rfl, lt_of_block hg, .inr ⟨cur, hg⟩⟩
theorem Lies.old {α : Type} {k : Nat} {cs : α → List Value} {w : World} {A : Option Addr} {n : Nat} {vs : List α} (h : Row k cs w A n vs) (hk : w.heap.size ≤ kbase) (e : TypeId) : Lies w A n e := by
  rcases h.2 with h1 | ⟨b, o, e1, hb, _⟩
  · left; rw [h.1, h1]; rfl
  · exact .inr ⟨b, o, e1, hb, .inl (by omega)⟩
theorem Row.keep {α : Type} {k : Nat} {cs : α → List Value} {w w' : World} {A : Option Addr} {n : Nat} {vs : List α} {e : TypeId} (h : Row k cs w A n vs) (hl : Lies w A n e) (hb : Below kbase w w') (hk : KeepE e w w') : Row k cs w' A n vs := by
  refine ⟨h.1, ?_⟩
  rcases h.2 with h1 | ⟨b, o, e1, hlt, hc⟩
  · exact .inl h1
  · rcases hl with h0 | ⟨b', o', e2, _, h3⟩
    · left; exact List.eq_nil_of_length_eq_zero (by rw [← h.1]; exact h0)
    · rw [e1] at e2
      cases e2
      have hh : w'.heap[b]? = w.heap[b]? := by
        rcases h3 with h3 | ⟨cur, h3⟩
        · exact hb.block b h3
        · rw [h3]; exact hk b cur h3
      refine .inr ⟨b, o, e1, by have := hb.size; omega, fun j v hv i c hi => ?_⟩
      have := hc j v hv i c hi
      unfold World.cell? at this ⊢
      rw [hh]
      exact this
/-- a node, and where its lists lie -/
def ContK (w : World) (v : NV) (x : M.Nd) : Prop := Cont w v x ∧ Lies w v.dA v.dn 5 ∧ Lies w v.eA v.en 58
theorem ContK.below {B : Nat} {w w' : World} {v : NV} {x : M.Nd} (h : ContK w v x) (hB : w.heap.size ≤ B) (hb : Below B w w') : ContK w' v x := ⟨h.1.below hB hb, h.2.1.below hB hb, h.2.2.below hB hb⟩
theorem ContK.keep {w w' : World} {v : NV} {x : M.Nd} (h : ContK w v x) (hb : Below kbase w w') (h5 : KeepE 5 w w') (hE : KeepE 58 w w') : ContK w' v x :=
  ⟨⟨h.1.1, h.1.2.1, h.1.2.2.1, h.1.2.2.2.1.keep h.2.1 hb h5, h.1.2.2.2.2.keep h.2.2 hb hE⟩, h.2.1.keep hb.size h5, h.2.2.keep hb.size hE⟩
theorem ContK.old {w : World} {v : NV} {x : M.Nd} (h : Cont w v x) (hk : w.heap.size ≤ kbase) : ContK w v x := ⟨h, .old h.2.2.2.1 hk 5, .old h.2.2.2.2 hk 58⟩
def AgreeK (w : World) (f : Int → Option Value) (xs : List M.Nd) : Prop :=
  ∀ k, (f k = none ∧ M.find xs k = none) ∨ ∃ (v : NV) (x : M.Nd), f k = some v.val ∧ M.find xs k = some x ∧ ContK w v x
theorem AgreeK.below {B : Nat} {w w' : World} {f : Int → Option Value} {xs : List M.Nd} (h : AgreeK w f xs) (hB : w.heap.size ≤ B) (hb : Below B w w') : AgreeK w' f xs := fun k =>
  (h k).imp id fun ⟨v, x, h1, h2, h3⟩ => ⟨v, x, h1, h2, h3.below hB hb⟩
theorem AgreeK.weak {w : World} {f : Int → Option Value} {xs : List M.Nd} (h : AgreeK w f xs) : Agree w f xs := fun k =>
  (h k).imp id fun ⟨v, x, h1, h2, h3⟩ => ⟨v, x, h1, h2, h3.1⟩
def TMapK (w : World) (b : Nat) (xs : List M.Nd) : Prop := ∃ f, IMap w b f ∧ AgreeK w f xs
theorem TMapK.below {B : Nat} {w w' : World} {b : Nat} {xs : List M.Nd} (h : TMapK w b xs) (hB : w.heap.size ≤ B) (hb : Below B w w') : TMapK w' b xs := by
  obtain ⟨f, h1, h2⟩ := h
  exact ⟨f, h1.below hB hb, h2.below hB hb⟩
theorem TMapK.weak {w : World} {b : Nat} {xs : List M.Nd} (h : TMapK w b xs) : TMap w b xs := by
  obtain ⟨f, h1, h2⟩ := h
  exact ⟨f, h1, h2.weak⟩
/-- it stays while neither it, nor bytes, nor entries are written -/
theorem TMapK.keep {w w' : World} {b : Nat} {xs : List M.Nd} (h : TMapK w b xs) (hm : w'.heap[b]? = w.heap[b]?) (hb : Below kbase w w') (h5 : KeepE 5 w w') (hE : KeepE 58 w w') : TMapK w' b xs := by
  obtain ⟨f, h1, h2⟩ := h
  exact ⟨f, h1.same hm, fun k => (h2 k).imp id fun ⟨v, x, e1, e2, e3⟩ => ⟨v, x, e1, e2, e3.keep hb h5 hE⟩⟩
theorem TMapK.old {w : World} {b : Nat} {xs : List M.Nd} {w0 : World} (h : TMap w b xs) (hx : ∀ f, IMap w b f → Agree w f xs → AgreeK w0 f xs) (hw : w = w0) : TMapK w b xs := by
  subst hw
  obtain ⟨f, h1, h2⟩ := h
  exact ⟨f, h1, hx f h1 h2⟩
theorem TMapK.count {w : World} {bm : Nat} {xs : List M.Nd} (h : TMapK w bm xs) (hr : M.RsN xs) : ∃ (es : Array MapEntry) (clock : Nat), w.heap[bm]? = some (.map es clock) ∧ es.size = xs.length := h.weak.count hr
theorem agreeK_upd {w : World} {f : Int → Option Value} {xs ys : List M.Nd} {v : NV} {x : M.Nd} (h : AgreeK w f xs) (hc : ContK w v x) (hf : ∀ k, M.find ys k = if k = x.fid then some x else M.find xs k) : AgreeK w (updF f v.fid v.val) ys := by
  intro k
  rw [hf k]
  unfold updF
  rw [hc.1.1]
  by_cases hk : k = x.fid
  · rw [if_pos hk, if_pos hk]; exact .inr ⟨v, x, rfl, rfl, hc⟩
  · rw [if_neg hk, if_neg hk]; exact h k
theorem IMap.askK {w : World} {bm : Nat} {xs : List M.Nd} (h : TMapK w bm xs) (k : Int) :
    (M.find xs k = none ∧ ∀ ok : Bool, (Instr.lookup 30 (.map (some bm)) (.int .i64 k) ok).run Try.prog w = .ok (if ok then .tuple #[NV.zero.val, .bool false] else NV.zero.val) w) ∨
    ∃ (v : NV) (x : M.Nd), M.find xs k = some x ∧ ContK w v x ∧ ∀ ok : Bool, (Instr.lookup 30 (.map (some bm)) (.int .i64 k) ok).run Try.prog w = .ok (if ok then .tuple #[v.val, .bool true] else v.val) w := by
  obtain ⟨f, hi, ha⟩ := h
  rcases ha k with ⟨h1, h2⟩ | ⟨v, x, h1, h2, h3⟩
  · refine .inl ⟨h2, fun ok => ?_⟩
    rw [run_lookup_map 30 56 Try.underlying30 (zero26 w) hi k ok, h1]
    rfl
  · refine .inr ⟨v, x, h2, h3, fun ok => ?_⟩
    rw [run_lookup_map 30 56 Try.underlying30 (zero26 w) hi k ok, h1]
    rfl
end
end Go.Proofs.Ytcjobmbbikfnaac
