/-
  PACKAGE wire: Parse.
-/
import Derived.Test.YtckfodpkckmkbacDoorWfieldq
namespace Go.Proofs.YtckfodpkckmkbacDoor
open Go.RowKit

theorem cutB_len (s : ByteArray) : (M.cutB s).length = Lib.countB s ⟨#[32]⟩ + 1 := Lib.splitB_all ⟨#[32]⟩ (by decide) 0 _ s rfl
theorem cutB_le (s : ByteArray) : (M.cutB s).length ≤ s.size + 1 := by
  rw [cutB_len]
  have := Lib.countB_le ⟨#[32]⟩ (by decide) s.size s (Nat.le_refl _)
  omega
theorem cutB_sz (s : ByteArray) : ∀ x ∈ M.cutB s, x.size ≤ s.size := by
  intro x hx
  have := M.cutL_len 32 s.data.toList x.data.toList (by rw [← M.cutB_map]; exact List.mem_map.2 ⟨x, hx, rfl⟩)
  rwa [len_data, len_data] at this
theorem split_any (s : ByteArray) (w : World) (hs : s.size < 4294967281) (he : Env w) :
    Calls Tryd.prog 25 #[.string s, .string ⟨#[32]⟩] w fun e w' => e = .returned (.slice (some ⟨w.heap.size, 0, none⟩) (M.cutB s).length (M.cutB s).length) ∧ w' = w.alloc (.cells ((M.cutB s).map Value.string).toArray 9) := by
  obtain ⟨m, hm⟩ := he.max
  rw [cutB_len]
  exact Tryd.strings_Split s ⟨#[32]⟩ m w hs hm (by decide)
theorem PaW.start (w : World) (y : ByteArray) (ys : List ByteArray) (k : Int) (o : Nat) (ho : 0 < ys.length → o = 1) : PaW w (((((((( w.alloc (.cells #[.int .i64 0, .int .i64 0, .int .i64 0, .string ⟨#[]⟩, .int .i64 0, .string ⟨#[]⟩, .slice none 0 0, .int .i64 0, .int .i64 0] 37)).alloc (.cells (Value.string y :: List.map Value.string ys).toArray 9)).alloc (.cells #[.int .i64 k, .int .i64 0, .int .i64 0, .string ⟨#[]⟩, .int .i64 0, .string ⟨#[]⟩, .slice none 0 0, .int .i64 0, .int .i64 0] 37)).alloc (.cells #[.slice (some ⟨w.heap.size + 1, o, none⟩) ys.length ys.length] 52)).alloc (.cells #[.bool true] 4)).alloc (.cells #[.bool true] 4)).alloc (.cells #[fCheck w] 67)).alloc (.cells #[fNext w] 47)) (y :: ys) (cells0 k) (.slice none 0 0) [] ⟨ys, true, true⟩ := by
  obtain ⟨os, hos⟩ : ∃ os : List Obj, os = [.cells #[.int .i64 0, .int .i64 0, .int .i64 0, .string ⟨#[]⟩, .int .i64 0, .string ⟨#[]⟩, .slice none 0 0, .int .i64 0, .int .i64 0] 37, .cells (Value.string y :: List.map Value.string ys).toArray 9, .cells #[.int .i64 k, .int .i64 0, .int .i64 0, .string ⟨#[]⟩, .int .i64 0, .string ⟨#[]⟩, .slice none 0 0, .int .i64 0, .int .i64 0] 37, .cells #[.slice (some ⟨w.heap.size + 1, o, none⟩) ys.length ys.length] 52, .cells #[.bool true] 4, .cells #[.bool true] 4, .cells #[fCheck w] 67, .cells #[fNext w] 47] := ⟨_, rfl⟩
  have key : PaW w (allocs w os) (y :: ys) (cells0 k) (.slice none 0 0) [] ⟨ys, true, true⟩ := by
    refine ⟨allocs_below os _ _ _ (Below.refl _ _) (Nat.le_refl _), ?_, ?_, ?_, ⟨1, o, ⟨by simp, fun h => ho (by simpa using h)⟩, rfl, ?_⟩, ?_, ?_, ?_, ?_, ⟨0, World.ownsRow_nil _ _ _ _⟩⟩
    · exact allocs_at os w 0 _ (by rw [hos]; rfl)
    · exact allocs_at os w 1 _ (by rw [hos]; rfl)
    · exact allocs_at os w 2 _ (by rw [hos]; rfl)
    · exact allocs_at os w 3 _ (by rw [hos]; rfl)
    · exact allocs_at os w 4 _ (by rw [hos]; rfl)
    · exact allocs_at os w 5 _ (by rw [hos]; rfl)
    · exact allocs_at os w 6 _ (by rw [hos]; rfl)
    · exact allocs_at os w 7 _ (by rw [hos]; rfl)
  rw [hos] at key
  exact key
/-- a record is stored over another one -/
abbrev overR (w : World) (b : Nat) (r : RV) : World := ((((((((w.setCell ⟨b, 0, none⟩ (.int .i64 r.a.kind)).setCell ⟨b, 1, none⟩ (.int .i64 r.a.fid)).setCell ⟨b, 2, none⟩ (.int .i64 r.a.dir)).setCell ⟨b, 3, none⟩ (.string r.a.name)).setCell ⟨b, 4, none⟩ (.int .i64 r.a.to)).setCell ⟨b, 5, none⟩ (.string r.a.toName)).setCell ⟨b, 6, none⟩ (.slice r.a.dA r.a.dn r.a.dc)).setCell ⟨b, 7, none⟩ (.int .i64 r.ver)).setCell ⟨b, 8, none⟩ (.int .i64 r.id)
theorem BoxR.over {w : World} {b : Nat} {q : RV} (r : RV) (h : BoxR w b q) : BoxR (overR w b r) b r := by
  unfold BoxR at h ⊢
  unfold overR
  have h0 := heap_setCell_same _ b 0 _ _ (.int .i64 r.a.kind) h
  simp only [List.setIfInBounds_toArray, List.set_cons_zero] at h0
  have h1 := heap_setCell_same _ b 1 _ _ (.int .i64 r.a.fid) h0
  simp only [List.setIfInBounds_toArray, List.set_cons_zero, List.set_cons_succ] at h1
  have h2 := heap_setCell_same _ b 2 _ _ (.int .i64 r.a.dir) h1
  simp only [List.setIfInBounds_toArray, List.set_cons_zero, List.set_cons_succ] at h2
  have h3 := heap_setCell_same _ b 3 _ _ (.string r.a.name) h2
  simp only [List.setIfInBounds_toArray, List.set_cons_zero, List.set_cons_succ] at h3
  have h4 := heap_setCell_same _ b 4 _ _ (.int .i64 r.a.to) h3
  simp only [List.setIfInBounds_toArray, List.set_cons_zero, List.set_cons_succ] at h4
  have h5 := heap_setCell_same _ b 5 _ _ (.string r.a.toName) h4
  simp only [List.setIfInBounds_toArray, List.set_cons_zero, List.set_cons_succ] at h5
  have h6 := heap_setCell_same _ b 6 _ _ (.slice r.a.dA r.a.dn r.a.dc) h5
  simp only [List.setIfInBounds_toArray, List.set_cons_zero, List.set_cons_succ] at h6
  have h7 := heap_setCell_same _ b 7 _ _ (.int .i64 r.ver) h6
  simp only [List.setIfInBounds_toArray, List.set_cons_zero, List.set_cons_succ] at h7
  have h8 := heap_setCell_same _ b 8 _ _ (.int .i64 r.id) h7
  simp only [List.setIfInBounds_toArray, List.set_cons_zero, List.set_cons_succ] at h8
  exact h8
theorem below_over {w0 w : World} {r : RV} (h : Below w0.heap.size w0 w) : Below w0.heap.size w0 (overR w w0.heap.size r) :=
  ((((((((h.setCell (Nat.le_refl _) _).setCell (Nat.le_refl _) _).setCell (Nat.le_refl _) _).setCell (Nat.le_refl _) _).setCell (Nat.le_refl _) _).setCell (Nat.le_refl _) _).setCell (Nat.le_refl _) _).setCell (Nat.le_refl _) _).setCell (Nat.le_refl _) _
theorem parse_results (tmps : Array Value) (W : World) (b : Nat) (r : RV) (c : Value) (h : BoxR W b r) (h2 : tmps.getD 2 undef = .pointer (some ⟨b, 0, none⟩)) (h3 : tmps.getD 3 undef = c) :
    (results Tryd.f10 tmps).run Tryd.prog W = .ok (.tuple #[r.val, c]) W := by
  obtain ⟨e0, e1, e2, e3, e4, e5, e6, e7, e8, ef, ez⟩ := h.facts
  simp only [Array.getD_eq_getD_getElem?] at h2 h3
  simp [results, Tryd.results10, go_sem, h2, h3, e0, e1, e2, e3, e4, e5, e6, e7, e8]
theorem own_over {w : World} {b B : Nat} {q r : RV} {v : Value} {n : Nat} {L : List Value} (h : w.ownsRow B 5 1 v n L) (hb : BoxR w b q) : (overR w b r).ownsRow B 5 1 v n L := by
  have hne : v.ownBlock ≠ some b := own_ne h hb (by decide)
  exact ownsRow_setCell_other (ownsRow_setCell_other (ownsRow_setCell_other (ownsRow_setCell_other (ownsRow_setCell_other (ownsRow_setCell_other (ownsRow_setCell_other (ownsRow_setCell_other (ownsRow_setCell_other h hne _) hne _) hne _) hne _) hne _) hne _) hne _) hne _) hne _
theorem own_n {w : World} {B : Nat} {A : Option Addr} {m c n : Nat} {L : List Value} (h : w.ownsRow B 5 1 (.slice A m c) n L) : w.ownsRow B 5 1 (.slice A m c) m L := by
  obtain ⟨A', c', e, _⟩ := own_form h
  cases e; exact h
/-- what Parse answers -/
def ParsesTo (s : ByteArray) (w : World) (e : Ending) (w' : World) : Prop :=
  ∃ r : RV, e = .returned (.tuple #[r.val, .int .i64 (M.parseS s).1]) ∧ OwnR w' w.heap.size r (M.parseS s).2 ∧ Below w.heap.size w w'
set_option maxRecDepth 8000 in
set_option maxHeartbeats 2000000 in
theorem parse_any (s : ByteArray) (w : World) (hs : s.size < 4294967281) (he : Env w) :
    Calls Tryd.prog 10 #[.string s] w (ParsesTo s w) := by
  obtain ⟨y, ys, hxs⟩ : ∃ y ys, M.cutB s = y :: ys := by
    cases e : M.cutB s with
    | nil => have := cutB_len s; rw [e] at this; simp at this
    | cons y ys => exact ⟨y, ys, rfl⟩
  have HX : Hid (M.cutB s = y :: ys) := hxs
  have HI : Hid (PaIn w (y :: ys)) := by
    refine ⟨he, ?_, fun x hx => ?_⟩
    · have := cutB_le s; rw [hxs] at this; omega
    · have := cutB_sz s x (by rw [hxs]; exact hx); omega
  have HE : Hid (Env w) := he
  clear hxs he
  by_cases hk : M.kindS y = 0
  · have HR : Hid (M.parseS s = (1, M.rec0)) := by
      show _ = _
      unfold M.parseS
      rw [HX.out, List.headD_cons, if_pos hk]
    have hq : (M.kindS y == 0) = true := by rw [hk]; rfl
    clear hk
    go_enter Tryd.func10, Tryd.ntmps10
    go_wp2_with (first
      | (go_at_call 25; refine (split_any s _ hs (HE.out.below HE.out.g ((Below.refl _ w).alloc (Nat.le_refl _) _))).mono ?_; rintro e w1 ⟨rfl, hw⟩; rw [hw, HX.out]; clear hw)
      | (go_at_call 26; refine (kindOf_any y _).mono ?_; rintro e w2 ⟨rfl, hw⟩; rw [hw]; clear hw))
    refine bodyPost_ret (v := .tuple #[RV.val ⟨AV.zero, 0, 0⟩, .int .i64 1]) (by simp [results, Tryd.results10, go_sem, AV.zero]) rfl ?_
    refine ⟨⟨AV.zero, 0, 0⟩, by rw [HR.out], ?_, ?_⟩
    · rw [HR.out]
      exact ⟨⟨rfl, rfl, rfl, rfl, rfl, rfl, World.ownsRow_nil _ _ _ _⟩, rfl, rfl⟩
    · exact (((Below.refl _ w).alloc (Nat.le_refl _) _).alloc (by simp) _).alloc (by simp; omega) _
  · have hq : (M.kindS y == 0) = false := by rw [beq_eq_false_iff_ne]; exact hk
    have HQ : Hid (∀ F, M.fieldsS ⟨ys, true, true⟩ (M.kindS y) = F → M.parseS s = if (F.2.ok && F.2.rest.isEmpty) = false then (2, M.rec0) else if F.2.named = false then (7, M.rec0) else (0, F.1)) := by
      intro F hF
      unfold M.parseS
      rw [HX.out, List.headD_cons, List.tail_cons, hF, if_neg hk]
    clear hk
    rcases ys with _ | ⟨z, zs⟩
    all_goals
      go_enter Tryd.func10, Tryd.ntmps10
      go_wp2_with (first
        | (go_at_call 25; refine (split_any s _ hs (HE.out.below HE.out.g ((Below.refl _ w).alloc (Nat.le_refl _) _))).mono ?_; rintro e w1 ⟨rfl, hw⟩; rw [hw, HX.out]; clear hw)
        | (go_at_call 26; refine (kindOf_any y _).mono ?_; rintro e w2 ⟨rfl, hw⟩; rw [hw]; clear hw))
      first
      | refine (fieldsQ_any w _ (y :: z :: zs) (M.kindS y) ⟨z :: zs, true, true⟩ (PaW.start w y (z :: zs) (M.kindS y) 1 (fun _ => rfl)) HI.out).mono ?_
      | refine (fieldsQ_any w _ [y] (M.kindS y) ⟨[], true, true⟩ (PaW.start w y [] (M.kindS y) 0 (fun h => absurd h (by simp))) HI.out).mono ?_
      rintro e w3 ⟨r, rfl, hp, hv⟩
      generalize hF : M.fieldsS _ _ = F at hp hv
      have HG : Hid (M.parseS s = if (F.2.ok && F.2.rest.isEmpty) = false then (2, M.rec0) else if F.2.named = false then (7, M.rec0) else (0, F.1)) := HQ.out F hF
      clear hF HQ
      obtain ⟨k, o, _, k2, k3⟩ := hp.rs
      have k4 := congrArg List.length k2
      rw [List.length_drop] at k4
      rw [← k4] at k3
      obtain ⟨c3, _, _⟩ := cell_of k3
      obtain ⟨c6, _, _⟩ := cell_of hp.ck
      have hm : ((F.2.rest.length : Int) == 0) = F.2.rest.isEmpty := by cases F.2.rest <;> simp <;> omega
      have HP : Hid (PaW _ _ _ _ _ _ _) := hp
      have HV : Hid (SameV r F.1) := hv
      clear hp k2 k3 k4 hv
      go_wp2_with (fail)
      refine (check_any w _ _ _ _ _ F.2 _ HP.out).mono ?_
      rintro e w4 ⟨rfl, hp⟩
      have HP4 : Hid (PaW _ _ _ _ _ _ _) := hp
      obtain ⟨c4, _, _⟩ := cell_of hp.fm
      obtain ⟨c5, _, _⟩ := cell_of hp.nb
      obtain ⟨d0, d1, d2, d3, d4, d5, d6, d7, d8, df, dz⟩ := hp.res.facts
      obtain ⟨e0, e1, e2, e3, e4, e5, e6, e7, e8, ef, ez⟩ := BoxR.facts hp.bx
      clear hp HP c3 c6 hm
      cases hb : (F.2.ok && F.2.rest.isEmpty)
      · have c4' : w4.cell? ⟨w.heap.size + 4, 0, none⟩ = some (.bool false) := by rw [← hb]; exact c4
        have HR : Hid (M.parseS s = (2, M.rec0)) := by show _ = _; rw [HG.out, if_pos hb]
        clear hb c4 HG
        go_wp2_with (fail)
        refine bodyPost_ret (parse_results _ _ _ _ (.int .i64 2) (BoxR.over ⟨AV.zero, 0, 0⟩ HP4.out.res) rfl rfl) rfl ?_
        refine ⟨⟨AV.zero, 0, 0⟩, by rw [HR.out], ?_, ?_⟩
        · rw [HR.out]
          exact ⟨⟨rfl, rfl, rfl, rfl, rfl, rfl, World.ownsRow_nil _ _ _ _⟩, rfl, rfl⟩
        · exact below_over (r := ⟨AV.zero, 0, 0⟩) HP4.out.below
      · have c4' : w4.cell? ⟨w.heap.size + 4, 0, none⟩ = some (.bool true) := by rw [← hb]; exact c4
        clear c4
        cases hn : F.2.named
        · have c5' : w4.cell? ⟨w.heap.size + 5, 0, none⟩ = some (.bool false) := by rw [← hn]; exact c5
          have HR : Hid (M.parseS s = (7, M.rec0)) := by show _ = _; rw [HG.out, if_neg (by rw [hb]; decide), if_pos hn]
          clear hb hn c5 HG
          go_wp2_with (fail)
          refine bodyPost_ret (parse_results _ _ _ _ (.int .i64 7) (BoxR.over ⟨AV.zero, 0, 0⟩ HP4.out.res) rfl rfl) rfl ?_
          refine ⟨⟨AV.zero, 0, 0⟩, by rw [HR.out], ?_, ?_⟩
          · rw [HR.out]
            exact ⟨⟨rfl, rfl, rfl, rfl, rfl, rfl, World.ownsRow_nil _ _ _ _⟩, rfl, rfl⟩
          · exact below_over (r := ⟨AV.zero, 0, 0⟩) HP4.out.below
        · have c5' : w4.cell? ⟨w.heap.size + 5, 0, none⟩ = some (.bool true) := by rw [← hn]; exact c5
          have HR : Hid (M.parseS s = (0, F.1)) := by show _ = _; rw [HG.out, if_neg (by rw [hb]; decide), if_neg (by rw [hn]; decide)]
          clear hb hn c5 HG
          go_wp2_with (fail)
          refine bodyPost_ret (parse_results _ _ _ _ (.int .i64 0) (BoxR.over r HP4.out.res) rfl rfl) rfl ?_
          refine ⟨r, by rw [HR.out], ?_, ?_⟩
          · obtain ⟨v1, v2, v3, v4, v5, v6, v7, v8⟩ := HV.out
            obtain ⟨n, hn⟩ := HP4.out.dt
            rw [HR.out]
            exact ⟨⟨v1, v2, v3, v4, v5, v6, own_n (own_over hn HP4.out.res)⟩, v7, v8⟩
          · exact below_over (r := r) HP4.out.below
end Go.Proofs.YtckfodpkckmkbacDoor
