/- TEXTS LAID TOGETHER: Refa, Doesg, Valsb, Refas, Refar -/
import Derived.Test.YtlegjdlmcphhlaaPart8
import Derived.Test.YtlegjdlmcphhlaaPart9
import Derived.Test.YtlegjdlmcphhlaaPart6
import Derived.Test.YtlegjdlmcphhlaaPart7
import Derived.Deep.CutRange
/-
  THE REFERENCE's Apply: a tree's map as it is counted; what is asked, and answered.
-/
namespace Go.Proofs.Ytlegjdlmcphhlaa
open Go.RowKit

theorem nodup_le {α : Type} [DecidableEq α] : ∀ {l m : List α}, l.Nodup → (∀ a ∈ l, a ∈ m) → l.length ≤ m.length
  | [], _, _, _ => Nat.zero_le _
  | a :: l, m, hn, hs => by
    rw [List.nodup_cons] at hn
    have ha : a ∈ m := hs a List.mem_cons_self
    have h1 : l.length ≤ (m.erase a).length := nodup_le hn.2 fun b hb => by
      rw [List.mem_erase_of_ne (fun e => hn.1 (by rw [← e]; exact hb))]
      exact hs b (List.mem_cons_of_mem _ hb)
    rw [List.length_erase_of_mem ha] at h1
    have := List.length_pos_of_mem ha
    simp only [List.length_cons]
    omega
/-- the keys of entries that hold numbers alone -/
def keyI (e : MapEntry) : Int := match e.key with | .int _ k => k | _ => 0
theorem rs_nodup {xs : List M.Nd} (h : M.RsN xs) : (xs.map (·.fid)).Nodup := List.Pairwise.imp (fun {a b} hab e => by subst e; simp [M.ltI] at hab) h
/-- a map counts as many as the tree has -/
theorem TMap.count {w : World} {bm : Nat} {xs : List M.Nd} (h : TMap w bm xs) (hr : M.RsN xs) : ∃ (es : Array MapEntry) (clock : Nat), w.heap[bm]? = some (.map es clock) ∧ es.size = xs.length := by
  obtain ⟨f, ⟨es, clock, hb, hh, hn, hcl⟩, ha⟩ := h
  refine ⟨es, clock, hb, ?_⟩
  have hk : ∀ e ∈ es.toList, e.key = .int .i64 (keyI e) ∧ f (keyI e) = some e.val := fun e he => by
    obtain ⟨k, h1, h2⟩ := hh.key e he
    have : keyI e = k := by unfold keyI; rw [h1]
    rw [this]; exact ⟨h1, h2⟩
  have hnd : (es.toList.map keyI).Nodup := by
    rw [List.nodup_iff_pairwise_ne, List.pairwise_map]
    refine List.Pairwise.imp_of_mem ?_ hh.one
    intro a b ha2 hb2 hab e
    apply hab
    rw [(hk a ha2).1, (hk b hb2).1, e]
  have h1 : (es.toList.map keyI).length ≤ (xs.map (·.fid)).length := nodup_le hnd fun k hkm => by
    obtain ⟨e, he, rfl⟩ := List.mem_map.1 hkm
    rcases ha (keyI e) with ⟨q1, _⟩ | ⟨v, x, _, q2, _⟩
    · rw [(hk e he).2] at q1; cases q1
    · have := M.find_mem q2
      exact List.mem_map.2 ⟨x, this.1, this.2⟩
  have h2 : (xs.map (·.fid)).length ≤ (es.toList.map keyI).length := nodup_le (rs_nodup hr) fun k hkm => by
    obtain ⟨x, hx, rfl⟩ := List.mem_map.1 hkm
    rcases ha x.fid with ⟨_, q2⟩ | ⟨v, y, q1, _, _⟩
    · exact absurd q2 (by
        intro hf
        unfold M.find at hf
        rw [List.find?_eq_none] at hf
        exact hf x hx (by simp))
    · obtain ⟨e, he, h3, h4⟩ := hh.all _ _ q1
      refine List.mem_map.2 ⟨e, he, ?_⟩
      unfold keyI; rw [h3]
  simp only [List.length_map] at h1 h2
  simp at h1 h2
  omega
/-- a node's map; a map of a tree; a node -/
def IsMp (xs : List M.Nd) : Value → World → Prop := fun v W => ∃ b, v = .map (some b) ∧ TMap W b xs
theorem isMp_below {xs : List M.Nd} {v : Value} {W W' : World} (hb : Below W.heap.size W W') (h : IsMp xs v W) : IsMp xs v W' := by
  obtain ⟨b, e, ht⟩ := h
  exact ⟨b, e, ht.below (Nat.le_refl _) hb⟩
def IsNd (x : M.Nd) : Value → World → Prop := fun v W => ∃ v' : NV, v = v'.val ∧ Cont W v' x
theorem isNd_below {x : M.Nd} {v : Value} {W W' : World} (hb : Below W.heap.size W W') (h : IsNd x v W) : IsNd x v W' := by
  obtain ⟨v', e, hc⟩ := h
  exact ⟨v', e, hc.below (Nat.le_refl _) hb⟩
/-- what the reference's Apply answers -/
def AppliedM (w : World) (spec : Int × List M.Nd) (e : Ending) (w' : World) : Prop :=
  Below w.heap.size w w' ∧ ∃ m, e = .returned (.tuple #[.map m, .int .i64 spec.1]) ∧ ((spec.1 = 0 ∧ ∃ bm, m = some bm ∧ TMap w' bm spec.2) ∨ (spec.1 ≠ 0 ∧ m = none))
theorem AppliedM.no {w w' : World} {s : Int × List M.Nd} {k : Int} (h : s.1 = k) (hk : k ≠ 0) (hb : Below w.heap.size w w') : AppliedM w s (.returned (.tuple #[.map none, .int .i64 k])) w' := by
  subst h; exact ⟨hb, none, rfl, .inr ⟨hk, rfl⟩⟩
theorem AppliedM.yes {w w' : World} {s : Int × List M.Nd} {ys : List M.Nd} {bm : Nat} (h : s = (0, ys)) (ht : TMap w' bm ys) (hb : Below w.heap.size w w') : AppliedM w s (.returned (.tuple #[.map (some bm), .int .i64 0])) w' := by
  subst h; exact ⟨hb, some bm, rfl, .inl ⟨rfl, bm, rfl, ht⟩⟩
/-- an act in a box, and a version -/
def ApW (w : World) (a : AV) (ver : Int) (W : World) : Prop := Below w.heap.size w W ∧ BoxA W w.heap.size a ∧ W.heap[w.heap.size + 1]? = some (.cells #[.int .i64 ver] 3 (0, 0))
theorem apw_start (w : World) (a : AV) (ver : Int) : ∀ W, W = (w.alloc (.cells #[.int .i64 a.kind, .int .i64 a.fid, .int .i64 a.dir, .string a.name, .int .i64 a.to, .string a.toName, .slice a.dA a.dn a.dc] 59)).alloc (.cells #[.int .i64 ver] 3) → ApW w a ver W := by
  rintro W rfl
  refine ⟨((Below.refl _ _).alloc (Nat.le_refl _) _).alloc (by simp) _, (BoxA.new w a).alloc _, ?_⟩
  have := heap_alloc_new (w.alloc (.cells #[.int .i64 a.kind, .int .i64 a.fid, .int .i64 a.dir, .string a.name, .int .i64 a.to, .string a.toName, .slice a.dA a.dn a.dc] 59)) (.cells #[.int .i64 ver] 3)
  simpa using this
theorem ApW.next {w W W' : World} {a : AV} {ver : Int} (h : ApW w a ver W) (hb : Below W.heap.size W W') : ApW w a ver W' := by
  have hz : w.heap.size + 1 < W.heap.size := lt_of_block h.2.2
  exact ⟨h.1.trans (hb.mono h.1.size), h.2.1.below hb (lt_of_block h.2.1), by rw [hb.block _ hz]; exact h.2.2⟩
theorem ApW.ver {w W : World} {a : AV} {ver : Int} (h : ApW w a ver W) : W.cell? ⟨w.heap.size + 1, 0, none⟩ = some (.int .i64 ver) := by simp [World.cell?, h.2.2]
end Go.Proofs.Ytlegjdlmcphhlaa
/-
  WHAT SINGLE OPERATIONS DO, further: an act in a box, a pair's parts (for regions that draw their order).
-/
namespace Go.Proofs.Ytlegjdlmcphhlaa
open Go.RowKit

section
variable {w : World} {d : Option Tmp} {ty : TypeId} {pos : String} {af : Array Edge} {g : Option (Nat × Bool)} {x y : Operand}
theorem run_loadAb {ρ : Operand → Value} {s : Nat} {v : AV} (hx : ρ x = .pointer (some ⟨s, 0, none⟩)) (h : BoxA w s v) : (execOp ρ ⟨d, .load 59 x, ty, pos, af, g⟩).run Try.prog w = .ok (.value v.val) w := by
  obtain ⟨b0, b1, b2, b3, b4, b5, b6, bf, bz⟩ := h.facts
  simp [execOp, hx, go_sem, b0, b1, b2, b3, b4, b5, b6]
theorem run_lenF {ρ : Operand → Value} {A : Option Addr} {n c : Nat} {t : TypeId} (h : Try.prog.underlying t = some (.slice (Try.prog.elem t))) (hx : ρ x = .slice A n c) : (execOp ρ ⟨d, .call { callee := .builtin .len, args := #[x], argTypes := #[t] }, ty, pos, af, g⟩).run Try.prog w = .ok (.value (.int .i64 (n : Int))) w := by
  have hl := run_len_slice (P := Try.prog) (w := w) t ty A n c h
  clear h
  simp [hx, go_sem, hl]
theorem run_ext0 {ρ : Operand → Value} {u v : Value} (hx : ρ x = .tuple #[u, v]) : (execOp ρ ⟨d, .extract x 0, ty, pos, af, g⟩).run Try.prog w = .ok (.value u) w := by
  simp [execOp, hx, go_sem]
theorem run_ext1 {ρ : Operand → Value} {u v : Value} (hx : ρ x = .tuple #[u, v]) : (execOp ρ ⟨d, .extract x 1, ty, pos, af, g⟩).run Try.prog w = .ok (.value v) w := by
  simp [execOp, hx, go_sem]
end
/-- what an act comes to, as a map and an error; the map of it -/
def IsAm (spec : Int × List M.Nd) : Value → World → Prop := fun v W => ∃ m, v = .tuple #[.map m, .int .i64 spec.1] ∧ ((spec.1 = 0 ∧ ∃ bm, m = some bm ∧ TMap W bm spec.2) ∨ (spec.1 ≠ 0 ∧ m = none))
def IsAm0 (spec : Int × List M.Nd) : Value → World → Prop := fun v W => ∃ m, v = .map m ∧ ((spec.1 = 0 ∧ ∃ bm, m = some bm ∧ TMap W bm spec.2) ∨ (spec.1 ≠ 0 ∧ m = none))
theorem am_below {spec : Int × List M.Nd} {m : Option Nat} {W W' : World} (hb : Below W.heap.size W W') (h : (spec.1 = 0 ∧ ∃ bm, m = some bm ∧ TMap W bm spec.2) ∨ (spec.1 ≠ 0 ∧ m = none)) : (spec.1 = 0 ∧ ∃ bm, m = some bm ∧ TMap W' bm spec.2) ∨ (spec.1 ≠ 0 ∧ m = none) :=
  h.imp (fun ⟨h0, bm, e, ht⟩ => ⟨h0, bm, e, ht.below (Nat.le_refl _) hb⟩) id
theorem isAm_below {spec : Int × List M.Nd} {v : Value} {W W' : World} (hb : Below W.heap.size W W') (h : IsAm spec v W) : IsAm spec v W' := by
  obtain ⟨m, e, h⟩ := h
  exact ⟨m, e, am_below hb h⟩
theorem isAm0_below {spec : Int × List M.Nd} {v : Value} {W W' : World} (hb : Below W.heap.size W W') (h : IsAm0 spec v W) : IsAm0 spec v W' := by
  obtain ⟨m, e, h⟩ := h
  exact ⟨m, e, am_below hb h⟩
/-- an act's copy -/
def IsAc (y : M.Act) : Value → World → Prop := fun v W => ∃ av : AV, v = AV.val av ∧ ContA W av y
theorem isAc_below {y : M.Act} {v : Value} {W W' : World} (hb : Below W.heap.size W W') (h : IsAc y v W) : IsAc y v W' := by
  obtain ⟨av, e, h3⟩ := h
  exact ⟨av, e, h3.below (Nat.le_refl _) hb⟩
/-- a list of fids that many -/
def IsFn (n : Nat) : Value → World → Prop := fun v _ => ∃ (A : Option Addr) (c : Nat), v = .slice A n c
theorem bring_nil {xs : List M.Nd} {a : M.Act} {v : Int} (h : (M.bringS xs a v).1 ≠ 0) : (M.bringS xs a v).2 = [] := by
  revert h
  unfold M.bringS
  split
  · intro _; rfl
  · split
    · intro _; rfl
    · split
      · intro _; rfl
      · split
        · intro _; rfl
        · intro h; exact absurd rfl h
theorem store_nil {xs : List M.Nd} {a : M.Act} {v : Int} (h : (M.storeS xs a v).1 ≠ 0) : (M.storeS xs a v).2 = [] := by
  revert h
  unfold M.storeS
  split
  · intro _; rfl
  · split
    · intro _; rfl
    · split
      · intro _; rfl
      · intro h; exact absurd rfl h
theorem remove_nil {xs : List M.Nd} {a : M.Act} {v : Int} (h : (M.removeS xs a v).1 ≠ 0) : (M.removeS xs a v).2 = [] := by
  revert h
  unfold M.removeS
  split
  · intro _; rfl
  · split
    · intro _; rfl
    · split
      · intro _; rfl
      · intro h; exact absurd rfl h
theorem rename_nil {xs : List M.Nd} {a : M.Act} {v : Int} (h : (M.renameS xs a v).1 ≠ 0) : (M.renameS xs a v).2 = [] := by
  revert h
  unfold M.renameS
  split
  · intro _; rfl
  · split
    · intro _; rfl
    · split
      · intro _; rfl
      · split
        · intro _; rfl
        · split
          · intro _; rfl
          · intro h; exact absurd rfl h
theorem apply_nil {xs : List M.Nd} {a : M.Act} {v : Int} (h : (M.applyS xs a v).1 ≠ 0) : (M.applyS xs a v).2 = [] := by
  revert h
  unfold M.applyS
  split
  · exact bring_nil
  · split
    · exact store_nil
    · split
      · exact remove_nil
      · split
        · exact rename_nil
        · intro _; rfl
end Go.Proofs.Ytlegjdlmcphhlaa
/-
  A REGION THAT DRAWS THE ORDER OF MANY OPERATIONS, further: edges that bind nothing here may lead on.
-/
namespace Go.Proofs.Ytlegjdlmcphhlaa
open Go.RowKit

/-- each operation has a slot of its own in the frame, and waits for earlier ones alone -/
def tidyB (ops : Array Oper) (size : Nat) : Bool :=
  (List.range ops.size).all fun i => match ops[i]? with
    | some o => (o.after.all fun e => !Region.binds .any e || decide (e.on < i)) && (match o.dst with
        | some d => decide (d < size) && ((List.range i).all fun j => ((ops[j]?).bind (·.dst)) != some d)
        | none => false)
    | none => true
theorem tidyB_at {ops : Array Oper} {size i : Nat} {o : Oper} (h : tidyB ops size = true) (hi : ops[i]? = some o) :
    (∀ e ∈ o.after, Region.binds .any e = true → e.on < i) ∧ ∃ d, o.dst = some d ∧ d < size ∧ slotAt ops i = d ∧ ∀ j, j < i → ((ops[j]?).bind (·.dst)) ≠ some d := by
  unfold tidyB at h
  rw [List.all_eq_true] at h
  have hlt : i < ops.size := (Array.getElem?_eq_some_iff.1 hi).1
  have h1 := h i (List.mem_range.2 hlt)
  rw [hi] at h1
  simp only [Bool.and_eq_true] at h1
  obtain ⟨h2, h3⟩ := h1
  refine ⟨fun e he hbi => ?_, ?_⟩
  · have := Array.all_eq_true_iff_forall_mem.1 h2 e he
    simpa [hbi] using this
  · cases hd : o.dst with
    | none => rw [hd] at h3; cases h3
    | some d =>
      rw [hd] at h3
      simp only [Bool.and_eq_true, decide_eq_true_eq, List.all_eq_true, List.mem_range] at h3
      refine ⟨d, rfl, h3.1, by simp [slotAt, hi, hd], fun j hj => ?_⟩
      have := h3.2 j hj
      simpa using this

theorem tidyB_ne {ops : Array Oper} {size i j : Nat} {o u : Oper} (h : tidyB ops size = true) (hi : ops[i]? = some o) (hj : ops[j]? = some u) (hne : i ≠ j) : slotAt ops i ≠ slotAt ops j := by
  obtain ⟨_, d, hd, _, hs, hall⟩ := tidyB_at h hi
  obtain ⟨_, e, he, _, ht, hall'⟩ := tidyB_at h hj
  rw [hs, ht]
  intro hde
  subst hde
  rcases Nat.lt_or_gt_of_ne hne with hl | hl
  · exact hall' i hl (by rw [hi]; exact hd)
  · exact hall j hl (by rw [hj]; exact he)

theorem wpAny_valsB {P : Program} {ops : Array Oper} {Q : Exit → Act → World → Prop} {a0 : Act} {w0 : World} {V : Nat → Value → World → Prop} (ht : tidyB ops a0.tmps.size = true) (hst : ∀ i, Stays (V i))
    (steps : ∀ i, i < ops.size → StepAt P ops Q a0 w0 V i)
    (last : ∀ a w, Framed ops a0 a → Below w0.heap.size w0 w → (∀ j, j < ops.size → V j (a.eval (.tmp (slotAt ops j))) w) → Q .normal a w) :
    ∀ (fuel : Nat) (listed : Array Bool) (a : Act) (w : World), listed.size = ops.size → unlisted listed ≤ fuel → FramedBy ops listed a0 a → Below w0.heap.size w0 w →
      (∀ j, j < ops.size → listed.getD j true = true → V j (a.eval (.tmp (slotAt ops j))) w) → wpAny P .any ops Q fuel listed a w := by
  have hdone : ∀ (listed : Array Bool), listed.size = ops.size → Region.ready .any ops listed = [] → ∀ j, j < ops.size → listed.getD j true = true := by
    intro listed hsz hr j
    induction j using Nat.strongRecOn with
    | ind j ih =>
      intro hj
      cases hb : listed.getD j true with
      | true => rfl
      | false =>
        have ho : ops[j]? = some ops[j] := Array.getElem?_eq_getElem hj
        have hm : j ∈ Region.ready .any ops listed := by
          rw [mem_ready]
          refine ⟨hb, _, ho, fun e he hbi => ?_⟩
          have hlt := (tidyB_at ht ho).1 e he hbi
          have h1 := ih e.on hlt (by omega)
          have h2 : e.on < listed.size := by omega
          simp only [Array.getD_eq_getD_getElem?, Array.getElem?_eq_getElem h2, Option.getD_some] at h1 ⊢
          exact h1
        rw [hr] at hm
        cases hm
  intro fuel
  induction fuel with
  | zero =>
    intro listed a w hsz hu hf hb hV
    have hall : ∀ j, listed.getD j true = true := by
      intro j
      have h0 : listed.toList.filter (fun b => !b) = [] := List.eq_nil_of_length_eq_zero (by simpa [unlisted] using hu)
      rw [List.filter_eq_nil_iff] at h0
      rcases Nat.lt_or_ge j listed.size with h | h
      · have := h0 listed[j] (by simp)
        simp [h] at this ⊢
        exact this
      · simp [h]
    refine ⟨?_, last a w hf.all hb fun j hj => hV j hj (hall j)⟩
    unfold Region.ready
    rw [List.filter_eq_nil_iff]
    intro j _
    rw [hall j]
    simp
  | succ fuel ih =>
    intro listed a w hsz hu hf hb hV
    refine ⟨fun hr => last a w hf.all hb fun j hj => hV j hj (hdone listed hsz hr j hj), fun i hi => ?_⟩
    obtain ⟨hun, o, ho, hall⟩ := mem_ready.1 hi
    have hilt : i < ops.size := (Array.getElem?_eq_some_iff.1 ho).1
    obtain ⟨hback, d, hd, hdlt, hslot, _⟩ := tidyB_at ht ho
    refine wpOp_step ho fun K' hK => ?_
    have hlw : ∀ j, waits o j = true → listed.getD j true = true := by
      intro j hj
      obtain ⟨e, he, hbe⟩ := Array.any_eq_true'.1 hj
      simp only [Bool.and_eq_true, beq_iff_eq] at hbe
      have h1 := hall e he hbe.1
      have h2 := hback e he hbe.1
      rw [← hbe.2]
      have h3 : e.on < listed.size := by omega
      simp only [Array.getD_eq_getD_getElem?, Array.getElem?_eq_getElem h3, Option.getD_some] at h1 ⊢
      exact h1
    refine steps i hilt o ho a w (hf.at_ hun) hb ?_ K' ?_
    · intro j hj
      obtain ⟨e, he, hbe⟩ := Array.any_eq_true'.1 hj
      simp only [Bool.and_eq_true, beq_iff_eq] at hbe
      have h1 := hall e he hbe.1
      have h2 := hback e he hbe.1
      rw [← hbe.2]
      refine hV e.on (by omega) ?_
      have h3 : e.on < listed.size := by omega
      simp only [Array.getD_eq_getD_getElem?, Array.getElem?_eq_getElem h3, Option.getD_some] at h1 ⊢
      exact h1
    · intro v w' hw hv
      refine hK _ _ (ih _ _ _ (by simp [hsz]) (by have := unlisted_set hun; omega) (hf.put ho hsz hlw v) (hb.trans (hw.mono hb.size)) fun j hj hl => ?_)
      by_cases hji : j = i
      · subst hji
        have : (a.put o.dst v).eval (.tmp (slotAt ops j)) = v := by
          rw [hslot, hd]
          have hlt : d < a.tmps.size := by rw [hf.size]; exact hdlt
          simp [Act.eval, Act.put, hlt]
        rw [this]
        exact hv
      · have hoj : ops[j]? = some ops[j] := Array.getElem?_eq_getElem hj
        have hne := tidyB_ne ht hoj ho hji
        rw [Act.eval_put (by intro d' hd' e; injection e with e; rw [hd] at hd'; injection hd' with hd'; rw [hslot] at hne; exact hne (e.trans hd'.symm))]
        rw [getD_set_ne true (Ne.symm hji)] at hl
        exact hst j _ _ _ hw (hV j hj hl)

/-- THE RULE. -/
theorem wp_region_valsB {P : Program} {ops : Array Oper} {Q : Exit → Act → World → Prop} {a0 : Act} {w0 : World} (V : Nat → Value → World → Prop) {id : Nat} (hm : P.follows .mixedOrders = true)
    (ht : tidyB ops a0.tmps.size = true) (hst : ∀ i, Stays (V i)) (steps : ∀ i, i < ops.size → StepAt P ops Q a0 w0.drew V i)
    (last : ∀ a w, Framed ops a0 a → Below w0.heap.size w0 w → (∀ j, j < ops.size → V j (a.eval (.tmp (slotAt ops j))) w) → Q .normal a w) :
    (Code.region id ops true).wp P Q a0 w0 := by
  refine wp_region_any hm ?_
  refine wpAny_valsB (w0 := w0.drew) ht hst steps (fun a w hf hb hv => last a w hf ((Below.refl _ _).drew.trans hb) hv) _ _ _ _ (by simp) ?_ ?_ (Below.refl _ _) ?_
  · simp [unlisted]
  · refine ⟨rfl, rfl, fun _ _ => rfl, fun j o hj hl => ?_⟩
    have hlt := (Array.getElem?_eq_some_iff.1 hj).1
    simp [hlt] at hl
  · intro j hj hl
    simp [hj] at hl
end Go.Proofs.Ytlegjdlmcphhlaa
/-
  THE REFERENCE's Apply: acts that store, and those of no kind.
-/
namespace Go.Proofs.Ytlegjdlmcphhlaa
open Go.RowKit

set_option maxRecDepth 8000 in
set_option maxHeartbeats 4000000 in
theorem refNone_any (bm : Nat) (xs : List M.Nd) (a : AV) (ac : M.Act) (ver : Int) (w : World) (ht : TMap w bm xs) (ha : ContA w a ac) (h1 : a.kind ≠ 1) (h2 : a.kind ≠ 2) (h3 : a.kind ≠ 3) (h4 : a.kind ≠ 4) (h5 : a.kind ≠ 5) :
    Calls Try.prog 36 #[.map (some bm), a.val, .int .i64 ver] w (AppliedM w (1, [])) := by
  have HT : Hid (TMap w bm xs ∧ ContA w a ac) := ⟨ht, ha⟩
  have HW : Hid _ := apw_start w a ver
  have k1 : (a.kind == 1) = false := by simp [h1]
  have k2 : (a.kind == 2) = false := by simp [h2]
  have k3 : (a.kind == 3) = false := by simp [h3]
  have k4 : (a.kind == 4) = false := by simp [h4]
  have k5 : (a.kind == 5) = false := by simp [h5]
  clear ht ha h1 h2 h3 h4 h5
  go_enter Try.func36, Try.ntmps36
  go_upto_region 1 with (fail)
  go_cut [8] from 24 to 24 (fun v W => v = .func (.func 59) #[] #[.pointer (some ⟨w.heap.size + 1, 0, none⟩)] ∧ ApW w a ver W)
  case first =>
    go_wp2_with (fail)
    go_meet
    case rel => exact ⟨rfl, HW.out _ rfl⟩
  obtain ⟨rfl, hw1⟩ := hcut
  rename World => w1
  obtain ⟨a0, a1, a2, a3, a4, a5, a6, af, az⟩ := hw1.2.1.facts
  have H1 : Hid (ApW w a ver w1 ∧ True) := ⟨hw1, trivial⟩
  clear hw1 HW
  go_wp2_with (fail)
  go_ret2
  exact AppliedM.no rfl (by decide) H1.out.1.1

set_option maxRecDepth 8000 in
set_option maxHeartbeats 8000000 in
theorem refStore_any (bm : Nat) (xs : List M.Nd) (a : AV) (ac : M.Act) (ver : Int) (w : World) (ht : TMap w bm xs) (ha : ContA w a ac) (hk : a.kind = 3) :
    Calls Try.prog 36 #[.map (some bm), a.val, .int .i64 ver] w (AppliedM w (M.storeS xs ac ver)) := by
  have HT : Hid (TMap w bm xs ∧ ContA w a ac ∧ True) := ⟨ht, ha, trivial⟩
  have HK : Hid (a.fid = ac.fid ∧ a.dn = ac.data.length) := ⟨ha.2.1, ha.2.2.2.2.2.2.1⟩
  have HW : Hid _ := apw_start w a ver
  have k1 : (a.kind == 1) = false := by simp [hk]
  have k2 : (a.kind == 2) = false := by simp [hk]
  have k3 : (a.kind == 3) = true := by simp [hk]
  have k4 : (a.kind == 4) = false := by simp [hk]
  have k5 : (a.kind == 5) = false := by simp [hk]
  clear ht ha hk
  go_enter Try.func36, Try.ntmps36
  go_upto_region 1 with (fail)
  go_cut [8] from 24 to 24 (fun v W => v = .func (.func 59) #[] #[.pointer (some ⟨w.heap.size + 1, 0, none⟩)] ∧ ApW w a ver W)
  case first =>
    go_wp2_with (fail)
    go_meet
    case rel => exact ⟨rfl, HW.out _ rfl⟩
  obtain ⟨rfl, hw1⟩ := hcut
  rename World => w1
  obtain ⟨a0, a1, a2, a3, a4, a5, a6, af, az⟩ := hw1.2.1.facts
  have H1 : Hid (ApW w a ver w1 ∧ TMap w1 bm xs ∧ ContA w1 a ac) := ⟨hw1, HT.out.1.below (Nat.le_refl _) hw1.1, HT.out.2.1.below (Nat.le_refl _) hw1.1⟩
  clear hw1 HW
  rcases IMap.ask H1.out.2.1 a.fid with ⟨hf, hl⟩ | ⟨v, x, hf, hc, hl⟩
  · have hl1 := hl true
    simp only [if_true] at hl1
    have HS : Hid ((M.storeS xs ac ver).1 = 12) := by show _ = _; unfold M.storeS; rw [← HK.out.1, hf]
    clear hl hf
    have HB : Hid (∀ W, Below w1.heap.size w1 W → Below w.heap.size w W) := fun W hb => H1.out.1.1.trans (hb.mono H1.out.1.1.size)
    go_wp2_with (fail)
    go_ret2
    exact AppliedM.no HS.out (by decide) (HB.out _ ((Below.refl _ _).alloc (Nat.le_refl _) _))
  · have hl1 := hl true
    simp only [if_true] at hl1
    have HB : Hid (∀ W, Below w1.heap.size w1 W → Below w.heap.size w W) := fun W hb => H1.out.1.1.trans (hb.mono H1.out.1.1.size)
    obtain ⟨fi, di, dA, dn, dc, eA, en, ec, ve⟩ := v
    have HC : Hid (Cont w1 ⟨fi, di, dA, dn, dc, eA, en, ec, ve⟩ x) := hc
    have hdi : di = x.dir := hc.2.1
    cases di
    case' true =>
      have HS : Hid ((M.storeS xs ac ver).1 = 9) := by show _ = _; unfold M.storeS; rw [← HK.out.1, hf]; simp [← hdi]
      clear hl hf hc hdi
      go_wp2_with (fail)
      go_ret2
      exact AppliedM.no HS.out (by decide) (HB.out _ ((Below.refl _ _).alloc (Nat.le_refl _) _))
    by_cases h20 : 20 < a.dn
    · have h20' : (20 : Int) < (a.dn : Int) := by omega
      have HS : Hid ((M.storeS xs ac ver).1 = 4) := by show _ = _; unfold M.storeS; rw [← HK.out.1, hf]; simp [← hdi, ← HK.out.2, h20]
      clear hl hf hc hdi h20
      go_wp2_with (fail)
      go_ret2
      exact AppliedM.no HS.out (by decide) (HB.out _ ((Below.refl _ _).alloc (Nat.le_refl _) _))
    · have h20' : ¬ (20 : Int) < (a.dn : Int) := by omega
      have HS : Hid (M.storeS xs ac ver = (0, M.putN xs (M.withV { x with data := ac.data } ver))) := by show _ = _; unfold M.storeS; rw [← HK.out.1, hf]; simp [← hdi, ← HK.out.2, h20]
      clear hl hf hc hdi h20
      go_wp2_with (fail)
      have hn2 : Below w1.heap.size w1 (w1.alloc (.cells #[.int .i64 fi, .bool false, .slice a.dA a.dn a.dc, .slice eA en ec, .int .i64 ve] 26)) := (Below.refl _ _).alloc (Nat.le_refl _) _
      refine (refVer_any ⟨fi, false, a.dA, a.dn, a.dc, eA, en, ec, ve⟩ (w.heap.size + 1) ver _ (H1.out.1.next hn2).ver).mono ?_
      rintro e w2 ⟨rfl, hb2⟩
      have hn3 : Below w1.heap.size w1 w2 := hn2.trans (hb2.mono hn2.size)
      have H2 : Hid (Below w1.heap.size w1 w2 ∧ Cont w2 ⟨fi, false, a.dA, a.dn, a.dc, eA, en, ec, ver⟩ (M.withV { x with data := ac.data } ver)) := by
        have h3 := HC.out.below (Nat.le_refl _) hn3
        exact ⟨hn3, h3.1, h3.2.1, rfl, (H1.out.2.2.below (Nat.le_refl _) hn3).2.2.2.2.2.2, h3.2.2.2.2⟩
      clear hn2 hb2 hn3
      go_wp2_with (fail)
      refine (with_any bm xs ⟨fi, false, a.dA, a.dn, a.dc, eA, en, ec, ver⟩ _ w2 (H1.out.2.1.below (Nat.le_refl _) H2.out.1) H2.out.2).mono ?_
      rintro e w3 ⟨b3, rfl, ht3, hb3⟩
      have H3 : Hid (Below w.heap.size w w3 ∧ TMap w3 b3 (M.putN xs (M.withV { x with data := ac.data } ver))) := ⟨HB.out _ (H2.out.1.trans (hb3.mono H2.out.1.size)), ht3⟩
      clear ht3 hb3
      go_wp2_with (fail)
      go_ret2
      exact AppliedM.yes HS.out H3.out.2 H3.out.1
end Go.Proofs.Ytlegjdlmcphhlaa
/-
  THE REFERENCE's Apply: acts that remove.
-/
namespace Go.Proofs.Ytlegjdlmcphhlaa
open Go.RowKit

theorem contV {w : World} {v : NV} {x : M.Nd} (h : Cont w v x) (ver : Int) : Cont w ⟨v.fid, v.dir, v.dA, v.dn, v.dc, v.eA, v.en, v.ec, ver⟩ (M.withV x ver) := ⟨h.1, h.2.1, rfl, h.2.2.2.1, h.2.2.2.2⟩
def VR44 (bm sv sa : Nat) (xs : List M.Nd) (a : AV) (v : NV) (x : M.Nd) (ver : Int) : Nat → Value → World → Prop
  | 0 => IsU (.map (some bm))
  | 1 => IsU (.func (.func 59) #[] #[.pointer (some ⟨sv, 0, none⟩)])
  | 2 => IsU (NV.val v)
  | 3 => IsU (.pointer (some ⟨sa, 3, none⟩))
  | 4 => IsU (.string (a.name))
  | 5 => IsNd (withE x (M.dropE x.ents a.name))
  | 6 => IsNd (M.withV (withE x (M.dropE x.ents a.name)) ver)
  | 7 => IsMp (M.putN xs (M.withV (withE x (M.dropE x.ents a.name)) ver))
  | 8 => IsU (.pointer (some ⟨sa, 1, none⟩))
  | 9 => IsU (.int .i64 (a.fid))
  | 10 => IsMp (M.dropN (M.putN xs (M.withV (withE x (M.dropE x.ents a.name)) ver)) a.fid)
  | 11 => IsMp (M.dropN (M.putN xs (M.withV (withE x (M.dropE x.ents a.name)) ver)) a.fid)
  | 12 => IsU (.int .i64 (0))
  | _ => fun _ _ => True
theorem VR44_stays (bm sv sa : Nat) (xs : List M.Nd) (a : AV) (v : NV) (x : M.Nd) (ver : Int) : ∀ i, Stays (VR44 bm sv sa xs a v x ver i) := by
  intro i v W W' hb h
  match i, h with
  | 0, h => exact h
  | 1, h => exact h
  | 2, h => exact h
  | 3, h => exact h
  | 4, h => exact h
  | 5, h => exact isNd_below hb h
  | 6, h => exact isNd_below hb h
  | 7, h => exact isMp_below hb h
  | 8, h => exact h
  | 9, h => exact h
  | 10, h => exact isMp_below hb h
  | 11, h => exact isMp_below hb h
  | 12, h => exact h
  | k + 13, h => trivial

set_option maxRecDepth 8000 in
set_option maxHeartbeats 8000000 in
theorem refRemove_any (bm : Nat) (xs : List M.Nd) (a : AV) (ac : M.Act) (ver : Int) (w : World) (ht : TMap w bm xs) (ha : ContA w a ac) (hri : M.Rise xs) (hsm : ∀ x ∈ xs, Small x) (hk : a.kind = 4) :
    Calls Try.prog 36 #[.map (some bm), a.val, .int .i64 ver] w (AppliedM w (M.removeS xs ac ver)) := by
  have HT : Hid (TMap w bm xs ∧ ContA w a ac ∧ True) := ⟨ht, ha, trivial⟩
  have HK : Hid (a.fid = ac.fid ∧ a.dir = ac.dir ∧ a.name = ac.name ∧ a.to = ac.to ∧ a.toName = ac.toName) := ⟨ha.2.1, ha.2.2.1, ha.2.2.2.1, ha.2.2.2.2.1, ha.2.2.2.2.2.1⟩
  have HSM : Hid (∀ x ∈ xs, Small x) := hsm
  have HRI : Hid (M.Rise xs) := hri
  have HW : Hid _ := apw_start w a ver
  have k1 : (a.kind == 1) = false := by simp [hk]
  have k2 : (a.kind == 2) = false := by simp [hk]
  have k3 : (a.kind == 3) = false := by simp [hk]
  have k4 : (a.kind == 4) = true := by simp [hk]
  have k5 : (a.kind == 5) = false := by simp [hk]
  clear ht ha hk hri hsm
  go_enter Try.func36, Try.ntmps36
  go_upto_region 1 with (fail)
  go_cut [8] from 24 to 24 (fun v W => v = .func (.func 59) #[] #[.pointer (some ⟨w.heap.size + 1, 0, none⟩)] ∧ ApW w a ver W)
  case first =>
    go_wp2_with (fail)
    go_meet
    case rel => exact ⟨rfl, HW.out _ rfl⟩
  obtain ⟨rfl, hw1⟩ := hcut
  rename World => w1
  obtain ⟨a0, a1, a2, a3, a4, a5, a6, af, az⟩ := hw1.2.1.facts
  have H1 : Hid (ApW w a ver w1 ∧ TMap w1 bm xs ∧ ContA w1 a ac) := ⟨hw1, HT.out.1.below (Nat.le_refl _) hw1.1, HT.out.2.1.below (Nat.le_refl _) hw1.1⟩
  clear hw1 HW
  go_wp2_with (fail)
  refine (refDir_any bm xs a.dir w1 H1.out.2.1).mono ?_
  rintro e w2 ⟨v, rfl, hdc, hb2⟩
  have H2 : Hid (ApW w a ver w2 ∧ TMap w2 bm xs ∧ ContA w2 a ac) := ⟨H1.out.1.next hb2, H1.out.2.1.below (Nat.le_refl _) hb2, H1.out.2.2.below (Nat.le_refl _) hb2⟩
  have HDC : Hid ((M.dirS xs a.dir).1 = 0 → Cont w2 v (M.dirS xs a.dir).2) := hdc
  clear hb2 hdc H1 a0 a1 a2 a3 a4 a5 a6 af az
  obtain ⟨a0, a1, a2, a3, a4, a5, a6, af, az⟩ := H2.out.1.2.1.facts
  by_cases hd0 : (M.dirS xs a.dir).1 = 0
  case' neg =>
    have e1 : ((M.dirS xs a.dir).1 != 0) = true := by simp [hd0]
    have HS : Hid ((M.removeS xs ac ver).1 = (M.dirS xs a.dir).1 ∧ (M.dirS xs a.dir).1 ≠ 0) := ⟨by unfold M.removeS; rw [HK.out.2.1] at hd0 ⊢; rw [hold_err hd0, if_pos hd0], hd0⟩
    clear hd0
    go_wp2_with (fail)
    go_ret2
    exact AppliedM.no HS.out.1 HS.out.2 (H2.out.1.1.trans (((Below.refl _ _).alloc (Nat.le_refl _) _).mono H2.out.1.1.size))
  obtain ⟨x, hx⟩ : ∃ x, (M.dirS xs a.dir).2 = x := ⟨_, rfl⟩
  have HDX : Hid (M.dirS xs a.dir = (0, x)) := by show _ = _; rw [← hx, ← hd0]
  have hfx : M.find xs a.dir = some x := by rw [← hx]; exact (M.dir_ok hd0).1
  have HCX : Hid (Cont w2 v x ∧ Small x ∧ M.RsE x.ents) := ⟨by rw [← hx]; exact HDC.out hd0, HSM.out x (M.find_mem hfx).1, HRI.out.2 x (M.find_mem hfx).1⟩
  rw [hd0]
  clear hd0 hx hfx HDC
  have HWN : Hid (∀ W, W = w2.alloc (.cells #[.int .i64 v.fid, .bool v.dir, .slice v.dA v.dn v.dc, .slice v.eA v.en v.ec, .int .i64 v.ver] 26) → Below w2.heap.size w2 W ∧ Box W w2.heap.size v) := by
    rintro W rfl
    exact ⟨(Below.refl _ _).alloc (Nat.le_refl _) _, Box.new w2 v⟩
  go_wp2_with (fail)
  obtain ⟨q1, q2⟩ := HWN.out _ rfl
  refine (refEntry_any v x a.name _ (HCX.out.1.below (Nat.le_refl _) q1) HCX.out.2.1).mono ?_
  rintro e w3 ⟨rfl, hb3⟩
  have h23 : Below w2.heap.size w2 w3 := q1.trans (hb3.mono q1.size)
  have H3 : Hid (ApW w a ver w3 ∧ TMap w3 bm xs ∧ ContA w3 a ac ∧ Box w3 w2.heap.size v ∧ Cont w3 v x) := ⟨H2.out.1.next h23, H2.out.2.1.below (Nat.le_refl _) h23, H2.out.2.2.below (Nat.le_refl _) h23, q2.below hb3 (lt_of_block q2), HCX.out.1.below (Nat.le_refl _) h23⟩
  have HN2 : Hid (w2.heap.size < w3.heap.size ∧ w.heap.size + 1 < w2.heap.size) := ⟨lt_of_block (q2.below hb3 (lt_of_block q2)), lt_of_block H2.out.1.2.2⟩
  clear q1 q2 hb3 h23 H2 HWN a0 a1 a2 a3 a4 a5 a6 af az
  obtain ⟨a0, a1, a2, a3, a4, a5, a6, af, az⟩ := H3.out.1.2.1.facts
  rcases hlk : M.look x.ents a.name with _ | en
  case' none =>
    have HS : Hid ((M.removeS xs ac ver).1 = 6) := by show _ = _; unfold M.removeS; rw [← HK.out.1, ← HK.out.2.1, ← HK.out.2.2.1, hold_none HDX.out hlk]; rfl
    clear hlk
    go_wp2_with (fail)
    go_ret2
    exact AppliedM.no HS.out (by decide) H3.out.1.1
  obtain ⟨en1, en2⟩ := en
  have hgd : (((some (en1, en2) : Option (ByteArray × Int)).map (·.2)).getD 0) = en2 := rfl
  have hgs : (some (en1, en2) : Option (ByteArray × Int)).isSome = true := rfl
  rw [hgd, hgs]
  clear hgd hgs
  by_cases hen : en2 = a.fid
  case' neg =>
    have e1 : (en2 != a.fid) = true := by simp [hen]
    have HS : Hid ((M.removeS xs ac ver).1 = 13) := by show _ = _; unfold M.removeS; rw [← HK.out.1, ← HK.out.2.1, ← HK.out.2.2.1, hold_other HDX.out hlk hen]; rfl
    clear hlk hen
    go_wp2_with (fail)
    go_ret2
    exact AppliedM.no HS.out (by decide) H3.out.1.1
  have e1 : (en2 != a.fid) = false := by simp [hen]
  have HHO : Hid (M.holdS xs ac.dir ac.name ac.fid = (0, x)) := by
    rw [← HK.out.1, ← HK.out.2.1, ← HK.out.2.2.1]
    exact hold_yes HDX.out hlk hen
  clear hlk hen
  rcases IMap.ask H3.out.2.1 a.fid with ⟨hf, hl⟩ | ⟨vf, xf, hf, hcf, hl⟩
  · have hl1 := hl true
    simp only [if_true] at hl1
    have HS : Hid ((M.removeS xs ac ver).1 = 12) := by show _ = _; unfold M.removeS; rw [HHO.out, ← HK.out.1, hf]; rfl
    clear hl hf
    go_wp2_with (fail)
    go_ret2
    exact AppliedM.no HS.out (by decide) (H3.out.1.1.trans (((Below.refl _ _).alloc (Nat.le_refl _) _).mono H3.out.1.1.size))
  · have hl1 := hl true
    simp only [if_true] at hl1
    have HEN : Hid (vf.en = xf.ents.length) := hcf.2.2.2.2.1
    by_cases he0 : 0 < vf.en
    · have he0' : (0 : Int) < (vf.en : Int) := by omega
      have HS : Hid ((M.removeS xs ac ver).1 = 10) := by show _ = _; unfold M.removeS; rw [HHO.out, ← HK.out.1, hf]; simp [← HEN.out, he0]
      clear hl hf hcf
      go_wp2_with (fail)
      go_ret2
      exact AppliedM.no HS.out (by decide) (H3.out.1.1.trans (((Below.refl _ _).alloc (Nat.le_refl _) _).mono H3.out.1.1.size))
    · have he0' : ¬ (0 : Int) < (vf.en : Int) := by omega
      have HS : Hid (M.removeS xs ac ver = (0, M.dropN (M.putN xs (M.withV (withE x (M.dropE x.ents a.name)) ver)) a.fid)) := by
        show _ = _
        unfold M.removeS
        rw [HHO.out, ← HK.out.1, ← HK.out.2.2.1, hf]
        simp [← HEN.out, he0, withE]
      clear hl hf hcf
      have HN5 : Hid (∀ W, W = w3.alloc (.cells #[.int .i64 vf.fid, .bool vf.dir, .slice vf.dA vf.dn vf.dc, .slice vf.eA vf.en vf.ec, .int .i64 vf.ver] 26) → Below w3.heap.size w3 W) := by
        rintro W rfl; exact (Below.refl _ _).alloc (Nat.le_refl _) _
      have HSX : Hid (Small x) := HCX.out.2.1
      go_upto_region 44 with (fail)
      have hb5 := HN5.out _ rfl
      have hbd : ∀ W5 : World, Below w3.heap.size w3 W5 → ∀ W, Below W5.drew.heap.size W5.drew W → Below w3.heap.size w3 W := fun W5 h5 W hb => h5.trans (((Below.refl _ _).drew.trans hb).mono h5.size)
      have HA := fun W hb => (H3.out.1.next (hbd _ hb5 W hb)).2.1
      have HV := fun W hb => (H3.out.1.next (hbd _ hb5 W hb)).ver
      have HM := fun W hb => H3.out.2.1.below (Nat.le_refl _) (hbd _ hb5 W hb)
      have HN := fun W hb => H3.out.2.2.2.1.below (hbd _ hb5 W hb) (lt_of_block H3.out.2.2.2.1)
      have HCN := fun W hb => H3.out.2.2.2.2.below (Nat.le_refl _) (hbd _ hb5 W hb)
      have HEND : Hid (∀ W5 W : World, Below w3.heap.size w3 W5 → Below W5.heap.size W5 W → Below w.heap.size w W) := fun W5 W h5 hb => H3.out.1.1.trans ((h5.trans (hb.mono h5.size)).mono H3.out.1.1.size)
      refine wp_region_vals (VR44 bm (w.heap.size + 1) w.heap.size xs a v x ver) (by kernel_rfl) (by kernel_rfl) (VR44_stays bm (w.heap.size + 1) w.heap.size xs a v x ver) ?_ ?_
      · intro i hi
        match i, hi with
        | 0, _ =>
          refine StepAt.by rfl fun a' W hf hb hd => ?_
          exact .inl ⟨want_none, does_move ((hf.keeps 0 (by kernel_rfl)).trans rfl) ⟨Below.refl _ _, rfl⟩⟩
        | 1, _ =>
          refine StepAt.by rfl fun a' W hf hb hd => ?_
          exact .inl ⟨want_none, does_move ((hf.keeps 8 (by kernel_rfl)).trans rfl) ⟨Below.refl _ _, rfl⟩⟩
        | 2, _ =>
          refine StepAt.by rfl fun a' W hf hb hd => ?_
          exact .inl ⟨want_none, does_rn (run_load26 ((hf.keeps 16 (by kernel_rfl)).trans rfl) (HN W hb)) ⟨Below.refl _ _, rfl⟩⟩
        | 3, _ =>
          refine StepAt.by rfl fun a' W hf hb hd => ?_
          exact .inl ⟨want_none, does_rn (run_fieldA ((hf.keeps 4 (by kernel_rfl)).trans rfl) (by decide)) ⟨Below.refl _ _, rfl⟩⟩
        | 4, _ =>
          refine StepAt.by rfl fun a' W hf hb hd => ?_
          exact .inl ⟨want_none, does_rn (run_load9 (hd 3 (by kernel_rfl)) (BoxA.facts (HA W hb)).2.2.2.1) ⟨Below.refl _ _, rfl⟩⟩
        | 5, _ =>
          refine StepAt.by rfl fun a' W hf hb hd => ?_
          refine .inl ⟨want_none, ?_⟩
          exact does_call2 (enters_of Try.func29 (by kernel_rfl) (by kernel_rfl)) (hd 2 (by kernel_rfl)) (hd 4 (by kernel_rfl)) ((refLeave_any v x a.name W (HCN W hb) HSX.out).mono fun e W' ⟨v', he, hc, hb'⟩ => ⟨_, he, hb', v', rfl, hc⟩)
        | 6, _ =>
          refine StepAt.by rfl fun a' W hf hb hd => ?_
          refine .inl ⟨want_none, ?_⟩
          obtain ⟨v1, e1, hc1⟩ := hd 5 (by kernel_rfl)
          exact does_callC (enters_of Try.func59 (by kernel_rfl) (by kernel_rfl)) (hd 1 (by kernel_rfl)) e1 ((refVer_any v1 (w.heap.size + 1) ver W (HV W hb)).mono fun e W' ⟨he, hb'⟩ => ⟨_, he, hb', ⟨v1.fid, v1.dir, v1.dA, v1.dn, v1.dc, v1.eA, v1.en, v1.ec, ver⟩, rfl, (contV hc1 ver).below (Nat.le_refl _) hb'⟩)
        | 7, _ =>
          refine StepAt.by rfl fun a' W hf hb hd => ?_
          refine .inl ⟨want_none, ?_⟩
          obtain ⟨v1, e1, hc1⟩ := hd 6 (by kernel_rfl)
          have e0 := hd 0 (by kernel_rfl)
          have ht0 := HM W hb
          exact does_call2 (enters_of Try.func13 (by kernel_rfl) (by kernel_rfl)) e0 e1 ((with_any _ _ v1 _ W ht0 hc1).mono fun e W' ⟨b, he, ht, hb'⟩ => ⟨_, he, hb', b, rfl, ht⟩)
        | 8, _ =>
          refine StepAt.by rfl fun a' W hf hb hd => ?_
          exact .inl ⟨want_none, does_rn (run_fieldA ((hf.keeps 4 (by kernel_rfl)).trans rfl) (by decide)) ⟨Below.refl _ _, rfl⟩⟩
        | 9, _ =>
          refine StepAt.by rfl fun a' W hf hb hd => ?_
          exact .inl ⟨want_none, does_rn (run_load3 (hd 8 (by kernel_rfl)) (BoxA.facts (HA W hb)).2.1) ⟨Below.refl _ _, rfl⟩⟩
        | 10, _ =>
          refine StepAt.by rfl fun a' W hf hb hd => ?_
          refine .inl ⟨want_none, ?_⟩
          obtain ⟨b0, e0, ht0⟩ := hd 7 (by kernel_rfl)
          exact does_call2 (enters_of Try.func16 (by kernel_rfl) (by kernel_rfl)) e0 (hd 9 (by kernel_rfl)) ((without_any _ _ a.fid W ht0).mono fun e W' ⟨b, he, ht, hb'⟩ => ⟨_, he, hb', b, rfl, ht⟩)
        | 11, _ =>
          refine StepAt.by rfl fun a' W hf hb hd => ?_
          exact .inl ⟨want_none, does_assign rfl ⟨Below.refl _ _, (hd 10 (by kernel_rfl))⟩⟩
        | 12, _ =>
          refine StepAt.by rfl fun a' W hf hb hd => ?_
          exact .inl ⟨want_none, does_assign rfl ⟨Below.refl _ _, rfl⟩⟩
        | k + 13, hi => exact absurd hi (Nat.not_lt.2 (Nat.le_add_left _ _))
      · intro a' W hf hb hv
        obtain ⟨b6, e6, ht6⟩ := hv 11 (by decide)
        have e7 : a'.eval (.tmp 7) = .int .i64 (0) := hv 12 (by decide)
        have hl := hf.lit (fun t => decide (149 ≤ t) && decide (t ≤ 159) || decide (t = 6) || decide (t = 7)) (by kernel_rfl)
        simp only [overL, Nat.reduceAdd, Nat.reduceLeDiff, Nat.reduceEqDiff, decide_true, decide_false, Bool.and_true, Bool.and_false, Bool.or_true, Bool.or_false] at hl
        have e6' : a'.eval (.tmp 6) = .map (some b6) := e6
        rw [hl, e6', e7]
        have HF : Hid (TMap W b6 _ ∧ Below _ _ W) := ⟨ht6, hb⟩
        clear hl hf hb hv e6 e6' e7 ht6
        go_wp2_with (fail)
        go_ret2
        exact AppliedM.yes HS.out HF.out.1 (HEND.out _ _ (HN5.out _ rfl) HF.out.2)
end Go.Proofs.Ytlegjdlmcphhlaa
