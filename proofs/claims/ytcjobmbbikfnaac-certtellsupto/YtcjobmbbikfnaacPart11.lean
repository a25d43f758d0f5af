/- TEXTS LAID TOGETHER: Kwith, Doese, Refar, Krefx, Refas, Krefas, Krefar -/
import Derived.Test.YtcjobmbbikfnaacPart10
import Derived.Test.YtcjobmbbikfnaacPart9
import Derived.Deep.CutRange
/-
  TREES WHOSE LISTS STAY: With, Without.
-/
namespace Go.Proofs.Ytcjobmbbikfnaac
open Go.RowKit
open Go.ChangeMaps (setBlock)
variable [Inhabited BaseN]

/-- what a round of the copy finds -/
theorem RI.roundK {w0 : World} {bm : Nat} {es : Array MapEntry} {clock : Nat} {p : Int → Bool} {seen : Array Nat} {wr : World} {f : Int → Option Value} {xs : List M.Nd} (h : RI w0 bm es clock p seen wr) (hh : Holds es.toList f) (hn : (es.toList.map (·.born)).Nodup) (hc : ∀ e ∈ es.toList, e.born < clock) (ha : AgreeK w0 f xs) (ty : TypeId) :
    ((leftOf es seen).size = 0 ∧ (Instr.next (.pointer (some ⟨w0.heap.size + 1, 0, none⟩)) false ty).run Try.prog wr = .ok (.tuple #[.bool false]) wr) ∨
    ∃ (b : Nat) (v : NV) (k : Int) (W : World), (leftOf es (seen.push b)).size < (leftOf es seen).size ∧ (Instr.next (.pointer (some ⟨w0.heap.size + 1, 0, none⟩)) false ty).run Try.prog wr = .ok (.tuple #[.bool true, .int .i64 k, v.val]) W ∧
      (Instr.entry (.pointer (some ⟨w0.heap.size + 1, 0, none⟩))).run Try.prog W = .ok (.tuple #[.int .i64 k, v.val]) W ∧
      (p k = false → RI w0 bm es clock p (seen.push b) (W.alloc (.cells #[.int .i64 v.fid, .bool v.dir, .slice v.dA v.dn v.dc, .slice v.eA v.en v.ec, .int .i64 v.ver] 56))) ∧
      (p k = true → ∃ o : Obj, (Instr.mapUpdate 30 (.map (some w0.heap.size)) (.int .i64 k) v.val).run Try.prog (W.alloc (.cells #[.int .i64 v.fid, .bool v.dir, .slice v.dA v.dn v.dc, .slice v.eA v.en v.ec, .int .i64 v.ver] 56)) = .ok () (setBlock (W.alloc (.cells #[.int .i64 v.fid, .bool v.dir, .slice v.dA v.dn v.dc, .slice v.eA v.en v.ec, .int .i64 v.ver] 56)) w0.heap.size o) ∧ RI w0 bm es clock p (seen.push b) (setBlock (W.alloc (.cells #[.int .i64 v.fid, .bool v.dir, .slice v.dA v.dn v.dc, .slice v.eA v.en v.ec, .int .i64 v.ver] 56)) w0.heap.size o)) := by
  obtain ⟨hit, g, hg, hs⟩ := h
  rcases hit.next hn hc ty with h1 | ⟨e, he, W, h1, h2, h3, h4, h5⟩
  · exact .inl h1
  · right
    obtain ⟨hem, _⟩ := mem_left he
    obtain ⟨k, hk, hf⟩ := hh.key e hem
    rcases ha k with ⟨h6, _⟩ | ⟨v, x, h6, _, _⟩
    · rw [h6] at hf; cases hf
    · rw [h6] at hf
      injection hf with hf
      have hgW : IMap W w0.heap.size g := hg.same (h5 _ (by omega))
      have hwa : Below W.heap.size W (W.alloc (.cells #[.int .i64 v.fid, .bool v.dir, .slice v.dA v.dn v.dc, .slice v.eA v.en v.ec, .int .i64 v.ver] 56)) := (Below.refl _ _).alloc (Nat.le_refl _) _
      refine ⟨e.born, v, k, W, left_shrinks es seen e he, by rw [h1, hk, hf], by rw [h2, hk, hf], fun hp => ?_, fun hp => ?_⟩
      · exact ⟨h3.below hwa, g, hgW.below (Nat.le_refl _) hwa, seen_skip hs hn hem hk hp⟩
      · obtain ⟨o, hr, hi⟩ := run_update_map 30 56 Try.underlying30 (hgW.below (Nat.le_refl _) hwa) k v.val
        refine ⟨o, hr, (h3.below hwa).set (Nat.le_refl _) (by omega) o, _, hi, ?_⟩
        have := seen_step hs hh hn hem hk hp
        rw [← hf] at this
        exact this

set_option maxHeartbeats 2000000 in
theorem withK_any (bm : Nat) (xs : List M.Nd) (v : NV) (x : M.Nd) (w : World) (ht : TMapK w bm xs) (hc : ContK w v x) :
    Calls Try.prog 26 #[.map (some bm), v.val] w fun e w' => ∃ b, e = .returned (.map (some b)) ∧ TMapK w' b (M.putN xs x) ∧ Below w.heap.size w w' := by
  obtain ⟨f, ⟨es, clock, hb, hh, hn, hcl⟩, ha⟩ := ht
  have hwa : Below w.heap.size w (w.alloc (.cells #[.int .i64 v.fid, .bool v.dir, .slice v.dA v.dn v.dc, .slice v.eA v.en v.ec, .int .i64 v.ver] 56)) := (Below.refl _ _).alloc (Nat.le_refl _) _
  have hbm : bm < w.heap.size := lt_of_block hb
  have H0 : Hid ((w.alloc (.cells #[.int .i64 v.fid, .bool v.dir, .slice v.dA v.dn v.dc, .slice v.eA v.en v.ec, .int .i64 v.ver] 56)).heap[bm]? = some (.map es clock) ∧ Box (w.alloc (.cells #[.int .i64 v.fid, .bool v.dir, .slice v.dA v.dn v.dc, .slice v.eA v.en v.ec, .int .i64 v.ver] 56)) w.heap.size v ∧ ContK (w.alloc (.cells #[.int .i64 v.fid, .bool v.dir, .slice v.dA v.dn v.dc, .slice v.eA v.en v.ec, .int .i64 v.ver] 56)) v x ∧ AgreeK (w.alloc (.cells #[.int .i64 v.fid, .bool v.dir, .slice v.dA v.dn v.dc, .slice v.eA v.en v.ec, .int .i64 v.ver] 56)) f xs ∧ Below w.heap.size w (w.alloc (.cells #[.int .i64 v.fid, .bool v.dir, .slice v.dA v.dn v.dc, .slice v.eA v.en v.ec, .int .i64 v.ver] 56))) :=
    ⟨by rw [hwa.block bm hbm]; exact hb, Box.new w v, hc.below (Nat.le_refl _) hwa, ha.below (Nat.le_refl _) hwa, hwa⟩
  have HH : Hid (Holds es.toList f ∧ (es.toList.map (·.born)).Nodup ∧ ∀ e ∈ es.toList, e.born < clock) := ⟨hh, hn, hcl⟩
  have hrg := run_range_map (P := Try.prog) ((w.alloc (.cells #[.int .i64 v.fid, .bool v.dir, .slice v.dA v.dn v.dc, .slice v.eA v.en v.ec, .int .i64 v.ver] 56)).alloc (.map #[] 0)) 30 3 56 bm es clock Try.underlying30 (by rw [Below.heap_alloc _ _ _ (lt_of_block H0.out.1)]; exact H0.out.1)
  have hmm := @run_makeMap Try.prog
  clear hb hh hn hcl ha hc hwa
  go_enter Try.func26, Try.ntmps26
  go_wp2
  have hsz : (w.alloc (.cells #[.int .i64 v.fid, .bool v.dir, .slice v.dA v.dn v.dc, .slice v.eA v.en v.ec, .int .i64 v.ver] 56)).heap.size = w.heap.size + 1 := by simp
  generalize w.alloc (.cells #[.int .i64 v.fid, .bool v.dir, .slice v.dA v.dn v.dc, .slice v.eA v.en v.ec, .int .i64 v.ver] 56) = W0 at H0 hrg hsz ⊢
  have HSZ : Hid (W0.heap.size = w.heap.size + 1) := hsz
  clear hrg hsz
  go_loopw [] (fun wr => ∃ seen, RI W0 bm es clock (fun _ => true) seen wr) (fun wr => (leftOf es (wr.iterSeen (w.heap.size + 1 + 1))).size)
  case atStart => exact ⟨#[], RI.start _ H0.out.1⟩
  case round =>
    obtain ⟨seen, hri⟩ := hrel
    have HRI : Hid (RI W0 bm es clock (fun _ => true) seen wr) := hri
    have hse := hri.1.seen
    have hrd := hri.roundK HH.out.1 HH.out.2.1 HH.out.2.2 H0.out.2.2.2.1 0
    rw [HSZ.out] at hrd hse
    rcases hrd with ⟨h0, hnx⟩ | ⟨b, ve, k, W, hlt, hnx, hen, _, hup⟩
    · obtain ⟨hit, g, hg, hs⟩ := HRI.out
      have hge : g = f := by funext q; have := seen_end hs HH.out.1 h0 q; simpa using this
      rw [hge] at hg
      rw [HSZ.out] at hg
      obtain ⟨o, hu, him⟩ := run_update_map 30 56 Try.underlying30 hg v.fid v.val
      have hbl : Below w.heap.size w (setBlock wr (w.heap.size + 1) o) := setBlock_below (H0.out.2.2.2.2.trans (hit.bel.mono (by rw [HSZ.out]; omega))) (by omega) o
      have hb0 : Below W0.heap.size W0 (setBlock wr (w.heap.size + 1) o) := setBlock_below hit.bel (by rw [HSZ.out]; omega) o
      have HF : Hid (TMapK (setBlock wr (w.heap.size + 1) o) (w.heap.size + 1) (M.putN xs x) ∧ Below w.heap.size w (setBlock wr (w.heap.size + 1) o)) :=
        ⟨⟨_, him, (agreeK_upd H0.out.2.2.2.1 H0.out.2.2.1 (find_putN xs x)).below (Nat.le_refl _) hb0⟩, hbl⟩
      obtain ⟨p0, p1, p2, p3, p4, pf, pz⟩ := (H0.out.2.1.below hit.bel (by rw [HSZ.out]; omega)).facts
      clear hit hs hge hg him hbl hb0 hse h0 hri
      go_wp2
      go_ret
      exact ⟨_, rfl, HF.out.1, HF.out.2⟩
    · obtain ⟨o, hu, hri2⟩ := hup rfl
      have HR2 : Hid (RI W0 bm es clock (fun _ => true) (seen.push b) (setBlock (W.alloc (.cells #[.int .i64 ve.fid, .bool ve.dir, .slice ve.dA ve.dn ve.dc, .slice ve.eA ve.en ve.ec, .int .i64 ve.ver] 56)) (w.heap.size + 1) o)) := hri2
      have hse2 := hri2.1.seen
      rw [HSZ.out] at hse2
      have HM : Hid (_ ∧ _ ∧ _) := ⟨hlt, hse, hse2⟩
      clear hup hri hri2 hlt hse hse2
      go_wp2
      go_roundw
      case rel => exact ⟨_, HR2.out⟩
      case measure => rw [HM.out.2.2, HM.out.2.1]; exact HM.out.1

set_option maxHeartbeats 2000000 in
theorem withoutK_any (bm : Nat) (xs : List M.Nd) (t : Int) (w : World) (ht : TMapK w bm xs) :
    Calls Try.prog 30 #[.map (some bm), .int .i64 t] w fun e w' => ∃ b, e = .returned (.map (some b)) ∧ TMapK w' b (M.dropN xs t) ∧ Below w.heap.size w w' := by
  obtain ⟨f, ⟨es, clock, hb, hh, hn, hcl⟩, ha⟩ := ht
  have H0 : Hid (w.heap[bm]? = some (.map es clock) ∧ AgreeK w f xs) := ⟨hb, ha⟩
  have HH : Hid (Holds es.toList f ∧ (es.toList.map (·.born)).Nodup ∧ ∀ e ∈ es.toList, e.born < clock) := ⟨hh, hn, hcl⟩
  have hrg := run_range_map (P := Try.prog) (w.alloc (.map #[] 0)) 30 3 56 bm es clock Try.underlying30 (by rw [Below.heap_alloc _ _ _ (lt_of_block hb)]; exact hb)
  have hmm := @run_makeMap Try.prog
  clear hb hh hn hcl ha
  go_enter Try.func30, Try.ntmps30
  go_wp2
  clear hrg
  go_loopw [] (fun wr => ∃ seen, RI w bm es clock (fun k => !decide (k = t)) seen wr) (fun wr => (leftOf es (wr.iterSeen (w.heap.size + 1))).size)
  case atStart => exact ⟨#[], RI.start _ H0.out.1⟩
  case round =>
    obtain ⟨seen, hri⟩ := hrel
    have HRI : Hid (RI w bm es clock (fun k => !decide (k = t)) seen wr) := hri
    have hse := hri.1.seen
    have hrd := hri.roundK HH.out.1 HH.out.2.1 HH.out.2.2 H0.out.2 0
    rcases hrd with ⟨h0, hnx⟩ | ⟨b, ve, k, W, hlt, hnx, hen, hno, hup⟩
    · obtain ⟨hit, g, hg, hs⟩ := HRI.out
      have HF : Hid (TMapK wr w.heap.size (M.dropN xs t) ∧ Below w.heap.size w wr) := by
        refine ⟨⟨g, hg, fun q => ?_⟩, hit.bel⟩
        rw [seen_end hs HH.out.1 h0 q, find_dropN]
        by_cases hq : q = t
        · simp [hq]
        · have := (H0.out.2.below (Nat.le_refl _) hit.bel) q
          simpa [hq] using this
      clear hit hs hg hse h0 hri
      go_wp2
      go_ret
      exact ⟨_, rfl, HF.out.1, HF.out.2⟩
    · by_cases hkt : k = t
      · have hri2 := hno (by simp [hkt])
        have HR2 : Hid (RI w bm es clock (fun k => !decide (k = t)) (seen.push b) (W.alloc (.cells #[.int .i64 ve.fid, .bool ve.dir, .slice ve.dA ve.dn ve.dc, .slice ve.eA ve.en ve.ec, .int .i64 ve.ver] 56))) := hri2
        have hse2 := hri2.1.seen
        have HM : Hid (_ ∧ _ ∧ _) := ⟨hlt, hse, hse2⟩
        have q1 : (k == t) = true := by simp [hkt]
        have q2 : (k != t) = false := by simp [hkt]
        clear hup hno hri hri2 hlt hse hse2 hkt
        go_wp2
        go_roundw
        case rel => exact ⟨_, HR2.out⟩
        case measure => rw [HM.out.2.2, HM.out.2.1]; exact HM.out.1
      · obtain ⟨o, hu, hri2⟩ := hup (by simp [hkt])
        have HR2 : Hid (RI w bm es clock (fun k => !decide (k = t)) (seen.push b) (setBlock (W.alloc (.cells #[.int .i64 ve.fid, .bool ve.dir, .slice ve.dA ve.dn ve.dc, .slice ve.eA ve.en ve.ec, .int .i64 ve.ver] 56)) w.heap.size o)) := hri2
        have hse2 := hri2.1.seen
        have HM : Hid (_ ∧ _ ∧ _) := ⟨hlt, hse, hse2⟩
        have q1 : (k == t) = false := by simp [hkt]
        have q2 : (k != t) = true := by simp [hkt]
        clear hup hno hri hri2 hlt hse hse2 hkt
        go_wp2
        go_roundw
        case rel => exact ⟨_, HR2.out⟩
        case measure => rw [HM.out.2.2, HM.out.2.1]; exact HM.out.1
end Go.Proofs.Ytcjobmbbikfnaac
/-
  WHAT SINGLE OPERATIONS DO, further: calls through a slot, nodes that are built (for regions that draw their order).
-/
namespace Go.Proofs.Ytcjobmbbikfnaac
open Go.RowKit

theorem does_rn {a : Act} {w w' : World} {R : Value → World → Prop} {o : Oper} {v : Value} (h : (execOp a.eval o).run Try.prog w = .ok (.value v) w') (hR : R v w') : Does Try.prog o a w R := .inl ⟨v, w', h, hR⟩
/-- the value is this -/
def IsU (c : Value) : Value → World → Prop := fun v _ => v = c
section
variable {w : World} {d : Option Tmp} {ty : TypeId} {pos : String} {af : Array Edge} {g : Option (Nat × Bool)} {x y : Operand}
theorem run_callC {P : Program} {ρ : Operand → Value} {f : FuncId} {c : Operand} {caps : Array Value} {u : Value} {ts : Array TypeId} (hcf : Enters P f) (hfn : ρ c = .func (.func f) #[] caps) (hx : ρ x = u) :
    (execOp ρ ⟨d, .call { callee := .value c, args := #[x], argTypes := ts }, ty, pos, af, g⟩).run P w = .ok (.enter f (#[u] ++ caps)) w := by
  simp [execOp, resolve, invoke, hcf.out, hfn, hx, go_sem]
theorem does_callC {P : Program} {a : Act} {R : Value → World → Prop} {f : FuncId} {c : Operand} {caps : Array Value} {u : Value} {ts : Array TypeId} (hcf : Enters P f) (hfn : a.eval c = .func (.func f) #[] caps) (hx : a.eval x = u) (h : Calls P f (#[u] ++ caps) w fun e w'' => ∃ r, e = .returned r ∧ R r w'') :
    Does P ⟨d, .call { callee := .value c, args := #[x], argTypes := ts }, ty, pos, af, g⟩ a w R := .inr ⟨f, _, w, run_callC hcf hfn hx, h⟩
theorem run_eqN {ρ : Operand → Value} {b c : Int} (hx : ρ x = .int .i64 b) (hy : ρ y = .int .i64 c) : (execOp ρ ⟨d, .binOp .eql 3 x y 3, ty, pos, af, g⟩).run Try.prog w = .ok (.value (.bool (b == c))) w := by
  simp [execOp, hx, hy, go_sem]
theorem run_buildN {ρ : Operand → Value} {b : Int} {c : Bool} (hx : ρ x = .int .i64 b) (hy : ρ y = .bool c) : (execOp ρ ⟨d, .build 56 #[(0, x), (1, y)], ty, pos, af, g⟩).run Try.prog w = .ok (.value (NV.val ⟨b, c, none, 0, 0, none, 0, 0, 0⟩)) w := by
  simp [execOp, hx, hy, go_sem]
end
end Go.Proofs.Ytcjobmbbikfnaac
/-
  THE REFERENCE's Apply: acts that remove.
-/
namespace Go.Proofs.Ytcjobmbbikfnaac
open Go.RowKit

theorem contV {w : World} {v : NV} {x : M.Nd} (h : Cont w v x) (ver : Int) : Cont w ⟨v.fid, v.dir, v.dA, v.dn, v.dc, v.eA, v.en, v.ec, ver⟩ (M.withV x ver) := ⟨h.1, h.2.1, rfl, h.2.2.2.1, h.2.2.2.2⟩
def VR44 (bm sv sa : Nat) (xs : List M.Nd) (a : AV) (v : NV) (x : M.Nd) (ver : Int) : Nat → Value → World → Prop
  | 0 => IsU (.map (some bm))
  | 1 => IsU (.func (.func 23) #[] #[.pointer (some ⟨sv, 0, none⟩)])
  | 2 => IsU (NV.val v)
  | 3 => IsU (.pointer (some ⟨sa, 3, none⟩))
  | 4 => IsU (.string (a.name))
  | 5 => IsNd (withE x (M.dropE x.ents a.name))
  | 6 => IsNd (M.withV (withE x (M.dropE x.ents a.name)) ver)
  | 7 => IsMp (M.putN xs (M.withV (withE x (M.dropE x.ents a.name)) ver))
  | 8 => IsU (.pointer (some ⟨sa, 1, none⟩))
  | 9 => IsU (.int .i64 (a.fid))
  | 10 => IsMp (M.dropN (M.putN xs (M.withV (withE x (M.dropE x.ents a.name)) ver)) a.fid)
  | 11 => IsMp (M.dropN (M.putN xs (M.withV (withE x (M.dropE x.ents a.name)) ver)) a.fid)
  | 12 => IsU (.int .i64 (0))
  | _ => fun _ _ => True
theorem VR44_stays (bm sv sa : Nat) (xs : List M.Nd) (a : AV) (v : NV) (x : M.Nd) (ver : Int) : ∀ i, Stays (VR44 bm sv sa xs a v x ver i) := by
  intro i v W W' hb h
  match i, h with
  | 0, h => exact h
  | 1, h => exact h
  | 2, h => exact h
  | 3, h => exact h
  | 4, h => exact h
  | 5, h => exact isNd_below hb h
  | 6, h => exact isNd_below hb h
  | 7, h => exact isMp_below hb h
  | 8, h => exact h
  | 9, h => exact h
  | 10, h => exact isMp_below hb h
  | 11, h => exact isMp_below hb h
  | 12, h => exact h
  | k + 13, h => trivial

set_option maxRecDepth 8000 in
set_option maxHeartbeats 8000000 in
theorem refRemove_any (bm : Nat) (xs : List M.Nd) (a : AV) (ac : M.Act) (ver : Int) (w : World) (ht : TMap w bm xs) (ha : ContA w a ac) (hri : M.Rise xs) (hsm : ∀ x ∈ xs, Small x) (hk : a.kind = 4) :
    Calls Try.prog 15 #[.map (some bm), a.val, .int .i64 ver] w (AppliedM w (M.removeS xs ac ver)) := by
  have HT : Hid (TMap w bm xs ∧ ContA w a ac ∧ True) := ⟨ht, ha, trivial⟩
  have HK : Hid (a.fid = ac.fid ∧ a.dir = ac.dir ∧ a.name = ac.name ∧ a.to = ac.to ∧ a.toName = ac.toName) := ⟨ha.2.1, ha.2.2.1, ha.2.2.2.1, ha.2.2.2.2.1, ha.2.2.2.2.2.1⟩
  have HSM : Hid (∀ x ∈ xs, Small x) := hsm
  have HRI : Hid (M.Rise xs) := hri
  have HW : Hid _ := apw_start w a ver
  have k1 : (a.kind == 1) = false := by simp [hk]
  have k2 : (a.kind == 2) = false := by simp [hk]
  have k3 : (a.kind == 3) = false := by simp [hk]
  have k4 : (a.kind == 4) = true := by simp [hk]
  have k5 : (a.kind == 5) = false := by simp [hk]
  clear ht ha hk hri hsm
  go_enter Try.func15, Try.ntmps15
  go_upto_region 1 with (fail)
  go_cut [8] from 24 to 24 (fun v W => v = .func (.func 23) #[] #[.pointer (some ⟨w.heap.size + 1, 0, none⟩)] ∧ ApW w a ver W)
  case first =>
    go_wp2_with (fail)
    go_meet
    case rel => exact ⟨rfl, HW.out _ rfl⟩
  obtain ⟨rfl, hw1⟩ := hcut
  rename World => w1
  obtain ⟨a0, a1, a2, a3, a4, a5, a6, af, az⟩ := hw1.2.1.facts
  have H1 : Hid (ApW w a ver w1 ∧ TMap w1 bm xs ∧ ContA w1 a ac) := ⟨hw1, HT.out.1.below (Nat.le_refl _) hw1.1, HT.out.2.1.below (Nat.le_refl _) hw1.1⟩
  clear hw1 HW
  go_wp2_with (fail)
  refine (refDir_any bm xs a.dir w1 H1.out.2.1).mono ?_
  rintro e w2 ⟨v, rfl, hdc, hb2⟩
  have H2 : Hid (ApW w a ver w2 ∧ TMap w2 bm xs ∧ ContA w2 a ac) := ⟨H1.out.1.next hb2, H1.out.2.1.below (Nat.le_refl _) hb2, H1.out.2.2.below (Nat.le_refl _) hb2⟩
  have HDC : Hid ((M.dirS xs a.dir).1 = 0 → Cont w2 v (M.dirS xs a.dir).2) := hdc
  clear hb2 hdc H1 a0 a1 a2 a3 a4 a5 a6 af az
  obtain ⟨a0, a1, a2, a3, a4, a5, a6, af, az⟩ := H2.out.1.2.1.facts
  by_cases hd0 : (M.dirS xs a.dir).1 = 0
  case' neg =>
    have e1 : ((M.dirS xs a.dir).1 != 0) = true := by simp [hd0]
    have HS : Hid ((M.removeS xs ac ver).1 = (M.dirS xs a.dir).1 ∧ (M.dirS xs a.dir).1 ≠ 0) := ⟨by unfold M.removeS; rw [HK.out.2.1] at hd0 ⊢; rw [hold_err hd0, if_pos hd0], hd0⟩
    clear hd0
    go_wp2_with (fail)
    go_ret2
    exact AppliedM.no HS.out.1 HS.out.2 (H2.out.1.1.trans (((Below.refl _ _).alloc (Nat.le_refl _) _).mono H2.out.1.1.size))
  obtain ⟨x, hx⟩ : ∃ x, (M.dirS xs a.dir).2 = x := ⟨_, rfl⟩
  have HDX : Hid (M.dirS xs a.dir = (0, x)) := by show _ = _; rw [← hx, ← hd0]
  have hfx : M.find xs a.dir = some x := by rw [← hx]; exact (M.dir_ok hd0).1
  have HCX : Hid (Cont w2 v x ∧ Small x ∧ M.RsE x.ents) := ⟨by rw [← hx]; exact HDC.out hd0, HSM.out x (M.find_mem hfx).1, HRI.out.2 x (M.find_mem hfx).1⟩
  rw [hd0]
  clear hd0 hx hfx HDC
  have HWN : Hid (∀ W, W = w2.alloc (.cells #[.int .i64 v.fid, .bool v.dir, .slice v.dA v.dn v.dc, .slice v.eA v.en v.ec, .int .i64 v.ver] 56) → Below w2.heap.size w2 W ∧ Box W w2.heap.size v) := by
    rintro W rfl
    exact ⟨(Below.refl _ _).alloc (Nat.le_refl _) _, Box.new w2 v⟩
  go_wp2_with (fail)
  obtain ⟨q1, q2⟩ := HWN.out _ rfl
  refine (refEntry_any v x a.name _ (HCX.out.1.below (Nat.le_refl _) q1) HCX.out.2.1).mono ?_
  rintro e w3 ⟨rfl, hb3⟩
  have h23 : Below w2.heap.size w2 w3 := q1.trans (hb3.mono q1.size)
  have H3 : Hid (ApW w a ver w3 ∧ TMap w3 bm xs ∧ ContA w3 a ac ∧ Box w3 w2.heap.size v ∧ Cont w3 v x) := ⟨H2.out.1.next h23, H2.out.2.1.below (Nat.le_refl _) h23, H2.out.2.2.below (Nat.le_refl _) h23, q2.below hb3 (lt_of_block q2), HCX.out.1.below (Nat.le_refl _) h23⟩
  have HN2 : Hid (w2.heap.size < w3.heap.size ∧ w.heap.size + 1 < w2.heap.size) := ⟨lt_of_block (q2.below hb3 (lt_of_block q2)), lt_of_block H2.out.1.2.2⟩
  clear q1 q2 hb3 h23 H2 HWN a0 a1 a2 a3 a4 a5 a6 af az
  obtain ⟨a0, a1, a2, a3, a4, a5, a6, af, az⟩ := H3.out.1.2.1.facts
  rcases hlk : M.look x.ents a.name with _ | en
  case' none =>
    have HS : Hid ((M.removeS xs ac ver).1 = 6) := by show _ = _; unfold M.removeS; rw [← HK.out.1, ← HK.out.2.1, ← HK.out.2.2.1, hold_none HDX.out hlk]; rfl
    clear hlk
    go_wp2_with (fail)
    go_ret2
    exact AppliedM.no HS.out (by decide) H3.out.1.1
  obtain ⟨en1, en2⟩ := en
  have hgd : (((some (en1, en2) : Option (ByteArray × Int)).map (·.2)).getD 0) = en2 := rfl
  have hgs : (some (en1, en2) : Option (ByteArray × Int)).isSome = true := rfl
  rw [hgd, hgs]
  clear hgd hgs
  by_cases hen : en2 = a.fid
  case' neg =>
    have e1 : (en2 != a.fid) = true := by simp [hen]
    have HS : Hid ((M.removeS xs ac ver).1 = 13) := by show _ = _; unfold M.removeS; rw [← HK.out.1, ← HK.out.2.1, ← HK.out.2.2.1, hold_other HDX.out hlk hen]; rfl
    clear hlk hen
    go_wp2_with (fail)
    go_ret2
    exact AppliedM.no HS.out (by decide) H3.out.1.1
  have e1 : (en2 != a.fid) = false := by simp [hen]
  have HHO : Hid (M.holdS xs ac.dir ac.name ac.fid = (0, x)) := by
    rw [← HK.out.1, ← HK.out.2.1, ← HK.out.2.2.1]
    exact hold_yes HDX.out hlk hen
  clear hlk hen
  rcases IMap.ask H3.out.2.1 a.fid with ⟨hf, hl⟩ | ⟨vf, xf, hf, hcf, hl⟩
  · have hl1 := hl true
    simp only [if_true] at hl1
    have HS : Hid ((M.removeS xs ac ver).1 = 12) := by show _ = _; unfold M.removeS; rw [HHO.out, ← HK.out.1, hf]; rfl
    clear hl hf
    go_wp2_with (fail)
    go_ret2
    exact AppliedM.no HS.out (by decide) (H3.out.1.1.trans (((Below.refl _ _).alloc (Nat.le_refl _) _).mono H3.out.1.1.size))
  · have hl1 := hl true
    simp only [if_true] at hl1
    have HEN : Hid (vf.en = xf.ents.length) := hcf.2.2.2.2.1
    by_cases he0 : 0 < vf.en
    · have he0' : (0 : Int) < (vf.en : Int) := by omega
      have HS : Hid ((M.removeS xs ac ver).1 = 10) := by show _ = _; unfold M.removeS; rw [HHO.out, ← HK.out.1, hf]; simp [← HEN.out, he0]
      clear hl hf hcf
      go_wp2_with (fail)
      go_ret2
      exact AppliedM.no HS.out (by decide) (H3.out.1.1.trans (((Below.refl _ _).alloc (Nat.le_refl _) _).mono H3.out.1.1.size))
    · have he0' : ¬ (0 : Int) < (vf.en : Int) := by omega
      have HS : Hid (M.removeS xs ac ver = (0, M.dropN (M.putN xs (M.withV (withE x (M.dropE x.ents a.name)) ver)) a.fid)) := by
        show _ = _
        unfold M.removeS
        rw [HHO.out, ← HK.out.1, ← HK.out.2.2.1, hf]
        simp [← HEN.out, he0, withE]
      clear hl hf hcf
      have HN5 : Hid (∀ W, W = w3.alloc (.cells #[.int .i64 vf.fid, .bool vf.dir, .slice vf.dA vf.dn vf.dc, .slice vf.eA vf.en vf.ec, .int .i64 vf.ver] 56) → Below w3.heap.size w3 W) := by
        rintro W rfl; exact (Below.refl _ _).alloc (Nat.le_refl _) _
      have HSX : Hid (Small x) := HCX.out.2.1
      go_upto_region 44 with (fail)
      have hb5 := HN5.out _ rfl
      have hbd : ∀ W5 : World, Below w3.heap.size w3 W5 → ∀ W, Below W5.drew.heap.size W5.drew W → Below w3.heap.size w3 W := fun W5 h5 W hb => h5.trans (((Below.refl _ _).drew.trans hb).mono h5.size)
      have HA := fun W hb => (H3.out.1.next (hbd _ hb5 W hb)).2.1
      have HV := fun W hb => (H3.out.1.next (hbd _ hb5 W hb)).ver
      have HM := fun W hb => H3.out.2.1.below (Nat.le_refl _) (hbd _ hb5 W hb)
      have HN := fun W hb => H3.out.2.2.2.1.below (hbd _ hb5 W hb) (lt_of_block H3.out.2.2.2.1)
      have HCN := fun W hb => H3.out.2.2.2.2.below (Nat.le_refl _) (hbd _ hb5 W hb)
      have HEND : Hid (∀ W5 W : World, Below w3.heap.size w3 W5 → Below W5.heap.size W5 W → Below w.heap.size w W) := fun W5 W h5 hb => H3.out.1.1.trans ((h5.trans (hb.mono h5.size)).mono H3.out.1.1.size)
      refine wp_region_vals (VR44 bm (w.heap.size + 1) w.heap.size xs a v x ver) (by kernel_rfl) (by kernel_rfl) (VR44_stays bm (w.heap.size + 1) w.heap.size xs a v x ver) ?_ ?_
      · intro i hi
        match i, hi with
        | 0, _ =>
          refine StepAt.by rfl fun a' W hf hb hd => ?_
          exact .inl ⟨want_none, does_move ((hf.keeps 0 (by kernel_rfl)).trans rfl) ⟨Below.refl _ _, rfl⟩⟩
        | 1, _ =>
          refine StepAt.by rfl fun a' W hf hb hd => ?_
          exact .inl ⟨want_none, does_move ((hf.keeps 8 (by kernel_rfl)).trans rfl) ⟨Below.refl _ _, rfl⟩⟩
        | 2, _ =>
          refine StepAt.by rfl fun a' W hf hb hd => ?_
          exact .inl ⟨want_none, does_rn (run_load26 ((hf.keeps 16 (by kernel_rfl)).trans rfl) (HN W hb)) ⟨Below.refl _ _, rfl⟩⟩
        | 3, _ =>
          refine StepAt.by rfl fun a' W hf hb hd => ?_
          exact .inl ⟨want_none, does_rn (run_fieldA ((hf.keeps 4 (by kernel_rfl)).trans rfl) (by decide)) ⟨Below.refl _ _, rfl⟩⟩
        | 4, _ =>
          refine StepAt.by rfl fun a' W hf hb hd => ?_
          exact .inl ⟨want_none, does_rn (run_load9 (hd 3 (by kernel_rfl)) (BoxA.facts (HA W hb)).2.2.2.1) ⟨Below.refl _ _, rfl⟩⟩
        | 5, _ =>
          refine StepAt.by rfl fun a' W hf hb hd => ?_
          refine .inl ⟨want_none, ?_⟩
          exact does_call2 (enters_of Try.func29 (by kernel_rfl) (by kernel_rfl)) (hd 2 (by kernel_rfl)) (hd 4 (by kernel_rfl)) ((refLeave_any v x a.name W (HCN W hb) HSX.out).mono fun e W' ⟨v', he, hc, hb'⟩ => ⟨_, he, hb', v', rfl, hc⟩)
        | 6, _ =>
          refine StepAt.by rfl fun a' W hf hb hd => ?_
          refine .inl ⟨want_none, ?_⟩
          obtain ⟨v1, e1, hc1⟩ := hd 5 (by kernel_rfl)
          exact does_callC (enters_of Try.func23 (by kernel_rfl) (by kernel_rfl)) (hd 1 (by kernel_rfl)) e1 ((refVer_any v1 (w.heap.size + 1) ver W (HV W hb)).mono fun e W' ⟨he, hb'⟩ => ⟨_, he, hb', ⟨v1.fid, v1.dir, v1.dA, v1.dn, v1.dc, v1.eA, v1.en, v1.ec, ver⟩, rfl, (contV hc1 ver).below (Nat.le_refl _) hb'⟩)
        | 7, _ =>
          refine StepAt.by rfl fun a' W hf hb hd => ?_
          refine .inl ⟨want_none, ?_⟩
          obtain ⟨v1, e1, hc1⟩ := hd 6 (by kernel_rfl)
          have e0 := hd 0 (by kernel_rfl)
          have ht0 := HM W hb
          exact does_call2 (enters_of Try.func26 (by kernel_rfl) (by kernel_rfl)) e0 e1 ((with_any _ _ v1 _ W ht0 hc1).mono fun e W' ⟨b, he, ht, hb'⟩ => ⟨_, he, hb', b, rfl, ht⟩)
        | 8, _ =>
          refine StepAt.by rfl fun a' W hf hb hd => ?_
          exact .inl ⟨want_none, does_rn (run_fieldA ((hf.keeps 4 (by kernel_rfl)).trans rfl) (by decide)) ⟨Below.refl _ _, rfl⟩⟩
        | 9, _ =>
          refine StepAt.by rfl fun a' W hf hb hd => ?_
          exact .inl ⟨want_none, does_rn (run_load3 (hd 8 (by kernel_rfl)) (BoxA.facts (HA W hb)).2.1) ⟨Below.refl _ _, rfl⟩⟩
        | 10, _ =>
          refine StepAt.by rfl fun a' W hf hb hd => ?_
          refine .inl ⟨want_none, ?_⟩
          obtain ⟨b0, e0, ht0⟩ := hd 7 (by kernel_rfl)
          exact does_call2 (enters_of Try.func30 (by kernel_rfl) (by kernel_rfl)) e0 (hd 9 (by kernel_rfl)) ((without_any _ _ a.fid W ht0).mono fun e W' ⟨b, he, ht, hb'⟩ => ⟨_, he, hb', b, rfl, ht⟩)
        | 11, _ =>
          refine StepAt.by rfl fun a' W hf hb hd => ?_
          exact .inl ⟨want_none, does_assign rfl ⟨Below.refl _ _, (hd 10 (by kernel_rfl))⟩⟩
        | 12, _ =>
          refine StepAt.by rfl fun a' W hf hb hd => ?_
          exact .inl ⟨want_none, does_assign rfl ⟨Below.refl _ _, rfl⟩⟩
        | k + 13, hi => exact absurd hi (Nat.not_lt.2 (Nat.le_add_left _ _))
      · intro a' W hf hb hv
        obtain ⟨b6, e6, ht6⟩ := hv 11 (by decide)
        have e7 : a'.eval (.tmp 7) = .int .i64 (0) := hv 12 (by decide)
        have hl := hf.lit (fun t => decide (149 ≤ t) && decide (t ≤ 159) || decide (t = 6) || decide (t = 7)) (by kernel_rfl)
        simp only [overL, Nat.reduceAdd, Nat.reduceLeDiff, Nat.reduceEqDiff, decide_true, decide_false, Bool.and_true, Bool.and_false, Bool.or_true, Bool.or_false] at hl
        have e6' : a'.eval (.tmp 6) = .map (some b6) := e6
        rw [hl, e6', e7]
        have HF : Hid (TMap W b6 _ ∧ Below _ _ W) := ⟨ht6, hb⟩
        clear hl hf hb hv e6 e6' e7 ht6
        go_wp2_with (fail)
        go_ret2
        exact AppliedM.yes HS.out HF.out.1 (HEND.out _ _ (HN5.out _ rfl) HF.out.2)
end Go.Proofs.Ytcjobmbbikfnaac
/-
  TREES WHOSE LISTS STAY: dir; what is asked, and answered.
-/
namespace Go.Proofs.Ytcjobmbbikfnaac
open Go.RowKit
open Go.ChangeMaps (setBlock)
variable [Inhabited BaseN]

def IsMpK (xs : List M.Nd) : Value → World → Prop := fun v W => ∃ b, v = .map (some b) ∧ TMapK W b xs
theorem isMpK_below {xs : List M.Nd} {v : Value} {W W' : World} (hb : Below W.heap.size W W') (h : IsMpK xs v W) : IsMpK xs v W' := by
  obtain ⟨b, e, ht⟩ := h
  exact ⟨b, e, ht.below (Nat.le_refl _) hb⟩
def IsNdK (x : M.Nd) : Value → World → Prop := fun v W => ∃ v' : NV, v = v'.val ∧ ContK W v' x
theorem isNdK_below {x : M.Nd} {v : Value} {W W' : World} (hb : Below W.heap.size W W') (h : IsNdK x v W) : IsNdK x v W' := by
  obtain ⟨v', e, hc⟩ := h
  exact ⟨v', e, hc.below (Nat.le_refl _) hb⟩
def AppliedMK (w : World) (spec : Int × List M.Nd) (e : Ending) (w' : World) : Prop :=
  Below w.heap.size w w' ∧ ∃ m, e = .returned (.tuple #[.map m, .int .i64 spec.1]) ∧ ((spec.1 = 0 ∧ ∃ bm, m = some bm ∧ TMapK w' bm spec.2) ∨ (spec.1 ≠ 0 ∧ m = none))
theorem AppliedMK.no {w w' : World} {s : Int × List M.Nd} {k : Int} (h : s.1 = k) (hk : k ≠ 0) (hb : Below w.heap.size w w') : AppliedMK w s (.returned (.tuple #[.map none, .int .i64 k])) w' := by
  subst h; exact ⟨hb, none, rfl, .inr ⟨hk, rfl⟩⟩
theorem AppliedMK.yes {w w' : World} {s : Int × List M.Nd} {ys : List M.Nd} {bm : Nat} (h : s = (0, ys)) (ht : TMapK w' bm ys) (hb : Below w.heap.size w w') : AppliedMK w s (.returned (.tuple #[.map (some bm), .int .i64 0])) w' := by
  subst h; exact ⟨hb, some bm, rfl, .inl ⟨rfl, bm, rfl, ht⟩⟩
theorem contVK {w : World} {v : NV} {x : M.Nd} (h : ContK w v x) (ver : Int) : ContK w ⟨v.fid, v.dir, v.dA, v.dn, v.dc, v.eA, v.en, v.ec, ver⟩ (M.withV x ver) := ⟨contV h.1 ver, h.2.1, h.2.2⟩
theorem refEntryK_any (v : NV) (x : M.Nd) (s : ByteArray) (w : World) (hc : ContK w v x) (hs : Small x) :
    Calls Try.prog 28 #[v.val, .string s] w fun e w' => e = .returned (.tuple #[.int .i64 (((M.look x.ents s).map (·.2)).getD 0), .bool (M.look x.ents s).isSome]) ∧ Below w.heap.size w w' := refEntry_any v x s w hc.1 hs
theorem refRoomK_any (v : NV) (x : M.Nd) (s : ByteArray) (w : World) (hc : ContK w v x) (hs : Small x) (hl : s.size ≤ maxLen) :
    Calls Try.prog 25 #[v.val, .string s] w fun e w' => e = .returned (.int .i64 (M.freeS x s)) ∧ Below w.heap.size w w' := refRoom_any v x s w hc.1 hs hl
theorem refWithinK_any (bm : Nat) (xs : List M.Nd) (t a : Int) (w : World) (ht : TMapK w bm xs) (hs : ∀ x ∈ xs, Small x) (hN : ((allF xs).length + 2) * 8 ≤ 140737488355328) :
    Calls Try.prog 31 #[.map (some bm), .int .i64 t, .int .i64 a] w fun e w' => ∃ b : Bool, e = .returned (.bool b) ∧ (b = true ↔ M.Reach xs a t) ∧ Below w.heap.size w w' := refWithin_any bm xs t a w ht.weak hs hN
theorem refLeaveK_any (v : NV) (x : M.Nd) (s : ByteArray) (w : World) (hc : ContK w v x) (hs : Small x) :
    Calls Try.prog 29 #[v.val, .string s] w fun e w' => ∃ v' : NV, e = .returned v'.val ∧ ContK w' v' (withE x (M.dropE x.ents s)) ∧ Below w.heap.size w w' := by
  refine (refLeave_own v x s w hc.1 hs).mono ?_
  rintro e w' ⟨A, m, c, rfl, ho, hb⟩
  exact ⟨_, rfl, ⟨⟨hc.1.1, hc.1.2.1, hc.1.2.2.1, hc.1.2.2.2.1.below (Nat.le_refl _) hb, Row.ofOwn ent_len (by decide) ho⟩, hc.2.1.below (Nat.le_refl _) hb, .own ho⟩, hb⟩
theorem refEnterK_any (v : NV) (x : M.Nd) (s : ByteArray) (f : Int) (w : World) (hc : ContK w v x) (hr : M.RsE x.ents) (hs : Small x) (hs1 : (x.ents.length + 1) * 24 ≤ 140737488355328) :
    Calls Try.prog 27 #[v.val, .string s, .int .i64 f] w fun e w' => ∃ v' : NV, e = .returned v'.val ∧ ContK w' v' (withE x (M.putE x.ents (s, f))) ∧ Below w.heap.size w w' := by
  refine (refEnter_own v x s f w hc.1 hr hs hs1).mono ?_
  rintro e w' ⟨A, m, c, rfl, ho, hb⟩
  exact ⟨_, rfl, ⟨⟨hc.1.1, hc.1.2.1, hc.1.2.2.1, hc.1.2.2.2.1.below (Nat.le_refl _) hb, Row.ofOwn ent_len (by decide) ho⟩, hc.2.1.below (Nat.le_refl _) hb, .own ho⟩, hb⟩
set_option maxRecDepth 4000 in
set_option maxHeartbeats 1000000 in
theorem refDirK_any (bm : Nat) (xs : List M.Nd) (t : Int) (w : World) (ht : TMapK w bm xs) :
    Calls Try.prog 24 #[.map (some bm), .int .i64 t] w fun e w' => ∃ v : NV, e = .returned (.tuple #[v.val, .int .i64 (M.dirS xs t).1]) ∧ ((M.dirS xs t).1 = 0 → ContK w' v (M.dirS xs t).2) ∧ Below w.heap.size w w' := by
  obtain ⟨f, hi, ha⟩ := ht
  have hlk := run_lookup_map 30 56 Try.underlying30 (zero26 (w.alloc (.cells #[.int .i64 0, .bool false, .slice none 0 0, .slice none 0 0, .int .i64 0] 56))) (hi.below (Nat.le_refl _) ((Below.refl _ _).alloc (Nat.le_refl _) (.cells #[.int .i64 0, .bool false, .slice none 0 0, .slice none 0 0, .int .i64 0] 56))) t true
  rcases ha t with ⟨h1, hf⟩ | ⟨v, x, h1, hf, hcx⟩
  · rw [h1] at hlk
    simp only [if_true, Option.getD_none, Option.isSome_none] at hlk
    have HD : Hid (M.dirS xs t = (12, nd0)) := M.dir_none hf
    clear hf hi ha h1
    go_enter Try.func24, Try.ntmps24
    go_wp2
    exact bodyPost_ret (v := .tuple #[NV.zero.val, .int .i64 12]) (by simp [results, Try.results24, go_sem, NV.zero]) rfl ⟨NV.zero, by rw [HD.out], fun h => by rw [HD.out] at h; simp at h, ((Below.refl _ _).alloc (Nat.le_refl _) _).alloc (by simp) _⟩
  · rw [h1] at hlk
    simp only [if_true, Option.getD_some, Option.isSome_some] at hlk
    clear hi ha h1
    obtain ⟨fi, di, dA, dn, dc, eA, en, ec, ve⟩ := v
    cases di
    · have HD : Hid (M.dirS xs t = (8, nd0)) := M.dir_file hf hcx.1.2.1.symm
      clear hf hcx
      go_enter Try.func24, Try.ntmps24
      go_wp2
      exact bodyPost_ret (v := .tuple #[NV.val ⟨fi, false, dA, dn, dc, eA, en, ec, ve⟩, .int .i64 8]) (by simp [results, Try.results24, go_sem]) rfl ⟨⟨fi, false, dA, dn, dc, eA, en, ec, ve⟩, by rw [HD.out], fun h => by rw [HD.out] at h; simp at h, ((Below.refl _ _).alloc (Nat.le_refl _) _).alloc (by simp) _⟩
    · have HD : Hid (M.dirS xs t = (0, x)) := M.dir_yes hf hcx.1.2.1.symm
      have HC : Hid (ContK w ⟨fi, true, dA, dn, dc, eA, en, ec, ve⟩ x) := hcx
      clear hf hcx
      go_enter Try.func24, Try.ntmps24
      go_wp2
      exact bodyPost_ret (v := .tuple #[NV.val ⟨fi, true, dA, dn, dc, eA, en, ec, ve⟩, .int .i64 0]) (by simp [results, Try.results24, go_sem]) rfl ⟨⟨fi, true, dA, dn, dc, eA, en, ec, ve⟩, by rw [HD.out], fun _ => by rw [HD.out]; exact HC.out.below (Nat.le_refl _) (((Below.refl _ _).alloc (Nat.le_refl _) _).alloc (by simp) _), ((Below.refl _ _).alloc (Nat.le_refl _) _).alloc (by simp) _⟩

end Go.Proofs.Ytcjobmbbikfnaac
/-
  THE REFERENCE's Apply: acts that store, and those of no kind.
-/
namespace Go.Proofs.Ytcjobmbbikfnaac
open Go.RowKit

set_option maxRecDepth 8000 in
set_option maxHeartbeats 4000000 in
theorem refNone_any (bm : Nat) (xs : List M.Nd) (a : AV) (ac : M.Act) (ver : Int) (w : World) (ht : TMap w bm xs) (ha : ContA w a ac) (h1 : a.kind ≠ 1) (h2 : a.kind ≠ 2) (h3 : a.kind ≠ 3) (h4 : a.kind ≠ 4) (h5 : a.kind ≠ 5) :
    Calls Try.prog 15 #[.map (some bm), a.val, .int .i64 ver] w (AppliedM w (1, [])) := by
  have HT : Hid (TMap w bm xs ∧ ContA w a ac) := ⟨ht, ha⟩
  have HW : Hid _ := apw_start w a ver
  have k1 : (a.kind == 1) = false := by simp [h1]
  have k2 : (a.kind == 2) = false := by simp [h2]
  have k3 : (a.kind == 3) = false := by simp [h3]
  have k4 : (a.kind == 4) = false := by simp [h4]
  have k5 : (a.kind == 5) = false := by simp [h5]
  clear ht ha h1 h2 h3 h4 h5
  go_enter Try.func15, Try.ntmps15
  go_upto_region 1 with (fail)
  go_cut [8] from 24 to 24 (fun v W => v = .func (.func 23) #[] #[.pointer (some ⟨w.heap.size + 1, 0, none⟩)] ∧ ApW w a ver W)
  case first =>
    go_wp2_with (fail)
    go_meet
    case rel => exact ⟨rfl, HW.out _ rfl⟩
  obtain ⟨rfl, hw1⟩ := hcut
  rename World => w1
  obtain ⟨a0, a1, a2, a3, a4, a5, a6, af, az⟩ := hw1.2.1.facts
  have H1 : Hid (ApW w a ver w1 ∧ True) := ⟨hw1, trivial⟩
  clear hw1 HW
  go_wp2_with (fail)
  go_ret2
  exact AppliedM.no rfl (by decide) H1.out.1.1

set_option maxRecDepth 8000 in
set_option maxHeartbeats 8000000 in
theorem refStore_any (bm : Nat) (xs : List M.Nd) (a : AV) (ac : M.Act) (ver : Int) (w : World) (ht : TMap w bm xs) (ha : ContA w a ac) (hk : a.kind = 3) :
    Calls Try.prog 15 #[.map (some bm), a.val, .int .i64 ver] w (AppliedM w (M.storeS xs ac ver)) := by
  have HT : Hid (TMap w bm xs ∧ ContA w a ac ∧ True) := ⟨ht, ha, trivial⟩
  have HK : Hid (a.fid = ac.fid ∧ a.dn = ac.data.length) := ⟨ha.2.1, ha.2.2.2.2.2.2.1⟩
  have HW : Hid _ := apw_start w a ver
  have k1 : (a.kind == 1) = false := by simp [hk]
  have k2 : (a.kind == 2) = false := by simp [hk]
  have k3 : (a.kind == 3) = true := by simp [hk]
  have k4 : (a.kind == 4) = false := by simp [hk]
  have k5 : (a.kind == 5) = false := by simp [hk]
  clear ht ha hk
  go_enter Try.func15, Try.ntmps15
  go_upto_region 1 with (fail)
  go_cut [8] from 24 to 24 (fun v W => v = .func (.func 23) #[] #[.pointer (some ⟨w.heap.size + 1, 0, none⟩)] ∧ ApW w a ver W)
  case first =>
    go_wp2_with (fail)
    go_meet
    case rel => exact ⟨rfl, HW.out _ rfl⟩
  obtain ⟨rfl, hw1⟩ := hcut
  rename World => w1
  obtain ⟨a0, a1, a2, a3, a4, a5, a6, af, az⟩ := hw1.2.1.facts
  have H1 : Hid (ApW w a ver w1 ∧ TMap w1 bm xs ∧ ContA w1 a ac) := ⟨hw1, HT.out.1.below (Nat.le_refl _) hw1.1, HT.out.2.1.below (Nat.le_refl _) hw1.1⟩
  clear hw1 HW
  rcases IMap.ask H1.out.2.1 a.fid with ⟨hf, hl⟩ | ⟨v, x, hf, hc, hl⟩
  · have hl1 := hl true
    simp only [if_true] at hl1
    have HS : Hid ((M.storeS xs ac ver).1 = 12) := by show _ = _; unfold M.storeS; rw [← HK.out.1, hf]
    clear hl hf
    have HB : Hid (∀ W, Below w1.heap.size w1 W → Below w.heap.size w W) := fun W hb => H1.out.1.1.trans (hb.mono H1.out.1.1.size)
    go_wp2_with (fail)
    go_ret2
    exact AppliedM.no HS.out (by decide) (HB.out _ ((Below.refl _ _).alloc (Nat.le_refl _) _))
  · have hl1 := hl true
    simp only [if_true] at hl1
    have HB : Hid (∀ W, Below w1.heap.size w1 W → Below w.heap.size w W) := fun W hb => H1.out.1.1.trans (hb.mono H1.out.1.1.size)
    obtain ⟨fi, di, dA, dn, dc, eA, en, ec, ve⟩ := v
    have HC : Hid (Cont w1 ⟨fi, di, dA, dn, dc, eA, en, ec, ve⟩ x) := hc
    have hdi : di = x.dir := hc.2.1
    cases di
    case' true =>
      have HS : Hid ((M.storeS xs ac ver).1 = 9) := by show _ = _; unfold M.storeS; rw [← HK.out.1, hf]; simp [← hdi]
      clear hl hf hc hdi
      go_wp2_with (fail)
      go_ret2
      exact AppliedM.no HS.out (by decide) (HB.out _ ((Below.refl _ _).alloc (Nat.le_refl _) _))
    by_cases h20 : 20 < a.dn
    · have h20' : (20 : Int) < (a.dn : Int) := by omega
      have HS : Hid ((M.storeS xs ac ver).1 = 4) := by show _ = _; unfold M.storeS; rw [← HK.out.1, hf]; simp [← hdi, ← HK.out.2, h20]
      clear hl hf hc hdi h20
      go_wp2_with (fail)
      go_ret2
      exact AppliedM.no HS.out (by decide) (HB.out _ ((Below.refl _ _).alloc (Nat.le_refl _) _))
    · have h20' : ¬ (20 : Int) < (a.dn : Int) := by omega
      have HS : Hid (M.storeS xs ac ver = (0, M.putN xs (M.withV { x with data := ac.data } ver))) := by show _ = _; unfold M.storeS; rw [← HK.out.1, hf]; simp [← hdi, ← HK.out.2, h20]
      clear hl hf hc hdi h20
      go_wp2_with (fail)
      have hn2 : Below w1.heap.size w1 (w1.alloc (.cells #[.int .i64 fi, .bool false, .slice a.dA a.dn a.dc, .slice eA en ec, .int .i64 ve] 56)) := (Below.refl _ _).alloc (Nat.le_refl _) _
      refine (refVer_any ⟨fi, false, a.dA, a.dn, a.dc, eA, en, ec, ve⟩ (w.heap.size + 1) ver _ (H1.out.1.next hn2).ver).mono ?_
      rintro e w2 ⟨rfl, hb2⟩
      have hn3 : Below w1.heap.size w1 w2 := hn2.trans (hb2.mono hn2.size)
      have H2 : Hid (Below w1.heap.size w1 w2 ∧ Cont w2 ⟨fi, false, a.dA, a.dn, a.dc, eA, en, ec, ver⟩ (M.withV { x with data := ac.data } ver)) := by
        have h3 := HC.out.below (Nat.le_refl _) hn3
        exact ⟨hn3, h3.1, h3.2.1, rfl, (H1.out.2.2.below (Nat.le_refl _) hn3).2.2.2.2.2.2, h3.2.2.2.2⟩
      clear hn2 hb2 hn3
      go_wp2_with (fail)
      refine (with_any bm xs ⟨fi, false, a.dA, a.dn, a.dc, eA, en, ec, ver⟩ _ w2 (H1.out.2.1.below (Nat.le_refl _) H2.out.1) H2.out.2).mono ?_
      rintro e w3 ⟨b3, rfl, ht3, hb3⟩
      have H3 : Hid (Below w.heap.size w w3 ∧ TMap w3 b3 (M.putN xs (M.withV { x with data := ac.data } ver))) := ⟨HB.out _ (H2.out.1.trans (hb3.mono H2.out.1.size)), ht3⟩
      clear ht3 hb3
      go_wp2_with (fail)
      go_ret2
      exact AppliedM.yes HS.out H3.out.2 H3.out.1
end Go.Proofs.Ytcjobmbbikfnaac
/-
  TREES WHOSE LISTS STAY: acts that store, and those of no kind.
-/
namespace Go.Proofs.Ytcjobmbbikfnaac
open Go.RowKit
open Go.ChangeMaps (setBlock)
variable [Inhabited BaseN]

set_option maxRecDepth 8000 in
set_option maxHeartbeats 4000000 in
theorem refNoneK_any (bm : Nat) (xs : List M.Nd) (a : AV) (ac : M.Act) (ver : Int) (w : World) (ht : TMapK w bm xs) (ha : ContA w a ac) (h1 : a.kind ≠ 1) (h2 : a.kind ≠ 2) (h3 : a.kind ≠ 3) (h4 : a.kind ≠ 4) (h5 : a.kind ≠ 5) :
    Calls Try.prog 15 #[.map (some bm), a.val, .int .i64 ver] w (AppliedMK w (1, [])) := by
  have HT : Hid (TMapK w bm xs ∧ ContA w a ac) := ⟨ht, ha⟩
  have HW : Hid _ := apw_start w a ver
  have k1 : (a.kind == 1) = false := by simp [h1]
  have k2 : (a.kind == 2) = false := by simp [h2]
  have k3 : (a.kind == 3) = false := by simp [h3]
  have k4 : (a.kind == 4) = false := by simp [h4]
  have k5 : (a.kind == 5) = false := by simp [h5]
  clear ht ha h1 h2 h3 h4 h5
  go_enter Try.func15, Try.ntmps15
  go_upto_region 1 with (fail)
  go_cut [8] from 24 to 24 (fun v W => v = .func (.func 23) #[] #[.pointer (some ⟨w.heap.size + 1, 0, none⟩)] ∧ ApW w a ver W)
  case first =>
    go_wp2_with (fail)
    go_meet
    case rel => exact ⟨rfl, HW.out _ rfl⟩
  obtain ⟨rfl, hw1⟩ := hcut
  rename World => w1
  obtain ⟨a0, a1, a2, a3, a4, a5, a6, af, az⟩ := hw1.2.1.facts
  have H1 : Hid (ApW w a ver w1 ∧ True) := ⟨hw1, trivial⟩
  clear hw1 HW
  go_wp2_with (fail)
  go_ret2
  exact AppliedMK.no rfl (by decide) H1.out.1.1

set_option maxRecDepth 8000 in
set_option maxHeartbeats 8000000 in
theorem refStoreK_any (bm : Nat) (xs : List M.Nd) (a : AV) (ac : M.Act) (ver : Int) (w : World) (ht : TMapK w bm xs) (ha : ContA w a ac) (hla : Lies w a.dA a.dn 5) (hk : a.kind = 3) :
    Calls Try.prog 15 #[.map (some bm), a.val, .int .i64 ver] w (AppliedMK w (M.storeS xs ac ver)) := by
  have HT : Hid (TMapK w bm xs ∧ ContA w a ac ∧ Lies w a.dA a.dn 5) := ⟨ht, ha, hla⟩
  have HK : Hid (a.fid = ac.fid ∧ a.dn = ac.data.length) := ⟨ha.2.1, ha.2.2.2.2.2.2.1⟩
  have HW : Hid _ := apw_start w a ver
  have k1 : (a.kind == 1) = false := by simp [hk]
  have k2 : (a.kind == 2) = false := by simp [hk]
  have k3 : (a.kind == 3) = true := by simp [hk]
  have k4 : (a.kind == 4) = false := by simp [hk]
  have k5 : (a.kind == 5) = false := by simp [hk]
  clear ht ha hla hk
  go_enter Try.func15, Try.ntmps15
  go_upto_region 1 with (fail)
  go_cut [8] from 24 to 24 (fun v W => v = .func (.func 23) #[] #[.pointer (some ⟨w.heap.size + 1, 0, none⟩)] ∧ ApW w a ver W)
  case first =>
    go_wp2_with (fail)
    go_meet
    case rel => exact ⟨rfl, HW.out _ rfl⟩
  obtain ⟨rfl, hw1⟩ := hcut
  rename World => w1
  obtain ⟨a0, a1, a2, a3, a4, a5, a6, af, az⟩ := hw1.2.1.facts
  have H1 : Hid (ApW w a ver w1 ∧ TMapK w1 bm xs ∧ ContA w1 a ac) := ⟨hw1, HT.out.1.below (Nat.le_refl _) hw1.1, HT.out.2.1.below (Nat.le_refl _) hw1.1⟩
  have HLA : Hid (Lies w1 a.dA a.dn 5) := HT.out.2.2.below (Nat.le_refl _) hw1.1
  clear hw1 HW
  rcases IMap.askK H1.out.2.1 a.fid with ⟨hf, hl⟩ | ⟨v, x, hf, hc, hl⟩
  · have hl1 := hl true
    simp only [if_true] at hl1
    have HS : Hid ((M.storeS xs ac ver).1 = 12) := by show _ = _; unfold M.storeS; rw [← HK.out.1, hf]
    clear hl hf
    have HB : Hid (∀ W, Below w1.heap.size w1 W → Below w.heap.size w W) := fun W hb => H1.out.1.1.trans (hb.mono H1.out.1.1.size)
    go_wp2_with (fail)
    go_ret2
    exact AppliedMK.no HS.out (by decide) (HB.out _ ((Below.refl _ _).alloc (Nat.le_refl _) _))
  · have hl1 := hl true
    simp only [if_true] at hl1
    have HB : Hid (∀ W, Below w1.heap.size w1 W → Below w.heap.size w W) := fun W hb => H1.out.1.1.trans (hb.mono H1.out.1.1.size)
    obtain ⟨fi, di, dA, dn, dc, eA, en, ec, ve⟩ := v
    have HC : Hid (ContK w1 ⟨fi, di, dA, dn, dc, eA, en, ec, ve⟩ x) := hc
    have hdi : di = x.dir := hc.1.2.1
    cases di
    case' true =>
      have HS : Hid ((M.storeS xs ac ver).1 = 9) := by show _ = _; unfold M.storeS; rw [← HK.out.1, hf]; simp [← hdi]
      clear hl hf hc hdi
      go_wp2_with (fail)
      go_ret2
      exact AppliedMK.no HS.out (by decide) (HB.out _ ((Below.refl _ _).alloc (Nat.le_refl _) _))
    by_cases h20 : 20 < a.dn
    · have h20' : (20 : Int) < (a.dn : Int) := by omega
      have HS : Hid ((M.storeS xs ac ver).1 = 4) := by show _ = _; unfold M.storeS; rw [← HK.out.1, hf]; simp [← hdi, ← HK.out.2, h20]
      clear hl hf hc hdi h20
      go_wp2_with (fail)
      go_ret2
      exact AppliedMK.no HS.out (by decide) (HB.out _ ((Below.refl _ _).alloc (Nat.le_refl _) _))
    · have h20' : ¬ (20 : Int) < (a.dn : Int) := by omega
      have HS : Hid (M.storeS xs ac ver = (0, M.putN xs (M.withV { x with data := ac.data } ver))) := by show _ = _; unfold M.storeS; rw [← HK.out.1, hf]; simp [← hdi, ← HK.out.2, h20]
      clear hl hf hc hdi h20
      go_wp2_with (fail)
      have hn2 : Below w1.heap.size w1 (w1.alloc (.cells #[.int .i64 fi, .bool false, .slice a.dA a.dn a.dc, .slice eA en ec, .int .i64 ve] 56)) := (Below.refl _ _).alloc (Nat.le_refl _) _
      refine (refVer_any ⟨fi, false, a.dA, a.dn, a.dc, eA, en, ec, ve⟩ (w.heap.size + 1) ver _ (H1.out.1.next hn2).ver).mono ?_
      rintro e w2 ⟨rfl, hb2⟩
      have hn3 : Below w1.heap.size w1 w2 := hn2.trans (hb2.mono hn2.size)
      have H2 : Hid (Below w1.heap.size w1 w2 ∧ ContK w2 ⟨fi, false, a.dA, a.dn, a.dc, eA, en, ec, ver⟩ (M.withV { x with data := ac.data } ver)) := by
        have h3 := HC.out.below (Nat.le_refl _) hn3
        exact ⟨hn3, ⟨h3.1.1, h3.1.2.1, rfl, (H1.out.2.2.below (Nat.le_refl _) hn3).2.2.2.2.2.2, h3.1.2.2.2.2⟩, HLA.out.below (Nat.le_refl _) hn3, h3.2.2⟩
      clear hn2 hb2 hn3
      go_wp2_with (fail)
      refine (withK_any bm xs ⟨fi, false, a.dA, a.dn, a.dc, eA, en, ec, ver⟩ _ w2 (H1.out.2.1.below (Nat.le_refl _) H2.out.1) H2.out.2).mono ?_
      rintro e w3 ⟨b3, rfl, ht3, hb3⟩
      have H3 : Hid (Below w.heap.size w w3 ∧ TMapK w3 b3 (M.putN xs (M.withV { x with data := ac.data } ver))) := ⟨HB.out _ (H2.out.1.trans (hb3.mono H2.out.1.size)), ht3⟩
      clear ht3 hb3
      go_wp2_with (fail)
      go_ret2
      exact AppliedMK.yes HS.out H3.out.2 H3.out.1
end Go.Proofs.Ytcjobmbbikfnaac
/-
  TREES WHOSE LISTS STAY: acts that remove.
-/
namespace Go.Proofs.Ytcjobmbbikfnaac
open Go.RowKit
open Go.ChangeMaps (setBlock)
variable [Inhabited BaseN]

def VR44K (bm sv sa : Nat) (xs : List M.Nd) (a : AV) (v : NV) (x : M.Nd) (ver : Int) : Nat → Value → World → Prop
  | 0 => IsU (.map (some bm))
  | 1 => IsU (.func (.func 23) #[] #[.pointer (some ⟨sv, 0, none⟩)])
  | 2 => IsU (NV.val v)
  | 3 => IsU (.pointer (some ⟨sa, 3, none⟩))
  | 4 => IsU (.string (a.name))
  | 5 => IsNdK (withE x (M.dropE x.ents a.name))
  | 6 => IsNdK (M.withV (withE x (M.dropE x.ents a.name)) ver)
  | 7 => IsMpK (M.putN xs (M.withV (withE x (M.dropE x.ents a.name)) ver))
  | 8 => IsU (.pointer (some ⟨sa, 1, none⟩))
  | 9 => IsU (.int .i64 (a.fid))
  | 10 => IsMpK (M.dropN (M.putN xs (M.withV (withE x (M.dropE x.ents a.name)) ver)) a.fid)
  | 11 => IsMpK (M.dropN (M.putN xs (M.withV (withE x (M.dropE x.ents a.name)) ver)) a.fid)
  | 12 => IsU (.int .i64 (0))
  | _ => fun _ _ => True
theorem VR44_staysK (bm sv sa : Nat) (xs : List M.Nd) (a : AV) (v : NV) (x : M.Nd) (ver : Int) : ∀ i, Stays (VR44K bm sv sa xs a v x ver i) := by
  intro i v W W' hb h
  match i, h with
  | 0, h => exact h
  | 1, h => exact h
  | 2, h => exact h
  | 3, h => exact h
  | 4, h => exact h
  | 5, h => exact isNdK_below hb h
  | 6, h => exact isNdK_below hb h
  | 7, h => exact isMpK_below hb h
  | 8, h => exact h
  | 9, h => exact h
  | 10, h => exact isMpK_below hb h
  | 11, h => exact isMpK_below hb h
  | 12, h => exact h
  | k + 13, h => trivial

set_option maxRecDepth 8000 in
set_option maxHeartbeats 8000000 in
theorem refRemoveK_any (bm : Nat) (xs : List M.Nd) (a : AV) (ac : M.Act) (ver : Int) (w : World) (ht : TMapK w bm xs) (ha : ContA w a ac) (hri : M.Rise xs) (hsm : ∀ x ∈ xs, Small x) (hk : a.kind = 4) :
    Calls Try.prog 15 #[.map (some bm), a.val, .int .i64 ver] w (AppliedMK w (M.removeS xs ac ver)) := by
  have HT : Hid (TMapK w bm xs ∧ ContA w a ac ∧ True) := ⟨ht, ha, trivial⟩
  have HK : Hid (a.fid = ac.fid ∧ a.dir = ac.dir ∧ a.name = ac.name ∧ a.to = ac.to ∧ a.toName = ac.toName) := ⟨ha.2.1, ha.2.2.1, ha.2.2.2.1, ha.2.2.2.2.1, ha.2.2.2.2.2.1⟩
  have HSM : Hid (∀ x ∈ xs, Small x) := hsm
  have HRI : Hid (M.Rise xs) := hri
  have HW : Hid _ := apw_start w a ver
  have k1 : (a.kind == 1) = false := by simp [hk]
  have k2 : (a.kind == 2) = false := by simp [hk]
  have k3 : (a.kind == 3) = false := by simp [hk]
  have k4 : (a.kind == 4) = true := by simp [hk]
  have k5 : (a.kind == 5) = false := by simp [hk]
  clear ht ha hk hri hsm
  go_enter Try.func15, Try.ntmps15
  go_upto_region 1 with (fail)
  go_cut [8] from 24 to 24 (fun v W => v = .func (.func 23) #[] #[.pointer (some ⟨w.heap.size + 1, 0, none⟩)] ∧ ApW w a ver W)
  case first =>
    go_wp2_with (fail)
    go_meet
    case rel => exact ⟨rfl, HW.out _ rfl⟩
  obtain ⟨rfl, hw1⟩ := hcut
  rename World => w1
  obtain ⟨a0, a1, a2, a3, a4, a5, a6, af, az⟩ := hw1.2.1.facts
  have H1 : Hid (ApW w a ver w1 ∧ TMapK w1 bm xs ∧ ContA w1 a ac) := ⟨hw1, HT.out.1.below (Nat.le_refl _) hw1.1, HT.out.2.1.below (Nat.le_refl _) hw1.1⟩
  clear hw1 HW
  go_wp2_with (fail)
  refine (refDirK_any bm xs a.dir w1 H1.out.2.1).mono ?_
  rintro e w2 ⟨v, rfl, hdc, hb2⟩
  have H2 : Hid (ApW w a ver w2 ∧ TMapK w2 bm xs ∧ ContA w2 a ac) := ⟨H1.out.1.next hb2, H1.out.2.1.below (Nat.le_refl _) hb2, H1.out.2.2.below (Nat.le_refl _) hb2⟩
  have HDC : Hid ((M.dirS xs a.dir).1 = 0 → ContK w2 v (M.dirS xs a.dir).2) := hdc
  clear hb2 hdc H1 a0 a1 a2 a3 a4 a5 a6 af az
  obtain ⟨a0, a1, a2, a3, a4, a5, a6, af, az⟩ := H2.out.1.2.1.facts
  by_cases hd0 : (M.dirS xs a.dir).1 = 0
  case' neg =>
    have e1 : ((M.dirS xs a.dir).1 != 0) = true := by simp [hd0]
    have HS : Hid ((M.removeS xs ac ver).1 = (M.dirS xs a.dir).1 ∧ (M.dirS xs a.dir).1 ≠ 0) := ⟨by unfold M.removeS; rw [HK.out.2.1] at hd0 ⊢; rw [hold_err hd0, if_pos hd0], hd0⟩
    clear hd0
    go_wp2_with (fail)
    go_ret2
    exact AppliedMK.no HS.out.1 HS.out.2 (H2.out.1.1.trans (((Below.refl _ _).alloc (Nat.le_refl _) _).mono H2.out.1.1.size))
  obtain ⟨x, hx⟩ : ∃ x, (M.dirS xs a.dir).2 = x := ⟨_, rfl⟩
  have HDX : Hid (M.dirS xs a.dir = (0, x)) := by show _ = _; rw [← hx, ← hd0]
  have hfx : M.find xs a.dir = some x := by rw [← hx]; exact (M.dir_ok hd0).1
  have HCX : Hid (ContK w2 v x ∧ Small x ∧ M.RsE x.ents) := ⟨by rw [← hx]; exact HDC.out hd0, HSM.out x (M.find_mem hfx).1, HRI.out.2 x (M.find_mem hfx).1⟩
  rw [hd0]
  clear hd0 hx hfx HDC
  have HWN : Hid (∀ W, W = w2.alloc (.cells #[.int .i64 v.fid, .bool v.dir, .slice v.dA v.dn v.dc, .slice v.eA v.en v.ec, .int .i64 v.ver] 56) → Below w2.heap.size w2 W ∧ Box W w2.heap.size v) := by
    rintro W rfl
    exact ⟨(Below.refl _ _).alloc (Nat.le_refl _) _, Box.new w2 v⟩
  go_wp2_with (fail)
  obtain ⟨q1, q2⟩ := HWN.out _ rfl
  refine (refEntryK_any v x a.name _ (HCX.out.1.below (Nat.le_refl _) q1) HCX.out.2.1).mono ?_
  rintro e w3 ⟨rfl, hb3⟩
  have h23 : Below w2.heap.size w2 w3 := q1.trans (hb3.mono q1.size)
  have H3 : Hid (ApW w a ver w3 ∧ TMapK w3 bm xs ∧ ContA w3 a ac ∧ Box w3 w2.heap.size v ∧ ContK w3 v x) := ⟨H2.out.1.next h23, H2.out.2.1.below (Nat.le_refl _) h23, H2.out.2.2.below (Nat.le_refl _) h23, q2.below hb3 (lt_of_block q2), HCX.out.1.below (Nat.le_refl _) h23⟩
  have HN2 : Hid (w2.heap.size < w3.heap.size ∧ w.heap.size + 1 < w2.heap.size) := ⟨lt_of_block (q2.below hb3 (lt_of_block q2)), lt_of_block H2.out.1.2.2⟩
  clear q1 q2 hb3 h23 H2 HWN a0 a1 a2 a3 a4 a5 a6 af az
  obtain ⟨a0, a1, a2, a3, a4, a5, a6, af, az⟩ := H3.out.1.2.1.facts
  rcases hlk : M.look x.ents a.name with _ | en
  case' none =>
    have HS : Hid ((M.removeS xs ac ver).1 = 6) := by show _ = _; unfold M.removeS; rw [← HK.out.1, ← HK.out.2.1, ← HK.out.2.2.1, hold_none HDX.out hlk]; rfl
    clear hlk
    go_wp2_with (fail)
    go_ret2
    exact AppliedMK.no HS.out (by decide) H3.out.1.1
  obtain ⟨en1, en2⟩ := en
  have hgd : (((some (en1, en2) : Option (ByteArray × Int)).map (·.2)).getD 0) = en2 := rfl
  have hgs : (some (en1, en2) : Option (ByteArray × Int)).isSome = true := rfl
  rw [hgd, hgs]
  clear hgd hgs
  by_cases hen : en2 = a.fid
  case' neg =>
    have e1 : (en2 != a.fid) = true := by simp [hen]
    have HS : Hid ((M.removeS xs ac ver).1 = 13) := by show _ = _; unfold M.removeS; rw [← HK.out.1, ← HK.out.2.1, ← HK.out.2.2.1, hold_other HDX.out hlk hen]; rfl
    clear hlk hen
    go_wp2_with (fail)
    go_ret2
    exact AppliedMK.no HS.out (by decide) H3.out.1.1
  have e1 : (en2 != a.fid) = false := by simp [hen]
  have HHO : Hid (M.holdS xs ac.dir ac.name ac.fid = (0, x)) := by
    rw [← HK.out.1, ← HK.out.2.1, ← HK.out.2.2.1]
    exact hold_yes HDX.out hlk hen
  clear hlk hen
  rcases IMap.askK H3.out.2.1 a.fid with ⟨hf, hl⟩ | ⟨vf, xf, hf, hcf, hl⟩
  · have hl1 := hl true
    simp only [if_true] at hl1
    have HS : Hid ((M.removeS xs ac ver).1 = 12) := by show _ = _; unfold M.removeS; rw [HHO.out, ← HK.out.1, hf]; rfl
    clear hl hf
    go_wp2_with (fail)
    go_ret2
    exact AppliedMK.no HS.out (by decide) (H3.out.1.1.trans (((Below.refl _ _).alloc (Nat.le_refl _) _).mono H3.out.1.1.size))
  · have hl1 := hl true
    simp only [if_true] at hl1
    have HEN : Hid (vf.en = xf.ents.length) := hcf.1.2.2.2.2.1
    by_cases he0 : 0 < vf.en
    · have he0' : (0 : Int) < (vf.en : Int) := by omega
      have HS : Hid ((M.removeS xs ac ver).1 = 10) := by show _ = _; unfold M.removeS; rw [HHO.out, ← HK.out.1, hf]; simp [← HEN.out, he0]
      clear hl hf hcf
      go_wp2_with (fail)
      go_ret2
      exact AppliedMK.no HS.out (by decide) (H3.out.1.1.trans (((Below.refl _ _).alloc (Nat.le_refl _) _).mono H3.out.1.1.size))
    · have he0' : ¬ (0 : Int) < (vf.en : Int) := by omega
      have HS : Hid (M.removeS xs ac ver = (0, M.dropN (M.putN xs (M.withV (withE x (M.dropE x.ents a.name)) ver)) a.fid)) := by
        show _ = _
        unfold M.removeS
        rw [HHO.out, ← HK.out.1, ← HK.out.2.2.1, hf]
        simp [← HEN.out, he0, withE]
      clear hl hf hcf
      have HN5 : Hid (∀ W, W = w3.alloc (.cells #[.int .i64 vf.fid, .bool vf.dir, .slice vf.dA vf.dn vf.dc, .slice vf.eA vf.en vf.ec, .int .i64 vf.ver] 56) → Below w3.heap.size w3 W) := by
        rintro W rfl; exact (Below.refl _ _).alloc (Nat.le_refl _) _
      have HSX : Hid (Small x) := HCX.out.2.1
      go_upto_region 44 with (fail)
      have hb5 := HN5.out _ rfl
      have hbd : ∀ W5 : World, Below w3.heap.size w3 W5 → ∀ W, Below W5.drew.heap.size W5.drew W → Below w3.heap.size w3 W := fun W5 h5 W hb => h5.trans (((Below.refl _ _).drew.trans hb).mono h5.size)
      have HA := fun W hb => (H3.out.1.next (hbd _ hb5 W hb)).2.1
      have HV := fun W hb => (H3.out.1.next (hbd _ hb5 W hb)).ver
      have HM := fun W hb => H3.out.2.1.below (Nat.le_refl _) (hbd _ hb5 W hb)
      have HN := fun W hb => H3.out.2.2.2.1.below (hbd _ hb5 W hb) (lt_of_block H3.out.2.2.2.1)
      have HCN := fun W hb => H3.out.2.2.2.2.below (Nat.le_refl _) (hbd _ hb5 W hb)
      have HEND : Hid (∀ W5 W : World, Below w3.heap.size w3 W5 → Below W5.heap.size W5 W → Below w.heap.size w W) := fun W5 W h5 hb => H3.out.1.1.trans ((h5.trans (hb.mono h5.size)).mono H3.out.1.1.size)
      refine wp_region_vals (VR44K bm (w.heap.size + 1) w.heap.size xs a v x ver) (by kernel_rfl) (by kernel_rfl) (VR44_staysK bm (w.heap.size + 1) w.heap.size xs a v x ver) ?_ ?_
      · intro i hi
        match i, hi with
        | 0, _ =>
          refine StepAt.by rfl fun a' W hf hb hd => ?_
          exact .inl ⟨want_none, does_move ((hf.keeps 0 (by kernel_rfl)).trans rfl) ⟨Below.refl _ _, rfl⟩⟩
        | 1, _ =>
          refine StepAt.by rfl fun a' W hf hb hd => ?_
          exact .inl ⟨want_none, does_move ((hf.keeps 8 (by kernel_rfl)).trans rfl) ⟨Below.refl _ _, rfl⟩⟩
        | 2, _ =>
          refine StepAt.by rfl fun a' W hf hb hd => ?_
          exact .inl ⟨want_none, does_rn (run_load26 ((hf.keeps 16 (by kernel_rfl)).trans rfl) (HN W hb)) ⟨Below.refl _ _, rfl⟩⟩
        | 3, _ =>
          refine StepAt.by rfl fun a' W hf hb hd => ?_
          exact .inl ⟨want_none, does_rn (run_fieldA ((hf.keeps 4 (by kernel_rfl)).trans rfl) (by decide)) ⟨Below.refl _ _, rfl⟩⟩
        | 4, _ =>
          refine StepAt.by rfl fun a' W hf hb hd => ?_
          exact .inl ⟨want_none, does_rn (run_load9 (hd 3 (by kernel_rfl)) (BoxA.facts (HA W hb)).2.2.2.1) ⟨Below.refl _ _, rfl⟩⟩
        | 5, _ =>
          refine StepAt.by rfl fun a' W hf hb hd => ?_
          refine .inl ⟨want_none, ?_⟩
          exact does_call2 (enters_of Try.func29 (by kernel_rfl) (by kernel_rfl)) (hd 2 (by kernel_rfl)) (hd 4 (by kernel_rfl)) ((refLeaveK_any v x a.name W (HCN W hb) HSX.out).mono fun e W' ⟨v', he, hc, hb'⟩ => ⟨_, he, hb', v', rfl, hc⟩)
        | 6, _ =>
          refine StepAt.by rfl fun a' W hf hb hd => ?_
          refine .inl ⟨want_none, ?_⟩
          obtain ⟨v1, e1, hc1⟩ := hd 5 (by kernel_rfl)
          exact does_callC (enters_of Try.func23 (by kernel_rfl) (by kernel_rfl)) (hd 1 (by kernel_rfl)) e1 ((refVer_any v1 (w.heap.size + 1) ver W (HV W hb)).mono fun e W' ⟨he, hb'⟩ => ⟨_, he, hb', ⟨v1.fid, v1.dir, v1.dA, v1.dn, v1.dc, v1.eA, v1.en, v1.ec, ver⟩, rfl, (contVK hc1 ver).below (Nat.le_refl _) hb'⟩)
        | 7, _ =>
          refine StepAt.by rfl fun a' W hf hb hd => ?_
          refine .inl ⟨want_none, ?_⟩
          obtain ⟨v1, e1, hc1⟩ := hd 6 (by kernel_rfl)
          have e0 := hd 0 (by kernel_rfl)
          have ht0 := HM W hb
          exact does_call2 (enters_of Try.func26 (by kernel_rfl) (by kernel_rfl)) e0 e1 ((withK_any _ _ v1 _ W ht0 hc1).mono fun e W' ⟨b, he, ht, hb'⟩ => ⟨_, he, hb', b, rfl, ht⟩)
        | 8, _ =>
          refine StepAt.by rfl fun a' W hf hb hd => ?_
          exact .inl ⟨want_none, does_rn (run_fieldA ((hf.keeps 4 (by kernel_rfl)).trans rfl) (by decide)) ⟨Below.refl _ _, rfl⟩⟩
        | 9, _ =>
          refine StepAt.by rfl fun a' W hf hb hd => ?_
          exact .inl ⟨want_none, does_rn (run_load3 (hd 8 (by kernel_rfl)) (BoxA.facts (HA W hb)).2.1) ⟨Below.refl _ _, rfl⟩⟩
        | 10, _ =>
          refine StepAt.by rfl fun a' W hf hb hd => ?_
          refine .inl ⟨want_none, ?_⟩
          obtain ⟨b0, e0, ht0⟩ := hd 7 (by kernel_rfl)
          exact does_call2 (enters_of Try.func30 (by kernel_rfl) (by kernel_rfl)) e0 (hd 9 (by kernel_rfl)) ((withoutK_any _ _ a.fid W ht0).mono fun e W' ⟨b, he, ht, hb'⟩ => ⟨_, he, hb', b, rfl, ht⟩)
        | 11, _ =>
          refine StepAt.by rfl fun a' W hf hb hd => ?_
          exact .inl ⟨want_none, does_assign rfl ⟨Below.refl _ _, (hd 10 (by kernel_rfl))⟩⟩
        | 12, _ =>
          refine StepAt.by rfl fun a' W hf hb hd => ?_
          exact .inl ⟨want_none, does_assign rfl ⟨Below.refl _ _, rfl⟩⟩
        | k + 13, hi => exact absurd hi (Nat.not_lt.2 (Nat.le_add_left _ _))
      · intro a' W hf hb hv
        obtain ⟨b6, e6, ht6⟩ := hv 11 (by decide)
        have e7 : a'.eval (.tmp 7) = .int .i64 (0) := hv 12 (by decide)
        have hl := hf.lit (fun t => decide (149 ≤ t) && decide (t ≤ 159) || decide (t = 6) || decide (t = 7)) (by kernel_rfl)
        simp only [overL, Nat.reduceAdd, Nat.reduceLeDiff, Nat.reduceEqDiff, decide_true, decide_false, Bool.and_true, Bool.and_false, Bool.or_true, Bool.or_false] at hl
        have e6' : a'.eval (.tmp 6) = .map (some b6) := e6
        rw [hl, e6', e7]
        have HF : Hid (TMapK W b6 _ ∧ Below _ _ W) := ⟨ht6, hb⟩
        clear hl hf hb hv e6 e6' e7 ht6
        go_wp2_with (fail)
        go_ret2
        exact AppliedMK.yes HS.out HF.out.1 (HEND.out _ _ (HN5.out _ rfl) HF.out.2)
end Go.Proofs.Ytcjobmbbikfnaac
