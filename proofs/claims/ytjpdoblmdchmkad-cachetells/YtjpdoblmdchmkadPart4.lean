/- TEXTS LAID TOGETHER: Rises, Common, Commonl, Mathc, Plainb, Refb -/
import Derived.Test.YtjpdoblmdchmkadPart3
import Derived.ProofKit
import Derived.OpenShut
import Derived.SizedLaws
import Derived.Deep.Strs
import Derived.Deep.Slices
import Derived.Deep.SlicePairs
import Derived.Deep.DeepHandedRow
import Derived.Test.YtjpdoblmdchmkadPart1
import Derived.Test.YtjpdoblmdchmkadPart2
/-
  THE REFERENCE's Rises.
-/
namespace Go.Proofs.Ytjpdoblmdchmkad
open Go.RowKit

namespace M
theorem rs_snoc {K : Type} {lt : K → K → Bool} (o : Ordr lt) (l : List K) (y x : K) (h : Rs lt (l ++ [y])) (hy : lt y x = true) : Rs lt (l ++ [y] ++ [x]) := by
  unfold Rs at *
  rw [List.pairwise_append]
  refine ⟨h, List.pairwise_singleton _ _, fun a ha b hb => ?_⟩
  rw [List.mem_singleton.1 hb]
  rcases List.mem_append.1 ha with h1 | h1
  · exact o.tra _ _ _ ((List.pairwise_append.1 h).2.2 a h1 y (List.mem_singleton.2 rfl)) hy
  · rw [List.mem_singleton.1 h1]; exact hy
theorem rs_one {K : Type} {lt : K → K → Bool} (x : K) : Rs lt [x] := List.pairwise_singleton _ _
theorem rs_step {K : Type} {lt : K → K → Bool} (o : Ordr lt) {l : List K} {j : Nat} {y x : K} (hy : l[j]? = some y) (hx : l[j + 1]? = some x) (h : Rs lt (l.take (j + 1))) (hlt : lt y x = true) : Rs lt (l.take (j + 1 + 1)) := by
  have e1 : l.take (j + 1) = l.take j ++ [y] := by rw [List.take_add_one, hy]; rfl
  have e2 : l.take (j + 1 + 1) = l.take (j + 1) ++ [x] := by rw [List.take_add_one, hx]; rfl
  rw [e2, e1]
  rw [e1] at h
  exact rs_snoc o _ y x h hlt
theorem rs_no {K : Type} {lt : K → K → Bool} {l : List K} {j : Nat} {y x : K} (hy : l[j]? = some y) (hx : l[j + 1]? = some x) (hlt : lt y x = false) : ¬ Rs lt l := by
  intro h
  rw [rs_at h (Nat.lt_succ_self j) hy hx] at hlt; cases hlt
theorem rs_first {K : Type} {lt : K → K → Bool} {l : List K} {x : K} (hx : l[0]? = some x) : Rs lt (l.take 1) := by
  have : l.take 1 = [x] := by
    cases l with
    | nil => cases hx
    | cons a l => cases hx; rfl
  rw [this]; exact rs_one x
end M
open Classical in
noncomputable def riseB (xs : List M.Nd) : Bool := decide (M.Rise xs)
theorem riseB_yes {xs : List M.Nd} (h : M.Rise xs) : riseB xs = true := by unfold riseB; simp [h]
theorem riseB_no {xs : List M.Nd} (h : ¬ M.Rise xs) : riseB xs = false := by unfold riseB; simp [h]
theorem riseB_iff {xs : List M.Nd} : riseB xs = true ↔ M.Rise xs := by unfold riseB; simp

theorem rise_next {xs : List M.Nd} {k : Nat} {x : M.Nd} (hx : xs[k]? = some x) (h : M.Rise (xs.take k)) (hn : M.RsN (xs.take (k + 1))) (he : M.RsE x.ents) : M.Rise (xs.take (k + 1)) := by
  refine ⟨hn, fun y hy => ?_⟩
  rw [take_step hx] at hy
  rcases List.mem_append.1 hy with h1 | h1
  · exact h.2 y h1
  · rw [List.mem_singleton.1 h1]; exact he

set_option maxHeartbeats 4000000 in
theorem rises_any (A : Option Addr) (n c : Nat) (vs : List NV) (xs : List M.Nd) (w : World) (ht : Tree w A n vs xs) (hn : n * 72 ≤ 140737488355328) (hs : ∀ x ∈ xs, Small x) :
    Calls Try.prog 9 #[.slice A n c] w fun e w' => e = .returned (.bool (riseB xs)) ∧ Below w.heap.size w w' := by
  have HT : Hid (Tree w A n vs xs ∧ ∀ x ∈ xs, Small x) := ⟨ht, hs⟩
  clear ht hs
  go_enter Try.func9, Try.ntmps9
  go_wp2
  go_loopw [8] (fun i wr => ∃ k : Nat, k ≤ n ∧ i = .int .i64 k ∧ M.Rise (xs.take k) ∧ Below w.heap.size w wr) (fun i _ => n - (intOf i).toNat)
  case atStart => exact ⟨0, Nat.zero_le _, rfl, ⟨List.Pairwise.nil, fun x hx => by simp at hx⟩, Below.refl _ _⟩
  case round =>
    obtain ⟨k, hk, rfl, hrise, hbw⟩ := hrel
    rename World => w5
    have HRI : Hid (M.Rise (xs.take k)) := hrise
    clear hrise
    by_cases hlt : k < n
    · have htr := HT.out.1.below (Nat.le_refl _) hbw
      obtain ⟨gb, o, v, rfl, hgbl, hvk, c0, c1, c2, c3, c4⟩ := htr.1.at hlt
      obtain ⟨x, hx, hcx⟩ := htr.2.at hvk
      have HX : Hid (xs[k]? = some x ∧ Small x ∧ Cont w v x ∧ vs[k]? = some v) := ⟨hx, HT.out.2 x (List.mem_of_getElem? hx), HT.out.1.2.2 k v x hvk hx, hvk⟩
      have hen : v.en ≤ 140737488355328 := by have := HX.out.2.1.2; have := HX.out.2.2.1.2.2.2.2.1; omega
      have hsz := hbw.size
      have HBX : Hid (Box (w5.alloc (.cells #[.int .i64 v.fid, .bool v.dir, .slice v.dA v.dn v.dc, .slice v.eA v.en v.ec, .int .i64 v.ver] 41)) w5.heap.size v) := Box.new w5 v
      have HTR : Hid (Tree w5 (some ⟨gb, o, none⟩) n vs xs) := htr
      clear hvk hx hcx htr
      by_cases hk0 : k ≤ 0
      case' pos =>
        have HRN : Hid (M.RsN (xs.take (k + 1))) := by
          show M.Rs M.ltI ((xs.take (k + 1)).map _)
          rw [List.map_take, show k + 1 = 1 by omega]
          have := HX.out.1
          rw [show k = 0 by omega] at this
          exact M.rs_first (M.at_key this)
        have hd2 : decide (0 < k) = false := by rw [decide_eq_false_iff_not]; omega
        go_wp2
        go_quiet (fail)
        go_wp2
        clear hd2
      case' neg =>
        obtain ⟨j, hj⟩ : ∃ j, k = j + 1 := ⟨k - 1, by omega⟩
        have hkj : (k : Int) - 1 = (j : Int) := by omega
        have hj0 : (0 : Int) ≤ (j : Int) := by omega
        have hjn : (j : Int) < (n : Int) := by omega
        have HJ : Hid (k = j + 1) := hj
        have hd2 : decide (0 < k) = true := by rw [decide_eq_true_eq]; omega
        obtain ⟨gb', o', u, hA', _, huk, d0, d1, d2, d3, d4⟩ := HTR.out.1.at (j := j) (by omega)
        cases hA'
        have HU : Hid (vs[j]? = some u) := huk
        have HUX : Hid (∃ y, xs[j]? = some y ∧ y.fid = u.fid) := by
          obtain ⟨y, hy, hcy⟩ := HTR.out.2.at huk
          exact ⟨y, hy, hcy.1.symm⟩
        have hvx : v.fid = x.fid := HX.out.2.2.1.1
        have HVX : Hid (v.fid = x.fid) := hvx
        clear hj huk hvx
        by_cases hf : u.fid < v.fid
        case' neg =>
          have hg2 : decide (v.fid ≤ u.fid) = true := by rw [decide_eq_true_eq]; omega
          have HNR : Hid (¬ M.Rise xs) := by
            intro hR
            obtain ⟨y, hy, hyu⟩ := HUX.out
            have hxk := HX.out.1
            rw [HJ.out] at hxk
            refine M.rs_no (M.at_key (f := fun x : M.Nd => x.fid) hy) (M.at_key hxk) ?_ hR.1
            show M.ltI y.fid x.fid = false
            rw [hyu, ← HVX.out]
            unfold M.ltI
            rw [decide_eq_false_iff_not]; exact hf
          clear hf
          go_wp2
          go_quiet (fail)
          go_wp2
          go_ret
          exact ⟨ret_bool (riseB_no HNR.out).symm, below_drewN (hbw.alloc hsz _) _⟩
        case' pos =>
          have hg2 : decide (v.fid ≤ u.fid) = false := by rw [decide_eq_false_iff_not]; omega
          have HRN : Hid (M.RsN (xs.take (k + 1))) := by
            obtain ⟨y, hy, hyu⟩ := HUX.out
            have hxk := HX.out.1
            have h1 := HRI.out.1
            rw [HJ.out] at hxk h1 ⊢
            show M.Rs M.ltI ((xs.take (j + 1 + 1)).map _)
            rw [List.map_take]
            refine M.rs_step M.ordI (M.at_key (f := fun x : M.Nd => x.fid) hy) (M.at_key hxk) ?_ ?_
            · rw [← List.map_take]; exact h1
            · show M.ltI y.fid x.fid = true
              rw [hyu, ← HVX.out]
              unfold M.ltI
              rw [decide_eq_true_eq]; exact hf
          clear hf
          go_wp2
          go_quiet (fail)
          go_wp2
          clear hg2 hd2 hkj hj0 hjn d0 d1 d2 d3 d4 HU HUX HVX HJ
      all_goals
        clear c0 c1 c2 c3 c4
        go_loopw [29] (fun i wr => ∃ q : Nat, q ≤ v.en ∧ i = .int .i64 q ∧ M.RsE (x.ents.take q) ∧ Box wr w5.heap.size v ∧ Below w.heap.size w wr) (fun i _ => v.en - (intOf i).toNat)
        case atStart => exact ⟨0, Nat.zero_le _, rfl, List.Pairwise.nil, HBX.out, below_drewN (hbw.alloc hsz _) _⟩
        case round =>
          obtain ⟨q, hq, rfl, hre, hbx, hbq⟩ := hrel
          have HRE : Hid (M.RsE (x.ents.take q)) := hre
          have HBQ : Hid (Box wr w5.heap.size v) := hbx
          obtain ⟨p0, p1, p2, p3, p4, pf, pz⟩ := hbx.facts
          clear hre hbx p0 p1 p2 p4
          by_cases hqe : q < v.en
          · obtain ⟨g1, o1, a, ha, _, hak, a0, a1⟩ := Ents.at (HX.out.2.2.1.2.2.2.2.below (Nat.le_refl _) hbq) hqe
            rw [ha] at p3
            have HA : Hid (x.ents[q]? = some a) := hak
            by_cases hq0 : q ≤ 0
            · have HNX : Hid (M.RsE (x.ents.take (q + 1))) := by
                show M.Rs M.ltB ((x.ents.take (q + 1)).map _)
                rw [List.map_take, show q + 1 = 1 by omega]
                rw [show q = 0 by omega] at hak
                exact M.rs_first (M.at_key hak)
              clear hak ha
              have hd2 : decide (0 < q) = false := by rw [decide_eq_false_iff_not]; omega
              go_wp2
              go_quiet (fail)
              go_wp2
              go_roundw
              case rel => exact ⟨q + 1, by omega, by go_num, HNX.out, HBQ.out, below_drewN hbq _⟩
              case measure => simp [intOf]; omega
            · obtain ⟨p, hp⟩ : ∃ p, q = p + 1 := ⟨q - 1, by omega⟩
              have hqp : (q : Int) - 1 = (p : Int) := by omega
              have hp0 : (0 : Int) ≤ (p : Int) := by omega
              have hpn : (p : Int) < (v.en : Int) := by omega
              have hqn : (q : Int) < (v.en : Int) := by omega
              have hq00 : (0 : Int) ≤ (q : Int) := by omega
              have HP : Hid (q = p + 1) := hp
              have hd2 : decide (0 < q) = true := by rw [decide_eq_true_eq]; omega
              obtain ⟨g2, o2, b, hb, _, hbk, b0, b1⟩ := Ents.at (HX.out.2.2.1.2.2.2.2.below (Nat.le_refl _) hbq) (show p < v.en by omega)
              rw [ha] at hb
              cases hb
              have HB : Hid (x.ents[p]? = some b) := hbk
              clear hak ha hbk hp
              cases hl : M.ltB b.1 a.1
              · have hbl : Op.bytesLess b.1.toList a.1.toList = false := hl
                have HNR : Hid (¬ M.Rise xs) := by
                  intro hR
                  have h1 := HA.out
                  rw [HP.out] at h1
                  exact M.rs_no (M.at_key (f := fun e : ByteArray × Int => e.1) HB.out) (M.at_key h1) hl (hR.2 x (List.mem_of_getElem? HX.out.1))
                clear hl
                go_wp2
                go_quiet (fail)
                go_wp2
                go_ret
                exact ⟨ret_bool (riseB_no HNR.out).symm, below_drewN hbq _⟩
              · have hbl : Op.bytesLess b.1.toList a.1.toList = true := hl
                have HNX : Hid (M.RsE (x.ents.take (q + 1))) := by
                  have h1 := HA.out
                  have h2 := HRE.out
                  rw [HP.out] at h1 h2 ⊢
                  show M.Rs M.ltB ((x.ents.take (p + 1 + 1)).map _)
                  rw [List.map_take]
                  refine M.rs_step M.ordB (M.at_key (f := fun e : ByteArray × Int => e.1) HB.out) (M.at_key h1) ?_ hl
                  rw [← List.map_take]; exact h2
                clear hl
                go_wp2
                go_quiet (fail)
                go_wp2
                go_roundw
                case rel => exact ⟨q + 1, by omega, by go_num, HNX.out, HBQ.out, below_drewN hbq _⟩
                case measure => simp [intOf]; omega
          · have HRX : Hid (M.RsE x.ents) := by
              have h1 := HRE.out
              rw [List.take_of_length_le (by have := HX.out.2.2.1.2.2.2.2.1; omega)] at h1
              exact h1
            go_wp2
            go_roundw
            case rel => exact ⟨k + 1, by omega, by go_num, rise_next HX.out.1 HRI.out HRN.out HRX.out, hbq⟩
            case measure => simp [intOf]; omega
    · have HN : Hid (xs.take k = xs) := by show _ = _; rw [List.take_of_length_le (by rw [← HT.out.1.2.1, ← HT.out.1.1.1]; omega)]
      go_wp2
      go_ret
      exact ⟨ret_bool (riseB_yes (by rw [← HN.out]; exact HRI.out)).symm, hbw⟩
end Go.Proofs.Ytjpdoblmdchmkad
/-
  WHAT THE LAWS' ROWS SHARE: nodes and trees as they are read, their sizes, the post-condition out of 'nothing old has turned'.
-/
namespace Go.Proofs.Ytjpdoblmdchmkad
open Go.ChangeShapes Go.WideShapes Go.ChangeAt Go.RowKit Go.Deep

theorem own : ownKnob Try.prog.godebug = none := by kernel_rfl
theorem laidOut : laidOutB Try.prog = true := by kernel_rfl
theorem cells5 : Try.prog.cellsOf 5 = 1 := by kernel_rfl
theorem cells9 : Try.prog.cellsOf 9 = 1 := by kernel_rfl
theorem cells3 : Try.prog.cellsOf 3 = 1 := by kernel_rfl
theorem cells4 : Try.prog.cellsOf 4 = 1 := by kernel_rfl
theorem cells23 : Try.prog.cellsOf 34 = 1 := by kernel_rfl
theorem cells24 : Try.prog.cellsOf 39 = 1 := by kernel_rfl
theorem cells58 : Try.prog.cellsOf 81 = 2 := by kernel_rfl
theorem cells26 : Try.prog.cellsOf 41 = 5 := by kernel_rfl
theorem bytes5 : Try.prog.bytesOf 5 = 1 := by kernel_rfl
theorem bytes58 : Try.prog.bytesOf 81 = 24 := by kernel_rfl
theorem bytes26 : Try.prog.bytesOf 41 = 72 := by kernel_rfl
theorem bytes9 : Try.prog.bytesOf 9 = 16 := by kernel_rfl

section
variable {H : Type} {enc : TypeId × Value → H}

theorem trodAll_below {P : Program} (hl : laidOutB P = true) {W W' : World} (hb : Below W.heap.size W W') : ∀ {ts : List TypeId} {vs : List Value} {ds : List (DataW H)} {ps : List MemPlace},
    ts.all (fun t => P.readableRec t && decide (t < P.types.size)) = true → DataW.TrodAll enc P W 0 (fun _ => true) true ts vs ds ps → (∀ x ∈ ps, x.block < W.heap.size) →
    DataW.TrodAll enc P W' 0 (fun b => decide (b < W.heap.size)) true ts vs ds ps
  | [], vs, ds, ps, _, h, _ => by
    obtain ⟨rfl, rfl, rfl⟩ := trodAll_nil h
    exact trodAll_mk0
  | t :: ts, vs, ds, ps, ht, h, hlt => by
    obtain ⟨v, vs', d, ds', p, q, rfl, rfl, rfl, h0, hr⟩ := trodAll_cons h
    rw [List.all_cons, Bool.and_eq_true, Bool.and_eq_true] at ht
    exact trodAll_cons_mk (Below.trod hl ht.1.1 (of_decide_eq_true ht.1.2) h0 hb (fun x hx => hlt x (List.mem_append.2 (.inl hx))))
      (trodAll_below hl hb ht.2 hr (fun x hx => hlt x (List.mem_append.2 (.inr hx))))

theorem row_mk {α : Type} {k : Nat} {cs : α → List Value} (k0 : 0 < k) (hk : ∀ v, (cs v).length = k) {w : World} {vs : List α} {a : Addr} (h : ∀ (j : Nat) v, vs[j]? = some v → ∀ (i : Nat) c, (cs v)[i]? = some c → w.cell? (a.add (j * k + i)) = some c) : Row k cs w (some a) vs.length vs := by
  refine ⟨rfl, ?_⟩
  cases hv : vs with
  | nil => exact .inl rfl
  | cons v r =>
    right
    have hv0 : vs[0]? = some v := by rw [hv]; rfl
    have hc0 : (cs v)[0]? = some ((cs v)[0]'(by rw [hk]; exact k0)) := List.getElem?_eq_getElem _
    have h00 := h 0 v hv0 0 _ hc0
    obtain ⟨b, off, spot⟩ := a
    have hspot : spot = none := by simpa [Addr.add] using World.cell?_spot h00
    subst hspot
    refine ⟨b, off, rfl, ?_, fun j u hu i c hc => ?_⟩
    · have := World.block_lt_of_cell? w _ h00
      rw [Addr.add_lit] at this
      exact this
    · rw [← hv] at hu
      have := h j u hu i c hc
      rw [Addr.add_lit] at this
      rw [Nat.add_assoc]
      exact this

/-- bulk: what is in a list is no more than all of it -/
theorem bulk_mem {d : DataW H} : ∀ {l : List (DataW H)}, d ∈ l → Rows.uptoBulk d ≤ Rows.uptoBulkAll l
  | [], h => by cases h
  | a :: r, h => by
    unfold Rows.uptoBulkAll
    rcases List.mem_cons.1 h with rfl | h
    · omega
    · have := bulk_mem h; omega
theorem bulk_pos (d : DataW H) : 1 ≤ Rows.uptoBulk d := by
  cases d with
  | lit l => cases l <;> (unfold Rows.uptoBulk; omega)
  | nil => unfold Rows.uptoBulk; omega
  | ptr d => unfold Rows.uptoBulk; omega
  | slice elems spare => unfold Rows.uptoBulk; omega
  | agg parts => unfold Rows.uptoBulk; omega
  | iface t d => unfold Rows.uptoBulk; omega
  | map entries => unfold Rows.uptoBulk; omega
  | held h => unfold Rows.uptoBulk; omega
theorem bulk_len : ∀ l : List (DataW H), l.length ≤ Rows.uptoBulkAll l
  | [] => by simp [Rows.uptoBulkAll]
  | a :: r => by have h1 := bulk_len r; have h2 := bulk_pos a; unfold Rows.uptoBulkAll; rw [List.length_cons]; omega
theorem bulk_slice (es sp : List (DataW H)) : Rows.uptoBulkAll es ≤ Rows.uptoBulk (.slice es sp) := by unfold Rows.uptoBulk; omega
theorem bulk_sum (f : Nat → Nat) (D : Nat → DataW H) : ∀ l : List Nat, (∀ i ∈ l, f i ≤ Rows.uptoBulk (D i)) → (l.map f).sum ≤ Rows.uptoBulkAll (l.map D)
  | [], _ => by simp [Rows.uptoBulkAll]
  | i :: l, h => by
    have h1 := bulk_sum f D l (fun j hj => h j (List.mem_cons_of_mem _ hj))
    have h2 := h i List.mem_cons_self
    simp only [List.map_cons, List.sum_cons, Rows.uptoBulkAll]
    omega

/-- bytes that came in -/
theorem open_bytes {W : World} {sp : Nat → Bool} {held : Bool} {fuel : Nat} {cs : List Value} {x : DataW H × List MemPlace} (h : DataW.trod enc Try.prog W 0 sp held fuel 34 cs = some x) :
    ∃ (A : Option Addr) (n c : Nat) (l : List UInt8), cs = [.slice A n c] ∧ Byts W A n l ∧ ((x.1 = .nil ∧ n = 0) ∨ ∃ es spare, x.1 = .slice es spare ∧ es.length = n) := by
  rcases open_slice1 Try.underlying34 cells5 h with ⟨rfl, rfl⟩ | ⟨a, len, cap, m, n, V, D, Pl, rfl, hb, hl, hm, hmm, rfl, hx⟩
  · exact ⟨none, 0, 0, [], rfl, ⟨rfl, .inl rfl⟩, .inl ⟨rfl, rfl⟩⟩
  · have hlm : len ≤ m := by rw [hmm]; split <;> omega
    have each : ∀ i, i < len → ∃ u : UInt8, W.cell? (a.add i) = some (.int .u8 (u.toNat : Int)) := fun i hi => by
      obtain ⟨h1, h2⟩ := hx i (by omega)
      obtain ⟨z, hz, _, hw⟩ := DataW.trod_int Try.underlying5 h2
      have hbd := bounds_u8 hw
      refine ⟨UInt8.ofNat z.toNat, ?_⟩
      rw [h1, (List.cons.inj hz).1]
      have : ((UInt8.ofNat z.toNat).toNat : Int) = z := by
        rw [UInt8.toNat_ofNat', Nat.mod_eq_of_lt (by omega)]; omega
      rw [this]
    obtain ⟨U, hU⟩ := choose_lt each
    refine ⟨some a, len, cap, (List.range len).map U, rfl, ?_, .inr ⟨_, _, rfl, by simp⟩⟩
    have := row_mk (k := 1) (cs := byteCells1) (by decide) byt_len (w := W) (vs := (List.range len).map U) (a := a) (fun j v hv i c hc => by
      have hj : j < len := by
        rcases Nat.lt_or_ge j len with h1 | h1
        · exact h1
        · rw [List.getElem?_eq_none (by simpa using h1)] at hv; cases hv
      rw [List.getElem?_map, List.getElem?_range hj] at hv
      cases hv
      cases i with
      | succ i => cases hc
      | zero => cases hc; rw [Nat.mul_one, Nat.add_zero]; exact hU j hj)
    rw [List.length_map, List.length_range] at this
    exact this

/-- entries that came in -/
theorem open_ents {W : World} {sp : Nat → Bool} {held : Bool} {fuel : Nat} {cs : List Value} {x : DataW H × List MemPlace} (h : DataW.trod enc Try.prog W 0 sp held fuel 39 cs = some x) :
    ∃ (A : Option Addr) (n c : Nat) (l : List (ByteArray × Int)), cs = [.slice A n c] ∧ Ents W A n l ∧ ((x.1 = .nil ∧ n = 0) ∨ ∃ es spare, x.1 = .slice es spare ∧ es.length = n) := by
  rcases open_slice_pairs Try.underlying39 Try.underlying81 cells58 rfl rfl cells9 cells3 h with ⟨rfl, rfl⟩ | ⟨a, len, cap, m, n, V0, V1, D0, D1, P0, P1, rfl, hb, hl, hm, hmm, rfl, hx⟩
  · exact ⟨none, 0, 0, [], rfl, ⟨rfl, .inl rfl⟩, .inl ⟨rfl, rfl⟩⟩
  · have hlm : len ≤ m := by rw [hmm]; split <;> omega
    have each : ∀ i, i < len → ∃ u : ByteArray × Int, W.cell? (a.add (i * 2)) = some (.string u.1) ∧ W.cell? (a.add (i * 2 + 1)) = some (.int .i64 u.2) := fun i hi => by
      obtain ⟨h1, h2, h3, h4⟩ := hx i (by omega)
      obtain ⟨s, hs, _, _⟩ := DataW.trod_string Try.underlying9 h3
      obtain ⟨z, hz, _, _⟩ := DataW.trod_int Try.underlying3 h4
      exact ⟨(s, z), by rw [h1, (List.cons.inj hs).1], by rw [h2, (List.cons.inj hz).1]⟩
    obtain ⟨U, hU⟩ := choose_lt each
    refine ⟨some a, len, cap, (List.range len).map U, rfl, ?_, .inr ⟨_, _, rfl, by simp⟩⟩
    have := row_mk (k := 2) (cs := entCells) (by decide) ent_len (w := W) (vs := (List.range len).map U) (a := a) (fun j v hv i c hc => by
      have hj : j < len := by
        rcases Nat.lt_or_ge j len with h1 | h1
        · exact h1
        · rw [List.getElem?_eq_none (by simpa using h1)] at hv; cases hv
      rw [List.getElem?_map, List.getElem?_range hj] at hv
      cases hv
      match i, hc with
      | 0, hc => cases hc; exact (hU j hj).1
      | 1, hc => cases hc; exact (hU j hj).2
      | i + 2, hc => simp [entCells] at hc)
    rw [List.length_map, List.length_range] at this
    exact this

/-- no slice and no text in it is greater than the reach -/
def Sized (t : TypeId) (d : DataW H) : Prop := ∀ n ∈ d.weights Try.prog t, n ≤ reachBytes
theorem sized_of {ts : List TypeId} {ds : List (DataW H)} (hz : (DataW.weightsEach Try.prog ts ds).all (· ≤ reachBytes) = true) {j : Nat} {t : TypeId} {d : DataW H} (ht : ts[j]? = some t) (hd : ds[j]? = some d) : Sized t d := by
  intro n hn
  have := List.all_eq_true.1 hz n (DataW.weights_mem_each ht hd n hn)
  simpa using this
theorem sized_len {t e : TypeId} {es spare : List (DataW H)} (hu : Try.prog.underlying t = some (.slice e)) (h : Sized t (.slice es spare)) : (es.length + spare.length) * Try.prog.bytesOf e ≤ reachBytes := by
  apply h
  unfold DataW.weights
  rw [hu]
  exact List.mem_cons_self
theorem weights_mem_all {e : TypeId} : ∀ {ds : List (DataW H)} {d : DataW H}, d ∈ ds → ∀ n ∈ d.weights Try.prog e, n ∈ DataW.weightsAll Try.prog e ds
  | [], d, hd, n, hn => by cases hd
  | a :: r, d, hd, n, hn => by
    unfold DataW.weightsAll
    rcases List.mem_cons.1 hd with h | h
    · subst h; exact List.mem_append.2 (.inl hn)
    · exact List.mem_append.2 (.inr (weights_mem_all h n hn))
theorem sized_elem {t e : TypeId} {es spare : List (DataW H)} (hu : Try.prog.underlying t = some (.slice e)) (h : Sized t (.slice es spare)) {d : DataW H} (hd : d ∈ es) : Sized e d := by
  intro n hn
  apply h
  unfold DataW.weights
  rw [hu]
  exact List.mem_cons_of_mem _ (List.mem_append.2 (.inl (weights_mem_all hd n hn)))
theorem sized_field {t : TypeId} {fs : Array Field} {ps : List (DataW H)} (hu : Try.prog.underlying t = some (.struct fs)) (h : Sized t (.agg ps)) {j : Nat} {u : TypeId} {d : DataW H} (ht : (fs.toList.map (·.type))[j]? = some u) (hd : ps[j]? = some d) : Sized u d := by
  intro n hn
  apply h
  unfold DataW.weights
  rw [hu]
  exact DataW.weights_mem_each ht hd n hn

set_option maxRecDepth 4000 in
/-- a node that came in -/
theorem open_node_b {W : World} {sp : Nat → Bool} {held : Bool} {fuel : Nat} {cs : List Value} {x : DataW H × List MemPlace} (h : DataW.trod enc Try.prog W 0 sp held fuel 41 cs = some x) :
    ∃ (v : NV) (y : M.Nd), cs = v.cells ∧ Cont W v y ∧ (Sized 41 x.1 → y.data.length ≤ reachBytes ∧ y.ents.length * 24 ≤ reachBytes) ∧ y.ents.length ≤ Rows.uptoBulk x.1 := by
  obtain ⟨ys, m, _, rfl, hl, hys, hf⟩ := DataW.trod_struct Try.underlying41 h
  rw [cells26] at hl
  obtain ⟨c0, c1, c2, c3, c4, rfl⟩ : ∃ a b c d e, cs = [a, b, c, d, e] := by
    match cs, hl with
    | [a, b, c, d, e], _ => exact ⟨a, b, c, d, e, rfl⟩
  have f0 : DataW.trod enc Try.prog W 0 sp held m 3 (([c0, c1, c2, c3, c4].drop 0).take (Try.prog.cellsOf 3)) = ys[0]? := hf 0 _ rfl
  rw [cells3] at f0
  change DataW.trod enc Try.prog W 0 sp held m 3 [c0] = ys[0]? at f0
  have f1 : DataW.trod enc Try.prog W 0 sp held m 4 (([c0, c1, c2, c3, c4].drop 1).take (Try.prog.cellsOf 4)) = ys[1]? := hf 1 _ rfl
  rw [cells4] at f1
  change DataW.trod enc Try.prog W 0 sp held m 4 [c1] = ys[1]? at f1
  have f2 : DataW.trod enc Try.prog W 0 sp held m 34 (([c0, c1, c2, c3, c4].drop 2).take (Try.prog.cellsOf 34)) = ys[2]? := hf 2 _ rfl
  rw [cells23] at f2
  change DataW.trod enc Try.prog W 0 sp held m 34 [c2] = ys[2]? at f2
  have f3 : DataW.trod enc Try.prog W 0 sp held m 39 (([c0, c1, c2, c3, c4].drop 3).take (Try.prog.cellsOf 39)) = ys[3]? := hf 3 _ rfl
  rw [cells24] at f3
  change DataW.trod enc Try.prog W 0 sp held m 39 [c3] = ys[3]? at f3
  have f4 : DataW.trod enc Try.prog W 0 sp held m 3 (([c0, c1, c2, c3, c4].drop 4).take (Try.prog.cellsOf 3)) = ys[4]? := hf 4 _ rfl
  rw [cells3] at f4
  change DataW.trod enc Try.prog W 0 sp held m 3 [c4] = ys[4]? at f4
  have hlen : ys.length = 5 := hys
  have g : ∀ k, k < 5 → ∃ y, ys[k]? = some y := fun k hk => ⟨_, List.getElem?_eq_getElem (by omega)⟩
  obtain ⟨y0, g0⟩ := g 0 (by omega)
  obtain ⟨y1, g1⟩ := g 1 (by omega)
  obtain ⟨y2, g2⟩ := g 2 (by omega)
  obtain ⟨y3, g3⟩ := g 3 (by omega)
  obtain ⟨y4, g4⟩ := g 4 (by omega)
  rw [g0] at f0; rw [g1] at f1; rw [g2] at f2; rw [g3] at f3; rw [g4] at f4
  obtain ⟨z0, e0, _, _⟩ := DataW.trod_int Try.underlying3 f0
  obtain ⟨b1, e1, _⟩ := DataW.trod_bool Try.underlying4 f1
  obtain ⟨A2, n2, k2, l2, e2, hb2, hd2⟩ := open_bytes f2
  obtain ⟨A3, n3, k3, l3, e3, hb3, hd3⟩ := open_ents f3
  obtain ⟨z4, e4, _, _⟩ := DataW.trod_int Try.underlying3 f4
  cases e0; cases e1; cases e2; cases e3; cases e4
  refine ⟨⟨z0, b1, A2, n2, k2, A3, n3, k3, z4⟩, ⟨z0, b1, l2, l3, z4⟩, rfl, ⟨rfl, rfl, rfl, hb2, hb3⟩, fun hsz => ?_, ?_⟩
  case' refine_2 =>
    show l3.length ≤ _
    rw [← hb3.1]
    have hmem : y3.1 ∈ ys.map (·.1) := List.mem_map.2 ⟨y3, List.mem_of_getElem? g3, rfl⟩
    have hle := bulk_mem hmem
    have hag : Rows.uptoBulk (DataW.agg (ys.map (·.1))) = Rows.uptoBulkAll (ys.map (·.1)) + 1 := by unfold Rows.uptoBulk; rfl
    show n3 ≤ Rows.uptoBulk (DataW.agg (ys.map (·.1)))
    rw [hag]
    rcases hd3 with ⟨_, h0⟩ | ⟨es, spare, he, hn⟩
    · omega
    · rw [he] at hle
      have h1 := bulk_len es
      unfold Rows.uptoBulk at hle
      omega
  have s2 : Sized 34 y2.1 := sized_field (H := H) (j := 2) Try.underlying41 hsz rfl (by rw [List.getElem?_map, g2]; rfl)
  have s3 : Sized 39 y3.1 := sized_field (H := H) (j := 3) Try.underlying41 hsz rfl (by rw [List.getElem?_map, g3]; rfl)
  constructor
  · show l2.length ≤ _
    rw [← hb2.1]
    rcases hd2 with ⟨_, h0⟩ | ⟨es, spare, he, hn⟩
    · rw [h0]; exact Nat.zero_le _
    · rw [he] at s2
      have := sized_len Try.underlying34 s2
      rw [bytes5] at this
      omega
  · show l3.length * 24 ≤ _
    rw [← hb3.1]
    rcases hd3 with ⟨_, h0⟩ | ⟨es, spare, he, hn⟩
    · rw [h0]; exact Nat.zero_le _
    · rw [he] at s3
      have := sized_len Try.underlying39 s3
      rw [bytes58] at this
      omega

theorem open_node {W : World} {sp : Nat → Bool} {held : Bool} {fuel : Nat} {cs : List Value} {x : DataW H × List MemPlace} (h : DataW.trod enc Try.prog W 0 sp held fuel 41 cs = some x) :
    ∃ (v : NV) (y : M.Nd), cs = v.cells ∧ Cont W v y ∧ (Sized 41 x.1 → y.data.length ≤ reachBytes ∧ y.ents.length * 24 ≤ reachBytes) := by
  obtain ⟨v, y, h1, h2, h3, _⟩ := open_node_b h
  exact ⟨v, y, h1, h2, h3⟩

theorem reach_val : reachBytes = 140737488351232 := rfl
theorem small_of {y : M.Nd} (h : y.data.length ≤ reachBytes ∧ y.ents.length * 24 ≤ reachBytes) : Small y ∧ (y.ents.length + 1) * 24 ≤ 140737488355328 := by
  rw [reach_val] at h
  exact ⟨⟨by omega, by omega⟩, by omega⟩

instance : Inhabited NV := ⟨NV.zero⟩
instance : Inhabited M.Nd := ⟨nd0⟩
/-- a tree that came in -/
theorem open_nodes_b {W : World} {sp : Nat → Bool} {held : Bool} {fuel : Nat} {cs : List Value} {x : DataW H × List MemPlace} (h : DataW.trod enc Try.prog W 0 sp held fuel 22 cs = some x) :
    ∃ (A : Option Addr) (n c : Nat) (vs : List NV) (xs : List M.Nd), cs = [.slice A n c] ∧ Tree W A n vs xs ∧ (Sized 22 x.1 → n * 72 ≤ reachBytes ∧ ∀ y ∈ xs, y.data.length ≤ reachBytes ∧ y.ents.length * 24 ≤ reachBytes) ∧ (xs.flatMap fun y => y.ents.map (·.2)).length ≤ Rows.uptoBulk x.1 ∧ xs.length ≤ Rows.uptoBulk x.1 := by
  rcases open_slice Try.underlying22 h with ⟨rfl, rfl⟩ | ⟨a, len, cap, m, n, D, Pl, rfl, hb, hl, hm, hmm, rfl, hx⟩
  · exact ⟨none, 0, 0, [], [], rfl, ⟨⟨rfl, .inl rfl⟩, All2.nil⟩, (fun _ => ⟨by simp, fun y hy => by cases hy⟩), by simp, by simp⟩
  · have hlm : len ≤ m := by rw [hmm]; split <;> omega
    rw [cells26] at hx
    have each : ∀ i, i < len → ∃ q : NV × M.Nd, (∀ (j : Nat) c, q.1.cells[j]? = some c → W.cell? (a.add (i * 5 + j)) = some c) ∧ Cont W q.1 q.2 ∧ (Sized 41 (D i) → q.2.data.length ≤ reachBytes ∧ q.2.ents.length * 24 ≤ reachBytes) ∧ q.2.ents.length ≤ Rows.uptoBulk (D i) := fun i hi => by
      obtain ⟨cs', h1, h2⟩ := hx i (by omega)
      obtain ⟨v, y, rfl, hc, hs, hbk⟩ := open_node_b h2
      obtain ⟨_, _, hcell⟩ := World.cells?_some h1
      refine ⟨(v, y), fun j c hc' => ?_, hc, hs, hbk⟩
      have hj : j < 5 := by
        rcases Nat.lt_or_ge j 5 with h3 | h3
        · exact h3
        · rw [List.getElem?_eq_none (by exact h3)] at hc'; cases hc'
      have := hcell j hj
      rw [show (a.add (i * 5)).add j = a.add (i * 5 + j) from Addr.add_add a _ _] at this
      rw [this]
      exact hc'
    obtain ⟨U, hU⟩ := choose_lt each
    refine ⟨some a, len, cap, (List.range len).map fun i => (U i).1, (List.range len).map fun i => (U i).2, rfl, ⟨?_, by simp, fun j v y hv hy => ?_⟩, (fun hsz => ⟨?_, fun y hy => ?_⟩), ?_, ?_⟩
    · have := row_mk (k := 5) (cs := NV.cells) (by decide) nod_len (w := W) (vs := (List.range len).map fun i => (U i).1) (a := a) (fun j v hv i c hc => by
        have hj : j < len := by
          rcases Nat.lt_or_ge j len with h1 | h1
          · exact h1
          · rw [List.getElem?_eq_none (by simpa using h1)] at hv; cases hv
        rw [List.getElem?_map, List.getElem?_range hj] at hv
        cases hv
        exact (hU j hj).1 i c hc)
      rw [List.length_map, List.length_range] at this
      exact this
    · have hj : j < len := by
        rcases Nat.lt_or_ge j len with h1 | h1
        · exact h1
        · rw [List.getElem?_eq_none (by simpa using h1)] at hv; cases hv
      rw [List.getElem?_map, List.getElem?_range hj] at hv hy
      cases hv; cases hy
      exact (hU j hj).2.1
    · have := sized_len Try.underlying22 hsz
      rw [bytes26, List.length_map, List.length_range] at this
      omega
    · obtain ⟨i, hi, rfl⟩ := List.mem_map.1 hy
      have hi := List.mem_range.1 hi
      exact (hU i hi).2.2.1 (sized_elem Try.underlying22 hsz (List.mem_map.2 ⟨i, List.mem_range.2 hi, rfl⟩))
    · refine Nat.le_trans ?_ (bulk_slice _ _)
      have h1 := bulk_sum (H := H) (fun i => (U i).2.ents.length) D (List.range len) (fun i hi => (hU i (List.mem_range.1 hi)).2.2.2)
      have h2 : (((List.range len).map fun i => (U i).2).flatMap fun y => y.ents.map (·.2)).length = ((List.range len).map fun i => (U i).2.ents.length).sum := by
        rw [List.length_flatMap, List.map_map]
        congr 1
        apply List.map_congr_left
        intro i _
        simp
      rw [h2]
      exact h1
    · refine Nat.le_trans ?_ (bulk_slice _ _)
      have h1 := bulk_len ((List.range len).map D)
      simp only [List.length_map, List.length_range] at h1 ⊢
      exact h1

theorem open_nodes {W : World} {sp : Nat → Bool} {held : Bool} {fuel : Nat} {cs : List Value} {x : DataW H × List MemPlace} (h : DataW.trod enc Try.prog W 0 sp held fuel 22 cs = some x) :
    ∃ (A : Option Addr) (n c : Nat) (vs : List NV) (xs : List M.Nd), cs = [.slice A n c] ∧ Tree W A n vs xs ∧ (Sized 22 x.1 → n * 72 ≤ reachBytes ∧ ∀ y ∈ xs, y.data.length ≤ reachBytes ∧ y.ents.length * 24 ≤ reachBytes) := by
  obtain ⟨A, n, c, vs, xs, h1, h2, h3, _⟩ := open_nodes_b h
  exact ⟨A, n, c, vs, xs, h1, h2, h3⟩

theorem node_val {v : Value} {x : NV} (h : v.cells.toList = x.cells) : v = x.val := by
  cases v <;> simp [Value.cells, NV.cells] at h
  rename_i xs
  rw [NV.val]
  congr 1
  apply Array.ext'
  exact h

theorem trodAll_five {P : Program} {w : World} {base : Nat} {spare : Nat → Bool} {held : Bool} {t t' t'' t3 t4 : TypeId} {args : Array Value} {ds : List (DataW H)} {ps : List MemPlace} (h : DataW.TrodAll enc P w base spare held [t, t', t'', t3, t4] args.toList ds ps) :
    ∃ v v' v'' v3 v4 d d' d'' d3 d4 p p' p'' p3 p4, args = #[v, v', v'', v3, v4] ∧ ds = [d, d', d'', d3, d4] ∧ ps = p ++ p' ++ p'' ++ p3 ++ p4 ∧ DataW.Trod enc P w base spare held t v d p ∧ DataW.Trod enc P w base spare held t' v' d' p' ∧ DataW.Trod enc P w base spare held t'' v'' d'' p'' ∧ DataW.Trod enc P w base spare held t3 v3 d3 p3 ∧ DataW.Trod enc P w base spare held t4 v4 d4 p4 := by
  obtain ⟨v, vs, d, ds', p, q, hargs, rfl, rfl, hd, hrest⟩ := trodAll_cons h
  obtain ⟨v', vs', d', ds2, p', q', rfl, rfl, rfl, hd', hrest'⟩ := trodAll_cons hrest
  obtain ⟨v'', vs'', d'', ds3, p'', q'', rfl, rfl, rfl, hd'', hrest''⟩ := trodAll_cons hrest'
  obtain ⟨v3, vs3, d3, ds4, p3, q3, rfl, rfl, rfl, hd3, hrest3⟩ := trodAll_cons hrest''
  obtain ⟨v4, vs4, d4, ds5, p4, q4, rfl, rfl, rfl, hd4, hrest4⟩ := trodAll_cons hrest3
  obtain ⟨rfl, rfl, rfl⟩ := trodAll_nil hrest4
  exact ⟨v, v', v'', v3, v4, d, d', d'', d3, d4, p, p', p'', p3, p4, by cases args; simp_all, rfl, by simp, hd, hd', hd'', hd3, hd4⟩

/-- a law's end: it answered true, and nothing old has turned -/
theorem post_true {f : Func} {s : ChangeSpec} {W W' : World} {args : Array Value} {ds : List (DataW H)} {before : List MemPlace}
    (hf : f.resultTypes = #[4]) (hp : f.params.toList.all (fun t => Try.prog.readableRec t && decide (t < Try.prog.types.size)) = true) (hv : s.vars = []) (hs : s.fn H ds = { results := [.lit (.bool true)], args := ds })
    (hW : DataW.Whole enc Try.prog f.params.toList s.vars false W args.toList ds [] before) (hb : Below W.heap.size W W') :
    s.post enc Try.prog f false true false false W args (.bool true) W' := by
  have hW2 := hW
  obtain ⟨p, q, hA, hV, rfl, _, _⟩ := hW
  have hlt := hW2.lt
  rw [hv] at hV
  obtain ⟨_, rfl⟩ := trodVars_none hV
  rw [List.append_nil] at hlt
  refine ⟨ds, [], _, [], p, [], hW2, ?_, ?_, ?_, hb.frame _, fun h => by cases h⟩
  · rw [List.append_nil, hs, hf]
    exact trodAll_mk1 (shut_bool Try.underlying4 _)
  · rw [List.append_nil, hs]
    exact trodAll_below laidOut hb hp hA hlt
  · rw [hv, List.append_nil, hs]
    rfl
end
end Go.Proofs.Ytjpdoblmdchmkad
/-
  LISTS AS THEY ARE READ, whatever they hold.
-/
namespace Go.Proofs.Ytjpdoblmdchmkad
open Go.ChangeShapes Go.WideShapes Go.ChangeAt Go.RowKit Go.Deep

section
variable {H : Type} {enc : TypeId × Value → H}
/-- a list that came in, of whatever can be read -/
theorem open_rows {α β : Type} [Inhabited α] [Inhabited β] {W : World} {sp : Nat → Bool} {held : Bool} {t e : TypeId} {k : Nat} (cs : α → List Value) (hlen : ∀ v, (cs v).length = k) (k0 : 0 < k) (hu : Try.prog.underlying t = some (.slice e)) (hce : Try.prog.cellsOf e = k) (C : α → β → Prop) (S : DataW H → β → Prop)
    (open1 : ∀ {fuel : Nat} {l : List Value} {x : DataW H × List MemPlace}, DataW.trod enc Try.prog W 0 sp held fuel e l = some x → ∃ (v : α) (y : β), l = cs v ∧ C v y ∧ S x.1 y)
    {fuel : Nat} {l : List Value} {x : DataW H × List MemPlace} (h : DataW.trod enc Try.prog W 0 sp held fuel t l = some x) :
    ∃ (A : Option Addr) (n c : Nat) (vs : List α) (xs : List β), l = [.slice A n c] ∧ n ≤ c ∧ c ≤ maxLen ∧ Row k cs W A n vs ∧ All2 C vs xs ∧ ((x.1 = .nil ∧ n = 0) ∨ ∃ es spare, x.1 = .slice es spare ∧ es.length = n ∧ ∀ (j : Nat) (y : β), xs[j]? = some y → ∃ d, es[j]? = some d ∧ S d y) := by
  rcases open_slice hu h with ⟨rfl, rfl⟩ | ⟨a, len, cap, m, n, D, Pl, rfl, hb, hl, hm, hmm, rfl, hx⟩
  · exact ⟨none, 0, 0, [], [], rfl, Nat.le_refl _, Nat.zero_le _, ⟨rfl, .inl rfl⟩, All2.nil, .inl ⟨rfl, rfl⟩⟩
  · have hlm : len ≤ m := by rw [hmm]; split <;> omega
    rw [hce] at hx
    have each : ∀ i, i < len → ∃ q : α × β, (∀ (j : Nat) c, (cs q.1)[j]? = some c → W.cell? (a.add (i * k + j)) = some c) ∧ C q.1 q.2 ∧ S (D i) q.2 := fun i hi => by
      obtain ⟨cs', h1, h2⟩ := hx i (by omega)
      obtain ⟨v, y, rfl, hc, hs⟩ := open1 h2
      obtain ⟨_, _, hcell⟩ := World.cells?_some h1
      refine ⟨(v, y), fun j c hc' => ?_, hc, hs⟩
      have hj : j < k := by
        rcases Nat.lt_or_ge j k with h3 | h3
        · exact h3
        · rw [List.getElem?_eq_none (by rw [hlen]; exact h3)] at hc'; cases hc'
      have := hcell j hj
      rw [show (a.add (i * k)).add j = a.add (i * k + j) from Addr.add_add a _ _] at this
      rw [this]
      exact hc'
    obtain ⟨U, hU⟩ := choose_lt each
    have hget : ∀ {γ : Type} (f : Nat → γ) (j : Nat) (v : γ), ((List.range len).map f)[j]? = some v → j < len ∧ f j = v := fun f j v hv => by
      have hj : j < len := by
        rcases Nat.lt_or_ge j len with h1 | h1
        · exact h1
        · rw [List.getElem?_eq_none (by simpa using h1)] at hv; cases hv
      rw [List.getElem?_map, List.getElem?_range hj] at hv
      exact ⟨hj, Option.some.inj hv⟩
    refine ⟨some a, len, cap, (List.range len).map fun i => (U i).1, (List.range len).map fun i => (U i).2, rfl, hl, hm, ?_, ⟨by simp, fun j v y hv hy => ?_⟩, .inr ⟨_, _, rfl, by simp, fun j y hy => ?_⟩⟩
    · have := row_mk (k := k) (cs := cs) k0 hlen (w := W) (vs := (List.range len).map fun i => (U i).1) (a := a) (fun j v hv i c hc => by
        obtain ⟨hj, rfl⟩ := hget _ j v hv
        exact (hU j hj).1 i c hc)
      rw [List.length_map, List.length_range] at this
      exact this
    · obtain ⟨hj, rfl⟩ := hget _ j v hv
      obtain ⟨_, rfl⟩ := hget _ j y hy
      exact (hU j hj).2.1
    · obtain ⟨hj, rfl⟩ := hget _ j y hy
      exact ⟨D j, by rw [List.getElem?_map, List.getElem?_range hj]; rfl, (hU j hj).2.2⟩

end
end Go.Proofs.Ytjpdoblmdchmkad
/-
  PLAIN MATHEMATICS of Within: what is reached from a fid on, and a search that meets each node once.
-/
namespace Go.Proofs.Ytjpdoblmdchmkad
namespace M
def idxN (xs : List Nd) (t : Int) : Option Nat := xs.findIdx? (fun x => decide (x.fid = t))
def meetS (xs : List Nd) (st : List Bool × List Nat) (t : Int) : List Bool × List Nat :=
  match idxN xs t with
  | none => st
  | some i => if st.1[i]? = some false then (st.1.set i true, st.2 ++ [i]) else st
theorem idx_hit {xs : List Nd} {t : Int} {i : Nat} (hr : RsN xs) (hm : Mid ltI (xs.map (·.fid)) t i i) (h : (xs.map (·.fid))[i]? = some t) : idxN xs t = some i := by
  obtain ⟨m1, m2⟩ := hm.2.2 hr
  have hi : i < xs.length := by
    rcases Nat.lt_or_ge i (xs.map (·.fid)).length with h1 | h1
    · simpa using h1
    · rw [List.getElem?_eq_none h1] at h; cases h
  unfold idxN
  rw [List.findIdx?_eq_some_iff_getElem]
  refine ⟨hi, ?_, fun j hj => ?_⟩
  · rw [at_key (List.getElem?_eq_getElem hi)] at h
    simpa using h
  · have := m1 j (xs[j].fid) hj (at_key (f := fun x : Nd => x.fid) (List.getElem?_eq_getElem (show j < xs.length by omega)))
    simp [ltI] at this
    simp; omega
theorem idx_miss {xs : List Nd} {t : Int} {i : Nat} (hr : RsN xs) (hm : Mid ltI (xs.map (·.fid)) t i i) (h : (xs.map (·.fid))[i]? ≠ some t) : idxN xs t = none := by
  unfold idxN
  rw [List.findIdx?_eq_none_iff]
  intro x hx
  simp [mid_none (·.fid) xs t ordI hr hm h x hx]

/-- reached, by entries, from a on -/
inductive Reach (xs : List Nd) (a : Int) : Int → Prop
  | refl : Reach xs a a
  | step {y : Int} {x : Nd} {e : ByteArray × Int} : Reach xs a y → find xs y = some x → e ∈ x.ents → Reach xs a e.2

theorem find_idx {xs : List Nd} {t : Int} {x : Nd} (h : find xs t = some x) : ∃ j, idxN xs t = some j ∧ xs[j]? = some x := by
  unfold find at h
  obtain ⟨h1, j, hj, hx, h2⟩ := List.find?_eq_some_iff_getElem.1 h
  refine ⟨j, ?_, ?_⟩
  · unfold idxN
    rw [List.findIdx?_eq_some_iff_getElem]
    refine ⟨hj, by rw [hx]; exact h1, fun i hi => ?_⟩
    have := h2 i hi
    simpa using this
  · rw [List.getElem?_eq_getElem hj, hx]
theorem idx_at {xs : List Nd} {t : Int} {j : Nat} (h : idxN xs t = some j) : ∃ x, xs[j]? = some x ∧ x.fid = t := by
  unfold idxN at h
  rw [List.findIdx?_eq_some_iff_getElem] at h
  obtain ⟨hj, h1, _⟩ := h
  exact ⟨xs[j], List.getElem?_eq_getElem hj, by simpa using h1⟩
theorem find_self {xs : List Nd} {x : Nd} {i : Nat} (hr : RsN xs) (h : xs[i]? = some x) : find xs x.fid = some x := by
  unfold find
  obtain ⟨hi, hx⟩ := List.getElem?_eq_some_iff.1 h
  rw [List.find?_eq_some_iff_getElem]
  refine ⟨by simp, i, hi, hx, fun j hj => ?_⟩
  have := rs_at hr hj (at_key (f := fun x : Nd => x.fid) (List.getElem?_eq_getElem (show j < xs.length by omega))) (at_key h)
  simp [ltI] at this
  simp; omega

theorem count_set : ∀ (l : List Bool) (i : Nat), l[i]? = some false → (l.set i true).count true = l.count true + 1 ∧ l.count false = (l.set i true).count false + 1
  | [], i, h => by cases h
  | b :: l, 0, h => by cases h; simp
  | b :: l, i + 1, h => by
    have ih := count_set l i h
    rw [List.set_cons_succ]
    cases b <;> simp <;> omega

/-- what a meeting, or many, have done -/
structure Adv (xs : List Nd) (ts : List Int) (st st' : List Bool × List Nat) : Prop where
  keep : ∀ j : Nat, st.1[j]? = some true → st'.1[j]? = some true
  new : ∀ j : Nat, st'.1[j]? = some true → st.1[j]? = some true ∨ (j ∈ st'.2 ∧ ∃ t ∈ ts, idxN xs t = some j)
  old : ∀ j ∈ st.2, j ∈ st'.2
  ahead : ∀ j ∈ st'.2, j ∈ st.2 ∨ st'.1[j]? = some true
  all : ∀ t ∈ ts, ∀ j, idxN xs t = some j → st'.1[j]? = some true
  len : st'.1.length = st.1.length
  cnt : st.2.length ≤ st.1.count true → st'.2.length ≤ st'.1.count true
  meas : st'.2.length + 2 * st'.1.count false ≤ st.2.length + 2 * st.1.count false
theorem adv_nil (xs : List Nd) (st : List Bool × List Nat) : Adv xs [] st st :=
  ⟨fun _ h => h, fun _ h => .inl h, fun _ h => h, fun _ h => .inl h, fun t h => (by cases h), rfl, fun h => h, Nat.le_refl _⟩
theorem adv_one {xs : List Nd} {st : List Bool × List Nat} (hl : st.1.length = xs.length) (t : Int) : Adv xs [t] st (meetS xs st t) := by
  unfold meetS
  cases hi : idxN xs t with
  | none => exact ⟨fun _ h => h, fun _ h => .inl h, fun _ h => h, fun _ h => .inl h, fun u hu j hj => (by rw [List.mem_singleton.1 hu, hi] at hj; cases hj), rfl, fun h => h, Nat.le_refl _⟩
  | some i =>
    obtain ⟨x, hx, _⟩ := idx_at hi
    have hil : i < st.1.length := by rw [hl]; exact (List.getElem?_eq_some_iff.1 hx).1
    simp only []
    split
    · rename_i hf
      have hc := count_set st.1 i hf
      refine ⟨fun j h => ?_, fun j h => ?_, fun j h => List.mem_append.2 (.inl h), fun j h => ?_, fun u hu j hj => ?_, by simp, fun h => ?_, ?_⟩
      · by_cases e : i = j
        · subst e; rw [List.getElem?_set_self hil]
        · rw [List.getElem?_set_ne e]; exact h
      · by_cases e : i = j
        · subst e; exact .inr ⟨List.mem_append.2 (.inr (List.mem_singleton.2 rfl)), t, List.mem_singleton.2 rfl, hi⟩
        · have h : (st.1.set i true)[j]? = some true := h
          rw [List.getElem?_set_ne e] at h; exact .inl h
      · rcases List.mem_append.1 h with h | h
        · exact .inl h
        · rw [List.mem_singleton.1 h]; exact .inr (by show (st.1.set i true)[i]? = _; rw [List.getElem?_set_self hil])
      · rw [List.mem_singleton.1 hu, hi] at hj
        cases hj
        show (st.1.set i true)[i]? = _
        rw [List.getElem?_set_self hil]
      · show (st.2 ++ [i]).length ≤ (st.1.set i true).count true
        rw [List.length_append, hc.1, List.length_singleton]; omega
      · show (st.2 ++ [i]).length + 2 * (st.1.set i true).count false ≤ _
        rw [List.length_append, List.length_singleton]; omega
    · rename_i hf
      refine ⟨fun _ h => h, fun _ h => .inl h, fun _ h => h, fun _ h => .inl h, fun u hu j hj => ?_, rfl, fun h => h, Nat.le_refl _⟩
      rw [List.mem_singleton.1 hu, hi] at hj
      cases hj
      have hb : st.1[i]? = some st.1[i] := List.getElem?_eq_getElem hil
      cases e : st.1[i]
      · rw [e] at hb; exact absurd hb hf
      · rw [hb, e]
theorem adv_trans {xs : List Nd} {ts us : List Int} {a b c : List Bool × List Nat} (h : Adv xs ts a b) (k : Adv xs us b c) : Adv xs (ts ++ us) a c := by
  refine ⟨fun j hj => k.keep j (h.keep j hj), fun j hj => ?_, fun j hj => k.old j (h.old j hj), fun j hj => ?_, fun t ht j hj => ?_, k.len.trans h.len, fun hc => k.cnt (h.cnt hc), Nat.le_trans k.meas h.meas⟩
  · rcases k.new j hj with h1 | ⟨h1, t, ht, h2⟩
    · rcases h.new j h1 with h3 | ⟨h3, t, ht, h4⟩
      · exact .inl h3
      · exact .inr ⟨k.old j h3, t, List.mem_append.2 (.inl ht), h4⟩
    · exact .inr ⟨h1, t, List.mem_append.2 (.inr ht), h2⟩
  · rcases k.ahead j hj with h1 | h1
    · rcases h.ahead j h1 with h2 | h2
      · exact .inl h2
      · exact .inr (k.keep j h2)
    · exact .inr h1
  · rcases List.mem_append.1 ht with h1 | h1
    · exact k.keep j (h.all t h1 j hj)
    · exact k.all t h1 j hj
theorem adv_fold {xs : List Nd} : ∀ (ts : List Int) {st : List Bool × List Nat}, st.1.length = xs.length → Adv xs ts st (ts.foldl (meetS xs) st)
  | [], st, _ => adv_nil xs st
  | t :: ts, st, hl => by
    have h1 := adv_one hl t
    exact adv_trans (ts := [t]) h1 (adv_fold ts (st := meetS xs st t) (by rw [h1.len]; exact hl))

/-- what holds while nothing is found -/
structure WInv (xs : List Nd) (a t : Int) (st : List Bool × List Nat) : Prop where
  len : st.1.length = xs.length
  cnt : st.2.length ≤ st.1.count true
  r : ∀ (i : Nat) (x : Nd), st.1[i]? = some true → xs[i]? = some x → Reach xs a x.fid
  inn : a ≠ t ∧ ∀ i : Nat, idxN xs a = some i → st.1[i]? = some true
  ahl : ∀ i ∈ st.2, st.1[i]? = some true
  done : ∀ (i : Nat) (x : Nd), st.1[i]? = some true → xs[i]? = some x → i ∉ st.2 → ∀ e ∈ x.ents, e.2 ≠ t ∧ ∀ j, idxN xs e.2 = some j → st.1[j]? = some true
theorem winv_start (xs : List Nd) (a t : Int) (h : a ≠ t) : WInv xs a t (meetS xs (List.replicate xs.length false, []) a) := by
  have hv := adv_one (xs := xs) (st := (List.replicate xs.length false, [])) (by simp) a
  have hno : ∀ j : Nat, (List.replicate xs.length false)[j]? ≠ some true := by
    intro j hj
    rw [List.getElem?_replicate] at hj
    split at hj <;> cases hj
  have hnew : ∀ j : Nat, (meetS xs (List.replicate xs.length false, []) a).1[j]? = some true → j ∈ (meetS xs (List.replicate xs.length false, []) a).2 ∧ idxN xs a = some j := by
    intro j hj
    rcases hv.new j hj with h1 | ⟨h1, u, hu, h2⟩
    · exact absurd h1 (hno j)
    · rw [List.mem_singleton.1 hu] at h2; exact ⟨h1, h2⟩
  refine ⟨by rw [hv.len]; simp, hv.cnt (by simp), fun i x hi hx => ?_, ⟨h, fun i hi => hv.all a (List.mem_singleton.2 rfl) i hi⟩, fun i hi => ?_, fun i x hi hx hn => absurd (hnew i hi).1 hn⟩
  · obtain ⟨y, hy, hf⟩ := idx_at (hnew i hi).2
    rw [hx] at hy; cases hy
    rw [hf]; exact .refl
  · rcases hv.ahead i hi with h1 | h1
    · cases h1
    · exact h1
theorem winv_step {xs : List Nd} {a t : Int} {met : List Bool} {ah : List Nat} {i : Nat} {x : Nd} (hr : RsN xs) (h : WInv xs a t (met, ah ++ [i])) (hx : xs[i]? = some x) (hno : ∀ e ∈ x.ents, e.2 ≠ t) :
    WInv xs a t ((x.ents.map (·.2)).foldl (meetS xs) (met, ah)) := by
  have hv := adv_fold (xs := xs) (x.ents.map (·.2)) (st := (met, ah)) h.len
  have hcnt := h.cnt
  simp only [List.length_append, List.length_singleton] at hcnt
  have hmi : met[i]? = some true := h.ahl i (List.mem_append.2 (.inr (List.mem_singleton.2 rfl)))
  have hri := h.r i x hmi hx
  refine ⟨hv.len.trans h.len, hv.cnt (by show ah.length ≤ met.count true; omega), fun j y hj hy => ?_, ⟨h.inn.1, fun j hj => hv.keep j (h.inn.2 j hj)⟩, fun j hj => ?_, fun j y hj hy hnj e he => ?_⟩
  · rcases hv.new j hj with h1 | ⟨_, u, hu, h2⟩
    · exact h.r j y h1 hy
    · obtain ⟨e, he, rfl⟩ := List.mem_map.1 hu
      obtain ⟨z, hz, hf⟩ := idx_at h2
      rw [hy] at hz; cases hz
      rw [hf]
      exact .step hri (find_self hr hx) he
  · rcases hv.ahead j hj with h1 | h1
    · exact hv.keep j (h.ahl j (List.mem_append.2 (.inl h1)))
    · exact h1
  · rcases hv.new j hj with h1 | ⟨h1, _⟩
    · by_cases e1 : j = i
      · subst e1
        rw [hx] at hy; cases hy
        exact ⟨hno e he, fun q hq => hv.all e.2 (List.mem_map.2 ⟨e, he, rfl⟩) q hq⟩
      · have hn2 : j ∉ ah ++ [i] := by
          intro hm
          rcases List.mem_append.1 hm with h2 | h2
          · exact hnj (hv.old j h2)
          · exact e1 (List.mem_singleton.1 h2)
        have := h.done j y h1 hy hn2 e he
        exact ⟨this.1, fun q hq => hv.keep q (this.2 q hq)⟩
    · exact absurd h1 hnj
theorem winv_end {xs : List Nd} {a t : Int} {met : List Bool} (h : WInv xs a t (met, [])) : ¬ Reach xs a t := by
  have key : ∀ y, Reach xs a y → y ≠ t ∧ ∀ j, idxN xs y = some j → met[j]? = some true := by
    intro y hy
    induction hy with
    | refl => exact h.inn
    | step _ hf he ih =>
      obtain ⟨j, hj, hx⟩ := find_idx hf
      exact h.done j _ (ih.2 j hj) hx (by simp) _ he
  exact fun hr => (key t hr).1 rfl
theorem winv_hit {xs : List Nd} {a t : Int} {met : List Bool} {ah : List Nat} {i : Nat} {x : Nd} (hr : RsN xs) (h : WInv xs a t (met, ah ++ [i])) (hx : xs[i]? = some x) {e : ByteArray × Int} (he : e ∈ x.ents) (het : e.2 = t) : Reach xs a t := by
  have hmi : met[i]? = some true := h.ahl i (List.mem_append.2 (.inr (List.mem_singleton.2 rfl)))
  rw [← het]
  exact .step (h.r i x hmi hx) (find_self hr hx) he
theorem winv_meas {xs : List Nd} {met : List Bool} {ah : List Nat} {i : Nat} {ts : List Int} (hl : met.length = xs.length) :
    (ts.foldl (meetS xs) (met, ah)).2.length + 2 * (ts.foldl (meetS xs) (met, ah)).1.count false < (ah ++ [i]).length + 2 * met.count false := by
  have := (adv_fold (xs := xs) ts (st := (met, ah)) hl).meas
  rw [List.length_append, List.length_singleton]
  simp only at this
  omega
theorem findN_if (xs : List Nd) (x : Nd) (t : Int) : find (putN xs x) t = if t = x.fid then some x else find xs t := by
  by_cases h : t = x.fid
  · rw [if_pos h, h]; exact put_find (fun y : Nd => y.fid) xs ordI x
  · rw [if_neg h]; exact put_find_other (fun y : Nd => y.fid) xs ordI x t h
end M
end Go.Proofs.Ytjpdoblmdchmkad
/-
  PIECES: what is found behind Put and Drop; what stays small.
-/
namespace Go.Proofs.Ytjpdoblmdchmkad
open Go.RowKit

theorem small_any {x : M.Nd} (h1 : x.data.length ≤ 100) (h2 : x.ents.length ≤ 100) : Small x := ⟨by omega, by omega⟩
theorem findN_put (xs : List M.Nd) (x : M.Nd) : M.find (M.putN xs x) x.fid = some x := M.put_find (fun y : M.Nd => y.fid) xs M.ordI x
theorem findN_other (xs : List M.Nd) (x : M.Nd) (t : Int) (h : t ≠ x.fid) : M.find (M.putN xs x) t = M.find xs t := M.put_find_other (fun y : M.Nd => y.fid) xs M.ordI x t h
theorem findN_drop (xs : List M.Nd) (t : Int) : M.find (M.dropN xs t) t = none := M.find_filter_none (fun y : M.Nd => y.fid) xs _ t (fun y _ e => by simp [e])
theorem rs_put {xs : List M.Nd} (x : M.Nd) (h : M.RsN xs) : M.RsN (M.putN xs x) := M.put_rs (fun y : M.Nd => y.fid) xs M.ordI x h
theorem rs_drop {xs : List M.Nd} (t : Int) (h : M.RsN xs) : M.RsN (M.dropN xs t) := M.rs_sub h (List.filter_sublist.map _)
theorem small_put {xs : List M.Nd} {x : M.Nd} (h : ∀ y ∈ xs, Small y) (hx : Small x) : ∀ y ∈ M.putN xs x, Small y := by
  intro y hy
  unfold M.putN M.put at hy
  rcases List.mem_append.1 hy with h1 | h1
  · exact h y (List.mem_filter.1 h1).1
  · rcases List.mem_cons.1 h1 with h2 | h2
    · rw [h2]; exact hx
    · exact h y (List.mem_filter.1 h2).1
theorem small_drop {xs : List M.Nd} (t : Int) (h : ∀ y ∈ xs, Small y) : ∀ y ∈ M.dropN xs t, Small y := fun y hy => h y (List.mem_filter.1 hy).1
theorem small_get {xs : List M.Nd} (t : Int) (h : ∀ y ∈ xs, Small y) : Small ((M.find xs t).getD nd0) := by
  cases hf : M.find xs t with
  | none => exact small_any (by simp [nd0]) (by simp [nd0])
  | some y => exact h y (List.mem_of_find?_eq_some hf)

theorem below_new {w w' : World} (h : Below w.heap.size w w') (o : Obj) : Below w.heap.size w (w'.alloc o) := h.alloc h.size o

/-- two rising lists of the same members are one -/
theorem rs_ext : ∀ {ls ms : List M.Nd}, M.RsN ls → M.RsN ms → (∀ x, x ∈ ls ↔ x ∈ ms) → ls = ms
  | [], [], _, _, _ => rfl
  | [], b :: ms, _, _, h => by have := (h b).2 (List.mem_cons_self ..); cases this
  | a :: ls, [], _, _, h => by have := (h a).1 (List.mem_cons_self ..); cases this
  | a :: ls, b :: ms, ha, hb, h => by
    have ha1 : ∀ y ∈ ls, a.fid < y.fid := by
      have hp : M.Rs M.ltI ((a :: ls).map (·.fid)) := ha
      unfold M.Rs at hp
      rw [List.map_cons, List.pairwise_cons] at hp
      intro y hy
      have := hp.1 y.fid (List.mem_map.2 ⟨y, hy, rfl⟩)
      simpa [M.ltI] using this
    have hb1 : ∀ y ∈ ms, b.fid < y.fid := by
      have hp : M.Rs M.ltI ((b :: ms).map (·.fid)) := hb
      unfold M.Rs at hp
      rw [List.map_cons, List.pairwise_cons] at hp
      intro y hy
      have := hp.1 y.fid (List.mem_map.2 ⟨y, hy, rfl⟩)
      simpa [M.ltI] using this
    have hab : a = b := by
      rcases List.mem_cons.1 ((h a).1 (List.mem_cons_self ..)) with h1 | h1
      · exact h1
      · rcases List.mem_cons.1 ((h b).2 (List.mem_cons_self ..)) with h2 | h2
        · exact h2.symm
        · have := ha1 b h2; have := hb1 a h1; omega
    subst hab
    have ht : ls = ms := by
      refine rs_ext (M.rs_sub ha ((List.sublist_cons_self a ls).map _)) (M.rs_sub hb ((List.sublist_cons_self a ms).map _)) fun x => ⟨fun hx => ?_, fun hx => ?_⟩
      · rcases List.mem_cons.1 ((h x).1 (List.mem_cons_of_mem _ hx)) with h1 | h1
        · subst h1; have := ha1 x hx; omega
        · exact h1
      · rcases List.mem_cons.1 ((h x).2 (List.mem_cons_of_mem _ hx)) with h1 | h1
        · subst h1; have := hb1 x hx; omega
        · exact h1
    rw [ht]

/-- of a rising list one more is picked -/
theorem filter_put {xs : List M.Nd} {x : M.Nd} (hr : M.RsN xs) (hx : x ∈ xs) (p q : Int → Bool) (hp : p x.fid = false) (hq : ∀ k, q k = (p k || decide (k = x.fid))) :
    xs.filter (fun y => q y.fid) = M.putN (xs.filter (fun y => p y.fid)) x := by
  have hone : ∀ y ∈ xs, y.fid = x.fid → y = x := by
    intro y hy he
    obtain ⟨i, hi⟩ := List.getElem?_of_mem hy
    obtain ⟨j, hj⟩ := List.getElem?_of_mem hx
    have h1 := M.find_self hr hi
    have h2 := M.find_self hr hj
    rw [he, h2] at h1
    exact (Option.some.inj h1).symm
  refine rs_ext (M.rs_sub hr (List.filter_sublist.map _)) (rs_put x (M.rs_sub hr (List.filter_sublist.map _))) fun y => ?_
  unfold M.putN M.put
  simp only [List.mem_append, List.mem_cons, List.mem_filter, M.ltI, decide_eq_true_eq]
  constructor
  · rintro ⟨hy, hqy⟩
    rw [hq, Bool.or_eq_true] at hqy
    by_cases he : y.fid = x.fid
    · exact .inr (.inl (hone y hy he))
    · have hpy : p y.fid = true := by
        rcases hqy with h | h
        · exact h
        · exact absurd (of_decide_eq_true h) he
      rcases Int.lt_or_gt_of_ne he with h | h
      · exact .inl ⟨⟨hy, hpy⟩, h⟩
      · exact .inr (.inr ⟨⟨hy, hpy⟩, h⟩)
  · rintro (⟨⟨hy, hpy⟩, _⟩ | rfl | ⟨⟨hy, hpy⟩, _⟩)
    · exact ⟨hy, by rw [hq, hpy]; rfl⟩
    · exact ⟨hx, by rw [hq]; simp⟩
    · exact ⟨hy, by rw [hq, hpy]; rfl⟩
/-- and its place -/
theorem put_place {ys : List M.Nd} {x : M.Nd} {k : Nat} (hr : M.RsN ys) (hlow : ∀ y ∈ ys.take k, y.fid < x.fid) (hup : ∀ y, ys[k]? = some y → x.fid < y.fid) :
    M.putN ys x = ys.take k ++ [x] ++ ys.drop k := by
  have hp : M.Rs M.ltI (ys.map (·.fid)) := hr
  unfold M.Rs at hp
  rw [List.pairwise_map] at hp
  have hhi : ∀ y ∈ ys.drop k, x.fid < y.fid := by
    intro y hy
    obtain ⟨i, hi⟩ := List.getElem?_of_mem hy
    rw [List.getElem?_drop] at hi
    obtain ⟨hl, he⟩ := List.getElem?_eq_some_iff.1 hi
    by_cases h0 : i = 0
    · subst h0; exact hup y (by simpa using hi)
    · have hk : k < ys.length := by omega
      have h1 := hup ys[k] (List.getElem?_eq_getElem hk)
      have h2 := List.pairwise_iff_getElem.1 hp k (k + i) hk hl (by omega)
      rw [he] at h2
      simp [M.ltI] at h2
      omega
  have hs : ys = ys.take k ++ ys.drop k := (List.take_append_drop k ys).symm
  unfold M.putN M.put
  have e1 : ys.filter (fun y => M.ltI y.fid x.fid) = ys.take k := by
    rw [hs, List.filter_append, List.take_append_drop]
    rw [List.filter_eq_self.2 (fun y hy => by simpa [M.ltI] using hlow y hy), List.filter_eq_nil_iff.2 (fun y hy => by have := hhi y hy; simp [M.ltI]; omega), List.append_nil]
  have e2 : ys.filter (fun y => M.ltI x.fid y.fid) = ys.drop k := by
    rw [hs, List.filter_append, List.take_append_drop]
    rw [List.filter_eq_nil_iff.2 (fun y hy => by have := hlow y hy; simp [M.ltI]; omega), List.filter_eq_self.2 (fun y hy => by simpa [M.ltI] using hhi y hy), List.nil_append]
  rw [e1, e2]
  simp
end Go.Proofs.Ytjpdoblmdchmkad
/-
  THE REFERENCE's Same (of lists of nodes).
-/
namespace Go.Proofs.Ytjpdoblmdchmkad
open Go.RowKit

set_option maxHeartbeats 2000000 in
theorem refSame_any (A B : Option Addr) (n m ca cb : Nat) (vs us : List NV) (xs ys : List M.Nd) (vb : Bool) (w : World) (hx : Tree w A n vs xs) (hy : Tree w B m us ys) (hn : n * 72 ≤ 140737488355328) (hm : m * 72 ≤ 140737488355328) (sx : ∀ x ∈ xs, Small x) (sy : ∀ y ∈ ys, Small y) :
    Calls Try.prog 18 #[.slice A n ca, .slice B m cb, .bool vb] w fun e w' => e = .returned (.bool (allB (sameNd vb) xs ys)) ∧ Below w.heap.size w w' := by
  have HS : Hid ((∀ x ∈ xs, Small x) ∧ (∀ y ∈ ys, Small y)) := ⟨sx, sy⟩
  have HT : Hid (Tree w A n vs xs ∧ Tree w B m us ys) := ⟨hx, hy⟩
  clear sx sy
  by_cases hnm : n = m
  · subst hnm
    have q0 : ((n : Int) == (n : Int)) = true := by simp
    have q1 : ((n : Int) != (n : Int)) = false := by simp
    clear hx hy
    go_enter Try.func18, Try.ntmps18
    go_wp2
    go_loopw [15] (fun i wr => ∃ k : Nat, k ≤ n ∧ i = .int .i64 k ∧ Hid (allB (sameNd vb) (xs.take k) (ys.take k) = true) ∧ Below w.heap.size w wr) (fun i _ => n - (intOf i).toNat)
    case atStart => exact ⟨0, Nat.zero_le _, rfl, rfl, Below.refl _ _⟩
    case round =>
      obtain ⟨k, hk, rfl, HE, hb⟩ := hrel
      have hsz := hb.size
      by_cases hlt : k < n
      · have hxr := HT.out.1.below (Nat.le_refl _) hb
        have hyr := HT.out.2.below (Nat.le_refl _) hb
        obtain ⟨b, o, v, rfl, _, hvk, a0, a1, a2, a3, a4⟩ := hxr.1.at hlt
        obtain ⟨b2, o2, u, rfl, _, huk, c0, c1, c2, c3, c4⟩ := hyr.1.at hlt
        obtain ⟨x, hxk, hcx⟩ := hxr.2.at hvk
        obtain ⟨y, hyk, hcy⟩ := hyr.2.at huk
        have HX : Hid (Cont wr v x ∧ Small x ∧ xs[k]? = some x) := ⟨hcx, HS.out.1 x (List.mem_of_getElem? hxk), hxk⟩
        have HY : Hid (Cont wr u y ∧ Small y ∧ ys[k]? = some y) := ⟨hcy, HS.out.2 y (List.mem_of_getElem? hyk), hyk⟩
        have HL : Hid ((xs.take k).length = (ys.take k).length) := by
          show _ = _
          rw [List.length_take, List.length_take, ← HT.out.1.2.1, ← HT.out.2.2.1, ← HT.out.1.1.1, ← HT.out.2.1.1]
        have hkn : (k : Int) < (n : Int) := by omega
        have hk0 : (0 : Int) ≤ (k : Int) := by omega
        clear hxk hyk hvk huk hcx hcy hxr hyr
        cases hal : sameNd vb x y
        · have HAL : Hid (sameNd vb x y = false) := hal
          clear hal
          go_wp2
          go_region_with (go_at_call 44; refine (sameNode_any v u x y vb _ (HX.out.1.below (Nat.le_refl _) ((Below.refl _ _).drew)) (HY.out.1.below (Nat.le_refl _) ((Below.refl _ _).drew)) HX.out.2.1 HY.out.2.1).mono ?_; rintro e w1 ⟨rfl, hb1⟩; rw [HAL.out]; have H1 : Hid (Below w.heap.size w w1) := hb.drew.trans (hb1.mono hsz); clear hb1)
          all_goals
            go_wp2
            go_ret
            exact ⟨ret_bool (allB_no HX.out.2.2 HY.out.2.2 HAL.out).symm, H1.out⟩
        · have HAL : Hid (sameNd vb x y = true) := hal
          clear hal
          go_wp2
          go_region_with (go_at_call 44; refine (sameNode_any v u x y vb _ (HX.out.1.below (Nat.le_refl _) ((Below.refl _ _).drew)) (HY.out.1.below (Nat.le_refl _) ((Below.refl _ _).drew)) HX.out.2.1 HY.out.2.1).mono ?_; rintro e w1 ⟨rfl, hb1⟩; rw [HAL.out]; have H1 : Hid (Below w.heap.size w w1) := hb.drew.trans (hb1.mono hsz); clear hb1)
          all_goals
            go_wp2
            go_roundw
            case rel => exact ⟨k + 1, by omega, by go_num, by show _ = true; rw [take_step HX.out.2.2, take_step HY.out.2.2, allB_snoc HL.out, HE.out, HAL.out]; rfl, H1.out⟩
            case measure => simp [intOf]; omega
      · have HN : Hid (xs.length ≤ k ∧ ys.length ≤ k) := by show _ ∧ _; rw [← HT.out.1.2.1, ← HT.out.2.2.1, ← HT.out.1.1.1, ← HT.out.2.1.1]; omega
        go_wp2
        go_ret
        exact ⟨ret_bool (by
          have e := HE.out
          rw [List.take_of_length_le HN.out.1, List.take_of_length_le HN.out.2] at e
          exact e.symm), hb⟩
  · have HN : Hid (xs.length ≠ ys.length) := by show _ ≠ _; rw [← hx.2.1, ← hy.2.1, ← hx.1.1, ← hy.1.1]; exact hnm
    have q0 : ((n : Int) == (m : Int)) = false := by rw [beq_eq_false_iff_ne]; omega
    have q1 : ((n : Int) != (m : Int)) = true := by rw [bne, q0]; rfl
    clear hx hy
    go_enter Try.func18, Try.ntmps18
    go_wp2
    go_ret
    exact ⟨ret_bool (allB_len HN.out).symm, Below.refl _ _⟩

end Go.Proofs.Ytjpdoblmdchmkad
