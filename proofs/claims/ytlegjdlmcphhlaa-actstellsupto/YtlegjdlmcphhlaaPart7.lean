/- TEXTS LAID TOGETHER: Actf, Commonb, Commone, Vals, Plainb, Does, Doesb, Frame, Doese, Refb -/
import Derived.Test.YtlegjdlmcphhlaaPart6
import Derived.Test.YtlegjdlmcphhlaaPart5
import Derived.Test.YtlegjdlmcphhlaaPart1
import Derived.RegionTactic
import Derived.Test.YtlegjdlmcphhlaaPart4
/-
  PACKAGE acts: Fids, Own, All.
-/
namespace Go.Proofs.Ytlegjdlmcphhlaa
open Go.RowKit

theorem act_len (x : AV) : x.cells.length = 7 := rfl
theorem act_one (x : AV) : ∀ u ∈ x.cells, u.oneCell' = true := by intro u hu; simp [AV.cells] at hu; rcases hu with rfl | rfl | rfl | rfl | rfl | rfl | rfl <;> rfl
/-- acts that came in -/
def TreeA (w : World) (A : Option Addr) (n : Nat) (vs : List AV) (xs : List M.Act) : Prop := Row 7 AV.cells w A n vs ∧ All2 (ContA w) vs xs
theorem TreeA.below {B : Nat} {w w' : World} {A : Option Addr} {n : Nat} {vs : List AV} {xs : List M.Act} (h : TreeA w A n vs xs) (hB : w.heap.size ≤ B) (hb : Below B w w') : TreeA w' A n vs xs :=
  ⟨h.1.below hB hb, h.2.imp fun _ _ h => h.below hB hb⟩
theorem Acts.at {w : World} {A : Option Addr} {n : Nat} {vs : List AV} (h : Row 7 AV.cells w A n vs) {j : Nat} (hj : j < n) :
    ∃ b o v, A = some ⟨b, o, none⟩ ∧ b < w.heap.size ∧ vs[j]? = some v ∧ w.cell? ⟨b, o + j * 7, none⟩ = some (.int .i64 v.kind) ∧ w.cell? ⟨b, o + j * 7 + 1, none⟩ = some (.int .i64 v.fid) ∧
      w.cell? ⟨b, o + j * 7 + 2, none⟩ = some (.int .i64 v.dir) ∧ w.cell? ⟨b, o + j * 7 + 3, none⟩ = some (.string v.name) ∧ w.cell? ⟨b, o + j * 7 + 4, none⟩ = some (.int .i64 v.to) ∧ w.cell? ⟨b, o + j * 7 + 5, none⟩ = some (.string v.toName) ∧ w.cell? ⟨b, o + j * 7 + 6, none⟩ = some (.slice v.dA v.dn v.dc) := by
  obtain ⟨b, o, v, e, hlt, hv, hc⟩ := Row.at h hj
  exact ⟨b, o, v, e, hlt, hv, hc 0 _ rfl, hc 1 _ rfl, hc 2 _ rfl, hc 3 _ rfl, hc 4 _ rfl, hc 5 _ rfl, hc 6 _ rfl⟩

theorem all_step {xs : List M.Nd} {a : M.Act} {l : List M.Act} {v : Int} (h : (M.applyS xs a v).1 = 0) : M.allS xs (a :: l) v = ((M.allS (M.applyS xs a v).2 l v).1 + 1, (M.allS (M.applyS xs a v).2 l v).2) := by rw [M.allS, if_pos h]
theorem all_stop {xs : List M.Nd} {a : M.Act} {l : List M.Act} {v : Int} (h : (M.applyS xs a v).1 ≠ 0) : M.allS xs (a :: l) v = (0, (M.applyS xs a v).1, []) := by rw [M.allS, if_neg h]

/-- where All is, behind k acts -/
def AllI (w : World) (xs : List M.Nd) (acs : List M.Act) (ver : Int) (k : Nat) (B : Option Addr) (m d : Nat) (ys : List M.Nd) (wr : World) : Prop :=
  (∃ us, OwnT wr w.heap.size B m d us ys) ∧ Good ys ∧ M.allS xs acs ver = (k + (M.allS ys (acs.drop k) ver).1, (M.allS ys (acs.drop k) ver).2) ∧ Below w.heap.size w wr
/-- what All answers -/
def AllPost (w : World) (spec : Nat × Int × List M.Nd) (e : Ending) (w' : World) : Prop :=
  ∃ (B : Option Addr) (m d : Nat) (us : List NV), e = .returned (.tuple #[.slice B m d, .int .i64 (spec.1 : Int), .int .i64 spec.2.1]) ∧ OwnT w' w.heap.size B m d us spec.2.2 ∧ Below w.heap.size w w'

set_option maxHeartbeats 1000000 in
theorem all_any (A C : Option Addr) (n c p q : Nat) (vs : List NV) (xs : List M.Nd) (avs : List AV) (acs : List M.Act) (ver : Int) (w : World) (ht : Tree w A n vs xs) (hg : Good xs) (ha : TreeA w C p avs acs) (hsa : ∀ a ∈ acs, SmallA a) (hp : p ≤ 140737488355328) :
    Calls Try.prog 37 #[.slice A n c, .slice C p q, .int .i64 ver] w (AllPost w (M.allS xs acs ver)) := by
  have hnx : n = xs.length := by rw [ht.1.1, ht.2.1]
  have hn72 : n * 72 ≤ 140737488355328 := by have := hg.2.2; omega
  have HT : Hid (Tree w A n vs xs ∧ Good xs ∧ TreeA w C p avs acs ∧ (∀ a ∈ acs, SmallA a)) := ⟨ht, hg, ha, hsa⟩
  clear ht hg ha hsa hnx
  go_enter Try.func37, Try.ntmps37
  go_wp2_with (fail)
  refine (own_any A n c vs xs w HT.out.1 hn72 HT.out.2.1.2.1).mono ?_
  rintro e w1 ⟨g, us, rfl, hot, hb1⟩
  have HI : Hid (AllI w xs acs ver 0 (some ⟨g, 0, none⟩) n n xs w1) := ⟨⟨us, hot⟩, HT.out.2.1, by simp, hb1⟩
  clear hot hb1
  go_wp2_with (fail)
  go_loopw [0, 17] (fun l i wr => ∃ (k : Nat) (B : Option Addr) (m d : Nat) (ys : List M.Nd), l = .slice B m d ∧ i = .int .i64 k ∧ k ≤ p ∧ AllI w xs acs ver k B m d ys wr) (fun _ i _ => p - (intOf i).toNat)
  case atStart => exact ⟨0, _, _, _, _, rfl, rfl, Nat.zero_le _, HI.out⟩
  case round =>
    obtain ⟨k, B, m, d, ys, rfl, rfl, hk, hi⟩ := hrel
    have HJ : Hid (AllI w xs acs ver k B m d ys wr) := hi
    clear hi
    by_cases hlt : k < p
    · obtain ⟨b, o, v, rfl, hbl, hv, c0, c1, c2, c3, c4, c5, c6⟩ := Acts.at (HT.out.2.2.1.below (Nat.le_refl _) HJ.out.2.2.2).1 hlt
      obtain ⟨ac, hac, hca⟩ := HT.out.2.2.1.2.at hv
      have HA : Hid (ContA w v ac ∧ acs[k]? = some ac ∧ SmallA ac) := ⟨hca, hac, HT.out.2.2.2 ac (List.mem_of_getElem? hac)⟩
      have HW : Hid _ := boxA_start wr v
      clear hv hac hca
      go_wp2_with (fail)
      obtain ⟨q1, q2, q3⟩ := HW.out _ rfl
      obtain ⟨us, hus⟩ := HJ.out.1
      have hmy : m = ys.length := by rw [hus.tree.1.1, hus.tree.2.1]
      refine (apply_any B m d us ys v ac ver _ (hus.tree.below (Nat.le_refl _) q1) (by rw [hmy]; exact HJ.out.2.1.2.2) HJ.out.2.1.2.1 (HA.out.1.below (Nat.le_refl _) (HJ.out.2.2.2.trans (q1.mono HJ.out.2.2.2.size))) HA.out.2.2).mono ?_
      rintro e w2 ⟨B2, m2, d2, r, rfl, hap, hb2⟩
      obtain ⟨hr, us2, ho2⟩ := hap HJ.out.2.1.1
      have hbw : Below w.heap.size w w2 := HJ.out.2.2.2.trans ((q1.trans (hb2.mono (by rw [q3]; omega))).mono HJ.out.2.2.2.size)
      have hdk : acs.drop k = ac :: acs.drop (k + 1) := by
        obtain ⟨h1, h2⟩ := List.getElem?_eq_some_iff.1 HA.out.2.1
        rw [List.drop_eq_getElem_cons h1, h2]
      by_cases hr0 : r = 0
      · have HK : Hid (AllI w xs acs ver (k + 1) B2 m2 d2 (M.applyS ys ac ver).2 w2) := by
          refine ⟨⟨us2, ho2.mono (by rw [q3]; have := HJ.out.2.2.2.size; omega)⟩, good_apply HJ.out.2.1 ac ver, ?_, hbw⟩
          rw [HJ.out.2.2.1, hdk, all_step (by rw [← hr]; exact hr0)]
          show (_, _) = (_, _)
          congr 1
          omega
        subst hr0
        clear q1 q2 q3 hus hmy hr ho2 hbw hdk hb2 hap
        go_wp2
        go_roundw
        case rel => exact ⟨k + 1, _, _, _, _, rfl, by go_num, by omega, HK.out⟩
        case measure => simp [intOf]; omega
      · have HK : Hid (AllPost w (M.allS xs acs ver) (.returned (.tuple #[.slice none 0 0, .int .i64 (k : Int), .int .i64 r])) w2) := by
          have e : M.allS xs acs ver = (k, r, []) := by
            rw [HJ.out.2.2.1, hdk, all_stop (by rw [← hr]; exact hr0), ← hr]
            rfl
          rw [e]
          exact ⟨none, 0, 0, [], rfl, ownT_nil _ _, hbw⟩
        have r0 : (r == 0) = false := by simp [hr0]
        have r1 : (r != 0) = true := by simp [hr0]
        clear q1 q2 q3 hus hmy hr ho2 hbw hdk hb2 hap hr0
        go_wp2
        exact bodyPost_ret (v := .tuple #[.slice none 0 0, .int .i64 (k : Int), .int .i64 r]) (by simp [results, Try.results37, go_sem]) rfl HK.out
    · have HK : Hid (AllPost w (M.allS xs acs ver) (.returned (.tuple #[.slice B m d, .int .i64 (p : Int), .int .i64 0])) wr) := by
        have e : acs.drop k = [] := List.drop_of_length_le (by rw [← HT.out.2.2.1.2.1, ← HT.out.2.2.1.1.1]; omega)
        have e2 : M.allS xs acs ver = (p, 0, ys) := by
          rw [HJ.out.2.2.1, e]
          show (k + 0, _) = _
          rw [show k + 0 = p by omega]
          rfl
        rw [e2]
        obtain ⟨us, hus⟩ := HJ.out.1
        exact ⟨B, m, d, us, rfl, hus, HJ.out.2.2.2⟩
      go_wp2
      exact bodyPost_ret (v := .tuple #[.slice B m d, .int .i64 (p : Int), .int .i64 0]) (by simp [results, Try.results37, go_sem]) rfl HK.out
end Go.Proofs.Ytlegjdlmcphhlaa
/-
  ACTS AS THEY ARE READ.
-/
namespace Go.Proofs.Ytlegjdlmcphhlaa
open Go.ChangeShapes Go.WideShapes Go.ChangeAt Go.RowKit Go.Deep

theorem cellsA : Try.prog.cellsOf 59 = 7 := by kernel_rfl

section
variable {H : Type} {enc : TypeId × Value → H}
set_option maxRecDepth 8000 in
/-- an act that came in -/
theorem open_act {W : World} {sp : Nat → Bool} {held : Bool} {fuel : Nat} {cs : List Value} {x : DataW H × List MemPlace} (h : DataW.trod enc Try.prog W 0 sp held fuel 59 cs = some x) :
    ∃ (v : AV) (y : M.Act), cs = v.cells ∧ ContA W v y ∧ y.name.size ≤ maxLen ∧ y.toName.size ≤ maxLen ∧ (Sized 59 x.1 → y.data.length ≤ reachBytes) := by
  obtain ⟨ys, m, _, rfl, hl, hys, hf⟩ := DataW.trod_struct Try.underlying59 h
  rw [cellsA] at hl
  obtain ⟨c0, c1, c2, c3, c4, c5, c6, rfl⟩ : ∃ a b c d e f g, cs = [a, b, c, d, e, f, g] := by
    match cs, hl with
    | [a, b, c, d, e, f, g], _ => exact ⟨a, b, c, d, e, f, g, rfl⟩
  have f0 : DataW.trod enc Try.prog W 0 sp held m 3 (([c0, c1, c2, c3, c4, c5, c6].drop 0).take (Try.prog.cellsOf 3)) = ys[0]? := hf 0 _ rfl
  rw [cells3] at f0
  change DataW.trod enc Try.prog W 0 sp held m 3 [c0] = ys[0]? at f0
  have f1 : DataW.trod enc Try.prog W 0 sp held m 3 (([c0, c1, c2, c3, c4, c5, c6].drop 1).take (Try.prog.cellsOf 3)) = ys[1]? := hf 1 _ rfl
  rw [cells3] at f1
  change DataW.trod enc Try.prog W 0 sp held m 3 [c1] = ys[1]? at f1
  have f2 : DataW.trod enc Try.prog W 0 sp held m 3 (([c0, c1, c2, c3, c4, c5, c6].drop 2).take (Try.prog.cellsOf 3)) = ys[2]? := hf 2 _ rfl
  rw [cells3] at f2
  change DataW.trod enc Try.prog W 0 sp held m 3 [c2] = ys[2]? at f2
  have f3 : DataW.trod enc Try.prog W 0 sp held m 9 (([c0, c1, c2, c3, c4, c5, c6].drop 3).take (Try.prog.cellsOf 9)) = ys[3]? := hf 3 _ rfl
  rw [cells9] at f3
  change DataW.trod enc Try.prog W 0 sp held m 9 [c3] = ys[3]? at f3
  have f4 : DataW.trod enc Try.prog W 0 sp held m 3 (([c0, c1, c2, c3, c4, c5, c6].drop 4).take (Try.prog.cellsOf 3)) = ys[4]? := hf 4 _ rfl
  rw [cells3] at f4
  change DataW.trod enc Try.prog W 0 sp held m 3 [c4] = ys[4]? at f4
  have f5 : DataW.trod enc Try.prog W 0 sp held m 9 (([c0, c1, c2, c3, c4, c5, c6].drop 5).take (Try.prog.cellsOf 9)) = ys[5]? := hf 5 _ rfl
  rw [cells9] at f5
  change DataW.trod enc Try.prog W 0 sp held m 9 [c5] = ys[5]? at f5
  have f6 : DataW.trod enc Try.prog W 0 sp held m 23 (([c0, c1, c2, c3, c4, c5, c6].drop 6).take (Try.prog.cellsOf 23)) = ys[6]? := hf 6 _ rfl
  rw [cells23] at f6
  change DataW.trod enc Try.prog W 0 sp held m 23 [c6] = ys[6]? at f6
  have hlen : ys.length = 7 := hys
  have g : ∀ k, k < 7 → ∃ y, ys[k]? = some y := fun k hk => ⟨_, List.getElem?_eq_getElem (by omega)⟩
  obtain ⟨y0, g0⟩ := g 0 (by omega)
  obtain ⟨y1, g1⟩ := g 1 (by omega)
  obtain ⟨y2, g2⟩ := g 2 (by omega)
  obtain ⟨y3, g3⟩ := g 3 (by omega)
  obtain ⟨y4, g4⟩ := g 4 (by omega)
  obtain ⟨y5, g5⟩ := g 5 (by omega)
  obtain ⟨y6, g6⟩ := g 6 (by omega)
  rw [g0] at f0
  rw [g1] at f1
  rw [g2] at f2
  rw [g3] at f3
  rw [g4] at f4
  rw [g5] at f5
  rw [g6] at f6
  obtain ⟨z0, e0, _, _⟩ := DataW.trod_int Try.underlying3 f0
  obtain ⟨z1, e1, _, _⟩ := DataW.trod_int Try.underlying3 f1
  obtain ⟨z2, e2, _, _⟩ := DataW.trod_int Try.underlying3 f2
  obtain ⟨s3, e3, _, w3⟩ := DataW.trod_string Try.underlying9 f3
  obtain ⟨z4, e4, _, _⟩ := DataW.trod_int Try.underlying3 f4
  obtain ⟨s5, e5, _, w5⟩ := DataW.trod_string Try.underlying9 f5
  obtain ⟨A6, n6, k6, l6, e6, hb6, hd6⟩ := open_bytes f6
  cases e0; cases e1; cases e2; cases e3; cases e4; cases e5; cases e6
  refine ⟨⟨z0, z1, z2, s3, z4, s5, A6, n6, k6⟩, ⟨z0, z1, z2, s3, z4, s5, l6⟩, rfl, ⟨rfl, rfl, rfl, rfl, rfl, rfl, hb6⟩, w3, w5, fun hsz => ?_⟩
  have s6 : Sized 23 y6.1 := sized_field (H := H) (j := 6) Try.underlying59 hsz rfl (by rw [List.getElem?_map, g6]; rfl)
  show l6.length ≤ _
  rw [← hb6.1]
  rcases hd6 with ⟨_, h0⟩ | ⟨es, spare, he, hn⟩
  · rw [h0]; exact Nat.zero_le _
  · rw [he] at s6
    have := sized_len Try.underlying23 s6
    rw [bytes5] at this
    omega
theorem act_val {v : Value} {x : AV} (h : v.cells.toList = x.cells) : v = x.val := by
  cases v <;> simp [Value.cells, AV.cells] at h
  rename_i xs
  rw [AV.val]
  congr 1
  apply Array.ext'
  exact h
theorem smallA_of {y : M.Act} (h1 : y.name.size ≤ maxLen) (h2 : y.toName.size ≤ maxLen) (h3 : y.data.length ≤ reachBytes) : SmallA y := ⟨h1, h2, by rw [reach_val] at h3; omega⟩
end
end Go.Proofs.Ytlegjdlmcphhlaa
/-
  LISTS AS THEY ARE READ, whatever they hold; acts.
-/
namespace Go.Proofs.Ytlegjdlmcphhlaa
open Go.ChangeShapes Go.WideShapes Go.ChangeAt Go.RowKit Go.Deep

theorem bytesA : Try.prog.bytesOf 59 = 88 := by kernel_rfl
section
variable {H : Type} {enc : TypeId × Value → H}
/-- a list that came in, of whatever can be read -/
theorem open_rows {α β : Type} [Inhabited α] [Inhabited β] {W : World} {sp : Nat → Bool} {held : Bool} {t e : TypeId} {k : Nat} (cs : α → List Value) (hlen : ∀ v, (cs v).length = k) (k0 : 0 < k) (hu : Try.prog.underlying t = some (.slice e)) (hce : Try.prog.cellsOf e = k) (C : α → β → Prop) (S : DataW H → β → Prop)
    (open1 : ∀ {fuel : Nat} {l : List Value} {x : DataW H × List MemPlace}, DataW.trod enc Try.prog W 0 sp held fuel e l = some x → ∃ (v : α) (y : β), l = cs v ∧ C v y ∧ S x.1 y)
    {fuel : Nat} {l : List Value} {x : DataW H × List MemPlace} (h : DataW.trod enc Try.prog W 0 sp held fuel t l = some x) :
    ∃ (A : Option Addr) (n c : Nat) (vs : List α) (xs : List β), l = [.slice A n c] ∧ n ≤ c ∧ c ≤ maxLen ∧ Row k cs W A n vs ∧ All2 C vs xs ∧ ((x.1 = .nil ∧ n = 0) ∨ ∃ es spare, x.1 = .slice es spare ∧ es.length = n ∧ ∀ (j : Nat) (y : β), xs[j]? = some y → ∃ d, es[j]? = some d ∧ S d y) := by
  rcases open_slice hu h with ⟨rfl, rfl⟩ | ⟨a, len, cap, m, n, D, Pl, rfl, hb, hl, hm, hmm, rfl, hx⟩
  · exact ⟨none, 0, 0, [], [], rfl, Nat.le_refl _, Nat.zero_le _, ⟨rfl, .inl rfl⟩, All2.nil, .inl ⟨rfl, rfl⟩⟩
  · have hlm : len ≤ m := by rw [hmm]; split <;> omega
    rw [hce] at hx
    have each : ∀ i, i < len → ∃ q : α × β, (∀ (j : Nat) c, (cs q.1)[j]? = some c → W.cell? (a.add (i * k + j)) = some c) ∧ C q.1 q.2 ∧ S (D i) q.2 := fun i hi => by
      obtain ⟨cs', h1, h2⟩ := hx i (by omega)
      obtain ⟨v, y, rfl, hc, hs⟩ := open1 h2
      obtain ⟨_, _, hcell⟩ := World.cells?_some h1
      refine ⟨(v, y), fun j c hc' => ?_, hc, hs⟩
      have hj : j < k := by
        rcases Nat.lt_or_ge j k with h3 | h3
        · exact h3
        · rw [List.getElem?_eq_none (by rw [hlen]; exact h3)] at hc'; cases hc'
      have := hcell j hj
      rw [show (a.add (i * k)).add j = a.add (i * k + j) from Addr.add_add a _ _] at this
      rw [this]
      exact hc'
    obtain ⟨U, hU⟩ := choose_lt each
    have hget : ∀ {γ : Type} (f : Nat → γ) (j : Nat) (v : γ), ((List.range len).map f)[j]? = some v → j < len ∧ f j = v := fun f j v hv => by
      have hj : j < len := by
        rcases Nat.lt_or_ge j len with h1 | h1
        · exact h1
        · rw [List.getElem?_eq_none (by simpa using h1)] at hv; cases hv
      rw [List.getElem?_map, List.getElem?_range hj] at hv
      exact ⟨hj, Option.some.inj hv⟩
    refine ⟨some a, len, cap, (List.range len).map fun i => (U i).1, (List.range len).map fun i => (U i).2, rfl, hl, hm, ?_, ⟨by simp, fun j v y hv hy => ?_⟩, .inr ⟨_, _, rfl, by simp, fun j y hy => ?_⟩⟩
    · have := row_mk (k := k) (cs := cs) k0 hlen (w := W) (vs := (List.range len).map fun i => (U i).1) (a := a) (fun j v hv i c hc => by
        obtain ⟨hj, rfl⟩ := hget _ j v hv
        exact (hU j hj).1 i c hc)
      rw [List.length_map, List.length_range] at this
      exact this
    · obtain ⟨hj, rfl⟩ := hget _ j v hv
      obtain ⟨_, rfl⟩ := hget _ j y hy
      exact (hU j hj).2.1
    · obtain ⟨hj, rfl⟩ := hget _ j y hy
      exact ⟨D j, by rw [List.getElem?_map, List.getElem?_range hj]; rfl, (hU j hj).2.2⟩

instance : Inhabited AV := ⟨⟨0, 0, 0, ⟨#[]⟩, 0, ⟨#[]⟩, none, 0, 0⟩⟩
instance : Inhabited M.Act := ⟨⟨0, 0, 0, ⟨#[]⟩, 0, ⟨#[]⟩, []⟩⟩
/-- acts that came in -/
theorem open_acts {W : World} {sp : Nat → Bool} {held : Bool} {fuel : Nat} {l : List Value} {x : DataW H × List MemPlace} (h : DataW.trod enc Try.prog W 0 sp held fuel 57 l = some x) :
    ∃ (A : Option Addr) (n c : Nat) (vs : List AV) (xs : List M.Act), l = [.slice A n c] ∧ n ≤ c ∧ c ≤ maxLen ∧ TreeA W A n vs xs ∧ (Sized 57 x.1 → n * 88 ≤ reachBytes ∧ ∀ y ∈ xs, SmallA y) ∧ n ≤ Rows.uptoBulk x.1 := by
  obtain ⟨A, n, c, vs, xs, rfl, h1, h2, h3, h4, h5⟩ := open_rows AV.cells act_len (by decide) Try.underlying57 cellsA (ContA W) (fun d y => y.name.size ≤ maxLen ∧ y.toName.size ≤ maxLen ∧ (Sized (H := H) 59 d → y.data.length ≤ reachBytes)) (fun h => by obtain ⟨v, y, e, hc, a1, a2, a3⟩ := open_act h; exact ⟨v, y, e, hc, a1, a2, a3⟩) h
  have hnx : n = xs.length := by rw [h3.1, h4.1]
  refine ⟨A, n, c, vs, xs, rfl, h1, h2, ⟨h3, h4⟩, fun hs => ?_, ?_⟩
  · rcases h5 with ⟨_, h0⟩ | ⟨es, spare, he, hl, hS⟩
    · refine ⟨by rw [h0]; simp, fun y hy => ?_⟩
      rw [h0] at hnx
      rw [List.eq_nil_of_length_eq_zero hnx.symm] at hy
      cases hy
    · rw [he] at hs
      refine ⟨?_, fun y hy => ?_⟩
      · have := sized_len Try.underlying57 hs
        rw [bytesA] at this
        omega
      · obtain ⟨j, hj⟩ := List.getElem?_of_mem hy
        obtain ⟨d, hd, s1, s2, s3⟩ := hS j y hj
        exact smallA_of s1 s2 (s3 (sized_elem Try.underlying57 hs (List.mem_of_getElem? hd)))
  · rcases h5 with ⟨_, h0⟩ | ⟨es, spare, he, hl, hS⟩
    · omega
    · rw [he]
      have h6 := bulk_slice es spare
      have h7 := bulk_len es
      omega
end
end Go.Proofs.Ytlegjdlmcphhlaa
/-
  A REGION THAT DRAWS THE ORDER OF MANY OPERATIONS: of each operation it is said what its value is, in words that last while memory below is as it was;
  each operation is looked at once, whatever came up before it.
-/
namespace Go.Proofs.Ytlegjdlmcphhlaa
open Go.RowKit

/-- the slot of operation j -/
def slotAt (ops : Array Oper) (j : Nat) : Nat := ((ops[j]?).bind (·.dst)).getD 0
/-- each operation has a slot of its own in the frame, and waits for earlier ones alone -/
def tidy (ops : Array Oper) (size : Nat) : Bool :=
  (List.range ops.size).all fun i => match ops[i]? with
    | some o => (o.after.all fun e => decide (e.on < i)) && (match o.dst with
        | some d => decide (d < size) && ((List.range i).all fun j => ((ops[j]?).bind (·.dst)) != some d)
        | none => false)
    | none => true
/-- operation i waits for operation j -/
def waits (o : Oper) (j : Nat) : Bool := o.after.any fun e => Region.binds .any e && e.on == j
/-- slot t is no operation's -/
def apart (ops : Array Oper) (t : Nat) : Bool := ops.all fun o => o.dst != some t

theorem tidy_at {ops : Array Oper} {size i : Nat} {o : Oper} (h : tidy ops size = true) (hi : ops[i]? = some o) :
    (∀ e ∈ o.after, e.on < i) ∧ ∃ d, o.dst = some d ∧ d < size ∧ slotAt ops i = d ∧ ∀ j, j < i → ((ops[j]?).bind (·.dst)) ≠ some d := by
  unfold tidy at h
  rw [List.all_eq_true] at h
  have hlt : i < ops.size := (Array.getElem?_eq_some_iff.1 hi).1
  have h1 := h i (List.mem_range.2 hlt)
  rw [hi] at h1
  simp only [Bool.and_eq_true] at h1
  obtain ⟨h2, h3⟩ := h1
  refine ⟨fun e he => ?_, ?_⟩
  · have := Array.all_eq_true_iff_forall_mem.1 h2 e he
    simpa using this
  · cases hd : o.dst with
    | none => rw [hd] at h3; cases h3
    | some d =>
      rw [hd] at h3
      simp only [Bool.and_eq_true, decide_eq_true_eq, List.all_eq_true, List.mem_range] at h3
      refine ⟨d, rfl, h3.1, by simp [slotAt, hi, hd], fun j hj => ?_⟩
      have := h3.2 j hj
      simpa using this

theorem tidy_ne {ops : Array Oper} {size i j : Nat} {o u : Oper} (h : tidy ops size = true) (hi : ops[i]? = some o) (hj : ops[j]? = some u) (hne : i ≠ j) : slotAt ops i ≠ slotAt ops j := by
  obtain ⟨_, d, hd, _, hs, hall⟩ := tidy_at h hi
  obtain ⟨_, e, he, _, ht, hall'⟩ := tidy_at h hj
  rw [hs, ht]
  intro hde
  subst hde
  rcases Nat.lt_or_gt_of_ne hne with hl | hl
  · exact hall' i hl (by rw [hi]; exact hd)
  · exact hall j hl (by rw [hj]; exact he)

/-- what lasts while memory below is as it was -/
def Stays (p : Value → World → Prop) : Prop := ∀ v w w', Below w.heap.size w w' → p v w → p v w'

/-- the frame behind some operations of the region -/
structure Framed (ops : Array Oper) (a0 a : Act) : Prop where
  size : a.tmps.size = a0.tmps.size
  defers : a.defers = a0.defers
  keeps : ∀ t, apart ops t = true → a.eval (.tmp t) = a0.eval (.tmp t)

/-- slot t holds, when operation i comes up, what it held when the region began: whoever writes it waits for i -/
def freeFor (ops : Array Oper) (i t : Nat) : Bool := (List.range ops.size).all fun j => match ops[j]? with
  | some o => j == i || o.dst != some t || waits o i
  | none => true
structure FramedAt (ops : Array Oper) (i : Nat) (a0 a : Act) : Prop where
  size : a.tmps.size = a0.tmps.size
  defers : a.defers = a0.defers
  keeps : ∀ t, freeFor ops i t = true → a.eval (.tmp t) = a0.eval (.tmp t)
/-- the frame behind the operations that are listed; what is listed waits for nothing more -/
structure FramedBy (ops : Array Oper) (listed : Array Bool) (a0 a : Act) : Prop where
  size : a.tmps.size = a0.tmps.size
  defers : a.defers = a0.defers
  keeps : ∀ t, (∀ j o, ops[j]? = some o → listed.getD j true = true → o.dst ≠ some t) → a.eval (.tmp t) = a0.eval (.tmp t)
  closed : ∀ j o, ops[j]? = some o → listed.getD j true = true → ∀ i, waits o i = true → listed.getD i true = true
theorem FramedBy.at_ {ops : Array Oper} {listed : Array Bool} {a0 a : Act} (h : FramedBy ops listed a0 a) {i : Nat} (hi : listed.getD i true = false) : FramedAt ops i a0 a := by
  refine ⟨h.size, h.defers, fun t ht => h.keeps t fun j o hj hl hd => ?_⟩
  unfold freeFor at ht
  rw [List.all_eq_true] at ht
  have h1 := ht j (List.mem_range.2 (Array.getElem?_eq_some_iff.1 hj).1)
  simp only [hj, hd, bne_self_eq_false, Bool.or_false, Bool.or_eq_true, beq_iff_eq] at h1
  rcases h1 with h1 | h1
  · subst h1; rw [hl] at hi; cases hi
  · have := h.closed j o hj hl i h1; rw [this] at hi; cases hi
theorem FramedBy.all {ops : Array Oper} {listed : Array Bool} {a0 a : Act} (h : FramedBy ops listed a0 a) : Framed ops a0 a := by
  refine ⟨h.size, h.defers, fun t ht => h.keeps t fun j o hj _ hd => ?_⟩
  have := Array.all_eq_true_iff_forall_mem.1 ht o (Array.mem_of_getElem? hj)
  simp [hd] at this
theorem FramedBy.put {ops : Array Oper} {listed : Array Bool} {a0 a : Act} (h : FramedBy ops listed a0 a) {i : Nat} {o : Oper} (hi : ops[i]? = some o) (hsz : listed.size = ops.size)
    (hw : ∀ j, waits o j = true → listed.getD j true = true) (v : Value) : FramedBy ops (listed.setIfInBounds i true) a0 (a.put o.dst v) := by
  have hil : i < listed.size := by rw [hsz]; exact (Array.getElem?_eq_some_iff.1 hi).1
  have hself : (listed.setIfInBounds i true).getD i true = true := by simp [hil]
  have hup : ∀ j, listed.getD j true = true → (listed.setIfInBounds i true).getD j true = true := by
    intro j hj
    by_cases hji : j = i
    · rw [hji]; exact hself
    · rw [getD_set_ne true (Ne.symm hji)]; exact hj
  refine ⟨?_, ?_, fun t ht => ?_, fun j u hj hl q hq => ?_⟩
  · cases hd : o.dst <;> simp [Act.put, h.size]
  · cases hd : o.dst <;> simp [Act.put, h.defers]
  · rw [Act.eval_put, h.keeps t fun j u hj hl => ht j u hj (hup j hl)]
    intro d hd e
    injection e with e
    exact ht i o hi hself (by rw [hd, e])
  · by_cases hji : j = i
    · subst hji
      rw [hi] at hj
      injection hj with hj
      subst hj
      exact hup q (hw q hq)
    · rw [getD_set_ne true (Ne.symm hji)] at hl
      exact hup q (h.closed j u hj hl q hq)

/-- What is asked of operation i: whatever came up before it, its value is as it is said. -/
def StepAt (P : Program) (ops : Array Oper) (Q : Exit → Act → World → Prop) (a0 : Act) (w0 : World) (V : Nat → Value → World → Prop) (i : Nat) : Prop :=
  ∀ o, ops[i]? = some o → ∀ a w, FramedAt ops i a0 a → Below w0.heap.size w0 w → (∀ j, waits o j = true → V j (a.eval (.tmp (slotAt ops j))) w) →
    ∀ K : Act → World → Prop, Hid (∀ v w', Below w.heap.size w w' → V i v w' → K (a.put o.dst v) w') →
      if Region.wanted o (yielded ops a.tmps) = true then Oper.wp P o a w K Q else K (a.put o.dst undef) w

def unlisted (listed : Array Bool) : Nat := (listed.toList.filter (fun b => !b)).length

theorem unlisted_set {listed : Array Bool} {i : Nat} (h : listed.getD i true = false) : unlisted (listed.setIfInBounds i true) + 1 = unlisted listed := by
  obtain ⟨l⟩ := listed
  simp only [unlisted, Array.getD_eq_getD_getElem?, List.getElem?_toArray, List.setIfInBounds_toArray] at h ⊢
  induction l generalizing i with
  | nil => simp at h
  | cons b l ih =>
    cases i with
    | zero => simp at h; subst h; simp
    | succ i =>
      simp only [List.getElem?_cons_succ] at h
      have := ih (i := i) (by simpa using h)
      cases b <;> simp [List.set_cons_succ] at this ⊢ <;> omega

theorem wpAny_vals {P : Program} {ops : Array Oper} {Q : Exit → Act → World → Prop} {a0 : Act} {w0 : World} {V : Nat → Value → World → Prop} (ht : tidy ops a0.tmps.size = true) (hst : ∀ i, Stays (V i))
    (steps : ∀ i, i < ops.size → StepAt P ops Q a0 w0 V i)
    (last : ∀ a w, Framed ops a0 a → Below w0.heap.size w0 w → (∀ j, j < ops.size → V j (a.eval (.tmp (slotAt ops j))) w) → Q .normal a w) :
    ∀ (fuel : Nat) (listed : Array Bool) (a : Act) (w : World), listed.size = ops.size → unlisted listed ≤ fuel → FramedBy ops listed a0 a → Below w0.heap.size w0 w →
      (∀ j, j < ops.size → listed.getD j true = true → V j (a.eval (.tmp (slotAt ops j))) w) → wpAny P .any ops Q fuel listed a w := by
  have hdone : ∀ (listed : Array Bool), listed.size = ops.size → Region.ready .any ops listed = [] → ∀ j, j < ops.size → listed.getD j true = true := by
    intro listed hsz hr j
    induction j using Nat.strongRecOn with
    | ind j ih =>
      intro hj
      cases hb : listed.getD j true with
      | true => rfl
      | false =>
        have ho : ops[j]? = some ops[j] := Array.getElem?_eq_getElem hj
        have hm : j ∈ Region.ready .any ops listed := by
          rw [mem_ready]
          refine ⟨hb, _, ho, fun e he _ => ?_⟩
          have hlt := (tidy_at ht ho).1 e he
          have h1 := ih e.on hlt (by omega)
          have h2 : e.on < listed.size := by omega
          simp only [Array.getD_eq_getD_getElem?, Array.getElem?_eq_getElem h2, Option.getD_some] at h1 ⊢
          exact h1
        rw [hr] at hm
        cases hm
  intro fuel
  induction fuel with
  | zero =>
    intro listed a w hsz hu hf hb hV
    have hall : ∀ j, listed.getD j true = true := by
      intro j
      have h0 : listed.toList.filter (fun b => !b) = [] := List.eq_nil_of_length_eq_zero (by simpa [unlisted] using hu)
      rw [List.filter_eq_nil_iff] at h0
      rcases Nat.lt_or_ge j listed.size with h | h
      · have := h0 listed[j] (by simp)
        simp [h] at this ⊢
        exact this
      · simp [h]
    refine ⟨?_, last a w hf.all hb fun j hj => hV j hj (hall j)⟩
    unfold Region.ready
    rw [List.filter_eq_nil_iff]
    intro j _
    rw [hall j]
    simp
  | succ fuel ih =>
    intro listed a w hsz hu hf hb hV
    refine ⟨fun hr => last a w hf.all hb fun j hj => hV j hj (hdone listed hsz hr j hj), fun i hi => ?_⟩
    obtain ⟨hun, o, ho, hall⟩ := mem_ready.1 hi
    have hilt : i < ops.size := (Array.getElem?_eq_some_iff.1 ho).1
    obtain ⟨hback, d, hd, hdlt, hslot, _⟩ := tidy_at ht ho
    refine wpOp_step ho fun K' hK => ?_
    have hlw : ∀ j, waits o j = true → listed.getD j true = true := by
      intro j hj
      obtain ⟨e, he, hbe⟩ := Array.any_eq_true'.1 hj
      simp only [Bool.and_eq_true, beq_iff_eq] at hbe
      have h1 := hall e he hbe.1
      have h2 := hback e he
      rw [← hbe.2]
      have h3 : e.on < listed.size := by omega
      simp only [Array.getD_eq_getD_getElem?, Array.getElem?_eq_getElem h3, Option.getD_some] at h1 ⊢
      exact h1
    refine steps i hilt o ho a w (hf.at_ hun) hb ?_ K' ?_
    · intro j hj
      obtain ⟨e, he, hbe⟩ := Array.any_eq_true'.1 hj
      simp only [Bool.and_eq_true, beq_iff_eq] at hbe
      have h1 := hall e he hbe.1
      have h2 := hback e he
      rw [← hbe.2]
      refine hV e.on (by omega) ?_
      have h3 : e.on < listed.size := by omega
      simp only [Array.getD_eq_getD_getElem?, Array.getElem?_eq_getElem h3, Option.getD_some] at h1 ⊢
      exact h1
    · intro v w' hw hv
      refine hK _ _ (ih _ _ _ (by simp [hsz]) (by have := unlisted_set hun; omega) (hf.put ho hsz hlw v) (hb.trans (hw.mono hb.size)) fun j hj hl => ?_)
      by_cases hji : j = i
      · subst hji
        have : (a.put o.dst v).eval (.tmp (slotAt ops j)) = v := by
          rw [hslot, hd]
          have hlt : d < a.tmps.size := by rw [hf.size]; exact hdlt
          simp [Act.eval, Act.put, hlt]
        rw [this]
        exact hv
      · have hoj : ops[j]? = some ops[j] := Array.getElem?_eq_getElem hj
        have hne := tidy_ne ht hoj ho hji
        rw [Act.eval_put (by intro d' hd' e; injection e with e; rw [hd] at hd'; injection hd' with hd'; rw [hslot] at hne; exact hne (e.trans hd'.symm))]
        rw [getD_set_ne true (Ne.symm hji)] at hl
        exact hst j _ _ _ hw (hV j hj hl)

/-- THE RULE. -/
theorem wp_region_vals {P : Program} {ops : Array Oper} {Q : Exit → Act → World → Prop} {a0 : Act} {w0 : World} (V : Nat → Value → World → Prop) {id : Nat} (hm : P.follows .mixedOrders = true)
    (ht : tidy ops a0.tmps.size = true) (hst : ∀ i, Stays (V i)) (steps : ∀ i, i < ops.size → StepAt P ops Q a0 w0.drew V i)
    (last : ∀ a w, Framed ops a0 a → Below w0.heap.size w0 w → (∀ j, j < ops.size → V j (a.eval (.tmp (slotAt ops j))) w) → Q .normal a w) :
    (Code.region id ops true).wp P Q a0 w0 := by
  refine wp_region_any hm ?_
  refine wpAny_vals (w0 := w0.drew) ht hst steps (fun a w hf hb hv => last a w hf ((Below.refl _ _).drew.trans hb) hv) _ _ _ _ (by simp) ?_ ?_ (Below.refl _ _) ?_
  · simp [unlisted]
  · refine ⟨rfl, rfl, fun _ _ => rfl, fun j o hj hl => ?_⟩
    have hlt := (Array.getElem?_eq_some_iff.1 hj).1
    simp [hlt] at hl
  · intro j hj hl
    simp [hj] at hl
end Go.Proofs.Ytlegjdlmcphhlaa
/-
  PIECES: what is found behind Put and Drop; what stays small.
-/
namespace Go.Proofs.Ytlegjdlmcphhlaa
open Go.RowKit

theorem small_any {x : M.Nd} (h1 : x.data.length ≤ 100) (h2 : x.ents.length ≤ 100) : Small x := ⟨by omega, by omega⟩
theorem findN_put (xs : List M.Nd) (x : M.Nd) : M.find (M.putN xs x) x.fid = some x := M.put_find (fun y : M.Nd => y.fid) xs M.ordI x
theorem findN_other (xs : List M.Nd) (x : M.Nd) (t : Int) (h : t ≠ x.fid) : M.find (M.putN xs x) t = M.find xs t := M.put_find_other (fun y : M.Nd => y.fid) xs M.ordI x t h
theorem findN_drop (xs : List M.Nd) (t : Int) : M.find (M.dropN xs t) t = none := M.find_filter_none (fun y : M.Nd => y.fid) xs _ t (fun y _ e => by simp [e])
theorem rs_put {xs : List M.Nd} (x : M.Nd) (h : M.RsN xs) : M.RsN (M.putN xs x) := M.put_rs (fun y : M.Nd => y.fid) xs M.ordI x h
theorem rs_drop {xs : List M.Nd} (t : Int) (h : M.RsN xs) : M.RsN (M.dropN xs t) := M.rs_sub h (List.filter_sublist.map _)
theorem small_put {xs : List M.Nd} {x : M.Nd} (h : ∀ y ∈ xs, Small y) (hx : Small x) : ∀ y ∈ M.putN xs x, Small y := by
  intro y hy
  unfold M.putN M.put at hy
  rcases List.mem_append.1 hy with h1 | h1
  · exact h y (List.mem_filter.1 h1).1
  · rcases List.mem_cons.1 h1 with h2 | h2
    · rw [h2]; exact hx
    · exact h y (List.mem_filter.1 h2).1
theorem small_drop {xs : List M.Nd} (t : Int) (h : ∀ y ∈ xs, Small y) : ∀ y ∈ M.dropN xs t, Small y := fun y hy => h y (List.mem_filter.1 hy).1
theorem small_get {xs : List M.Nd} (t : Int) (h : ∀ y ∈ xs, Small y) : Small ((M.find xs t).getD nd0) := by
  cases hf : M.find xs t with
  | none => exact small_any (by simp [nd0]) (by simp [nd0])
  | some y => exact h y (List.mem_of_find?_eq_some hf)

theorem below_new {w w' : World} (h : Below w.heap.size w w') (o : Obj) : Below w.heap.size w (w'.alloc o) := h.alloc h.size o

/-- two rising lists of the same members are one -/
theorem rs_ext : ∀ {ls ms : List M.Nd}, M.RsN ls → M.RsN ms → (∀ x, x ∈ ls ↔ x ∈ ms) → ls = ms
  | [], [], _, _, _ => rfl
  | [], b :: ms, _, _, h => by have := (h b).2 (List.mem_cons_self ..); cases this
  | a :: ls, [], _, _, h => by have := (h a).1 (List.mem_cons_self ..); cases this
  | a :: ls, b :: ms, ha, hb, h => by
    have ha1 : ∀ y ∈ ls, a.fid < y.fid := by
      have hp : M.Rs M.ltI ((a :: ls).map (·.fid)) := ha
      unfold M.Rs at hp
      rw [List.map_cons, List.pairwise_cons] at hp
      intro y hy
      have := hp.1 y.fid (List.mem_map.2 ⟨y, hy, rfl⟩)
      simpa [M.ltI] using this
    have hb1 : ∀ y ∈ ms, b.fid < y.fid := by
      have hp : M.Rs M.ltI ((b :: ms).map (·.fid)) := hb
      unfold M.Rs at hp
      rw [List.map_cons, List.pairwise_cons] at hp
      intro y hy
      have := hp.1 y.fid (List.mem_map.2 ⟨y, hy, rfl⟩)
      simpa [M.ltI] using this
    have hab : a = b := by
      rcases List.mem_cons.1 ((h a).1 (List.mem_cons_self ..)) with h1 | h1
      · exact h1
      · rcases List.mem_cons.1 ((h b).2 (List.mem_cons_self ..)) with h2 | h2
        · exact h2.symm
        · have := ha1 b h2; have := hb1 a h1; omega
    subst hab
    have ht : ls = ms := by
      refine rs_ext (M.rs_sub ha ((List.sublist_cons_self a ls).map _)) (M.rs_sub hb ((List.sublist_cons_self a ms).map _)) fun x => ⟨fun hx => ?_, fun hx => ?_⟩
      · rcases List.mem_cons.1 ((h x).1 (List.mem_cons_of_mem _ hx)) with h1 | h1
        · subst h1; have := ha1 x hx; omega
        · exact h1
      · rcases List.mem_cons.1 ((h x).2 (List.mem_cons_of_mem _ hx)) with h1 | h1
        · subst h1; have := hb1 x hx; omega
        · exact h1
    rw [ht]

/-- of a rising list one more is picked -/
theorem filter_put {xs : List M.Nd} {x : M.Nd} (hr : M.RsN xs) (hx : x ∈ xs) (p q : Int → Bool) (hp : p x.fid = false) (hq : ∀ k, q k = (p k || decide (k = x.fid))) :
    xs.filter (fun y => q y.fid) = M.putN (xs.filter (fun y => p y.fid)) x := by
  have hone : ∀ y ∈ xs, y.fid = x.fid → y = x := by
    intro y hy he
    obtain ⟨i, hi⟩ := List.getElem?_of_mem hy
    obtain ⟨j, hj⟩ := List.getElem?_of_mem hx
    have h1 := M.find_self hr hi
    have h2 := M.find_self hr hj
    rw [he, h2] at h1
    exact (Option.some.inj h1).symm
  refine rs_ext (M.rs_sub hr (List.filter_sublist.map _)) (rs_put x (M.rs_sub hr (List.filter_sublist.map _))) fun y => ?_
  unfold M.putN M.put
  simp only [List.mem_append, List.mem_cons, List.mem_filter, M.ltI, decide_eq_true_eq]
  constructor
  · rintro ⟨hy, hqy⟩
    rw [hq, Bool.or_eq_true] at hqy
    by_cases he : y.fid = x.fid
    · exact .inr (.inl (hone y hy he))
    · have hpy : p y.fid = true := by
        rcases hqy with h | h
        · exact h
        · exact absurd (of_decide_eq_true h) he
      rcases Int.lt_or_gt_of_ne he with h | h
      · exact .inl ⟨⟨hy, hpy⟩, h⟩
      · exact .inr (.inr ⟨⟨hy, hpy⟩, h⟩)
  · rintro (⟨⟨hy, hpy⟩, _⟩ | rfl | ⟨⟨hy, hpy⟩, _⟩)
    · exact ⟨hy, by rw [hq, hpy]; rfl⟩
    · exact ⟨hx, by rw [hq]; simp⟩
    · exact ⟨hy, by rw [hq, hpy]; rfl⟩
/-- and its place -/
theorem put_place {ys : List M.Nd} {x : M.Nd} {k : Nat} (hr : M.RsN ys) (hlow : ∀ y ∈ ys.take k, y.fid < x.fid) (hup : ∀ y, ys[k]? = some y → x.fid < y.fid) :
    M.putN ys x = ys.take k ++ [x] ++ ys.drop k := by
  have hp : M.Rs M.ltI (ys.map (·.fid)) := hr
  unfold M.Rs at hp
  rw [List.pairwise_map] at hp
  have hhi : ∀ y ∈ ys.drop k, x.fid < y.fid := by
    intro y hy
    obtain ⟨i, hi⟩ := List.getElem?_of_mem hy
    rw [List.getElem?_drop] at hi
    obtain ⟨hl, he⟩ := List.getElem?_eq_some_iff.1 hi
    by_cases h0 : i = 0
    · subst h0; exact hup y (by simpa using hi)
    · have hk : k < ys.length := by omega
      have h1 := hup ys[k] (List.getElem?_eq_getElem hk)
      have h2 := List.pairwise_iff_getElem.1 hp k (k + i) hk hl (by omega)
      rw [he] at h2
      simp [M.ltI] at h2
      omega
  have hs : ys = ys.take k ++ ys.drop k := (List.take_append_drop k ys).symm
  unfold M.putN M.put
  have e1 : ys.filter (fun y => M.ltI y.fid x.fid) = ys.take k := by
    rw [hs, List.filter_append, List.take_append_drop]
    rw [List.filter_eq_self.2 (fun y hy => by simpa [M.ltI] using hlow y hy), List.filter_eq_nil_iff.2 (fun y hy => by have := hhi y hy; simp [M.ltI]; omega), List.append_nil]
  have e2 : ys.filter (fun y => M.ltI x.fid y.fid) = ys.drop k := by
    rw [hs, List.filter_append, List.take_append_drop]
    rw [List.filter_eq_nil_iff.2 (fun y hy => by have := hlow y hy; simp [M.ltI]; omega), List.filter_eq_self.2 (fun y hy => by simpa [M.ltI] using hhi y hy), List.nil_append]
  rw [e1, e2]
  simp
end Go.Proofs.Ytlegjdlmcphhlaa
/-
  WHAT SINGLE OPERATIONS DO, for regions that draw their order (text Vals).
-/
namespace Go.Proofs.Ytlegjdlmcphhlaa
open Go.RowKit

/-- the operation makes a value and a world of which R is true, by itself or by a call -/
def Does (P : Program) (o : Oper) (a : Act) (w : World) (R : Value → World → Prop) : Prop :=
  (∃ v w', (execOp a.eval o).run P w = .ok (.value v) w' ∧ R v w') ∨
  ∃ f args w', (execOp a.eval o).run P w = .ok (.enter f args) w' ∧ Calls P f args w' fun e w'' => ∃ r, e = .returned r ∧ R r w''

theorem StepAt.by {P : Program} {ops : Array Oper} {Q : Exit → Act → World → Prop} {a0 : Act} {w0 : World} {V : Nat → Value → World → Prop} {i : Nat} {o : Oper} (ho : ops[i]? = some o)
    (h : ∀ a w, FramedAt ops i a0 a → Below w0.heap.size w0 w → (∀ j, waits o j = true → V j (a.eval (.tmp (slotAt ops j))) w) →
      (Region.wanted o (yielded ops a.tmps) = true ∧ Does P o a w (fun v w' => Below w.heap.size w w' ∧ V i v w')) ∨ (Region.wanted o (yielded ops a.tmps) = false ∧ V i undef w)) : StepAt P ops Q a0 w0 V i := by
  intro o' ho' a w hf hb hd K hK
  have e : o = o' := Option.some.inj (ho.symm.trans ho')
  subst e
  rcases h a w hf hb hd with ⟨hw, hr⟩ | ⟨hw, hv⟩
  · rw [if_pos hw]
    unfold Oper.wp
    rcases hr with ⟨v, w', hr, hb', hv⟩ | ⟨f, args, w', hr, hc⟩
    · rw [hr]
      exact hK.out v w' hb' hv
    · rw [hr]
      refine Calls.mono hc ?_
      rintro e w'' ⟨r, rfl, hb', hv⟩
      exact hK.out r w'' hb' hv
  · rw [hw]
    exact hK.out undef w (Below.refl _ _) hv

/-- function f is the program's own -/
def Enters (P : Program) (f : FuncId) : Prop := ∀ args w, (callFunc f args).run P w = .ok (.enter f args) w
theorem Enters.out {P : Program} {f : FuncId} (h : Enters P f) (args : Array Value) (w : World) : (callFunc f args).run P w = .ok (.enter f args) w := h args w
theorem eval_func (a : Act) (f : FuncId) : a.eval (.func f) = .func (.func f) #[] #[] := rfl
theorem eval_const (a : Act) (v : Value) : a.eval (.const v) = v := rfl
theorem enters_of {P : Program} {f : FuncId} {fn : Func} (hf : P.funcs[f]? = some fn) (hn : (fn.name == "runtime.NumGoroutine") = false) (hb : fn.body.isNone = false) : Enters P f := by
  intro args w
  unfold callFunc
  simp only [Sem.run_bind, run_program, Result.andThen_ok, hf, hn, hb, Bool.false_eq_true, if_false]
  rfl
theorem run_call {P : Program} {ρ : Operand → Value} {w : World} {d : Option Tmp} {ty : TypeId} {pos : String} {af : Array Edge} {g : Option (Nat × Bool)} {f : FuncId} {xs : Array Operand} {us : Array Value} {ts : Array TypeId} (hcf : Enters P f) (hfn : ρ (.func f) = .func (.func f) #[] #[]) (hx : xs.map ρ = us) :
    (execOp ρ ⟨d, .call { callee := .value (.func f), args := xs, argTypes := ts }, ty, pos, af, g⟩).run P w = .ok (.enter f us) w := by
  simp [execOp, resolve, invoke, hcf.out, hfn, hx, go_sem]
theorem run_not {P : Program} {ρ : Operand → Value} {w : World} {d : Option Tmp} {ty : TypeId} {pos : String} {af : Array Edge} {g : Option (Nat × Bool)} {x : Operand} {b : Bool} {t : TypeId} (hx : ρ x = .bool b) : (execOp ρ ⟨d, .unOp .not t x, ty, pos, af, g⟩).run P w = .ok (.value (.bool !b)) w := by
  simp [execOp, hx, go_sem]
theorem run_pick {P : Program} {ρ : Operand → Value} {w : World} {d : Option Tmp} {ty : TypeId} {pos : String} {af : Array Edge} {g : Option (Nat × Bool)} {c x y : Operand} {b : Bool} (hc : ρ c = .bool b) : (execOp ρ ⟨d, .pick c x y, ty, pos, af, g⟩).run P w = .ok (.value (if b then ρ x else ρ y)) w := by
  cases b <;> simp [execOp, hc, go_sem]
theorem run_neqB {ρ : Operand → Value} {w : World} {d : Option Tmp} {ty : TypeId} {pos : String} {af : Array Edge} {g : Option (Nat × Bool)} {x y : Operand} {b c : Bool} (hx : ρ x = .bool b) (hy : ρ y = .bool c) : (execOp ρ ⟨d, .binOp .neq 4 x y 4, ty, pos, af, g⟩).run Try.prog w = .ok (.value (.bool (b != c))) w := by
  simp [execOp, hx, hy, go_sem, bne]
theorem run_neqI {ρ : Operand → Value} {w : World} {d : Option Tmp} {ty : TypeId} {pos : String} {af : Array Edge} {g : Option (Nat × Bool)} {x y : Operand} {b c : Int} (hx : ρ x = .int .i64 b) (hy : ρ y = .int .i64 c) : (execOp ρ ⟨d, .binOp .neq 3 x y 3, ty, pos, af, g⟩).run Try.prog w = .ok (.value (.bool (b != c))) w := by
  simp [execOp, hx, hy, go_sem, bne]
theorem run_load26 {ρ : Operand → Value} {w : World} {d : Option Tmp} {ty : TypeId} {pos : String} {af : Array Edge} {g : Option (Nat × Bool)} {x : Operand} {s : Nat} {v : NV} (hx : ρ x = .pointer (some ⟨s, 0, none⟩)) (hb : Box w s v) : (execOp ρ ⟨d, .load 26 x, ty, pos, af, g⟩).run Try.prog w = .ok (.value v.val) w := by
  obtain ⟨p0, p1, p2, p3, p4, pf, pz⟩ := hb.facts
  simp [execOp, hx, go_sem, p0, p1, p2, p3, p4]
section
variable {P : Program} {ops : Array Oper} {a : Act} {w : World} {R : Value → World → Prop} {d : Option Tmp} {ty : TypeId} {pos : String} {af : Array Edge} {g : Option (Nat × Bool)} {op : Op}
theorem want_none : Region.wanted ⟨d, op, ty, pos, af, none⟩ (yielded ops a.tmps) = true := rfl
theorem want_some {k t : Nat} {b want : Bool} (hk : (ops[k]?).bind (·.dst) = some t) (h : a.eval (.tmp t) = .bool b) : Region.wanted ⟨d, op, ty, pos, af, some (k, want)⟩ (yielded ops a.tmps) = (b == want) := by
  have ht : a.tmps[t]? = some (.bool b) := by
    have h : a.tmps.getD t undef = .bool b := h
    rw [Array.getD_eq_getD_getElem?] at h
    cases hx : a.tmps[t]? with
    | none => rw [hx] at h; cases h
    | some v => rw [hx] at h; exact congrArg some h
  unfold Region.wanted yielded
  simp only [hk, Option.bind_some, ht]
  cases b <;> cases want <;> rfl

theorem does_move {x : Operand} {v : Value} (hx : a.eval x = v) (h : R v w) : Does P ⟨d, .move x, ty, pos, af, g⟩ a w R := .inl ⟨_, _, rfl, by rw [hx]; exact h⟩
theorem does_assign {x : Operand} {v : Value} (hx : a.eval x = v) (h : R v w) : Does P ⟨d, .assign x, ty, pos, af, g⟩ a w R := .inl ⟨_, _, rfl, by rw [hx]; exact h⟩
theorem does_call0 {f : FuncId} {ts : Array TypeId} (hcf : Enters P f) (h : Calls P f #[] w fun e w'' => ∃ r, e = .returned r ∧ R r w'') :
    Does P ⟨d, .call { callee := .value (.func f), args := #[], argTypes := ts }, ty, pos, af, g⟩ a w R := .inr ⟨f, #[], w, run_call hcf rfl (by simp), h⟩
theorem does_call1 {f : FuncId} {x : Operand} {u : Value} {ts : Array TypeId} (hcf : Enters P f) (hx : a.eval x = u) (h : Calls P f #[u] w fun e w'' => ∃ r, e = .returned r ∧ R r w'') :
    Does P ⟨d, .call { callee := .value (.func f), args := #[x], argTypes := ts }, ty, pos, af, g⟩ a w R := .inr ⟨f, #[u], w, run_call hcf rfl (by simp [hx]), h⟩
theorem does_call2 {f : FuncId} {x y : Operand} {u v : Value} {ts : Array TypeId} (hcf : Enters P f) (hx : a.eval x = u) (hy : a.eval y = v) (h : Calls P f #[u, v] w fun e w'' => ∃ r, e = .returned r ∧ R r w'') :
    Does P ⟨d, .call { callee := .value (.func f), args := #[x, y], argTypes := ts }, ty, pos, af, g⟩ a w R := .inr ⟨f, #[u, v], w, run_call hcf rfl (by simp [hx, hy]), h⟩
theorem does_call3 {f : FuncId} {x y z : Operand} {u v t : Value} {ts : Array TypeId} (hcf : Enters P f) (hx : a.eval x = u) (hy : a.eval y = v) (hz : a.eval z = t) (h : Calls P f #[u, v, t] w fun e w'' => ∃ r, e = .returned r ∧ R r w'') :
    Does P ⟨d, .call { callee := .value (.func f), args := #[x, y, z], argTypes := ts }, ty, pos, af, g⟩ a w R := .inr ⟨f, #[u, v, t], w, run_call hcf rfl (by simp [hx, hy, hz]), h⟩
theorem does_not {x : Operand} {b : Bool} {t : TypeId} (hx : a.eval x = .bool b) (h : R (.bool !b) w) : Does P ⟨d, .unOp .not t x, ty, pos, af, g⟩ a w R := .inl ⟨_, _, run_not hx, h⟩
theorem does_pick {c x y : Operand} {b : Bool} {v : Value} (hc : a.eval c = .bool b) (hv : (if b then a.eval x else a.eval y) = v) (h : R v w) : Does P ⟨d, .pick c x y, ty, pos, af, g⟩ a w R := .inl ⟨_, _, run_pick hc, by rw [hv]; exact h⟩
end
theorem does_neqB {a : Act} {w : World} {R : Value → World → Prop} {d : Option Tmp} {ty : TypeId} {pos : String} {af : Array Edge} {g : Option (Nat × Bool)} {x y : Operand} {b c : Bool} (hx : a.eval x = .bool b) (hy : a.eval y = .bool c) (h : R (.bool (b != c)) w) : Does Try.prog ⟨d, .binOp .neq 4 x y 4, ty, pos, af, g⟩ a w R := .inl ⟨_, _, run_neqB hx hy, h⟩
theorem does_neqI {a : Act} {w : World} {R : Value → World → Prop} {d : Option Tmp} {ty : TypeId} {pos : String} {af : Array Edge} {g : Option (Nat × Bool)} {x y : Operand} {b c : Int} (hx : a.eval x = .int .i64 b) (hy : a.eval y = .int .i64 c) (h : R (.bool (b != c)) w) : Does Try.prog ⟨d, .binOp .neq 3 x y 3, ty, pos, af, g⟩ a w R := .inl ⟨_, _, run_neqI hx hy, h⟩
theorem does_load26 {a : Act} {w : World} {R : Value → World → Prop} {d : Option Tmp} {ty : TypeId} {pos : String} {af : Array Edge} {g : Option (Nat × Bool)} {x : Operand} {s : Nat} {v : NV} (hx : a.eval x = .pointer (some ⟨s, 0, none⟩)) (hb : Box w s v) (h : R v.val w) : Does Try.prog ⟨d, .load 26 x, ty, pos, af, g⟩ a w R := .inl ⟨_, _, run_load26 hx hb, h⟩
end Go.Proofs.Ytlegjdlmcphhlaa
/-
  WHAT SINGLE OPERATIONS DO, further: fields of an act.
-/
namespace Go.Proofs.Ytlegjdlmcphhlaa
open Go.RowKit

section
variable {a : Act} {w : World} {R : Value → World → Prop} {d : Option Tmp} {ty : TypeId} {pos : String} {af : Array Edge} {g : Option (Nat × Bool)}
theorem run_neqE {ρ : Operand → Value} {x y : Operand} {b c : Int} (hx : ρ x = .int .i64 b) (hy : ρ y = .int .i64 c) : (execOp ρ ⟨d, .binOp .neq 43 x y 43, ty, pos, af, g⟩).run Try.prog w = .ok (.value (.bool (b != c))) w := by
  simp [execOp, hx, hy, go_sem, bne]
theorem run_eqE {ρ : Operand → Value} {x y : Operand} {b c : Int} (hx : ρ x = .int .i64 b) (hy : ρ y = .int .i64 c) : (execOp ρ ⟨d, .binOp .eql 43 x y 43, ty, pos, af, g⟩).run Try.prog w = .ok (.value (.bool (b == c))) w := by
  simp [execOp, hx, hy, go_sem]
theorem run_fieldA {ρ : Operand → Value} {x : Operand} {s k : Nat} (hx : ρ x = .pointer (some ⟨s, 0, none⟩)) (hk : k < 7) : (execOp ρ ⟨d, .fieldAddr 59 x k, ty, pos, af, g⟩).run Try.prog w = .ok (.value (.pointer (some ⟨s, k, none⟩))) w := by
  match k, hk with
  | 0, _ => simp [execOp, hx, go_sem]
  | 1, _ => simp [execOp, hx, go_sem]
  | 2, _ => simp [execOp, hx, go_sem]
  | 3, _ => simp [execOp, hx, go_sem]
  | 4, _ => simp [execOp, hx, go_sem]
  | 5, _ => simp [execOp, hx, go_sem]
  | 6, _ => simp [execOp, hx, go_sem]
theorem run_load3 {ρ : Operand → Value} {x : Operand} {p : Addr} {i : Int} (hx : ρ x = .pointer (some p)) (hc : w.cell? p = some (.int .i64 i)) : (execOp ρ ⟨d, .load 3 x, ty, pos, af, g⟩).run Try.prog w = .ok (.value (.int .i64 i)) w := by
  simp [execOp, hx, go_sem, hc]
theorem run_load9 {ρ : Operand → Value} {x : Operand} {p : Addr} {s : ByteArray} (hx : ρ x = .pointer (some p)) (hc : w.cell? p = some (.string s)) : (execOp ρ ⟨d, .load 9 x, ty, pos, af, g⟩).run Try.prog w = .ok (.value (.string s)) w := by
  simp [execOp, hx, go_sem, hc]
theorem does_neqE {x y : Operand} {b c : Int} (hx : a.eval x = .int .i64 b) (hy : a.eval y = .int .i64 c) (h : R (.bool (b != c)) w) : Does Try.prog ⟨d, .binOp .neq 43 x y 43, ty, pos, af, g⟩ a w R := .inl ⟨_, _, run_neqE hx hy, h⟩
theorem does_fieldA {x : Operand} {s k : Nat} (hx : a.eval x = .pointer (some ⟨s, 0, none⟩)) (hk : k < 7) (h : R (.pointer (some ⟨s, k, none⟩)) w) : Does Try.prog ⟨d, .fieldAddr 59 x k, ty, pos, af, g⟩ a w R := .inl ⟨_, _, run_fieldA hx hk, h⟩
theorem does_load3 {x : Operand} {p : Addr} {i : Int} (hx : a.eval x = .pointer (some p)) (hc : w.cell? p = some (.int .i64 i)) (h : R (.int .i64 i) w) : Does Try.prog ⟨d, .load 3 x, ty, pos, af, g⟩ a w R := .inl ⟨_, _, run_load3 hx hc, h⟩
theorem does_load9 {x : Operand} {p : Addr} {s : ByteArray} (hx : a.eval x = .pointer (some p)) (hc : w.cell? p = some (.string s)) (h : R (.string s) w) : Does Try.prog ⟨d, .load 9 x, ty, pos, af, g⟩ a w R := .inl ⟨_, _, run_load9 hx hc, h⟩
end
end Go.Proofs.Ytlegjdlmcphhlaa
/-
  THE FRAME behind a region that draws its order, written out.
-/
namespace Go.Proofs.Ytlegjdlmcphhlaa
open Go.RowKit

/-- the frame behind a region: slots for which wr is true hold something -/
def overL (wr : Nat → Bool) (a : Act) : Nat → List Value → List Value
  | _, [] => []
  | t, v :: vs => (match wr t with | true => a.eval (.tmp t) | false => v) :: overL wr a (t + 1) vs
theorem overL_len (wr : Nat → Bool) (a : Act) : ∀ (l : List Value) (t : Nat), (overL wr a t l).length = l.length
  | [], _ => rfl
  | _ :: l, t => by simp [overL, overL_len wr a l (t + 1)]
theorem overL_get (wr : Nat → Bool) (a : Act) : ∀ (l : List Value) (t i : Nat) (v : Value), l[i]? = some v → (overL wr a t l)[i]? = some (match wr (t + i) with | true => a.eval (.tmp (t + i)) | false => v)
  | [], _, _, _, h => by cases h
  | x :: l, t, 0, v, h => by
    simp at h
    subst h
    simp [overL]
  | x :: l, t, i + 1, v, h => by
    simp only [List.getElem?_cons_succ] at h
    have := overL_get wr a l (t + 1) i v h
    simp only [overL, List.getElem?_cons_succ]
    rw [this, show t + 1 + i = t + (i + 1) by omega]
theorem Framed.lit {ops : Array Oper} {a0 a : Act} (hf : Framed ops a0 a) (wr : Nat → Bool) (hw : (ops.all fun o => match o.dst with | some d => wr d | none => true) = true) : a = ⟨(overL wr a 0 a0.tmps.toList).toArray, a0.defers⟩ := by
  have hs : a.tmps = (overL wr a 0 a0.tmps.toList).toArray := by
    apply Array.ext_getElem?
    intro i
    have hr : (overL wr a 0 a0.tmps.toList).toArray[i]? = (overL wr a 0 a0.tmps.toList)[i]? := by simp
    rw [hr]
    rcases Nat.lt_or_ge i a0.tmps.size with hi | hi
    · have h0 : a0.tmps.toList[i]? = some a0.tmps[i] := by rw [Array.getElem?_toList]; exact Array.getElem?_eq_getElem hi
      rw [overL_get wr a _ 0 i _ h0, Nat.zero_add]
      have hi' : i < a.tmps.size := by rw [hf.size]; exact hi
      have hev : a.eval (.tmp i) = a.tmps[i] := by simp [Act.eval, hi']
      rw [Array.getElem?_eq_getElem hi']
      cases hwi : wr i with
      | true => rw [← hev]
      | false =>
        have hap : apart ops i = true := by
          unfold apart
          rw [Array.all_eq_true_iff_forall_mem] at hw ⊢
          intro o ho
          have := hw o ho
          cases hd : o.dst with
          | none => rfl
          | some d =>
            rw [hd] at this
            simp only at this
            simp only [bne_iff_ne, ne_eq, Option.some.injEq]
            intro e
            subst e
            rw [hwi] at this
            cases this
        have := hf.keeps i hap
        rw [hev] at this
        rw [this]
        simp [Act.eval, hi]
    · rw [Array.getElem?_eq_none (by rw [hf.size]; exact hi), List.getElem?_eq_none (by rw [overL_len]; simpa using hi)]
  have hd := hf.defers
  cases a
  simp only at hs hd
  subst hd
  rw [Act.mk.injEq]
  exact ⟨hs, rfl⟩

end Go.Proofs.Ytlegjdlmcphhlaa
/-
  WHAT SINGLE OPERATIONS DO, further: calls through a slot, nodes that are built (for regions that draw their order).
-/
namespace Go.Proofs.Ytlegjdlmcphhlaa
open Go.RowKit

theorem does_rn {a : Act} {w w' : World} {R : Value → World → Prop} {o : Oper} {v : Value} (h : (execOp a.eval o).run Try.prog w = .ok (.value v) w') (hR : R v w') : Does Try.prog o a w R := .inl ⟨v, w', h, hR⟩
/-- the value is this -/
def IsU (c : Value) : Value → World → Prop := fun v _ => v = c
section
variable {w : World} {d : Option Tmp} {ty : TypeId} {pos : String} {af : Array Edge} {g : Option (Nat × Bool)} {x y : Operand}
theorem run_callC {P : Program} {ρ : Operand → Value} {f : FuncId} {c : Operand} {caps : Array Value} {u : Value} {ts : Array TypeId} (hcf : Enters P f) (hfn : ρ c = .func (.func f) #[] caps) (hx : ρ x = u) :
    (execOp ρ ⟨d, .call { callee := .value c, args := #[x], argTypes := ts }, ty, pos, af, g⟩).run P w = .ok (.enter f (#[u] ++ caps)) w := by
  simp [execOp, resolve, invoke, hcf.out, hfn, hx, go_sem]
theorem does_callC {P : Program} {a : Act} {R : Value → World → Prop} {f : FuncId} {c : Operand} {caps : Array Value} {u : Value} {ts : Array TypeId} (hcf : Enters P f) (hfn : a.eval c = .func (.func f) #[] caps) (hx : a.eval x = u) (h : Calls P f (#[u] ++ caps) w fun e w'' => ∃ r, e = .returned r ∧ R r w'') :
    Does P ⟨d, .call { callee := .value c, args := #[x], argTypes := ts }, ty, pos, af, g⟩ a w R := .inr ⟨f, _, w, run_callC hcf hfn hx, h⟩
theorem run_eqN {ρ : Operand → Value} {b c : Int} (hx : ρ x = .int .i64 b) (hy : ρ y = .int .i64 c) : (execOp ρ ⟨d, .binOp .eql 3 x y 3, ty, pos, af, g⟩).run Try.prog w = .ok (.value (.bool (b == c))) w := by
  simp [execOp, hx, hy, go_sem]
theorem run_buildN {ρ : Operand → Value} {b : Int} {c : Bool} (hx : ρ x = .int .i64 b) (hy : ρ y = .bool c) : (execOp ρ ⟨d, .build 26 #[(0, x), (1, y)], ty, pos, af, g⟩).run Try.prog w = .ok (.value (NV.val ⟨b, c, none, 0, 0, none, 0, 0, 0⟩)) w := by
  simp [execOp, hx, hy, go_sem]
end
end Go.Proofs.Ytlegjdlmcphhlaa
/-
  THE REFERENCE's Same (of lists of nodes).
-/
namespace Go.Proofs.Ytlegjdlmcphhlaa
open Go.RowKit

set_option maxHeartbeats 2000000 in
theorem refSame_any (A B : Option Addr) (n m ca cb : Nat) (vs us : List NV) (xs ys : List M.Nd) (vb : Bool) (w : World) (hx : Tree w A n vs xs) (hy : Tree w B m us ys) (hn : n * 72 ≤ 140737488355328) (hm : m * 72 ≤ 140737488355328) (sx : ∀ x ∈ xs, Small x) (sy : ∀ y ∈ ys, Small y) :
    Calls Try.prog 11 #[.slice A n ca, .slice B m cb, .bool vb] w fun e w' => e = .returned (.bool (allB (sameNd vb) xs ys)) ∧ Below w.heap.size w w' := by
  have HS : Hid ((∀ x ∈ xs, Small x) ∧ (∀ y ∈ ys, Small y)) := ⟨sx, sy⟩
  have HT : Hid (Tree w A n vs xs ∧ Tree w B m us ys) := ⟨hx, hy⟩
  clear sx sy
  by_cases hnm : n = m
  · subst hnm
    have q0 : ((n : Int) == (n : Int)) = true := by simp
    have q1 : ((n : Int) != (n : Int)) = false := by simp
    clear hx hy
    go_enter Try.func11, Try.ntmps11
    go_wp2
    go_loopw [15] (fun i wr => ∃ k : Nat, k ≤ n ∧ i = .int .i64 k ∧ Hid (allB (sameNd vb) (xs.take k) (ys.take k) = true) ∧ Below w.heap.size w wr) (fun i _ => n - (intOf i).toNat)
    case atStart => exact ⟨0, Nat.zero_le _, rfl, rfl, Below.refl _ _⟩
    case round =>
      obtain ⟨k, hk, rfl, HE, hb⟩ := hrel
      have hsz := hb.size
      by_cases hlt : k < n
      · have hxr := HT.out.1.below (Nat.le_refl _) hb
        have hyr := HT.out.2.below (Nat.le_refl _) hb
        obtain ⟨b, o, v, rfl, _, hvk, a0, a1, a2, a3, a4⟩ := hxr.1.at hlt
        obtain ⟨b2, o2, u, rfl, _, huk, c0, c1, c2, c3, c4⟩ := hyr.1.at hlt
        obtain ⟨x, hxk, hcx⟩ := hxr.2.at hvk
        obtain ⟨y, hyk, hcy⟩ := hyr.2.at huk
        have HX : Hid (Cont wr v x ∧ Small x ∧ xs[k]? = some x) := ⟨hcx, HS.out.1 x (List.mem_of_getElem? hxk), hxk⟩
        have HY : Hid (Cont wr u y ∧ Small y ∧ ys[k]? = some y) := ⟨hcy, HS.out.2 y (List.mem_of_getElem? hyk), hyk⟩
        have HL : Hid ((xs.take k).length = (ys.take k).length) := by
          show _ = _
          rw [List.length_take, List.length_take, ← HT.out.1.2.1, ← HT.out.2.2.1, ← HT.out.1.1.1, ← HT.out.2.1.1]
        have hkn : (k : Int) < (n : Int) := by omega
        have hk0 : (0 : Int) ≤ (k : Int) := by omega
        clear hxk hyk hvk huk hcx hcy hxr hyr
        cases hal : sameNd vb x y
        · have HAL : Hid (sameNd vb x y = false) := hal
          clear hal
          go_wp2
          go_region_with (go_at_call 10; refine (sameNode_any v u x y vb _ (HX.out.1.below (Nat.le_refl _) ((Below.refl _ _).drew)) (HY.out.1.below (Nat.le_refl _) ((Below.refl _ _).drew)) HX.out.2.1 HY.out.2.1).mono ?_; rintro e w1 ⟨rfl, hb1⟩; rw [HAL.out]; have H1 : Hid (Below w.heap.size w w1) := hb.drew.trans (hb1.mono hsz); clear hb1)
          all_goals
            go_wp2
            go_ret
            exact ⟨ret_bool (allB_no HX.out.2.2 HY.out.2.2 HAL.out).symm, H1.out⟩
        · have HAL : Hid (sameNd vb x y = true) := hal
          clear hal
          go_wp2
          go_region_with (go_at_call 10; refine (sameNode_any v u x y vb _ (HX.out.1.below (Nat.le_refl _) ((Below.refl _ _).drew)) (HY.out.1.below (Nat.le_refl _) ((Below.refl _ _).drew)) HX.out.2.1 HY.out.2.1).mono ?_; rintro e w1 ⟨rfl, hb1⟩; rw [HAL.out]; have H1 : Hid (Below w.heap.size w w1) := hb.drew.trans (hb1.mono hsz); clear hb1)
          all_goals
            go_wp2
            go_roundw
            case rel => exact ⟨k + 1, by omega, by go_num, by show _ = true; rw [take_step HX.out.2.2, take_step HY.out.2.2, allB_snoc HL.out, HE.out, HAL.out]; rfl, H1.out⟩
            case measure => simp [intOf]; omega
      · have HN : Hid (xs.length ≤ k ∧ ys.length ≤ k) := by show _ ∧ _; rw [← HT.out.1.2.1, ← HT.out.2.2.1, ← HT.out.1.1.1, ← HT.out.2.1.1]; omega
        go_wp2
        go_ret
        exact ⟨ret_bool (by
          have e := HE.out
          rw [List.take_of_length_le HN.out.1, List.take_of_length_le HN.out.2] at e
          exact e.symm), hb⟩
  · have HN : Hid (xs.length ≠ ys.length) := by show _ ≠ _; rw [← hx.2.1, ← hy.2.1, ← hx.1.1, ← hy.1.1]; exact hnm
    have q0 : ((n : Int) == (m : Int)) = false := by rw [beq_eq_false_iff_ne]; omega
    have q1 : ((n : Int) != (m : Int)) = true := by rw [bne, q0]; rfl
    clear hx hy
    go_enter Try.func11, Try.ntmps11
    go_wp2
    go_ret
    exact ⟨ret_bool (allB_len HN.out).symm, Below.refl _ _⟩

end Go.Proofs.Ytlegjdlmcphhlaa
