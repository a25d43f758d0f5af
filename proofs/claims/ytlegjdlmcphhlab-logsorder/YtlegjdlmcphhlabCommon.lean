/-
  WHAT THE LAWS' ROWS SHARE: nodes and trees as they are read, their sizes, the post-condition out of 'nothing old has turned'.
-/
import Derived.Test.YtlegjdlmcphhlabRises
import Derived.ProofKit
import Derived.OpenShut
import Derived.SizedLaws
import Derived.Deep.Strs
import Derived.Deep.Slices
import Derived.Deep.SlicePairs
import Derived.Deep.DeepHandedRow
namespace Go.Proofs.Ytlegjdlmcphhlab
open Go.ChangeShapes Go.WideShapes Go.ChangeAt Go.RowKit Go.Deep

theorem own : ownKnob Try.prog.godebug = none := by kernel_rfl
theorem laidOut : laidOutB Try.prog = true := by kernel_rfl
theorem cells5 : Try.prog.cellsOf 5 = 1 := by kernel_rfl
theorem cells9 : Try.prog.cellsOf 9 = 1 := by kernel_rfl
theorem cells3 : Try.prog.cellsOf 3 = 1 := by kernel_rfl
theorem cells4 : Try.prog.cellsOf 4 = 1 := by kernel_rfl
theorem cells23 : Try.prog.cellsOf 24 = 1 := by kernel_rfl
theorem cells24 : Try.prog.cellsOf 38 = 1 := by kernel_rfl
theorem cells58 : Try.prog.cellsOf 68 = 2 := by kernel_rfl
theorem cells26 : Try.prog.cellsOf 40 = 5 := by kernel_rfl
theorem bytes5 : Try.prog.bytesOf 5 = 1 := by kernel_rfl
theorem bytes58 : Try.prog.bytesOf 68 = 24 := by kernel_rfl
theorem bytes26 : Try.prog.bytesOf 40 = 72 := by kernel_rfl
theorem bytes9 : Try.prog.bytesOf 9 = 16 := by kernel_rfl

section
variable {H : Type} {enc : TypeId × Value → H}

theorem trodAll_below {P : Program} (hl : laidOutB P = true) {W W' : World} (hb : Below W.heap.size W W') : ∀ {ts : List TypeId} {vs : List Value} {ds : List (DataW H)} {ps : List MemPlace},
    ts.all (fun t => P.readableRec t && decide (t < P.types.size)) = true → DataW.TrodAll enc P W 0 (fun _ => true) true ts vs ds ps → (∀ x ∈ ps, x.block < W.heap.size) →
    DataW.TrodAll enc P W' 0 (fun b => decide (b < W.heap.size)) true ts vs ds ps
  | [], vs, ds, ps, _, h, _ => by
    obtain ⟨rfl, rfl, rfl⟩ := trodAll_nil h
    exact trodAll_mk0
  | t :: ts, vs, ds, ps, ht, h, hlt => by
    obtain ⟨v, vs', d, ds', p, q, rfl, rfl, rfl, h0, hr⟩ := trodAll_cons h
    rw [List.all_cons, Bool.and_eq_true, Bool.and_eq_true] at ht
    exact trodAll_cons_mk (Below.trod hl ht.1.1 (of_decide_eq_true ht.1.2) h0 hb (fun x hx => hlt x (List.mem_append.2 (.inl hx))))
      (trodAll_below hl hb ht.2 hr (fun x hx => hlt x (List.mem_append.2 (.inr hx))))

theorem row_mk {α : Type} {k : Nat} {cs : α → List Value} (k0 : 0 < k) (hk : ∀ v, (cs v).length = k) {w : World} {vs : List α} {a : Addr} (h : ∀ (j : Nat) v, vs[j]? = some v → ∀ (i : Nat) c, (cs v)[i]? = some c → w.cell? (a.add (j * k + i)) = some c) : Row k cs w (some a) vs.length vs := by
  refine ⟨rfl, ?_⟩
  cases hv : vs with
  | nil => exact .inl rfl
  | cons v r =>
    right
    have hv0 : vs[0]? = some v := by rw [hv]; rfl
    have hc0 : (cs v)[0]? = some ((cs v)[0]'(by rw [hk]; exact k0)) := List.getElem?_eq_getElem _
    have h00 := h 0 v hv0 0 _ hc0
    obtain ⟨b, off, spot⟩ := a
    have hspot : spot = none := by simpa [Addr.add] using World.cell?_spot h00
    subst hspot
    refine ⟨b, off, rfl, ?_, fun j u hu i c hc => ?_⟩
    · have := World.block_lt_of_cell? w _ h00
      rw [Addr.add_lit] at this
      exact this
    · rw [← hv] at hu
      have := h j u hu i c hc
      rw [Addr.add_lit] at this
      rw [Nat.add_assoc]
      exact this

/-- bulk: what is in a list is no more than all of it -/
theorem bulk_mem {d : DataW H} : ∀ {l : List (DataW H)}, d ∈ l → Rows.uptoBulk d ≤ Rows.uptoBulkAll l
  | [], h => by cases h
  | a :: r, h => by
    unfold Rows.uptoBulkAll
    rcases List.mem_cons.1 h with rfl | h
    · omega
    · have := bulk_mem h; omega
theorem bulk_pos (d : DataW H) : 1 ≤ Rows.uptoBulk d := by
  cases d with
  | lit l => cases l <;> (unfold Rows.uptoBulk; omega)
  | nil => unfold Rows.uptoBulk; omega
  | ptr d => unfold Rows.uptoBulk; omega
  | slice elems spare => unfold Rows.uptoBulk; omega
  | agg parts => unfold Rows.uptoBulk; omega
  | iface t d => unfold Rows.uptoBulk; omega
  | map entries => unfold Rows.uptoBulk; omega
  | held h => unfold Rows.uptoBulk; omega
theorem bulk_len : ∀ l : List (DataW H), l.length ≤ Rows.uptoBulkAll l
  | [] => by simp [Rows.uptoBulkAll]
  | a :: r => by have h1 := bulk_len r; have h2 := bulk_pos a; unfold Rows.uptoBulkAll; rw [List.length_cons]; omega
theorem bulk_slice (es sp : List (DataW H)) : Rows.uptoBulkAll es ≤ Rows.uptoBulk (.slice es sp) := by unfold Rows.uptoBulk; omega
theorem bulk_sum (f : Nat → Nat) (D : Nat → DataW H) : ∀ l : List Nat, (∀ i ∈ l, f i ≤ Rows.uptoBulk (D i)) → (l.map f).sum ≤ Rows.uptoBulkAll (l.map D)
  | [], _ => by simp [Rows.uptoBulkAll]
  | i :: l, h => by
    have h1 := bulk_sum f D l (fun j hj => h j (List.mem_cons_of_mem _ hj))
    have h2 := h i List.mem_cons_self
    simp only [List.map_cons, List.sum_cons, Rows.uptoBulkAll]
    omega

/-- bytes that came in -/
theorem open_bytes {W : World} {sp : Nat → Bool} {held : Bool} {fuel : Nat} {cs : List Value} {x : DataW H × List MemPlace} (h : DataW.trod enc Try.prog W 0 sp held fuel 24 cs = some x) :
    ∃ (A : Option Addr) (n c : Nat) (l : List UInt8), cs = [.slice A n c] ∧ Byts W A n l ∧ ((x.1 = .nil ∧ n = 0) ∨ ∃ es spare, x.1 = .slice es spare ∧ es.length = n) := by
  rcases open_slice1 Try.underlying24 cells5 h with ⟨rfl, rfl⟩ | ⟨a, len, cap, m, n, V, D, Pl, rfl, hb, hl, hm, hmm, rfl, hx⟩
  · exact ⟨none, 0, 0, [], rfl, ⟨rfl, .inl rfl⟩, .inl ⟨rfl, rfl⟩⟩
  · have hlm : len ≤ m := by rw [hmm]; split <;> omega
    have each : ∀ i, i < len → ∃ u : UInt8, W.cell? (a.add i) = some (.int .u8 (u.toNat : Int)) := fun i hi => by
      obtain ⟨h1, h2⟩ := hx i (by omega)
      obtain ⟨z, hz, _, hw⟩ := DataW.trod_int Try.underlying5 h2
      have hbd := bounds_u8 hw
      refine ⟨UInt8.ofNat z.toNat, ?_⟩
      rw [h1, (List.cons.inj hz).1]
      have : ((UInt8.ofNat z.toNat).toNat : Int) = z := by
        rw [UInt8.toNat_ofNat', Nat.mod_eq_of_lt (by omega)]; omega
      rw [this]
    obtain ⟨U, hU⟩ := choose_lt each
    refine ⟨some a, len, cap, (List.range len).map U, rfl, ?_, .inr ⟨_, _, rfl, by simp⟩⟩
    have := row_mk (k := 1) (cs := byteCells1) (by decide) byt_len (w := W) (vs := (List.range len).map U) (a := a) (fun j v hv i c hc => by
      have hj : j < len := by
        rcases Nat.lt_or_ge j len with h1 | h1
        · exact h1
        · rw [List.getElem?_eq_none (by simpa using h1)] at hv; cases hv
      rw [List.getElem?_map, List.getElem?_range hj] at hv
      cases hv
      cases i with
      | succ i => cases hc
      | zero => cases hc; rw [Nat.mul_one, Nat.add_zero]; exact hU j hj)
    rw [List.length_map, List.length_range] at this
    exact this

/-- entries that came in -/
theorem open_ents {W : World} {sp : Nat → Bool} {held : Bool} {fuel : Nat} {cs : List Value} {x : DataW H × List MemPlace} (h : DataW.trod enc Try.prog W 0 sp held fuel 38 cs = some x) :
    ∃ (A : Option Addr) (n c : Nat) (l : List (ByteArray × Int)), cs = [.slice A n c] ∧ Ents W A n l ∧ ((x.1 = .nil ∧ n = 0) ∨ ∃ es spare, x.1 = .slice es spare ∧ es.length = n) := by
  rcases open_slice_pairs Try.underlying38 Try.underlying68 cells58 rfl rfl cells9 cells3 h with ⟨rfl, rfl⟩ | ⟨a, len, cap, m, n, V0, V1, D0, D1, P0, P1, rfl, hb, hl, hm, hmm, rfl, hx⟩
  · exact ⟨none, 0, 0, [], rfl, ⟨rfl, .inl rfl⟩, .inl ⟨rfl, rfl⟩⟩
  · have hlm : len ≤ m := by rw [hmm]; split <;> omega
    have each : ∀ i, i < len → ∃ u : ByteArray × Int, W.cell? (a.add (i * 2)) = some (.string u.1) ∧ W.cell? (a.add (i * 2 + 1)) = some (.int .i64 u.2) := fun i hi => by
      obtain ⟨h1, h2, h3, h4⟩ := hx i (by omega)
      obtain ⟨s, hs, _, _⟩ := DataW.trod_string Try.underlying9 h3
      obtain ⟨z, hz, _, _⟩ := DataW.trod_int Try.underlying3 h4
      exact ⟨(s, z), by rw [h1, (List.cons.inj hs).1], by rw [h2, (List.cons.inj hz).1]⟩
    obtain ⟨U, hU⟩ := choose_lt each
    refine ⟨some a, len, cap, (List.range len).map U, rfl, ?_, .inr ⟨_, _, rfl, by simp⟩⟩
    have := row_mk (k := 2) (cs := entCells) (by decide) ent_len (w := W) (vs := (List.range len).map U) (a := a) (fun j v hv i c hc => by
      have hj : j < len := by
        rcases Nat.lt_or_ge j len with h1 | h1
        · exact h1
        · rw [List.getElem?_eq_none (by simpa using h1)] at hv; cases hv
      rw [List.getElem?_map, List.getElem?_range hj] at hv
      cases hv
      match i, hc with
      | 0, hc => cases hc; exact (hU j hj).1
      | 1, hc => cases hc; exact (hU j hj).2
      | i + 2, hc => simp [entCells] at hc)
    rw [List.length_map, List.length_range] at this
    exact this

/-- no slice and no text in it is greater than the reach -/
def Sized (t : TypeId) (d : DataW H) : Prop := ∀ n ∈ d.weights Try.prog t, n ≤ reachBytes
theorem sized_of {ts : List TypeId} {ds : List (DataW H)} (hz : (DataW.weightsEach Try.prog ts ds).all (· ≤ reachBytes) = true) {j : Nat} {t : TypeId} {d : DataW H} (ht : ts[j]? = some t) (hd : ds[j]? = some d) : Sized t d := by
  intro n hn
  have := List.all_eq_true.1 hz n (DataW.weights_mem_each ht hd n hn)
  simpa using this
theorem sized_len {t e : TypeId} {es spare : List (DataW H)} (hu : Try.prog.underlying t = some (.slice e)) (h : Sized t (.slice es spare)) : (es.length + spare.length) * Try.prog.bytesOf e ≤ reachBytes := by
  apply h
  unfold DataW.weights
  rw [hu]
  exact List.mem_cons_self
theorem weights_mem_all {e : TypeId} : ∀ {ds : List (DataW H)} {d : DataW H}, d ∈ ds → ∀ n ∈ d.weights Try.prog e, n ∈ DataW.weightsAll Try.prog e ds
  | [], d, hd, n, hn => by cases hd
  | a :: r, d, hd, n, hn => by
    unfold DataW.weightsAll
    rcases List.mem_cons.1 hd with h | h
    · subst h; exact List.mem_append.2 (.inl hn)
    · exact List.mem_append.2 (.inr (weights_mem_all h n hn))
theorem sized_elem {t e : TypeId} {es spare : List (DataW H)} (hu : Try.prog.underlying t = some (.slice e)) (h : Sized t (.slice es spare)) {d : DataW H} (hd : d ∈ es) : Sized e d := by
  intro n hn
  apply h
  unfold DataW.weights
  rw [hu]
  exact List.mem_cons_of_mem _ (List.mem_append.2 (.inl (weights_mem_all hd n hn)))
theorem sized_field {t : TypeId} {fs : Array Field} {ps : List (DataW H)} (hu : Try.prog.underlying t = some (.struct fs)) (h : Sized t (.agg ps)) {j : Nat} {u : TypeId} {d : DataW H} (ht : (fs.toList.map (·.type))[j]? = some u) (hd : ps[j]? = some d) : Sized u d := by
  intro n hn
  apply h
  unfold DataW.weights
  rw [hu]
  exact DataW.weights_mem_each ht hd n hn

set_option maxRecDepth 4000 in
/-- a node that came in -/
theorem open_node_b {W : World} {sp : Nat → Bool} {held : Bool} {fuel : Nat} {cs : List Value} {x : DataW H × List MemPlace} (h : DataW.trod enc Try.prog W 0 sp held fuel 40 cs = some x) :
    ∃ (v : NV) (y : M.Nd), cs = v.cells ∧ Cont W v y ∧ (Sized 40 x.1 → y.data.length ≤ reachBytes ∧ y.ents.length * 24 ≤ reachBytes) ∧ y.ents.length ≤ Rows.uptoBulk x.1 := by
  obtain ⟨ys, m, _, rfl, hl, hys, hf⟩ := DataW.trod_struct Try.underlying40 h
  rw [cells26] at hl
  obtain ⟨c0, c1, c2, c3, c4, rfl⟩ : ∃ a b c d e, cs = [a, b, c, d, e] := by
    match cs, hl with
    | [a, b, c, d, e], _ => exact ⟨a, b, c, d, e, rfl⟩
  have f0 : DataW.trod enc Try.prog W 0 sp held m 3 (([c0, c1, c2, c3, c4].drop 0).take (Try.prog.cellsOf 3)) = ys[0]? := hf 0 _ rfl
  rw [cells3] at f0
  change DataW.trod enc Try.prog W 0 sp held m 3 [c0] = ys[0]? at f0
  have f1 : DataW.trod enc Try.prog W 0 sp held m 4 (([c0, c1, c2, c3, c4].drop 1).take (Try.prog.cellsOf 4)) = ys[1]? := hf 1 _ rfl
  rw [cells4] at f1
  change DataW.trod enc Try.prog W 0 sp held m 4 [c1] = ys[1]? at f1
  have f2 : DataW.trod enc Try.prog W 0 sp held m 24 (([c0, c1, c2, c3, c4].drop 2).take (Try.prog.cellsOf 24)) = ys[2]? := hf 2 _ rfl
  rw [cells23] at f2
  change DataW.trod enc Try.prog W 0 sp held m 24 [c2] = ys[2]? at f2
  have f3 : DataW.trod enc Try.prog W 0 sp held m 38 (([c0, c1, c2, c3, c4].drop 3).take (Try.prog.cellsOf 38)) = ys[3]? := hf 3 _ rfl
  rw [cells24] at f3
  change DataW.trod enc Try.prog W 0 sp held m 38 [c3] = ys[3]? at f3
  have f4 : DataW.trod enc Try.prog W 0 sp held m 3 (([c0, c1, c2, c3, c4].drop 4).take (Try.prog.cellsOf 3)) = ys[4]? := hf 4 _ rfl
  rw [cells3] at f4
  change DataW.trod enc Try.prog W 0 sp held m 3 [c4] = ys[4]? at f4
  have hlen : ys.length = 5 := hys
  have g : ∀ k, k < 5 → ∃ y, ys[k]? = some y := fun k hk => ⟨_, List.getElem?_eq_getElem (by omega)⟩
  obtain ⟨y0, g0⟩ := g 0 (by omega)
  obtain ⟨y1, g1⟩ := g 1 (by omega)
  obtain ⟨y2, g2⟩ := g 2 (by omega)
  obtain ⟨y3, g3⟩ := g 3 (by omega)
  obtain ⟨y4, g4⟩ := g 4 (by omega)
  rw [g0] at f0; rw [g1] at f1; rw [g2] at f2; rw [g3] at f3; rw [g4] at f4
  obtain ⟨z0, e0, _, _⟩ := DataW.trod_int Try.underlying3 f0
  obtain ⟨b1, e1, _⟩ := DataW.trod_bool Try.underlying4 f1
  obtain ⟨A2, n2, k2, l2, e2, hb2, hd2⟩ := open_bytes f2
  obtain ⟨A3, n3, k3, l3, e3, hb3, hd3⟩ := open_ents f3
  obtain ⟨z4, e4, _, _⟩ := DataW.trod_int Try.underlying3 f4
  cases e0; cases e1; cases e2; cases e3; cases e4
  refine ⟨⟨z0, b1, A2, n2, k2, A3, n3, k3, z4⟩, ⟨z0, b1, l2, l3, z4⟩, rfl, ⟨rfl, rfl, rfl, hb2, hb3⟩, fun hsz => ?_, ?_⟩
  case' refine_2 =>
    show l3.length ≤ _
    rw [← hb3.1]
    have hmem : y3.1 ∈ ys.map (·.1) := List.mem_map.2 ⟨y3, List.mem_of_getElem? g3, rfl⟩
    have hle := bulk_mem hmem
    have hag : Rows.uptoBulk (DataW.agg (ys.map (·.1))) = Rows.uptoBulkAll (ys.map (·.1)) + 1 := by unfold Rows.uptoBulk; rfl
    show n3 ≤ Rows.uptoBulk (DataW.agg (ys.map (·.1)))
    rw [hag]
    rcases hd3 with ⟨_, h0⟩ | ⟨es, spare, he, hn⟩
    · omega
    · rw [he] at hle
      have h1 := bulk_len es
      unfold Rows.uptoBulk at hle
      omega
  have s2 : Sized 24 y2.1 := sized_field (H := H) (j := 2) Try.underlying40 hsz rfl (by rw [List.getElem?_map, g2]; rfl)
  have s3 : Sized 38 y3.1 := sized_field (H := H) (j := 3) Try.underlying40 hsz rfl (by rw [List.getElem?_map, g3]; rfl)
  constructor
  · show l2.length ≤ _
    rw [← hb2.1]
    rcases hd2 with ⟨_, h0⟩ | ⟨es, spare, he, hn⟩
    · rw [h0]; exact Nat.zero_le _
    · rw [he] at s2
      have := sized_len Try.underlying24 s2
      rw [bytes5] at this
      omega
  · show l3.length * 24 ≤ _
    rw [← hb3.1]
    rcases hd3 with ⟨_, h0⟩ | ⟨es, spare, he, hn⟩
    · rw [h0]; exact Nat.zero_le _
    · rw [he] at s3
      have := sized_len Try.underlying38 s3
      rw [bytes58] at this
      omega

theorem open_node {W : World} {sp : Nat → Bool} {held : Bool} {fuel : Nat} {cs : List Value} {x : DataW H × List MemPlace} (h : DataW.trod enc Try.prog W 0 sp held fuel 40 cs = some x) :
    ∃ (v : NV) (y : M.Nd), cs = v.cells ∧ Cont W v y ∧ (Sized 40 x.1 → y.data.length ≤ reachBytes ∧ y.ents.length * 24 ≤ reachBytes) := by
  obtain ⟨v, y, h1, h2, h3, _⟩ := open_node_b h
  exact ⟨v, y, h1, h2, h3⟩

theorem reach_val : reachBytes = 140737488351232 := rfl
theorem small_of {y : M.Nd} (h : y.data.length ≤ reachBytes ∧ y.ents.length * 24 ≤ reachBytes) : Small y ∧ (y.ents.length + 1) * 24 ≤ 140737488355328 := by
  rw [reach_val] at h
  exact ⟨⟨by omega, by omega⟩, by omega⟩

instance : Inhabited NV := ⟨NV.zero⟩
instance : Inhabited M.Nd := ⟨nd0⟩
/-- a tree that came in -/
theorem open_nodes_b {W : World} {sp : Nat → Bool} {held : Bool} {fuel : Nat} {cs : List Value} {x : DataW H × List MemPlace} (h : DataW.trod enc Try.prog W 0 sp held fuel 22 cs = some x) :
    ∃ (A : Option Addr) (n c : Nat) (vs : List NV) (xs : List M.Nd), cs = [.slice A n c] ∧ Tree W A n vs xs ∧ (Sized 22 x.1 → n * 72 ≤ reachBytes ∧ ∀ y ∈ xs, y.data.length ≤ reachBytes ∧ y.ents.length * 24 ≤ reachBytes) ∧ (xs.flatMap fun y => y.ents.map (·.2)).length ≤ Rows.uptoBulk x.1 ∧ xs.length ≤ Rows.uptoBulk x.1 := by
  rcases open_slice Try.underlying22 h with ⟨rfl, rfl⟩ | ⟨a, len, cap, m, n, D, Pl, rfl, hb, hl, hm, hmm, rfl, hx⟩
  · exact ⟨none, 0, 0, [], [], rfl, ⟨⟨rfl, .inl rfl⟩, All2.nil⟩, (fun _ => ⟨by simp, fun y hy => by cases hy⟩), by simp, by simp⟩
  · have hlm : len ≤ m := by rw [hmm]; split <;> omega
    rw [cells26] at hx
    have each : ∀ i, i < len → ∃ q : NV × M.Nd, (∀ (j : Nat) c, q.1.cells[j]? = some c → W.cell? (a.add (i * 5 + j)) = some c) ∧ Cont W q.1 q.2 ∧ (Sized 40 (D i) → q.2.data.length ≤ reachBytes ∧ q.2.ents.length * 24 ≤ reachBytes) ∧ q.2.ents.length ≤ Rows.uptoBulk (D i) := fun i hi => by
      obtain ⟨cs', h1, h2⟩ := hx i (by omega)
      obtain ⟨v, y, rfl, hc, hs, hbk⟩ := open_node_b h2
      obtain ⟨_, _, hcell⟩ := World.cells?_some h1
      refine ⟨(v, y), fun j c hc' => ?_, hc, hs, hbk⟩
      have hj : j < 5 := by
        rcases Nat.lt_or_ge j 5 with h3 | h3
        · exact h3
        · rw [List.getElem?_eq_none (by exact h3)] at hc'; cases hc'
      have := hcell j hj
      rw [show (a.add (i * 5)).add j = a.add (i * 5 + j) from Addr.add_add a _ _] at this
      rw [this]
      exact hc'
    obtain ⟨U, hU⟩ := choose_lt each
    refine ⟨some a, len, cap, (List.range len).map fun i => (U i).1, (List.range len).map fun i => (U i).2, rfl, ⟨?_, by simp, fun j v y hv hy => ?_⟩, (fun hsz => ⟨?_, fun y hy => ?_⟩), ?_, ?_⟩
    · have := row_mk (k := 5) (cs := NV.cells) (by decide) nod_len (w := W) (vs := (List.range len).map fun i => (U i).1) (a := a) (fun j v hv i c hc => by
        have hj : j < len := by
          rcases Nat.lt_or_ge j len with h1 | h1
          · exact h1
          · rw [List.getElem?_eq_none (by simpa using h1)] at hv; cases hv
        rw [List.getElem?_map, List.getElem?_range hj] at hv
        cases hv
        exact (hU j hj).1 i c hc)
      rw [List.length_map, List.length_range] at this
      exact this
    · have hj : j < len := by
        rcases Nat.lt_or_ge j len with h1 | h1
        · exact h1
        · rw [List.getElem?_eq_none (by simpa using h1)] at hv; cases hv
      rw [List.getElem?_map, List.getElem?_range hj] at hv hy
      cases hv; cases hy
      exact (hU j hj).2.1
    · have := sized_len Try.underlying22 hsz
      rw [bytes26, List.length_map, List.length_range] at this
      omega
    · obtain ⟨i, hi, rfl⟩ := List.mem_map.1 hy
      have hi := List.mem_range.1 hi
      exact (hU i hi).2.2.1 (sized_elem Try.underlying22 hsz (List.mem_map.2 ⟨i, List.mem_range.2 hi, rfl⟩))
    · refine Nat.le_trans ?_ (bulk_slice _ _)
      have h1 := bulk_sum (H := H) (fun i => (U i).2.ents.length) D (List.range len) (fun i hi => (hU i (List.mem_range.1 hi)).2.2.2)
      have h2 : (((List.range len).map fun i => (U i).2).flatMap fun y => y.ents.map (·.2)).length = ((List.range len).map fun i => (U i).2.ents.length).sum := by
        rw [List.length_flatMap, List.map_map]
        congr 1
        apply List.map_congr_left
        intro i _
        simp
      rw [h2]
      exact h1
    · refine Nat.le_trans ?_ (bulk_slice _ _)
      have h1 := bulk_len ((List.range len).map D)
      simp only [List.length_map, List.length_range] at h1 ⊢
      exact h1

theorem open_nodes {W : World} {sp : Nat → Bool} {held : Bool} {fuel : Nat} {cs : List Value} {x : DataW H × List MemPlace} (h : DataW.trod enc Try.prog W 0 sp held fuel 22 cs = some x) :
    ∃ (A : Option Addr) (n c : Nat) (vs : List NV) (xs : List M.Nd), cs = [.slice A n c] ∧ Tree W A n vs xs ∧ (Sized 22 x.1 → n * 72 ≤ reachBytes ∧ ∀ y ∈ xs, y.data.length ≤ reachBytes ∧ y.ents.length * 24 ≤ reachBytes) := by
  obtain ⟨A, n, c, vs, xs, h1, h2, h3, _⟩ := open_nodes_b h
  exact ⟨A, n, c, vs, xs, h1, h2, h3⟩

theorem node_val {v : Value} {x : NV} (h : v.cells.toList = x.cells) : v = x.val := by
  cases v <;> simp [Value.cells, NV.cells] at h
  rename_i xs
  rw [NV.val]
  congr 1
  apply Array.ext'
  exact h

theorem trodAll_five {P : Program} {w : World} {base : Nat} {spare : Nat → Bool} {held : Bool} {t t' t'' t3 t4 : TypeId} {args : Array Value} {ds : List (DataW H)} {ps : List MemPlace} (h : DataW.TrodAll enc P w base spare held [t, t', t'', t3, t4] args.toList ds ps) :
    ∃ v v' v'' v3 v4 d d' d'' d3 d4 p p' p'' p3 p4, args = #[v, v', v'', v3, v4] ∧ ds = [d, d', d'', d3, d4] ∧ ps = p ++ p' ++ p'' ++ p3 ++ p4 ∧ DataW.Trod enc P w base spare held t v d p ∧ DataW.Trod enc P w base spare held t' v' d' p' ∧ DataW.Trod enc P w base spare held t'' v'' d'' p'' ∧ DataW.Trod enc P w base spare held t3 v3 d3 p3 ∧ DataW.Trod enc P w base spare held t4 v4 d4 p4 := by
  obtain ⟨v, vs, d, ds', p, q, hargs, rfl, rfl, hd, hrest⟩ := trodAll_cons h
  obtain ⟨v', vs', d', ds2, p', q', rfl, rfl, rfl, hd', hrest'⟩ := trodAll_cons hrest
  obtain ⟨v'', vs'', d'', ds3, p'', q'', rfl, rfl, rfl, hd'', hrest''⟩ := trodAll_cons hrest'
  obtain ⟨v3, vs3, d3, ds4, p3, q3, rfl, rfl, rfl, hd3, hrest3⟩ := trodAll_cons hrest''
  obtain ⟨v4, vs4, d4, ds5, p4, q4, rfl, rfl, rfl, hd4, hrest4⟩ := trodAll_cons hrest3
  obtain ⟨rfl, rfl, rfl⟩ := trodAll_nil hrest4
  exact ⟨v, v', v'', v3, v4, d, d', d'', d3, d4, p, p', p'', p3, p4, by cases args; simp_all, rfl, by simp, hd, hd', hd'', hd3, hd4⟩

/-- a law's end: it answered true, and nothing old has turned -/
theorem post_true {f : Func} {s : ChangeSpec} {W W' : World} {args : Array Value} {ds : List (DataW H)} {before : List MemPlace}
    (hf : f.resultTypes = #[4]) (hp : f.params.toList.all (fun t => Try.prog.readableRec t && decide (t < Try.prog.types.size)) = true) (hv : s.vars = []) (hs : s.fn H ds = { results := [.lit (.bool true)], args := ds })
    (hW : DataW.Whole enc Try.prog f.params.toList s.vars false W args.toList ds [] before) (hb : Below W.heap.size W W') :
    s.post enc Try.prog f false true false false W args (.bool true) W' := by
  have hW2 := hW
  obtain ⟨p, q, hA, hV, rfl, _, _⟩ := hW
  have hlt := hW2.lt
  rw [hv] at hV
  obtain ⟨_, rfl⟩ := trodVars_none hV
  rw [List.append_nil] at hlt
  refine ⟨ds, [], _, [], p, [], hW2, ?_, ?_, ?_, hb.frame _, fun h => by cases h⟩
  · rw [List.append_nil, hs, hf]
    exact trodAll_mk1 (shut_bool Try.underlying4 _)
  · rw [List.append_nil, hs]
    exact trodAll_below laidOut hb hp hA hlt
  · rw [hv, List.append_nil, hs]
    rfl
end
end Go.Proofs.Ytlegjdlmcphhlab
