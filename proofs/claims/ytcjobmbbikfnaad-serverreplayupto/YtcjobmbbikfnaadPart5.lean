/- TEXTS LAID TOGETHER: Common, Name, Mathd, Acta, Actb -/
import Derived.Test.YtcjobmbbikfnaadPart4
import Derived.ProofKit
import Derived.OpenShut
import Derived.SizedLaws
import Derived.Deep.Strs
import Derived.Deep.Slices
import Derived.Deep.SlicePairs
import Derived.Deep.DeepHandedRow
import Derived.Test.YtcjobmbbikfnaadPart1
import Derived.Test.YtcjobmbbikfnaadPart2
import Derived.Test.YtcjobmbbikfnaadPart3
/-
  WHAT THE LAWS' ROWS SHARE: nodes and trees as they are read, their sizes, the post-condition out of 'nothing old has turned'.
-/
namespace Go.Proofs.Ytcjobmbbikfnaad
open Go.ChangeShapes Go.WideShapes Go.ChangeAt Go.RowKit Go.Deep

theorem own : ownKnob Try.prog.godebug = none := by kernel_rfl
theorem laidOut : laidOutB Try.prog = true := by kernel_rfl
theorem cells5 : Try.prog.cellsOf 5 = 1 := by kernel_rfl
theorem cells9 : Try.prog.cellsOf 9 = 1 := by kernel_rfl
theorem cells3 : Try.prog.cellsOf 3 = 1 := by kernel_rfl
theorem cells4 : Try.prog.cellsOf 4 = 1 := by kernel_rfl
theorem cells23 : Try.prog.cellsOf 34 = 1 := by kernel_rfl
theorem cells24 : Try.prog.cellsOf 39 = 1 := by kernel_rfl
theorem cells58 : Try.prog.cellsOf 62 = 2 := by kernel_rfl
theorem cells26 : Try.prog.cellsOf 41 = 5 := by kernel_rfl
theorem bytes5 : Try.prog.bytesOf 5 = 1 := by kernel_rfl
theorem bytes58 : Try.prog.bytesOf 62 = 24 := by kernel_rfl
theorem bytes26 : Try.prog.bytesOf 41 = 72 := by kernel_rfl
theorem bytes9 : Try.prog.bytesOf 9 = 16 := by kernel_rfl

section
variable {H : Type} {enc : TypeId × Value → H}

theorem trodAll_below {P : Program} (hl : laidOutB P = true) {W W' : World} (hb : Below W.heap.size W W') : ∀ {ts : List TypeId} {vs : List Value} {ds : List (DataW H)} {ps : List MemPlace},
    ts.all (fun t => P.readableRec t && decide (t < P.types.size)) = true → DataW.TrodAll enc P W 0 (fun _ => true) true ts vs ds ps → (∀ x ∈ ps, x.block < W.heap.size) →
    DataW.TrodAll enc P W' 0 (fun b => decide (b < W.heap.size)) true ts vs ds ps
  | [], vs, ds, ps, _, h, _ => by
    obtain ⟨rfl, rfl, rfl⟩ := trodAll_nil h
    exact trodAll_mk0
  | t :: ts, vs, ds, ps, ht, h, hlt => by
    obtain ⟨v, vs', d, ds', p, q, rfl, rfl, rfl, h0, hr⟩ := trodAll_cons h
    rw [List.all_cons, Bool.and_eq_true, Bool.and_eq_true] at ht
    exact trodAll_cons_mk (Below.trod hl ht.1.1 (of_decide_eq_true ht.1.2) h0 hb (fun x hx => hlt x (List.mem_append.2 (.inl hx))))
      (trodAll_below hl hb ht.2 hr (fun x hx => hlt x (List.mem_append.2 (.inr hx))))

theorem row_mk {α : Type} {k : Nat} {cs : α → List Value} (k0 : 0 < k) (hk : ∀ v, (cs v).length = k) {w : World} {vs : List α} {a : Addr} (h : ∀ (j : Nat) v, vs[j]? = some v → ∀ (i : Nat) c, (cs v)[i]? = some c → w.cell? (a.add (j * k + i)) = some c) : Row k cs w (some a) vs.length vs := by
  refine ⟨rfl, ?_⟩
  cases hv : vs with
  | nil => exact .inl rfl
  | cons v r =>
    right
    have hv0 : vs[0]? = some v := by rw [hv]; rfl
    have hc0 : (cs v)[0]? = some ((cs v)[0]'(by rw [hk]; exact k0)) := List.getElem?_eq_getElem _
    have h00 := h 0 v hv0 0 _ hc0
    obtain ⟨b, off, spot⟩ := a
    have hspot : spot = none := by simpa [Addr.add] using World.cell?_spot h00
    subst hspot
    refine ⟨b, off, rfl, ?_, fun j u hu i c hc => ?_⟩
    · have := World.block_lt_of_cell? w _ h00
      rw [Addr.add_lit] at this
      exact this
    · rw [← hv] at hu
      have := h j u hu i c hc
      rw [Addr.add_lit] at this
      rw [Nat.add_assoc]
      exact this

/-- bulk: what is in a list is no more than all of it -/
theorem bulk_mem {d : DataW H} : ∀ {l : List (DataW H)}, d ∈ l → Rows.uptoBulk d ≤ Rows.uptoBulkAll l
  | [], h => by cases h
  | a :: r, h => by
    unfold Rows.uptoBulkAll
    rcases List.mem_cons.1 h with rfl | h
    · omega
    · have := bulk_mem h; omega
theorem bulk_pos (d : DataW H) : 1 ≤ Rows.uptoBulk d := by
  cases d with
  | lit l => cases l <;> (unfold Rows.uptoBulk; omega)
  | nil => unfold Rows.uptoBulk; omega
  | ptr d => unfold Rows.uptoBulk; omega
  | slice elems spare => unfold Rows.uptoBulk; omega
  | agg parts => unfold Rows.uptoBulk; omega
  | iface t d => unfold Rows.uptoBulk; omega
  | map entries => unfold Rows.uptoBulk; omega
  | held h => unfold Rows.uptoBulk; omega
theorem bulk_len : ∀ l : List (DataW H), l.length ≤ Rows.uptoBulkAll l
  | [] => by simp [Rows.uptoBulkAll]
  | a :: r => by have h1 := bulk_len r; have h2 := bulk_pos a; unfold Rows.uptoBulkAll; rw [List.length_cons]; omega
theorem bulk_slice (es sp : List (DataW H)) : Rows.uptoBulkAll es ≤ Rows.uptoBulk (.slice es sp) := by unfold Rows.uptoBulk; omega
theorem bulk_sum (f : Nat → Nat) (D : Nat → DataW H) : ∀ l : List Nat, (∀ i ∈ l, f i ≤ Rows.uptoBulk (D i)) → (l.map f).sum ≤ Rows.uptoBulkAll (l.map D)
  | [], _ => by simp [Rows.uptoBulkAll]
  | i :: l, h => by
    have h1 := bulk_sum f D l (fun j hj => h j (List.mem_cons_of_mem _ hj))
    have h2 := h i List.mem_cons_self
    simp only [List.map_cons, List.sum_cons, Rows.uptoBulkAll]
    omega

/-- bytes that came in -/
theorem open_bytes {W : World} {sp : Nat → Bool} {held : Bool} {fuel : Nat} {cs : List Value} {x : DataW H × List MemPlace} (h : DataW.trod enc Try.prog W 0 sp held fuel 34 cs = some x) :
    ∃ (A : Option Addr) (n c : Nat) (l : List UInt8), cs = [.slice A n c] ∧ Byts W A n l ∧ ((x.1 = .nil ∧ n = 0) ∨ ∃ es spare, x.1 = .slice es spare ∧ es.length = n) := by
  rcases open_slice1 Try.underlying34 cells5 h with ⟨rfl, rfl⟩ | ⟨a, len, cap, m, n, V, D, Pl, rfl, hb, hl, hm, hmm, rfl, hx⟩
  · exact ⟨none, 0, 0, [], rfl, ⟨rfl, .inl rfl⟩, .inl ⟨rfl, rfl⟩⟩
  · have hlm : len ≤ m := by rw [hmm]; split <;> omega
    have each : ∀ i, i < len → ∃ u : UInt8, W.cell? (a.add i) = some (.int .u8 (u.toNat : Int)) := fun i hi => by
      obtain ⟨h1, h2⟩ := hx i (by omega)
      obtain ⟨z, hz, _, hw⟩ := DataW.trod_int Try.underlying5 h2
      have hbd := bounds_u8 hw
      refine ⟨UInt8.ofNat z.toNat, ?_⟩
      rw [h1, (List.cons.inj hz).1]
      have : ((UInt8.ofNat z.toNat).toNat : Int) = z := by
        rw [UInt8.toNat_ofNat', Nat.mod_eq_of_lt (by omega)]; omega
      rw [this]
    obtain ⟨U, hU⟩ := choose_lt each
    refine ⟨some a, len, cap, (List.range len).map U, rfl, ?_, .inr ⟨_, _, rfl, by simp⟩⟩
    have := row_mk (k := 1) (cs := byteCells1) (by decide) byt_len (w := W) (vs := (List.range len).map U) (a := a) (fun j v hv i c hc => by
      have hj : j < len := by
        rcases Nat.lt_or_ge j len with h1 | h1
        · exact h1
        · rw [List.getElem?_eq_none (by simpa using h1)] at hv; cases hv
      rw [List.getElem?_map, List.getElem?_range hj] at hv
      cases hv
      cases i with
      | succ i => cases hc
      | zero => cases hc; rw [Nat.mul_one, Nat.add_zero]; exact hU j hj)
    rw [List.length_map, List.length_range] at this
    exact this

/-- entries that came in -/
theorem open_ents {W : World} {sp : Nat → Bool} {held : Bool} {fuel : Nat} {cs : List Value} {x : DataW H × List MemPlace} (h : DataW.trod enc Try.prog W 0 sp held fuel 39 cs = some x) :
    ∃ (A : Option Addr) (n c : Nat) (l : List (ByteArray × Int)), cs = [.slice A n c] ∧ Ents W A n l ∧ ((x.1 = .nil ∧ n = 0) ∨ ∃ es spare, x.1 = .slice es spare ∧ es.length = n) := by
  rcases open_slice_pairs Try.underlying39 Try.underlying62 cells58 rfl rfl cells9 cells3 h with ⟨rfl, rfl⟩ | ⟨a, len, cap, m, n, V0, V1, D0, D1, P0, P1, rfl, hb, hl, hm, hmm, rfl, hx⟩
  · exact ⟨none, 0, 0, [], rfl, ⟨rfl, .inl rfl⟩, .inl ⟨rfl, rfl⟩⟩
  · have hlm : len ≤ m := by rw [hmm]; split <;> omega
    have each : ∀ i, i < len → ∃ u : ByteArray × Int, W.cell? (a.add (i * 2)) = some (.string u.1) ∧ W.cell? (a.add (i * 2 + 1)) = some (.int .i64 u.2) := fun i hi => by
      obtain ⟨h1, h2, h3, h4⟩ := hx i (by omega)
      obtain ⟨s, hs, _, _⟩ := DataW.trod_string Try.underlying9 h3
      obtain ⟨z, hz, _, _⟩ := DataW.trod_int Try.underlying3 h4
      exact ⟨(s, z), by rw [h1, (List.cons.inj hs).1], by rw [h2, (List.cons.inj hz).1]⟩
    obtain ⟨U, hU⟩ := choose_lt each
    refine ⟨some a, len, cap, (List.range len).map U, rfl, ?_, .inr ⟨_, _, rfl, by simp⟩⟩
    have := row_mk (k := 2) (cs := entCells) (by decide) ent_len (w := W) (vs := (List.range len).map U) (a := a) (fun j v hv i c hc => by
      have hj : j < len := by
        rcases Nat.lt_or_ge j len with h1 | h1
        · exact h1
        · rw [List.getElem?_eq_none (by simpa using h1)] at hv; cases hv
      rw [List.getElem?_map, List.getElem?_range hj] at hv
      cases hv
      match i, hc with
      | 0, hc => cases hc; exact (hU j hj).1
      | 1, hc => cases hc; exact (hU j hj).2
      | i + 2, hc => simp [entCells] at hc)
    rw [List.length_map, List.length_range] at this
    exact this

/-- no slice and no text in it is greater than the reach -/
def Sized (t : TypeId) (d : DataW H) : Prop := ∀ n ∈ d.weights Try.prog t, n ≤ reachBytes
theorem sized_of {ts : List TypeId} {ds : List (DataW H)} (hz : (DataW.weightsEach Try.prog ts ds).all (· ≤ reachBytes) = true) {j : Nat} {t : TypeId} {d : DataW H} (ht : ts[j]? = some t) (hd : ds[j]? = some d) : Sized t d := by
  intro n hn
  have := List.all_eq_true.1 hz n (DataW.weights_mem_each ht hd n hn)
  simpa using this
theorem sized_len {t e : TypeId} {es spare : List (DataW H)} (hu : Try.prog.underlying t = some (.slice e)) (h : Sized t (.slice es spare)) : (es.length + spare.length) * Try.prog.bytesOf e ≤ reachBytes := by
  apply h
  unfold DataW.weights
  rw [hu]
  exact List.mem_cons_self
theorem weights_mem_all {e : TypeId} : ∀ {ds : List (DataW H)} {d : DataW H}, d ∈ ds → ∀ n ∈ d.weights Try.prog e, n ∈ DataW.weightsAll Try.prog e ds
  | [], d, hd, n, hn => by cases hd
  | a :: r, d, hd, n, hn => by
    unfold DataW.weightsAll
    rcases List.mem_cons.1 hd with h | h
    · subst h; exact List.mem_append.2 (.inl hn)
    · exact List.mem_append.2 (.inr (weights_mem_all h n hn))
theorem sized_elem {t e : TypeId} {es spare : List (DataW H)} (hu : Try.prog.underlying t = some (.slice e)) (h : Sized t (.slice es spare)) {d : DataW H} (hd : d ∈ es) : Sized e d := by
  intro n hn
  apply h
  unfold DataW.weights
  rw [hu]
  exact List.mem_cons_of_mem _ (List.mem_append.2 (.inl (weights_mem_all hd n hn)))
theorem sized_field {t : TypeId} {fs : Array Field} {ps : List (DataW H)} (hu : Try.prog.underlying t = some (.struct fs)) (h : Sized t (.agg ps)) {j : Nat} {u : TypeId} {d : DataW H} (ht : (fs.toList.map (·.type))[j]? = some u) (hd : ps[j]? = some d) : Sized u d := by
  intro n hn
  apply h
  unfold DataW.weights
  rw [hu]
  exact DataW.weights_mem_each ht hd n hn

set_option maxRecDepth 4000 in
/-- a node that came in -/
theorem open_node_b {W : World} {sp : Nat → Bool} {held : Bool} {fuel : Nat} {cs : List Value} {x : DataW H × List MemPlace} (h : DataW.trod enc Try.prog W 0 sp held fuel 41 cs = some x) :
    ∃ (v : NV) (y : M.Nd), cs = v.cells ∧ Cont W v y ∧ (Sized 41 x.1 → y.data.length ≤ reachBytes ∧ y.ents.length * 24 ≤ reachBytes) ∧ y.ents.length ≤ Rows.uptoBulk x.1 := by
  obtain ⟨ys, m, _, rfl, hl, hys, hf⟩ := DataW.trod_struct Try.underlying41 h
  rw [cells26] at hl
  obtain ⟨c0, c1, c2, c3, c4, rfl⟩ : ∃ a b c d e, cs = [a, b, c, d, e] := by
    match cs, hl with
    | [a, b, c, d, e], _ => exact ⟨a, b, c, d, e, rfl⟩
  have f0 : DataW.trod enc Try.prog W 0 sp held m 3 (([c0, c1, c2, c3, c4].drop 0).take (Try.prog.cellsOf 3)) = ys[0]? := hf 0 _ rfl
  rw [cells3] at f0
  change DataW.trod enc Try.prog W 0 sp held m 3 [c0] = ys[0]? at f0
  have f1 : DataW.trod enc Try.prog W 0 sp held m 4 (([c0, c1, c2, c3, c4].drop 1).take (Try.prog.cellsOf 4)) = ys[1]? := hf 1 _ rfl
  rw [cells4] at f1
  change DataW.trod enc Try.prog W 0 sp held m 4 [c1] = ys[1]? at f1
  have f2 : DataW.trod enc Try.prog W 0 sp held m 34 (([c0, c1, c2, c3, c4].drop 2).take (Try.prog.cellsOf 34)) = ys[2]? := hf 2 _ rfl
  rw [cells23] at f2
  change DataW.trod enc Try.prog W 0 sp held m 34 [c2] = ys[2]? at f2
  have f3 : DataW.trod enc Try.prog W 0 sp held m 39 (([c0, c1, c2, c3, c4].drop 3).take (Try.prog.cellsOf 39)) = ys[3]? := hf 3 _ rfl
  rw [cells24] at f3
  change DataW.trod enc Try.prog W 0 sp held m 39 [c3] = ys[3]? at f3
  have f4 : DataW.trod enc Try.prog W 0 sp held m 3 (([c0, c1, c2, c3, c4].drop 4).take (Try.prog.cellsOf 3)) = ys[4]? := hf 4 _ rfl
  rw [cells3] at f4
  change DataW.trod enc Try.prog W 0 sp held m 3 [c4] = ys[4]? at f4
  have hlen : ys.length = 5 := hys
  have g : ∀ k, k < 5 → ∃ y, ys[k]? = some y := fun k hk => ⟨_, List.getElem?_eq_getElem (by omega)⟩
  obtain ⟨y0, g0⟩ := g 0 (by omega)
  obtain ⟨y1, g1⟩ := g 1 (by omega)
  obtain ⟨y2, g2⟩ := g 2 (by omega)
  obtain ⟨y3, g3⟩ := g 3 (by omega)
  obtain ⟨y4, g4⟩ := g 4 (by omega)
  rw [g0] at f0; rw [g1] at f1; rw [g2] at f2; rw [g3] at f3; rw [g4] at f4
  obtain ⟨z0, e0, _, _⟩ := DataW.trod_int Try.underlying3 f0
  obtain ⟨b1, e1, _⟩ := DataW.trod_bool Try.underlying4 f1
  obtain ⟨A2, n2, k2, l2, e2, hb2, hd2⟩ := open_bytes f2
  obtain ⟨A3, n3, k3, l3, e3, hb3, hd3⟩ := open_ents f3
  obtain ⟨z4, e4, _, _⟩ := DataW.trod_int Try.underlying3 f4
  cases e0; cases e1; cases e2; cases e3; cases e4
  refine ⟨⟨z0, b1, A2, n2, k2, A3, n3, k3, z4⟩, ⟨z0, b1, l2, l3, z4⟩, rfl, ⟨rfl, rfl, rfl, hb2, hb3⟩, fun hsz => ?_, ?_⟩
  case' refine_2 =>
    show l3.length ≤ _
    rw [← hb3.1]
    have hmem : y3.1 ∈ ys.map (·.1) := List.mem_map.2 ⟨y3, List.mem_of_getElem? g3, rfl⟩
    have hle := bulk_mem hmem
    have hag : Rows.uptoBulk (DataW.agg (ys.map (·.1))) = Rows.uptoBulkAll (ys.map (·.1)) + 1 := by unfold Rows.uptoBulk; rfl
    show n3 ≤ Rows.uptoBulk (DataW.agg (ys.map (·.1)))
    rw [hag]
    rcases hd3 with ⟨_, h0⟩ | ⟨es, spare, he, hn⟩
    · omega
    · rw [he] at hle
      have h1 := bulk_len es
      unfold Rows.uptoBulk at hle
      omega
  have s2 : Sized 34 y2.1 := sized_field (H := H) (j := 2) Try.underlying41 hsz rfl (by rw [List.getElem?_map, g2]; rfl)
  have s3 : Sized 39 y3.1 := sized_field (H := H) (j := 3) Try.underlying41 hsz rfl (by rw [List.getElem?_map, g3]; rfl)
  constructor
  · show l2.length ≤ _
    rw [← hb2.1]
    rcases hd2 with ⟨_, h0⟩ | ⟨es, spare, he, hn⟩
    · rw [h0]; exact Nat.zero_le _
    · rw [he] at s2
      have := sized_len Try.underlying34 s2
      rw [bytes5] at this
      omega
  · show l3.length * 24 ≤ _
    rw [← hb3.1]
    rcases hd3 with ⟨_, h0⟩ | ⟨es, spare, he, hn⟩
    · rw [h0]; exact Nat.zero_le _
    · rw [he] at s3
      have := sized_len Try.underlying39 s3
      rw [bytes58] at this
      omega

theorem open_node {W : World} {sp : Nat → Bool} {held : Bool} {fuel : Nat} {cs : List Value} {x : DataW H × List MemPlace} (h : DataW.trod enc Try.prog W 0 sp held fuel 41 cs = some x) :
    ∃ (v : NV) (y : M.Nd), cs = v.cells ∧ Cont W v y ∧ (Sized 41 x.1 → y.data.length ≤ reachBytes ∧ y.ents.length * 24 ≤ reachBytes) := by
  obtain ⟨v, y, h1, h2, h3, _⟩ := open_node_b h
  exact ⟨v, y, h1, h2, h3⟩

theorem reach_val : reachBytes = 140737488351232 := rfl
theorem small_of {y : M.Nd} (h : y.data.length ≤ reachBytes ∧ y.ents.length * 24 ≤ reachBytes) : Small y ∧ (y.ents.length + 1) * 24 ≤ 140737488355328 := by
  rw [reach_val] at h
  exact ⟨⟨by omega, by omega⟩, by omega⟩

instance : Inhabited NV := ⟨NV.zero⟩
instance : Inhabited M.Nd := ⟨nd0⟩
/-- a tree that came in -/
theorem open_nodes_b {W : World} {sp : Nat → Bool} {held : Bool} {fuel : Nat} {cs : List Value} {x : DataW H × List MemPlace} (h : DataW.trod enc Try.prog W 0 sp held fuel 22 cs = some x) :
    ∃ (A : Option Addr) (n c : Nat) (vs : List NV) (xs : List M.Nd), cs = [.slice A n c] ∧ Tree W A n vs xs ∧ (Sized 22 x.1 → n * 72 ≤ reachBytes ∧ ∀ y ∈ xs, y.data.length ≤ reachBytes ∧ y.ents.length * 24 ≤ reachBytes) ∧ (xs.flatMap fun y => y.ents.map (·.2)).length ≤ Rows.uptoBulk x.1 ∧ xs.length ≤ Rows.uptoBulk x.1 := by
  rcases open_slice Try.underlying22 h with ⟨rfl, rfl⟩ | ⟨a, len, cap, m, n, D, Pl, rfl, hb, hl, hm, hmm, rfl, hx⟩
  · exact ⟨none, 0, 0, [], [], rfl, ⟨⟨rfl, .inl rfl⟩, All2.nil⟩, (fun _ => ⟨by simp, fun y hy => by cases hy⟩), by simp, by simp⟩
  · have hlm : len ≤ m := by rw [hmm]; split <;> omega
    rw [cells26] at hx
    have each : ∀ i, i < len → ∃ q : NV × M.Nd, (∀ (j : Nat) c, q.1.cells[j]? = some c → W.cell? (a.add (i * 5 + j)) = some c) ∧ Cont W q.1 q.2 ∧ (Sized 41 (D i) → q.2.data.length ≤ reachBytes ∧ q.2.ents.length * 24 ≤ reachBytes) ∧ q.2.ents.length ≤ Rows.uptoBulk (D i) := fun i hi => by
      obtain ⟨cs', h1, h2⟩ := hx i (by omega)
      obtain ⟨v, y, rfl, hc, hs, hbk⟩ := open_node_b h2
      obtain ⟨_, _, hcell⟩ := World.cells?_some h1
      refine ⟨(v, y), fun j c hc' => ?_, hc, hs, hbk⟩
      have hj : j < 5 := by
        rcases Nat.lt_or_ge j 5 with h3 | h3
        · exact h3
        · rw [List.getElem?_eq_none (by exact h3)] at hc'; cases hc'
      have := hcell j hj
      rw [show (a.add (i * 5)).add j = a.add (i * 5 + j) from Addr.add_add a _ _] at this
      rw [this]
      exact hc'
    obtain ⟨U, hU⟩ := choose_lt each
    refine ⟨some a, len, cap, (List.range len).map fun i => (U i).1, (List.range len).map fun i => (U i).2, rfl, ⟨?_, by simp, fun j v y hv hy => ?_⟩, (fun hsz => ⟨?_, fun y hy => ?_⟩), ?_, ?_⟩
    · have := row_mk (k := 5) (cs := NV.cells) (by decide) nod_len (w := W) (vs := (List.range len).map fun i => (U i).1) (a := a) (fun j v hv i c hc => by
        have hj : j < len := by
          rcases Nat.lt_or_ge j len with h1 | h1
          · exact h1
          · rw [List.getElem?_eq_none (by simpa using h1)] at hv; cases hv
        rw [List.getElem?_map, List.getElem?_range hj] at hv
        cases hv
        exact (hU j hj).1 i c hc)
      rw [List.length_map, List.length_range] at this
      exact this
    · have hj : j < len := by
        rcases Nat.lt_or_ge j len with h1 | h1
        · exact h1
        · rw [List.getElem?_eq_none (by simpa using h1)] at hv; cases hv
      rw [List.getElem?_map, List.getElem?_range hj] at hv hy
      cases hv; cases hy
      exact (hU j hj).2.1
    · have := sized_len Try.underlying22 hsz
      rw [bytes26, List.length_map, List.length_range] at this
      omega
    · obtain ⟨i, hi, rfl⟩ := List.mem_map.1 hy
      have hi := List.mem_range.1 hi
      exact (hU i hi).2.2.1 (sized_elem Try.underlying22 hsz (List.mem_map.2 ⟨i, List.mem_range.2 hi, rfl⟩))
    · refine Nat.le_trans ?_ (bulk_slice _ _)
      have h1 := bulk_sum (H := H) (fun i => (U i).2.ents.length) D (List.range len) (fun i hi => (hU i (List.mem_range.1 hi)).2.2.2)
      have h2 : (((List.range len).map fun i => (U i).2).flatMap fun y => y.ents.map (·.2)).length = ((List.range len).map fun i => (U i).2.ents.length).sum := by
        rw [List.length_flatMap, List.map_map]
        congr 1
        apply List.map_congr_left
        intro i _
        simp
      rw [h2]
      exact h1
    · refine Nat.le_trans ?_ (bulk_slice _ _)
      have h1 := bulk_len ((List.range len).map D)
      simp only [List.length_map, List.length_range] at h1 ⊢
      exact h1

theorem open_nodes {W : World} {sp : Nat → Bool} {held : Bool} {fuel : Nat} {cs : List Value} {x : DataW H × List MemPlace} (h : DataW.trod enc Try.prog W 0 sp held fuel 22 cs = some x) :
    ∃ (A : Option Addr) (n c : Nat) (vs : List NV) (xs : List M.Nd), cs = [.slice A n c] ∧ Tree W A n vs xs ∧ (Sized 22 x.1 → n * 72 ≤ reachBytes ∧ ∀ y ∈ xs, y.data.length ≤ reachBytes ∧ y.ents.length * 24 ≤ reachBytes) := by
  obtain ⟨A, n, c, vs, xs, h1, h2, h3, _⟩ := open_nodes_b h
  exact ⟨A, n, c, vs, xs, h1, h2, h3⟩

theorem node_val {v : Value} {x : NV} (h : v.cells.toList = x.cells) : v = x.val := by
  cases v <;> simp [Value.cells, NV.cells] at h
  rename_i xs
  rw [NV.val]
  congr 1
  apply Array.ext'
  exact h

theorem trodAll_five {P : Program} {w : World} {base : Nat} {spare : Nat → Bool} {held : Bool} {t t' t'' t3 t4 : TypeId} {args : Array Value} {ds : List (DataW H)} {ps : List MemPlace} (h : DataW.TrodAll enc P w base spare held [t, t', t'', t3, t4] args.toList ds ps) :
    ∃ v v' v'' v3 v4 d d' d'' d3 d4 p p' p'' p3 p4, args = #[v, v', v'', v3, v4] ∧ ds = [d, d', d'', d3, d4] ∧ ps = p ++ p' ++ p'' ++ p3 ++ p4 ∧ DataW.Trod enc P w base spare held t v d p ∧ DataW.Trod enc P w base spare held t' v' d' p' ∧ DataW.Trod enc P w base spare held t'' v'' d'' p'' ∧ DataW.Trod enc P w base spare held t3 v3 d3 p3 ∧ DataW.Trod enc P w base spare held t4 v4 d4 p4 := by
  obtain ⟨v, vs, d, ds', p, q, hargs, rfl, rfl, hd, hrest⟩ := trodAll_cons h
  obtain ⟨v', vs', d', ds2, p', q', rfl, rfl, rfl, hd', hrest'⟩ := trodAll_cons hrest
  obtain ⟨v'', vs'', d'', ds3, p'', q'', rfl, rfl, rfl, hd'', hrest''⟩ := trodAll_cons hrest'
  obtain ⟨v3, vs3, d3, ds4, p3, q3, rfl, rfl, rfl, hd3, hrest3⟩ := trodAll_cons hrest''
  obtain ⟨v4, vs4, d4, ds5, p4, q4, rfl, rfl, rfl, hd4, hrest4⟩ := trodAll_cons hrest3
  obtain ⟨rfl, rfl, rfl⟩ := trodAll_nil hrest4
  exact ⟨v, v', v'', v3, v4, d, d', d'', d3, d4, p, p', p'', p3, p4, by cases args; simp_all, rfl, by simp, hd, hd', hd'', hd3, hd4⟩

/-- a law's end: it answered true, and nothing old has turned -/
theorem post_true {f : Func} {s : ChangeSpec} {W W' : World} {args : Array Value} {ds : List (DataW H)} {before : List MemPlace}
    (hf : f.resultTypes = #[4]) (hp : f.params.toList.all (fun t => Try.prog.readableRec t && decide (t < Try.prog.types.size)) = true) (hv : s.vars = []) (hs : s.fn H ds = { results := [.lit (.bool true)], args := ds })
    (hW : DataW.Whole enc Try.prog f.params.toList s.vars false W args.toList ds [] before) (hb : Below W.heap.size W W') :
    s.post enc Try.prog f false true false false W args (.bool true) W' := by
  have hW2 := hW
  obtain ⟨p, q, hA, hV, rfl, _, _⟩ := hW
  have hlt := hW2.lt
  rw [hv] at hV
  obtain ⟨_, rfl⟩ := trodVars_none hV
  rw [List.append_nil] at hlt
  refine ⟨ds, [], _, [], p, [], hW2, ?_, ?_, ?_, hb.frame _, fun h => by cases h⟩
  · rw [List.append_nil, hs, hf]
    exact trodAll_mk1 (shut_bool Try.underlying4 _)
  · rw [List.append_nil, hs]
    exact trodAll_below laidOut hb hp hA hlt
  · rw [hv, List.append_nil, hs]
    rfl
end
end Go.Proofs.Ytcjobmbbikfnaad
/-
  THE LEAVES: sign, names.Name and the reference's Name tell of any text whether it is a name; the world stays.
-/
namespace Go.Proofs.Ytcjobmbbikfnaad
open Go.RowKit

namespace M
def signB (b : UInt8) : Bool := (97 ≤ b && b ≤ 122) || (48 ≤ b && b ≤ 57)
def nameB (l : List UInt8) : Bool := decide (1 ≤ l.length) && decide (l.length ≤ 8) && l.all signB
end M


theorem signB_int (c : UInt8) : M.signB c = (decide (97 ≤ (c.toNat : Int)) && decide ((c.toNat : Int) ≤ 122) || decide (48 ≤ (c.toNat : Int)) && decide ((c.toNat : Int) ≤ 57)) := by
  unfold M.signB
  have e1 : decide ((97 : UInt8) ≤ c) = decide (97 ≤ (c.toNat : Int)) := by rw [decide_eq_decide, UInt8.le_iff_toNat_le]; simp; omega
  have e2 : decide (c ≤ (122 : UInt8)) = decide ((c.toNat : Int) ≤ 122) := by rw [decide_eq_decide, UInt8.le_iff_toNat_le]; simp; omega
  have e3 : decide ((48 : UInt8) ≤ c) = decide (48 ≤ (c.toNat : Int)) := by rw [decide_eq_decide, UInt8.le_iff_toNat_le]; simp; omega
  have e4 : decide (c ≤ (57 : UInt8)) = decide ((c.toNat : Int) ≤ 57) := by rw [decide_eq_decide, UInt8.le_iff_toNat_le]; simp; omega
  rw [e1, e2, e3, e4]

set_option maxHeartbeats 400000 in
theorem sign_any (c : UInt8) (w : World) :
    Calls Try.prog 66 #[.int .u8 (c.toNat : Int)] w fun e w' => e = .returned (.bool (M.signB c)) ∧ w' = w := by
  have HS : Hid (M.signB c = (decide (97 ≤ (c.toNat : Int)) && decide ((c.toNat : Int) ≤ 122) || decide (48 ≤ (c.toNat : Int)) && decide ((c.toNat : Int) ≤ 57))) := signB_int c
  by_cases h1 : 97 ≤ (c.toNat : Int) <;> by_cases h2 : (c.toNat : Int) ≤ 122 <;> by_cases h3 : 48 ≤ (c.toNat : Int) <;> by_cases h4 : (c.toNat : Int) ≤ 57 <;>
  (go_enter Try.func66, Try.ntmps66
   go_wp2
   go_ret
   exact ⟨ret_bool (by rw [HS.out]; first | omega | (simp; omega)), rfl⟩)

/-- a list's sign by its place -/
theorem take_snoc (s : ByteArray) (k : Nat) (h : k < s.size) : s.data.toList.take (k + 1) = s.data.toList.take k ++ [s[k]] := by
  rw [List.take_succ_eq_append_getElem (by simpa using h)]; rfl
theorem take_all (s : ByteArray) (k : Nat) (h : s.size ≤ k) : s.data.toList.take k = s.data.toList :=
  List.take_of_length_le (by simpa using h)
theorem len_data (s : ByteArray) : s.data.toList.length = s.size := by simp

theorem name_long {s : ByteArray} (h : s.size < 1 ∨ 8 < s.size) : M.nameB s.data.toList = false := by
  have e := len_data s
  unfold M.nameB
  rw [e]
  simp only [Bool.and_eq_false_iff, decide_eq_false_iff_not]
  omega
theorem name_yes {s : ByteArray} (h1 : 1 ≤ s.size) (h2 : s.size ≤ 8) (h : s.data.toList.all M.signB = true) : M.nameB s.data.toList = true := by
  have e := len_data s
  unfold M.nameB
  rw [e, h]
  simp [h1, h2]
theorem name_bad {s : ByteArray} (h : s.data.toList.all M.signB = false) : M.nameB s.data.toList = false := by
  unfold M.nameB
  rw [h]
  simp
theorem all_bad (s : ByteArray) (k : Nat) (h : k < s.size) (hb : M.signB s[k] = false) : s.data.toList.all M.signB = false := by
  rw [List.all_eq_false]
  have hm : s.data.toList[k]'(by simpa using h) ∈ s.data.toList := List.getElem_mem _
  exact ⟨s[k], hm, by simp [hb]⟩

set_option maxHeartbeats 400000 in
theorem name_any (s : ByteArray) (w : World) (hs : s.size ≤ maxLen) :
    Calls Try.prog 54 #[.string s] w fun e w' => e = .returned (.bool (M.nameB s.data.toList)) ∧ w' = w := by
  unfold maxLen at hs
  by_cases h1 : 1 ≤ s.size
  · by_cases h2 : s.size ≤ 8
    · go_enter Try.func54, Try.ntmps54
      go_wp2
      go_loop [14] (fun i => ∃ k : Nat, k ≤ s.size ∧ i = .int .i64 k ∧ (s.data.toList.take k).all M.signB = true) (fun i => s.size - (intOf i).toNat)
      case atStart => exact ⟨0, Nat.zero_le _, rfl, rfl⟩
      case round =>
        obtain ⟨k, hk, rfl, hall⟩ := hrel
        have HA : Hid ((s.data.toList.take k).all M.signB = true) := hall
        clear hall
        by_cases hlt : k < s.size
        · cases hb : M.signB s[k]
          · go_wp2_with (go_at_call 66; refine (sign_any _ _).mono ?_; rintro e w' ⟨rfl, rfl⟩)
            go_ret
            exact ⟨ret_bool (name_bad (all_bad s k hlt hb)).symm, rfl⟩
          · go_wp2_with (go_at_call 66; refine (sign_any _ _).mono ?_; rintro e w' ⟨rfl, rfl⟩)
            go_round
            case rel => exact ⟨k + 1, by omega, by go_num, by rw [take_snoc s k hlt, List.all_append, HA.out]; simp [hb]⟩
            case measure => simp [intOf]; omega
        · go_wp2
          go_ret
          exact ⟨ret_bool (name_yes h1 h2 (by have := HA.out; rwa [take_all s k (by omega)] at this)).symm, rfl⟩
    · go_enter Try.func54, Try.ntmps54
      go_wp2
      go_ret
      exact ⟨ret_bool (name_long (by omega)).symm, rfl⟩
  · go_enter Try.func54, Try.ntmps54
    go_wp2
    go_ret
    exact ⟨ret_bool (name_long (by omega)).symm, rfl⟩

theorem sign_no (c : UInt8) (h : (¬ 97 ≤ (c.toNat : Int) ∨ ¬ (c.toNat : Int) ≤ 122) ∧ (¬ 48 ≤ (c.toNat : Int) ∨ ¬ (c.toNat : Int) ≤ 57)) : M.signB c = false := by
  rw [signB_int]; simp; omega
theorem sign_yes (c : UInt8) (h : (97 ≤ (c.toNat : Int) ∧ (c.toNat : Int) ≤ 122) ∨ (48 ≤ (c.toNat : Int) ∧ (c.toNat : Int) ≤ 57)) : M.signB c = true := by
  rw [signB_int]; simp; omega

set_option maxHeartbeats 400000 in
theorem refName_any (s : ByteArray) (w : World) (hs : s.size ≤ maxLen) :
    Calls Try.prog 27 #[.string s] w fun e w' => e = .returned (.bool (M.nameB s.data.toList)) ∧ w' = w := by
  unfold maxLen at hs
  go_enter Try.func27, Try.ntmps27
  go_wp2
  go_loop [7] (fun i => ∃ k : Nat, k ≤ s.size ∧ i = .int .i64 k ∧ (s.data.toList.take k).all M.signB = true) (fun i => s.size - (intOf i).toNat)
  case atStart => exact ⟨0, Nat.zero_le _, rfl, rfl⟩
  case round =>
    obtain ⟨k, hk, rfl, hall⟩ := hrel
    have HA : Hid ((s.data.toList.take k).all M.signB = true) := hall
    clear hall
    by_cases hlt : k < s.size
    · by_cases h1 : 97 ≤ (s[k].toNat : Int) <;> by_cases h2 : (s[k].toNat : Int) ≤ 122 <;> by_cases h3 : 48 ≤ (s[k].toNat : Int) <;> by_cases h4 : (s[k].toNat : Int) ≤ 57 <;>
      first
      | (exfalso; omega)
      | (have HB : Hid (M.signB s[k] = false) := sign_no _ (by omega)
         go_wp2
         go_ret
         exact ⟨ret_bool (name_bad (all_bad s k hlt HB.out)).symm, rfl⟩)
      | (have HB : Hid (M.signB s[k] = true) := sign_yes _ (by omega)
         go_wp2
         go_round
         case rel => exact ⟨k + 1, by omega, by go_num, by rw [take_snoc s k hlt, List.all_append, HA.out]; simp [HB.out]⟩
         case measure => simp [intOf]; omega)
    · have HB : Hid (s.data.toList.all M.signB = true) := by have := HA.out; rwa [take_all s k (by omega)] at this
      by_cases h1 : 1 ≤ s.size
      · by_cases h2 : s.size ≤ 8
        · go_wp2
          go_ret
          exact ⟨ret_bool (by rw [name_yes h1 h2 HB.out]; first | rfl | (simp; omega)), rfl⟩
        · go_wp2
          go_ret
          exact ⟨ret_bool (by rw [name_long (s := s) (by omega)]; first | rfl | (simp; omega)), rfl⟩
      · go_wp2
        go_ret
        exact ⟨ret_bool (name_long (by omega)).symm, rfl⟩
end Go.Proofs.Ytcjobmbbikfnaad
/-
  PLAIN MATHEMATICS of chapter 3: what acts are, and what comes of them.
-/
namespace Go.Proofs.Ytcjobmbbikfnaad
namespace M
/-- an act -/
structure Act where
  kind : Int
  fid : Int
  dir : Int
  name : ByteArray
  to : Int
  toName : ByteArray
  data : List UInt8

def withV (x : Nd) (v : Int) : Nd := { x with ver := v }
/-- a directory that must be there -/
def dirS (xs : List Nd) (f : Int) : Int × Nd :=
  match find xs f with
  | none => (12, nd0)
  | some x => if x.dir then (0, x) else (8, nd0)
/-- a name that must be free -/
def freeS (x : Nd) (s : ByteArray) : Int := if (look x.ents s).isSome || !nameB s.data.toList then 7 else if 6 ≤ x.ents.length then 5 else 0
/-- the directory, whose name must lead there -/
def holdS (xs : List Nd) (d : Int) (s : ByteArray) (f : Int) : Int × Nd :=
  if (dirS xs d).1 = 0 then
    match look (dirS xs d).2.ents s with
    | none => (6, nd0)
    | some e => if e.2 = f then (0, (dirS xs d).2) else (13, nd0)
  else ((dirS xs d).1, nd0)
theorem dir_none {xs : List Nd} {f : Int} (h : find xs f = none) : dirS xs f = (12, nd0) := by unfold dirS; rw [h]
theorem dir_file {xs : List Nd} {f : Int} {x : Nd} (h : find xs f = some x) (hd : x.dir = false) : dirS xs f = (8, nd0) := by unfold dirS; rw [h]; simp [hd]
theorem dir_yes {xs : List Nd} {f : Int} {x : Nd} (h : find xs f = some x) (hd : x.dir = true) : dirS xs f = (0, x) := by unfold dirS; rw [h]; simp [hd]
theorem dir_ok {xs : List Nd} {f : Int} (h : (dirS xs f).1 = 0) : find xs f = some (dirS xs f).2 ∧ (dirS xs f).2.dir = true := by
  unfold dirS at *
  cases hx : find xs f with
  | none => rw [hx] at h; simp at h
  | some x =>
    rw [hx] at h
    simp only at h ⊢
    split at h
    · rename_i hd; simp [hd]
    · simp at h
theorem find_mem {xs : List Nd} {f : Int} {x : Nd} (h : find xs f = some x) : x ∈ xs ∧ x.fid = f := by
  unfold find at h
  exact ⟨List.mem_of_find?_eq_some h, by have := List.find?_some h; simpa using this⟩
def bringS (xs : List Nd) (a : Act) (v : Int) : Int × List Nd :=
  if (dirS xs a.dir).1 ≠ 0 then ((dirS xs a.dir).1, [])
  else if freeS (dirS xs a.dir).2 a.name ≠ 0 then (freeS (dirS xs a.dir).2 a.name, [])
  else if a.fid = 0 ∨ (find xs a.fid).isSome then (13, [])
  else if 24 ≤ xs.length then (5, [])
  else (0, putN (putN xs (withV { (dirS xs a.dir).2 with ents := putE (dirS xs a.dir).2.ents (a.name, a.fid) } v)) ⟨a.fid, decide (a.kind = 2), [], [], v⟩)
def storeS (xs : List Nd) (a : Act) (v : Int) : Int × List Nd :=
  match find xs a.fid with
  | none => (12, [])
  | some x => if x.dir then (9, []) else if 20 < a.data.length then (4, []) else (0, putN xs (withV { x with data := a.data } v))
def removeS (xs : List Nd) (a : Act) (v : Int) : Int × List Nd :=
  if (holdS xs a.dir a.name a.fid).1 ≠ 0 then ((holdS xs a.dir a.name a.fid).1, [])
  else match find xs a.fid with
  | none => (12, [])
  | some x => if 0 < x.ents.length then (10, []) else (0, dropN (putN xs (withV { (holdS xs a.dir a.name a.fid).2 with ents := dropE (holdS xs a.dir a.name a.fid).2.ents a.name } v)) a.fid)
/-- where a name comes from, without it; and where it goes to -/
def fromS (xs : List Nd) (a : Act) : Nd := { (holdS xs a.dir a.name a.fid).2 with ents := dropE (holdS xs a.dir a.name a.fid).2.ents a.name }
def toS (xs : List Nd) (a : Act) : Nd := if a.to = a.dir then fromS xs a else (dirS xs a.to).2
open Classical in
noncomputable def renameS (xs : List Nd) (a : Act) (v : Int) : Int × List Nd :=
  if (holdS xs a.dir a.name a.fid).1 ≠ 0 then ((holdS xs a.dir a.name a.fid).1, [])
  else if (dirS xs a.to).1 ≠ 0 then ((dirS xs a.to).1, [])
  else if freeS (toS xs a) a.toName ≠ 0 then (freeS (toS xs a) a.toName, [])
  else if (find xs a.fid).isNone then (12, [])
  else if Reach xs a.fid a.to then (11, [])
  else (0, putN (putN xs (withV (fromS xs a) v)) (withV { toS xs a with ents := putE (toS xs a).ents (a.toName, a.fid) } v))
noncomputable def applyS (xs : List Nd) (a : Act) (v : Int) : Int × List Nd :=
  if a.kind = 1 ∨ a.kind = 2 then bringS xs a v
  else if a.kind = 3 then storeS xs a v
  else if a.kind = 4 then removeS xs a v
  else if a.kind = 5 then renameS xs a v
  else (1, [])
end M
end Go.Proofs.Ytcjobmbbikfnaad
/-
  PACKAGE acts, its small functions: has, directory, put, free.
-/
namespace Go.Proofs.Ytcjobmbbikfnaad
open Go.RowKit

theorem OwnN.alloc {w : World} {B : Nat} {v : NV} {x : M.Nd} (h : OwnN w B v x) (o : Obj) : OwnN (w.alloc o) B v x := ⟨h.1, h.2.1, h.2.2.1, h.2.2.2.1.alloc _, h.2.2.2.2.alloc _⟩
theorem OwnN.put5 {w : World} {B : Nat} {v : NV} {x : M.Nd} (h : OwnN w B v x) {s : Nat} (hs : s < B) (o : Nat) (y : NV) : OwnN (put5 w s o y) B v x := ⟨h.1, h.2.1, h.2.2.1, put5_own h.2.2.2.1 hs _ _, put5_own h.2.2.2.2 hs _ _⟩
theorem small_nd0 : Small nd0 := ⟨by simp [nd0], by simp [nd0]⟩
theorem Found.small {xs : List M.Nd} {t : Int} {x : M.Nd} {b : Bool} (h : Found xs t x b) (hs : ∀ x ∈ xs, Small x) : Small x := by
  cases b
  · rw [h.2.1 rfl]; exact small_nd0
  · exact hs x (h.1 rfl).1

theorem has_any (A : Option Addr) (n c : Nat) (vs : List NV) (xs : List M.Nd) (t : Int) (w : World) (ht : Tree w A n vs xs) (hn : n * 72 ≤ 140737488355328) (hs : ∀ x ∈ xs, Small x) :
    Calls Try.prog 45 #[.slice A n c, .int .i64 t] w fun e w' => ∃ b : Bool, e = .returned (.bool b) ∧ (M.RsN xs → b = (M.find xs t).isSome) ∧ Below w.heap.size w w' := by
  go_enter Try.func45, Try.ntmps45
  go_wp2_with (fail)
  refine (find_gen A n c vs xs t w ht hn hs).mono ?_
  rintro e w1 ⟨v, x, b, rfl, ho, hf, hb⟩
  have HB : Hid (Below w.heap.size w w1) := hb
  have HF : Hid (Found xs t x b) := hf
  clear hb hf ho
  go_wp2
  go_ret
  exact ⟨b, rfl, fun hr => (HF.out.2.2 hr).1, HB.out.alloc HB.out.size _⟩

set_option maxHeartbeats 400000 in
theorem dir_any (A : Option Addr) (n c : Nat) (vs : List NV) (xs : List M.Nd) (t : Int) (w : World) (ht : Tree w A n vs xs) (hn : n * 72 ≤ 140737488355328) (hs : ∀ x ∈ xs, Small x) :
    Calls Try.prog 43 #[.slice A n c, .int .i64 t] w fun e w' => ∃ (v : NV) (x : M.Nd) (r : Int), e = .returned (.tuple #[v.val, .int .i64 r]) ∧ OwnN w' w.heap.size v x ∧ Small x ∧ (M.RsN xs → r = (M.dirS xs t).1 ∧ x = (M.dirS xs t).2) ∧ Below w.heap.size w w' := by
  have hwa : ∀ W, W = w.alloc (.cells #[.int .i64 0, .bool false, .slice none 0 0, .slice none 0 0, .int .i64 0] 41) → Below w.heap.size w W ∧ Box W w.heap.size NV.zero ∧ W.heap.size = w.heap.size + 1 := by
    rintro W rfl
    exact ⟨(Below.refl _ _).alloc (Nat.le_refl _) _, Box.new0 w, by simp⟩
  have HW : Hid _ := hwa
  clear hwa
  have HT : Hid (Tree w A n vs xs ∧ ∀ x ∈ xs, Small x) := ⟨ht, hs⟩
  clear ht hs
  go_enter Try.func43, Try.ntmps43
  go_wp2_with (fail)
  obtain ⟨q1, q2, q3⟩ := HW.out _ rfl
  refine (find_gen A n c vs xs t _ (HT.out.1.below (Nat.le_refl _) q1) hn HT.out.2).mono ?_
  rintro e w1 ⟨v, x, b, rfl, ho, hf, hb1⟩
  have hz1 := hb1.size
  rw [q3] at hz1
  have hbw : Below w.heap.size w w1 := q1.trans (hb1.mono (by omega))
  have HX1 : Hid (Box w1 w.heap.size NV.zero) := q2.below hb1 (by omega)
  have HO : Hid (OwnN w1 (w.heap.size + 1) v x) := by rw [q3] at ho; exact ho
  have HF : Hid (Found xs t x b) := hf
  clear q1 q2 q3 hb1 ho hf HW
  obtain ⟨z0, z1, z2, z3, z4, zf, zz⟩ := HX1.out.facts
  have HS : Hid (Small x) := HF.out.small HT.out.2
  cases b
  · have HR : Hid (M.RsN xs → M.dirS xs t = (12, nd0)) := fun hr => M.dir_none (by have h := (HF.out.2.2 hr).1; cases hx : M.find xs t with
      | none => rfl
      | some y => rw [hx] at h; cases h)
    go_wp2
    exact bodyPost_ret (v := .tuple #[NV.zero.val, .int .i64 12]) (by simp [results, Try.results43, go_sem, z0, z1, z2, z3, z4, zz, NV.zero]) rfl ⟨NV.zero, nd0, 12, rfl, own0 _ _, small_nd0, fun hr => by rw [HR.out hr]; exact ⟨rfl, rfl⟩, (put5_below hbw (Nat.le_refl _) 0 NV.zero).alloc (by simp; omega) _⟩
  · have HY : Hid (M.RsN xs → M.find xs t = some x) := fun hr => by
      have h := HF.out.2.2 hr
      cases hx : M.find xs t with
      | none => rw [hx] at h; cases h.1
      | some y => rw [hx] at h; rw [h.2]; rfl
    obtain ⟨fi, di, dA, dn, dc, eA, en, ec, ve⟩ := v
    cases di
    · have HR : Hid (M.RsN xs → M.dirS xs t = (8, nd0)) := fun hr => M.dir_file (HY.out hr) HO.out.2.1.symm
      go_wp2
      exact bodyPost_ret (v := .tuple #[NV.zero.val, .int .i64 8]) (by simp [results, Try.results43, go_sem, z0, z1, z2, z3, z4, zz, NV.zero]) rfl ⟨NV.zero, nd0, 8, rfl, own0 _ _, small_nd0, fun hr => by rw [HR.out hr]; exact ⟨rfl, rfl⟩, (put5_below hbw (Nat.le_refl _) 0 NV.zero).alloc (by simp; omega) _⟩
    · have HR : Hid (M.RsN xs → M.dirS xs t = (0, x)) := fun hr => M.dir_yes (HY.out hr) HO.out.2.1.symm
      go_wp2
      exact bodyPost_ret (v := .tuple #[NV.val ⟨fi, true, dA, dn, dc, eA, en, ec, ve⟩, .int .i64 0]) (by simp [results, Try.results43, go_sem, z0, z1, z2, z3, z4, zz]) rfl ⟨⟨fi, true, dA, dn, dc, eA, en, ec, ve⟩, x, 0, rfl, ((HO.out.put5 (by omega) 0 ⟨fi, true, dA, dn, dc, eA, en, ec, ve⟩).alloc _).mono (by omega), HS.out, fun hr => by rw [HR.out hr]; exact ⟨rfl, rfl⟩, (put5_below hbw (Nat.le_refl _) 0 ⟨fi, true, dA, dn, dc, eA, en, ec, ve⟩).alloc (by simp; omega) _⟩

theorem Cont.ver {w : World} {v : NV} {x : M.Nd} (h : Cont w v x) (ver : Int) : Cont w ⟨v.fid, v.dir, v.dA, v.dn, v.dc, v.eA, v.en, v.ec, ver⟩ (M.withV x ver) := ⟨h.1, h.2.1, rfl, h.2.2.2.1, h.2.2.2.2⟩

theorem vput_any (A : Option Addr) (n c : Nat) (vs : List NV) (xs : List M.Nd) (v : NV) (x : M.Nd) (ver : Int) (w : World) (ht : Tree w A n vs xs) (hn : (n + 1) * 72 ≤ 140737488355328) (hs : ∀ x ∈ xs, Small x) (hc : Cont w v x) (hsx : Small x) :
    Calls Try.prog 46 #[.slice A n c, v.val, .int .i64 ver] w fun e w' => ∃ (B : Option Addr) (m d : Nat) (us : List NV) (ys : List M.Nd), e = .returned (.slice B m d) ∧ m ≤ n + 1 ∧ OwnT w' w.heap.size B m d us ys ∧ Putted xs (M.withV x ver) ys ∧ Below w.heap.size w w' := by
  have HT : Hid (Tree w A n vs xs ∧ (∀ x ∈ xs, Small x) ∧ Cont w v x ∧ Small x) := ⟨ht, hs, hc, hsx⟩
  have hwa : ∀ W, W = w.alloc (.cells #[.int .i64 v.fid, .bool v.dir, .slice v.dA v.dn v.dc, .slice v.eA v.en v.ec, .int .i64 ver] 41) → Below w.heap.size w W := by
    rintro W rfl
    exact (Below.refl _ _).alloc (Nat.le_refl _) _
  have HW : Hid _ := hwa
  clear ht hs hc hsx hwa
  go_enter Try.func46, Try.ntmps46
  go_wp2_with (fail)
  have q1 := HW.out _ rfl
  refine (put_gen A n c vs xs ⟨v.fid, v.dir, v.dA, v.dn, v.dc, v.eA, v.en, v.ec, ver⟩ (M.withV x ver) _ (HT.out.1.below (Nat.le_refl _) q1) hn HT.out.2.1 (Cont.ver (HT.out.2.2.1.below (Nat.le_refl _) q1) ver) HT.out.2.2.2).mono ?_
  rintro e w1 ⟨B, m, d, us, ys, rfl, hm, ho, hp, hb1⟩
  have HR : Hid (m ≤ n + 1 ∧ OwnT w1 w.heap.size B m d us ys ∧ Putted xs (M.withV x ver) ys ∧ Below w.heap.size w w1) := ⟨hm, ho.mono (by simp), hp, q1.trans (hb1.mono (by simp))⟩
  clear hm ho hp hb1 q1 HW
  go_wp2
  go_ret
  exact ⟨B, m, d, us, ys, rfl, HR.out⟩

/-- what free answers -/
def Freed (x : M.Nd) (s : ByteArray) (r : Int) : Prop := (r = 0 → x.ents.length < 6) ∧ (M.RsE x.ents → r = M.freeS x s)
set_option maxHeartbeats 400000 in
theorem free_any (v : NV) (x : M.Nd) (s : ByteArray) (w : World) (hc : Cont w v x) (hs : Small x) (hl : s.size ≤ maxLen) :
    Calls Try.prog 44 #[v.val, .string s] w fun e w' => ∃ r : Int, e = .returned (.int .i64 r) ∧ Freed x s r ∧ Below w.heap.size w w' := by
  have HT : Hid (Cont w v x ∧ Small x ∧ s.size ≤ maxLen) := ⟨hc, hs, hl⟩
  have HW : Hid (Below w.heap.size w (w.alloc (.cells #[.int .i64 v.fid, .bool v.dir, .slice v.dA v.dn v.dc, .slice v.eA v.en v.ec, .int .i64 v.ver] 41)) ∧ Box (w.alloc (.cells #[.int .i64 v.fid, .bool v.dir, .slice v.dA v.dn v.dc, .slice v.eA v.en v.ec, .int .i64 v.ver] 41)) w.heap.size v) := ⟨(Below.refl _ _).alloc (Nat.le_refl _) _, Box.new w v⟩
  clear hc hs hl
  go_enter Try.func44, Try.ntmps44
  go_wp2_with (fail)
  refine (entry_any v x s _ (HT.out.1.below (Nat.le_refl _) HW.out.1) HT.out.2.1).mono ?_
  rintro e w1 ⟨f, b, rfl, hfb, hb1⟩
  have HF : Hid (M.RsE x.ents → b = (M.look x.ents s).isSome) := fun hr => (hfb hr).2
  have HB : Hid (Below w.heap.size w w1 ∧ Box w1 w.heap.size v) := ⟨HW.out.1.trans (hb1.mono (by simp)), HW.out.2.below hb1 (by simp)⟩
  have hen : v.en = x.ents.length := HT.out.1.2.2.2.2.1
  have HEN : Hid (v.en = x.ents.length) := hen
  clear hfb hb1 HW hen
  obtain ⟨z0, z1, z2, z3, z4, zf, zz⟩ := HB.out.2.facts
  have HR : Hid (∀ r : Int, (r = 0 → x.ents.length < 6) → (M.RsE x.ents → r = M.freeS x s) → (Freed x s r ∧ Below w.heap.size w w1)) := fun r h1 h2 => ⟨⟨h1, h2⟩, HB.out.1⟩
  have hu : ∀ (hr : M.RsE x.ents), M.freeS x s = if b || !M.nameB s.data.toList then 7 else if 6 ≤ x.ents.length then 5 else 0 := fun hr => by unfold M.freeS; rw [← HF.out hr]
  have HU : Hid _ := hu
  clear hu
  cases b
  · cases hnb : M.nameB s.data.toList
    · have HV : Hid (M.RsE x.ents → (7 : Int) = M.freeS x s) := fun hr => by rw [HU.out hr, hnb]; rfl
      go_wp2_with (go_at_call 54; refine (name_any s _ HT.out.2.2).mono ?_; rintro e w2 ⟨rfl, hw⟩; rw [hw, hnb]; clear hw)
      go_ret
      exact ⟨7, rfl, HR.out 7 (by omega) HV.out⟩
    · by_cases h6 : 6 ≤ v.en
      · have HV : Hid (M.RsE x.ents → (5 : Int) = M.freeS x s) := fun hr => by rw [HU.out hr, hnb, ← HEN.out, if_neg (by simp), if_pos h6]
        have h6' : (6 : Int) ≤ (v.en : Int) := by omega
        go_wp2_with (go_at_call 54; refine (name_any s _ HT.out.2.2).mono ?_; rintro e w2 ⟨rfl, hw⟩; rw [hw, hnb]; clear hw)
        go_ret
        exact ⟨5, rfl, HR.out 5 (by omega) HV.out⟩
      · have HV : Hid (M.RsE x.ents → (0 : Int) = M.freeS x s) := fun hr => by rw [HU.out hr, hnb, ← HEN.out, if_neg (by simp), if_neg h6]
        have h6' : ¬ (6 : Int) ≤ (v.en : Int) := by omega
        go_wp2_with (go_at_call 54; refine (name_any s _ HT.out.2.2).mono ?_; rintro e w2 ⟨rfl, hw⟩; rw [hw, hnb]; clear hw)
        go_ret
        exact ⟨0, rfl, HR.out 0 (fun _ => by rw [← HEN.out]; omega) HV.out⟩
  · have HV : Hid (M.RsE x.ents → (7 : Int) = M.freeS x s) := fun hr => by rw [HU.out hr]; rfl
    go_wp2_with (fail)
    go_ret
    exact ⟨7, rfl, HR.out 7 (by omega) HV.out⟩
end Go.Proofs.Ytcjobmbbikfnaad
/-
  PACKAGE acts: an act in memory; holder.
-/
namespace Go.Proofs.Ytcjobmbbikfnaad
open Go.RowKit

/-- an act's value -/
structure AV where
  kind : Int
  fid : Int
  dir : Int
  name : ByteArray
  to : Int
  toName : ByteArray
  dA : Option Addr
  dn : Nat
  dc : Nat
def AV.cells (a : AV) : List Value := [.int .i64 a.kind, .int .i64 a.fid, .int .i64 a.dir, .string a.name, .int .i64 a.to, .string a.toName, .slice a.dA a.dn a.dc]
@[reducible] def AV.val (a : AV) : Value := .agg #[.int .i64 a.kind, .int .i64 a.fid, .int .i64 a.dir, .string a.name, .int .i64 a.to, .string a.toName, .slice a.dA a.dn a.dc]
/-- the value a is the act x -/
def ContA (w : World) (a : AV) (x : M.Act) : Prop := a.kind = x.kind ∧ a.fid = x.fid ∧ a.dir = x.dir ∧ a.name = x.name ∧ a.to = x.to ∧ a.toName = x.toName ∧ Byts w a.dA a.dn x.data
theorem ContA.below {B : Nat} {w w' : World} {a : AV} {x : M.Act} (h : ContA w a x) (hB : w.heap.size ≤ B) (hb : Below B w w') : ContA w' a x :=
  ⟨h.1, h.2.1, h.2.2.1, h.2.2.2.1, h.2.2.2.2.1, h.2.2.2.2.2.1, h.2.2.2.2.2.2.below hB hb⟩
/-- no text of it is too long, nor its bytes -/
def SmallA (x : M.Act) : Prop := x.name.size ≤ maxLen ∧ x.toName.size ≤ maxLen ∧ x.data.length ≤ 140737488355328
def BoxA (w : World) (s : Nat) (a : AV) : Prop := w.heap[s]? = some (.cells #[.int .i64 a.kind, .int .i64 a.fid, .int .i64 a.dir, .string a.name, .int .i64 a.to, .string a.toName, .slice a.dA a.dn a.dc] 36 (0, 0))
theorem BoxA.facts {w : World} {s : Nat} {a : AV} (h : BoxA w s a) : w.cell? ⟨s, 0, none⟩ = some (.int .i64 a.kind) ∧ w.cell? ⟨s, 1, none⟩ = some (.int .i64 a.fid) ∧ w.cell? ⟨s, 2, none⟩ = some (.int .i64 a.dir) ∧ w.cell? ⟨s, 3, none⟩ = some (.string a.name) ∧
    w.cell? ⟨s, 4, none⟩ = some (.int .i64 a.to) ∧ w.cell? ⟨s, 5, none⟩ = some (.string a.toName) ∧ w.cell? ⟨s, 6, none⟩ = some (.slice a.dA a.dn a.dc) ∧ (∀ o, w.frozen? ⟨s, o, none⟩ = false) ∧ s < w.heap.size := by
  unfold BoxA at h
  refine ⟨by simp [World.cell?, h], by simp [World.cell?, h], by simp [World.cell?, h], by simp [World.cell?, h], by simp [World.cell?, h], by simp [World.cell?, h], by simp [World.cell?, h], fun o => by simp [World.frozen?, h], lt_of_block h⟩
theorem BoxA.below {w w' : World} {s B : Nat} {a : AV} (h : BoxA w s a) (hb : Below B w w') (hs : s < B) : BoxA w' s a := by
  unfold BoxA at h ⊢; rw [hb.block s hs]; exact h
theorem BoxA.alloc {w : World} {s : Nat} {a : AV} (h : BoxA w s a) (o : Obj) : BoxA (w.alloc o) s a := by
  unfold BoxA at h ⊢; rw [Below.heap_alloc w o s (lt_of_block h)]; exact h
theorem BoxA.new (w : World) (a : AV) : BoxA (w.alloc (.cells #[.int .i64 a.kind, .int .i64 a.fid, .int .i64 a.dir, .string a.name, .int .i64 a.to, .string a.toName, .slice a.dA a.dn a.dc] 36)) w.heap.size a := heap_alloc_new w _
theorem BoxA.setOther {w : World} {s : Nat} {v : AV} (h : BoxA w s v) {a : Addr} (ha : s ≠ a.block) (u : Value) : BoxA (w.setCell a u) s v := by
  unfold BoxA at h ⊢; rw [Below.heap_setCell _ _ _ _ ha]; exact h
theorem put5_boxA {w : World} {s : Nat} {v : AV} (h : BoxA w s v) {t : Nat} (ht : s ≠ t) (o : Nat) (x : NV) : BoxA (put5 w t o x) s v :=
  ((((h.setOther (by exact ht) _).setOther (by exact ht) _).setOther (by exact ht) _).setOther (by exact ht) _).setOther (by exact ht) _

theorem hold_err {xs : List M.Nd} {d : Int} {s : ByteArray} {f : Int} (h : (M.dirS xs d).1 ≠ 0) : M.holdS xs d s f = ((M.dirS xs d).1, nd0) := by unfold M.holdS; rw [if_neg h]
theorem hold_none {xs : List M.Nd} {d : Int} {s : ByteArray} {f : Int} {x : M.Nd} (h : M.dirS xs d = (0, x)) (hl : M.look x.ents s = none) : M.holdS xs d s f = (6, nd0) := by unfold M.holdS; rw [h, if_pos rfl]; simp [hl]
theorem hold_other {xs : List M.Nd} {d : Int} {s : ByteArray} {f : Int} {x : M.Nd} {e : ByteArray × Int} (h : M.dirS xs d = (0, x)) (hl : M.look x.ents s = some e) (hf : e.2 ≠ f) : M.holdS xs d s f = (13, nd0) := by unfold M.holdS; rw [h, if_pos rfl]; simp [hl, hf]
theorem hold_yes {xs : List M.Nd} {d : Int} {s : ByteArray} {f : Int} {x : M.Nd} {e : ByteArray × Int} (h : M.dirS xs d = (0, x)) (hl : M.look x.ents s = some e) (hf : e.2 = f) : M.holdS xs d s f = (0, x) := by unfold M.holdS; rw [h, if_pos rfl]; simp [hl, hf]
theorem dir_rise {xs : List M.Nd} {d : Int} {x : M.Nd} (hr : M.Rise xs) (h : M.dirS xs d = (0, x)) : M.RsE x.ents := by
  have h1 := M.dir_ok (xs := xs) (f := d) (by rw [h])
  rw [h] at h1
  exact hr.2 x (M.find_mem h1.1).1

set_option maxHeartbeats 1000000 in
theorem holder_any (A : Option Addr) (n c : Nat) (vs : List NV) (xs : List M.Nd) (a : AV) (w : World) (ht : Tree w A n vs xs) (hn : n * 72 ≤ 140737488355328) (hs : ∀ x ∈ xs, Small x) :
    Calls Try.prog 49 #[.slice A n c, a.val] w fun e w' => ∃ (v : NV) (x : M.Nd) (r : Int), e = .returned (.tuple #[v.val, .int .i64 r]) ∧ OwnN w' w.heap.size v x ∧ Small x ∧ (M.Rise xs → r = (M.holdS xs a.dir a.name a.fid).1 ∧ x = (M.holdS xs a.dir a.name a.fid).2) ∧ Below w.heap.size w w' := by
  have hwa : ∀ W, W = (w.alloc (.cells #[.int .i64 a.kind, .int .i64 a.fid, .int .i64 a.dir, .string a.name, .int .i64 a.to, .string a.toName, .slice a.dA a.dn a.dc] 36)).alloc (.cells #[.int .i64 0, .bool false, .slice none 0 0, .slice none 0 0, .int .i64 0] 41) →
      Below w.heap.size w W ∧ BoxA W w.heap.size a ∧ Box W (w.heap.size + 1) NV.zero ∧ W.heap.size = w.heap.size + 2 := by
    rintro W rfl
    refine ⟨((Below.refl _ _).alloc (Nat.le_refl _) _).alloc (by simp) _, (BoxA.new w a).alloc _, ?_, by simp⟩
    have := Box.new0 (w.alloc (.cells #[.int .i64 a.kind, .int .i64 a.fid, .int .i64 a.dir, .string a.name, .int .i64 a.to, .string a.toName, .slice a.dA a.dn a.dc] 36))
    simpa using this
  have HW : Hid _ := hwa
  clear hwa
  have HT : Hid (Tree w A n vs xs ∧ ∀ x ∈ xs, Small x) := ⟨ht, hs⟩
  clear ht hs
  go_enter Try.func49, Try.ntmps49
  go_wp2_with (fail)
  obtain ⟨q1, q2, q3, q4⟩ := HW.out _ rfl
  refine (dir_any A n c vs xs a.dir _ (HT.out.1.below (Nat.le_refl _) q1) hn HT.out.2).mono ?_
  rintro e w1 ⟨v, x, r, rfl, ho, hsx, hf, hb1⟩
  have hz1 := hb1.size
  rw [q4] at hz1
  have HB1 : Hid (Below w.heap.size w w1 ∧ BoxA w1 w.heap.size a ∧ Box w1 (w.heap.size + 1) NV.zero) := ⟨q1.trans (hb1.mono (by omega)), q2.below hb1 (by omega), q3.below hb1 (by omega)⟩
  have HO : Hid (OwnN w1 (w.heap.size + 2) v x ∧ Small x) := by rw [q4] at ho; exact ⟨ho, hsx⟩
  have HF : Hid (M.RsN xs → r = (M.dirS xs a.dir).1 ∧ x = (M.dirS xs a.dir).2) := hf
  clear q1 q2 q3 q4 hb1 ho hf hsx HW
  by_cases hr0 : r = 0
  case' neg =>
    obtain ⟨z0, z1, z2, z3, z4, zf, zz⟩ := HB1.out.2.2.facts
    have r0 : (r == 0) = false := by simp [hr0]
    have r1 : (r != 0) = true := by simp [hr0]
    have HR : Hid (M.Rise xs → M.holdS xs a.dir a.name a.fid = (r, nd0)) := fun hr => by have h := HF.out hr.1; rw [hold_err (by rw [← h.1]; exact hr0), ← h.1]
    clear hr0
    go_wp2
    exact bodyPost_ret (v := .tuple #[NV.zero.val, .int .i64 r]) (by simp [results, Try.results49, go_sem, z0, z1, z2, z3, z4, zz, NV.zero]) rfl ⟨NV.zero, nd0, r, rfl, own0 _ _, small_nd0, fun hr => by rw [HR.out hr]; exact ⟨rfl, rfl⟩, (put5_below HB1.out.1 (s := w.heap.size + 1) (by omega) 0 NV.zero).alloc (by simp; omega) _⟩
  subst hr0
  have HD : Hid (M.Rise xs → M.dirS xs a.dir = (0, x)) := fun hr => by have h := HF.out hr.1; rw [h.1, h.2]
  obtain ⟨a0, a1, a2, a3, a4, a5, a6, af, az⟩ := HB1.out.2.1.facts
  have HV1 : Hid (Box (w1.alloc (.cells #[.int .i64 v.fid, .bool v.dir, .slice v.dA v.dn v.dc, .slice v.eA v.en v.ec, .int .i64 v.ver] 41)) w1.heap.size v ∧ Below w1.heap.size w1 (w1.alloc (.cells #[.int .i64 v.fid, .bool v.dir, .slice v.dA v.dn v.dc, .slice v.eA v.en v.ec, .int .i64 v.ver] 41))) := ⟨Box.new w1 v, (Below.refl _ _).alloc (Nat.le_refl _) _⟩
  go_wp2_with (fail)
  refine (entry_any v x a.name _ (HO.out.1.cont.below (Nat.le_refl _) HV1.out.2) HO.out.2).mono ?_
  rintro e w2 ⟨f, b, rfl, hfb, hb2⟩
  have hz2 := hb2.size
  simp only [World.size_alloc] at hz2
  have hb12 := HV1.out.2.trans (hb2.mono (by simp))
  have HB2 : Hid (Below w.heap.size w w2 ∧ BoxA w2 w.heap.size a ∧ Box w2 (w.heap.size + 1) NV.zero ∧ Box w2 w1.heap.size v ∧ OwnN w2 (w.heap.size + 2) v x) := ⟨HB1.out.1.trans (hb12.mono (by omega)), HB1.out.2.1.below hb12 (by omega), HB1.out.2.2.below hb12 (by omega), HV1.out.1.below hb2 (by simp), HO.out.1.below (Nat.le_refl _) hb12⟩
  have HFB : Hid _ := hfb
  clear hb2 hb12 HV1 hfb a0 a1 a2 a3 a4 a5 a6 af
  obtain ⟨z0, z1, z2, z3, z4, zf, zz⟩ := HB2.out.2.2.1.facts
  obtain ⟨a0, a1, a2, a3, a4, a5, a6, af, az2⟩ := HB2.out.2.1.facts
  obtain ⟨y0, y1, y2, y3, y4, yf, yz⟩ := HB2.out.2.2.2.1.facts
  have HND : Hid (∀ r : Int, (M.Rise xs → M.holdS xs a.dir a.name a.fid = (r, nd0)) → ∃ (v : NV) (x : M.Nd) (r' : Int), Ending.returned (.tuple #[NV.zero.val, .int .i64 r]) = .returned (.tuple #[v.val, .int .i64 r']) ∧ OwnN (put5 w2 (w.heap.size + 1) 0 NV.zero) w.heap.size v x ∧ Small x ∧ (M.Rise xs → r' = (M.holdS xs a.dir a.name a.fid).1 ∧ x = (M.holdS xs a.dir a.name a.fid).2) ∧ Below w.heap.size w (put5 w2 (w.heap.size + 1) 0 NV.zero)) :=
    fun r hr => ⟨NV.zero, nd0, r, rfl, own0 _ _, small_nd0, fun h => by rw [hr h]; exact ⟨rfl, rfl⟩, put5_below HB2.out.1 (s := w.heap.size + 1) (by omega) 0 NV.zero⟩
  cases b
  · have HR : Hid (M.Rise xs → M.holdS xs a.dir a.name a.fid = (6, nd0)) := fun hr => by
      have h := (HFB.out (dir_rise hr (HD.out hr))).2
      cases hl : M.look x.ents a.name with
      | none => exact hold_none (HD.out hr) hl
      | some e => rw [hl] at h; cases h
    go_wp2
    exact bodyPost_ret (v := .tuple #[NV.zero.val, .int .i64 6]) (by simp [results, Try.results49, go_sem, z0, z1, z2, z3, z4, NV.zero]) rfl (HND.out 6 HR.out)
  · have HL : Hid (M.Rise xs → ∃ e, M.look x.ents a.name = some e ∧ f = e.2) := fun hr => by
      have h := HFB.out (dir_rise hr (HD.out hr))
      cases hl : M.look x.ents a.name with
      | none => rw [hl] at h; cases h.2
      | some e => rw [hl] at h; exact ⟨e, rfl, h.1⟩
    by_cases hff : f = a.fid
    · have HR : Hid (M.Rise xs → M.holdS xs a.dir a.name a.fid = (0, x)) := fun hr => by
        obtain ⟨e, h1, h2⟩ := HL.out hr
        exact hold_yes (HD.out hr) h1 (by rw [← h2]; exact hff)
      subst hff
      go_wp2
      exact bodyPost_ret (v := .tuple #[v.val, .int .i64 0]) (by simp [results, Try.results49, go_sem, z0, z1, z2, z3, z4]) rfl ⟨v, x, 0, rfl, (HB2.out.2.2.2.2.put5 (s := w.heap.size + 1) (by omega) 0 v).mono (by omega), HO.out.2, fun hr => by rw [HR.out hr]; exact ⟨rfl, rfl⟩, put5_below HB2.out.1 (s := w.heap.size + 1) (by omega) 0 v⟩
    · have HR : Hid (M.Rise xs → M.holdS xs a.dir a.name a.fid = (13, nd0)) := fun hr => by
        obtain ⟨e, h1, h2⟩ := HL.out hr
        exact hold_other (HD.out hr) h1 (by rw [← h2]; exact hff)
      have r0 : (f == a.fid) = false := by simp [hff]
      have r1 : (f != a.fid) = true := by simp [hff]
      go_wp2
      exact bodyPost_ret (v := .tuple #[NV.zero.val, .int .i64 13]) (by simp [results, Try.results49, go_sem, z0, z1, z2, z3, z4, NV.zero]) rfl (HND.out 13 HR.out)
end Go.Proofs.Ytcjobmbbikfnaad
