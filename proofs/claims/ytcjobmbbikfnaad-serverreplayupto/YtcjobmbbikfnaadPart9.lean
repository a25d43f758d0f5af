/- TEXTS LAID TOGETHER: Ckeep, Roots, Srva, Certa, Certs, Certr, Certt, Vals, Does, Frame -/
import Derived.Test.YtcjobmbbikfnaadPart8
import Derived.Lib.SlBytesConst
import Derived.Deep.Cut
import Derived.Deep.CutRange
import Derived.Deep.RegionWith
import Derived.BigRegion
import Derived.Test.YtcjobmbbikfnaadPart1
import Derived.RegionTactic
import Derived.Test.YtcjobmbbikfnaadPart7
/-
  WHAT STAYS: blocks of cells of one type, while others are written.
-/
namespace Go.Proofs.Ytcjobmbbikfnaad
open Go.RowKit
open Go.ChangeMaps (setBlock)

/-- blocks of cells of that type are as they were -/
def KeepE (e : TypeId) (w w' : World) : Prop := ∀ (g : Nat) (cur : Array Value), w.heap[g]? = some (.cells cur e (0, 0)) → w'.heap[g]? = some (.cells cur e (0, 0))
theorem KeepE.refl (e : TypeId) (w : World) : KeepE e w w := fun _ _ h => h
theorem KeepE.trans {e : TypeId} {a b c : World} (h : KeepE e a b) (k : KeepE e b c) : KeepE e a c := fun g cur hg => k g cur (h g cur hg)
theorem KeepE.below {e : TypeId} {C : Nat} {w w' : World} (hb : Below C w w') (hC : w.heap.size ≤ C) : KeepE e w w' := fun g cur hg => by rw [hb.block g (by have := lt_of_block hg; omega)]; exact hg
theorem KeepE.alloc (e : TypeId) (w : World) (o : Obj) : KeepE e w (w.alloc o) := KeepE.below ((Below.refl _ _).alloc (Nat.le_refl _) o) (Nat.le_refl _)
theorem KeepE.setBlock {e : TypeId} {w : World} {b : Nat} {f : Int → Option Value} (h : IMap w b f) (o : Obj) : KeepE e w (setBlock w b o) := fun g cur hg => by
  obtain ⟨es, c, hb, _⟩ := h
  rw [setBlock_other (fun e => by rw [e, hb] at hg; cases hg)]
  exact hg
theorem KeepE.setCell {e t : TypeId} {w : World} {s : Nat} {cs : Array Value} {fz : Nat × Nat} (h : w.heap[s]? = some (.cells cs t fz)) (ht : t ≠ e) (o : Nat) (u : Value) : KeepE e w (w.setCell ⟨s, o, none⟩ u) := fun g cur hg => by
  rw [Below.heap_setCell _ _ _ _ (fun k => by subst k; rw [h] at hg; injection hg with hg; injection hg with _ hg _; exact ht hg)]
  exact hg
theorem KeepE.grown {w w' : World} {e e' : TypeId} {B' k' : Nat} {v' : Value} {n' : Nat} {xs' : List Value} (h' : w.ownsRow B' e' k' v' n' xs') (hne : e ≠ e') (hg : w.grownBy w' v'.ownBlock) : KeepE e w w' := fun g cur hgc => by
  rw [hg.block g (lt_of_block hgc) (fun k => ?_)]
  · exact hgc
  · rcases h'.2 with ⟨rfl, _⟩ | ⟨g', cap, cur', rfl, _, hh, _⟩
    · cases k
    · cases k
      rw [hh] at hgc
      injection hgc with hgc
      injection hgc with _ hgc _
      exact hne hgc.symm
theorem own_keep {w w' : World} {B : Nat} {e : TypeId} {k : Nat} {v : Value} {n : Nat} {xs : List Value} (h : w.ownsRow B e k v n xs) (hk : KeepE e w w') : w'.ownsRow B e k v n xs := by
  refine ⟨h.1, ?_⟩
  rcases h.2 with h2 | ⟨g, cap, cur, e1, h1, hg, r⟩
  · exact .inl h2
  · exact .inr ⟨g, cap, cur, e1, h1, hk g cur hg, r⟩
theorem OwnN.keep {w w' : World} {B : Nat} {v : NV} {x : M.Nd} (h : OwnN w B v x) (h5 : KeepE 5 w w') (hE : KeepE 62 w w') : OwnN w' B v x :=
  ⟨h.1, h.2.1, h.2.2.1, own_keep h.2.2.2.1 h5, own_keep h.2.2.2.2 hE⟩
theorem OwnT.keep {w w' : World} {B : Nat} {A : Option Addr} {n c : Nat} {vs : List NV} {xs : List M.Nd} (h : OwnT w B A n c vs xs) (hN : KeepE 41 w w') (h5 : KeepE 5 w w') (hE : KeepE 62 w w') : OwnT w' B A n c vs xs :=
  ⟨own_keep h.1 hN, h.2.imp fun _ _ h => h.keep h5 hE⟩
theorem OwnA.keep {w w' : World} {B : Nat} {v : AV} {x : M.Act} (h : OwnA w B v x) (h5 : KeepE 5 w w') : OwnA w' B v x :=
  ⟨h.1, h.2.1, h.2.2.1, h.2.2.2.1, h.2.2.2.2.1, h.2.2.2.2.2.1, own_keep h.2.2.2.2.2.2 h5⟩
theorem OwnAs.keep {w w' : World} {B : Nat} {A : Option Addr} {n c : Nat} {vs : List AV} {xs : List M.Act} (h : OwnAs w B A n c vs xs) (hA : KeepE 36 w w') (h5 : KeepE 5 w w') : OwnAs w' B A n c vs xs :=
  ⟨own_keep h.1 hA, h.2.imp fun _ _ h => h.keep h5⟩
/-- all types but one's own -/
def KeepO (t : TypeId) (w w' : World) : Prop := ∀ e, e ≠ t → KeepE e w w'
theorem KeepO.trans {t : TypeId} {a b c : World} (h : KeepO t a b) (k : KeepO t b c) : KeepO t a c := fun e he => (h e he).trans (k e he)
theorem KeepO.below {t : TypeId} {C : Nat} {w w' : World} (hb : Below C w w') (hC : w.heap.size ≤ C) : KeepO t w w' := fun _ _ => KeepE.below hb hC
theorem KeepO.setBlock {t : TypeId} {w : World} {b : Nat} {f : Int → Option Value} (h : IMap w b f) (o : Obj) : KeepO t w (setBlock w b o) := fun _ _ => KeepE.setBlock h o
theorem KeepO.setCell {t : TypeId} {w : World} {s : Nat} {cs : Array Value} {fz : Nat × Nat} (h : w.heap[s]? = some (.cells cs t fz)) (o : Nat) (u : Value) : KeepO t w (w.setCell ⟨s, o, none⟩ u) := fun _ he => KeepE.setCell h (fun k => he k.symm) o u
theorem IMap.setCell {w : World} {b s : Nat} {f : Int → Option Value} {cs : Array Value} {t : TypeId} {fz : Nat × Nat} (h : IMap w b f) (hs : w.heap[s]? = some (.cells cs t fz)) (o : Nat) (u : Value) : IMap (w.setCell ⟨s, o, none⟩ u) b f := by
  refine h.same (Below.heap_setCell _ _ _ _ (fun k => ?_))
  obtain ⟨es, c, hb, _⟩ := h
  subst k
  rw [hs] at hb
  cases hb
theorem IMap.setBlock {w : World} {b s : Nat} {f : Int → Option Value} (h : IMap w b f) (hs : b ≠ s) (o : Obj) : IMap (setBlock w s o) b f := h.same (setBlock_other hs)
theorem IMap.grown {w w' : World} {b : Nat} {f : Int → Option Value} {e' : TypeId} {B' k' : Nat} {v' : Value} {n' : Nat} {xs' : List Value} (h : IMap w b f) (h' : w.ownsRow B' e' k' v' n' xs') (hg : w.grownBy w' v'.ownBlock) : IMap w' b f := by
  refine h.same (hg.block b h.lt (fun k => ?_))
  obtain ⟨es, c, hb, _⟩ := h
  rcases h'.2 with ⟨rfl, _⟩ | ⟨g', cap, cur', rfl, _, hh, _⟩
  · cases k
  · cases k
    rw [hh] at hb
    cases hb
end Go.Proofs.Ytcjobmbbikfnaad
/-
  A TREE that has but the root; a byte that is written out.
-/
namespace Go.Proofs.Ytcjobmbbikfnaad
open Go.RowKit

def txA : ByteArray := ⟨#[97]⟩
def rootR : List M.Nd := [⟨0, true, [], [], 0⟩]
theorem rise_root : M.Rise rootR := ⟨List.pairwise_singleton _ _, fun x hx => by rw [List.mem_singleton.1 hx]; exact List.Pairwise.nil⟩
theorem good_root : Good rootR := ⟨rise_root, fun x hx => by rw [List.mem_singleton.1 hx]; exact ⟨by simp, by simp⟩, by decide⟩
theorem tree_root (w : World) : ∀ W, W = w.alloc (.cells #[.int .i64 0, .bool true, .slice none 0 0, .slice none 0 0, .int .i64 0] 41) → Tree W (some ⟨w.heap.size, 0, none⟩) 1 [⟨0, true, none, 0, 0, none, 0, 0, 0⟩] rootR ∧ Below w.heap.size w W ∧ W.heap.size = w.heap.size + 1 := by
  rintro W rfl
  have ho : OwnT (w.alloc (.cells #[.int .i64 0, .bool true, .slice none 0 0, .slice none 0 0, .int .i64 0] 41)) w.heap.size (some ⟨w.heap.size, 0, none⟩) 1 1 [⟨0, true, none, 0, 0, none, 0, 0, 0⟩] rootR :=
    ⟨World.ownsRow_lit w #[.int .i64 0, .bool true, .slice none 0 0, .slice none 0 0, .int .i64 0] 1 (Nat.le_refl _) (by decide) rfl, All2.one ⟨rfl, rfl, rfl, World.ownsRow_nil _ _ _ _, World.ownsRow_nil _ _ _ _⟩⟩
  exact ⟨ho.tree, (Below.refl _ _).alloc (Nat.le_refl _) _, by simp⟩

theorem byts_lit (w : World) (u : UInt8) : Byts (w.alloc (.cells #[.int .u8 (u.toNat : Int)] 5 (1, 2))) (some ⟨w.heap.size, 0, none⟩) 1 [u] := by
  refine ⟨rfl, .inr ⟨w.heap.size, 0, rfl, by simp, fun j v hv i c hc => ?_⟩⟩
  cases j with
  | succ j => cases hv
  | zero =>
    cases hv
    cases i with
    | succ i => cases hc
    | zero =>
      cases hc
      have h := heap_alloc_new w (.cells #[.int .u8 (u.toNat : Int)] 5 (1, 2))
      show World.cell? _ ⟨w.heap.size, 0, none⟩ = _
      unfold World.cell?
      rw [h]
      rfl
end Go.Proofs.Ytcjobmbbikfnaad
/-
  WHAT WAS DONE, in memory: acts, and by whom.
-/
namespace Go.Proofs.Ytcjobmbbikfnaad
open Go.RowKit

namespace M
/-- an act that was done, and by whom -/
structure Past where
  client : Int
  act : Act
/-- a server -/
structure Srv where
  tr : List Nd
  next : Int
  past : List Past
end M

theorem infoP : (Try.prog.info? 71).map (fun i => (i.zero, i.size, i.bytes)) = some (some (.agg #[.int .i64 0, .int .i64 0, .int .i64 0, .int .i64 0, .string ByteArray.empty, .int .i64 0, .string ByteArray.empty, .slice none 0 0]), 8, 96) := by kernel_rfl
structure PV where
  client : Int
  a : AV
def PV.cells (r : PV) : List Value := [.int .i64 r.client, .int .i64 r.a.kind, .int .i64 r.a.fid, .int .i64 r.a.dir, .string r.a.name, .int .i64 r.a.to, .string r.a.toName, .slice r.a.dA r.a.dn r.a.dc]
@[reducible] def PV.val (r : PV) : Value := .agg #[.int .i64 r.client, .int .i64 r.a.kind, .int .i64 r.a.fid, .int .i64 r.a.dir, .string r.a.name, .int .i64 r.a.to, .string r.a.toName, .slice r.a.dA r.a.dn r.a.dc]
@[reducible] def PV.obj (r : PV) : Obj := .cells #[.int .i64 r.client, .int .i64 r.a.kind, .int .i64 r.a.fid, .int .i64 r.a.dir, .string r.a.name, .int .i64 r.a.to, .string r.a.toName, .slice r.a.dA r.a.dn r.a.dc] 71
def PV.zero : PV := ⟨0, AV.zero⟩
theorem past_len (x : PV) : x.cells.length = 8 := rfl
theorem past_one (x : PV) : ∀ u ∈ x.cells, u.oneCell' = true := by intro u hu; simp [PV.cells] at hu; rcases hu with rfl | rfl | rfl | rfl | rfl | rfl | rfl | rfl <;> rfl
def ContP (w : World) (r : PV) (x : M.Past) : Prop := r.client = x.client ∧ ContA w r.a x.act
theorem ContP.below {B : Nat} {w w' : World} {r : PV} {x : M.Past} (h : ContP w r x) (hB : w.heap.size ≤ B) (hb : Below B w w') : ContP w' r x := ⟨h.1, h.2.below hB hb⟩
def BoxP (w : World) (s : Nat) (r : PV) : Prop := w.heap[s]? = some (.cells #[.int .i64 r.client, .int .i64 r.a.kind, .int .i64 r.a.fid, .int .i64 r.a.dir, .string r.a.name, .int .i64 r.a.to, .string r.a.toName, .slice r.a.dA r.a.dn r.a.dc] 71 (0, 0))
theorem BoxP.facts {w : World} {s : Nat} {r : PV} (h : BoxP w s r) : w.cell? ⟨s, 0, none⟩ = some (.int .i64 r.client) ∧ w.cell? ⟨s, 1, none⟩ = some (.int .i64 r.a.kind) ∧ w.cell? ⟨s, 2, none⟩ = some (.int .i64 r.a.fid) ∧ w.cell? ⟨s, 3, none⟩ = some (.int .i64 r.a.dir) ∧ w.cell? ⟨s, 4, none⟩ = some (.string r.a.name) ∧
    w.cell? ⟨s, 5, none⟩ = some (.int .i64 r.a.to) ∧ w.cell? ⟨s, 6, none⟩ = some (.string r.a.toName) ∧ w.cell? ⟨s, 7, none⟩ = some (.slice r.a.dA r.a.dn r.a.dc) ∧ (∀ o, w.frozen? ⟨s, o, none⟩ = false) ∧ s < w.heap.size := by
  unfold BoxP at h
  refine ⟨by simp [World.cell?, h], by simp [World.cell?, h], by simp [World.cell?, h], by simp [World.cell?, h], by simp [World.cell?, h], by simp [World.cell?, h], by simp [World.cell?, h], by simp [World.cell?, h], fun o => by simp [World.frozen?, h], lt_of_block h⟩
theorem BoxP.below {w w' : World} {s B : Nat} {r : PV} (h : BoxP w s r) (hb : Below B w w') (hs : s < B) : BoxP w' s r := by
  unfold BoxP at h ⊢; rw [hb.block s hs]; exact h
theorem BoxP.new (w : World) (r : PV) : BoxP (w.alloc r.obj) w.heap.size r := heap_alloc_new w _
theorem boxP_one (w : World) (r : PV) : ∀ W, W = w.alloc (.cells #[.int .i64 r.client, .int .i64 r.a.kind, .int .i64 r.a.fid, .int .i64 r.a.dir, .string r.a.name, .int .i64 r.a.to, .string r.a.toName, .slice r.a.dA r.a.dn r.a.dc] 71) → Below w.heap.size w W ∧ BoxP W w.heap.size r ∧ W.heap.size = w.heap.size + 1 := by
  rintro W rfl
  exact ⟨(Below.refl _ _).alloc (Nat.le_refl _) _, BoxP.new w r, by simp⟩
theorem boxP_two (w : World) (cl : Int) (a : AV) : ∀ W, W = w.alloc (.cells #[.int .i64 cl, .int .i64 a.kind, .int .i64 a.fid, .int .i64 a.dir, .string a.name, .int .i64 a.to, .string a.toName, .slice a.dA a.dn a.dc] 71) → Below w.heap.size w W ∧ BoxP W w.heap.size ⟨cl, a⟩ ∧ W.heap.size = w.heap.size + 1 := boxP_one w ⟨cl, a⟩
theorem rowP_box {w : World} {s : Nat} {r : PV} (h : BoxP w s r) : Row 8 PV.cells w (some ⟨s, 0, none⟩) 1 [r] := by
  refine ⟨rfl, .inr ⟨s, 0, rfl, lt_of_block h, fun j v hv i c hi => ?_⟩⟩
  obtain ⟨b0, b1, b2, b3, b4, b5, b6, b7, bf, bz⟩ := h.facts
  cases j with
  | succ j => cases hv
  | zero =>
    cases hv
    match i, hi with
    | 0, hi => cases hi; exact b0
    | 1, hi => cases hi; exact b1
    | 2, hi => cases hi; exact b2
    | 3, hi => cases hi; exact b3
    | 4, hi => cases hi; exact b4
    | 5, hi => cases hi; exact b5
    | 6, hi => cases hi; exact b6
    | 7, hi => cases hi; exact b7
    | i + 8, hi => cases hi
abbrev Pasts := Row 8 PV.cells
theorem Pasts.at {w : World} {A : Option Addr} {n : Nat} {vs : List PV} (h : Pasts w A n vs) {j : Nat} (hj : j < n) :
    ∃ b o v, A = some ⟨b, o, none⟩ ∧ b < w.heap.size ∧ vs[j]? = some v ∧ w.cell? ⟨b, o + j * 8, none⟩ = some (.int .i64 v.client) ∧ w.cell? ⟨b, o + j * 8 + 1, none⟩ = some (.int .i64 v.a.kind) ∧ w.cell? ⟨b, o + j * 8 + 2, none⟩ = some (.int .i64 v.a.fid) ∧
      w.cell? ⟨b, o + j * 8 + 3, none⟩ = some (.int .i64 v.a.dir) ∧ w.cell? ⟨b, o + j * 8 + 4, none⟩ = some (.string v.a.name) ∧ w.cell? ⟨b, o + j * 8 + 5, none⟩ = some (.int .i64 v.a.to) ∧ w.cell? ⟨b, o + j * 8 + 6, none⟩ = some (.string v.a.toName) ∧ w.cell? ⟨b, o + j * 8 + 7, none⟩ = some (.slice v.a.dA v.a.dn v.a.dc) := by
  obtain ⟨b, o, v, e, hlt, hv, hc⟩ := Row.at h hj
  exact ⟨b, o, v, e, hlt, hv, hc 0 _ rfl, hc 1 _ rfl, hc 2 _ rfl, hc 3 _ rfl, hc 4 _ rfl, hc 5 _ rfl, hc 6 _ rfl, hc 7 _ rfl⟩
def TreeP (w : World) (A : Option Addr) (n : Nat) (vs : List PV) (xs : List M.Past) : Prop := Pasts w A n vs ∧ All2 (ContP w) vs xs
theorem TreeP.below {B : Nat} {w w' : World} {A : Option Addr} {n : Nat} {vs : List PV} {xs : List M.Past} (h : TreeP w A n vs xs) (hB : w.heap.size ≤ B) (hb : Below B w w') : TreeP w' A n vs xs :=
  ⟨h.1.below hB hb, h.2.imp fun _ _ h => h.below hB hb⟩
theorem TreeP.len {w : World} {A : Option Addr} {n : Nat} {vs : List PV} {xs : List M.Past} (h : TreeP w A n vs xs) : n = xs.length := by rw [h.1.1, h.2.1]
theorem TreeP.nil (w : World) (A : Option Addr) : TreeP w A 0 [] [] := ⟨⟨rfl, .inl rfl⟩, All2.nil⟩
def OwnP (w : World) (B : Nat) (A : Option Addr) (n c : Nat) (vs : List PV) (xs : List M.Past) : Prop := w.ownsRow B 71 8 (.slice A n c) n (vs.flatMap PV.cells) ∧ All2 (fun (r : PV) (x : M.Past) => r.client = x.client ∧ OwnA w B r.a x.act) vs xs
theorem OwnP.tree {w : World} {B : Nat} {A : Option Addr} {n c : Nat} {vs : List PV} {xs : List M.Past} (h : OwnP w B A n c vs xs) : TreeP w A n vs xs :=
  ⟨Row.ofOwn past_len (by decide) h.1, h.2.imp fun _ _ h => ⟨h.1, h.2.cont⟩⟩
theorem OwnP.below {B C : Nat} {w w' : World} {A : Option Addr} {n c : Nat} {vs : List PV} {xs : List M.Past} (h : OwnP w B A n c vs xs) (hC : w.heap.size ≤ C) (hb : Below C w w') : OwnP w' B A n c vs xs :=
  ⟨own_below h.1 hb hC, h.2.imp fun _ _ h => ⟨h.1, h.2.below hC hb⟩⟩
theorem OwnP.mono {B B' : Nat} {w : World} {A : Option Addr} {n c : Nat} {vs : List PV} {xs : List M.Past} (h : OwnP w B A n c vs xs) (hB : B' ≤ B) : OwnP w B' A n c vs xs :=
  ⟨own_mono h.1 hB, h.2.imp fun _ _ h => ⟨h.1, h.2.mono hB⟩⟩
theorem OwnP.nil (w : World) (B : Nat) : OwnP w B none 0 0 [] [] := ⟨World.ownsRow_nil _ _ _ _, All2.nil⟩
theorem OwnP.snoc {w w' : World} {B : Nat} {A : Option Addr} {n c : Nat} {A' : Option Addr} {n' c' : Nat} {vs : List PV} {xs : List M.Past} {r : PV} {x : M.Past} (h : OwnP w B A n c vs xs) (h0 : r.client = x.client) (hr : OwnA w B r.a x.act) (ho : w'.ownsRow B 71 8 (.slice A' n' c') n' (vs.flatMap PV.cells ++ r.cells)) (hg : w.grownBy w' (Value.slice A n c).ownBlock) : OwnP w' B A' n' c' (vs ++ [r]) (xs ++ [x]) := by
  refine ⟨?_, All2.append (h.2.imp fun _ _ k => ⟨k.1, k.2.grown h.1 (by decide) hg⟩) (All2.one ⟨h0, hr.grown h.1 (by decide) hg⟩)⟩
  rw [List.flatMap_append]
  simpa using ho
theorem snoc_belowP {w W w2 : World} {B : Nat} {A : Option Addr} {m c : Nat} {L : List Value} (hb : Below B w W) (hB : B ≤ w.heap.size) (ho : W.ownsRow B 71 8 (.slice A m c) m L) (hg : W.grownBy w2 (Value.slice A m c).ownBlock) : Below B w w2 :=
  Below.grown hb hg (Nat.le_trans hB hb.size) (fun k hk => by
    rcases ho.2 with ⟨e, _⟩ | ⟨g, cap, cur, e, h1, _⟩
    · cases e; cases hk
    · cases e; cases hk; exact h1)
/-- the acts of a client -/
def ofC (c : Int) (l : List M.Act) : List M.Past := l.map fun a => ⟨c, a⟩
theorem ofC_take {c : Int} {l : List M.Act} {k : Nat} {a : M.Act} (h : l[k]? = some a) : ofC c (l.take (k + 1)) = ofC c (l.take k) ++ [⟨c, a⟩] := by
  rw [take_step h]; unfold ofC; rw [List.map_append]; rfl
theorem newT_any (w : World) : Calls Try.prog 22 #[] w fun e w' => ∃ (g : Nat) (vs : List NV), e = .returned (.slice (some ⟨g, 0, none⟩) 1 1) ∧ OwnT w' w.heap.size (some ⟨g, 0, none⟩) 1 1 vs rootR ∧ Below w.heap.size w w' := by
  go_enter Try.func22, Try.ntmps22
  go_wp2
  go_ret
  refine ⟨_, [⟨0, true, none, 0, 0, none, 0, 0, 0⟩], rfl, ⟨World.ownsRow_lit w #[.int .i64 0, .bool true, .slice none 0 0, .slice none 0 0, .int .i64 0] 1 (Nat.le_refl _) (by decide) rfl, All2.one ⟨rfl, rfl, rfl, World.ownsRow_nil _ _ _ _, World.ownsRow_nil _ _ _ _⟩⟩, (Below.refl _ _).alloc (Nat.le_refl _) _⟩
end Go.Proofs.Ytcjobmbbikfnaad
/-
  PACKAGE cert: the state in memory; what it turns, what rests, what is fresh.
-/
namespace Go.Proofs.Ytcjobmbbikfnaad
open Go.RowKit
open Go.ChangeMaps (setBlock)

def intF (f : Int → Option Int) : Int → Option Value := fun k => (f k).map fun x => Value.int .i64 x
def setF (f : Int → Bool) : Int → Option Value := fun k => if f k then some (.agg #[]) else none
/-- the state, in memory -/
structure StM (w : World) (B sb : Nat) (s : M.St) (A : Option Addr) (n c : Nat) (us : List NV) (D : Option Addr) (p q : Nat) (avs : List AV) (b1 b2 b3 : Nat) : Prop where
  box : w.heap[sb]? = some (.cells #[.slice A n c, .int .i64 s.next, .int .i64 s.ver, .slice D p q, .map (some b1), .map (some b2), .map (some b3)] 69 (0, 0))
  tree : OwnT w B A n c us s.tr
  acts : OwnAs w B D p q avs s.done
  m1 : IMap w b1 (intF s.made)
  m2 : IMap w b2 (setF s.tch)
  m3 : IMap w b3 (setF s.ref)
  lo : B ≤ sb ∧ B ≤ b1 ∧ B ≤ b2 ∧ B ≤ b3
  ne : b1 ≠ b2 ∧ b1 ≠ b3 ∧ b2 ≠ b3
theorem StM.facts {w : World} {B sb : Nat} {s : M.St} {A : Option Addr} {n c : Nat} {us : List NV} {D : Option Addr} {p q : Nat} {avs : List AV} {b1 b2 b3 : Nat} (h : StM w B sb s A n c us D p q avs b1 b2 b3) :
    w.cell? ⟨sb, 0, none⟩ = some (.slice A n c) ∧ w.cell? ⟨sb, 1, none⟩ = some (.int .i64 s.next) ∧ w.cell? ⟨sb, 2, none⟩ = some (.int .i64 s.ver) ∧ w.cell? ⟨sb, 3, none⟩ = some (.slice D p q) ∧ w.cell? ⟨sb, 4, none⟩ = some (.map (some b1)) ∧
      w.cell? ⟨sb, 5, none⟩ = some (.map (some b2)) ∧ w.cell? ⟨sb, 6, none⟩ = some (.map (some b3)) ∧ (∀ o, w.frozen? ⟨sb, o, none⟩ = false) ∧ sb < w.heap.size := by
  have hb := h.box
  refine ⟨by simp [World.cell?, hb], by simp [World.cell?, hb], by simp [World.cell?, hb], by simp [World.cell?, hb], by simp [World.cell?, hb], by simp [World.cell?, hb], by simp [World.cell?, hb], fun o => by simp [World.frozen?, hb], lt_of_block hb⟩
theorem StM.below {w w' : World} {B C sb : Nat} {s : M.St} {A : Option Addr} {n c : Nat} {us : List NV} {D : Option Addr} {p q : Nat} {avs : List AV} {b1 b2 b3 : Nat} (h : StM w B sb s A n c us D p q avs b1 b2 b3) (hC : w.heap.size ≤ C) (hb : Below C w w') : StM w' B sb s A n c us D p q avs b1 b2 b3 :=
  ⟨by rw [hb.block sb (by have := lt_of_block h.box; omega)]; exact h.box, h.tree.below hC hb, h.acts.below hC hb, h.m1.below hC hb, h.m2.below hC hb, h.m3.below hC hb, h.lo, h.ne⟩

theorem zeroI (w : World) : (zeroValue 3).run Try.prog w = .ok (.int .i64 0) w := by
  obtain ⟨i3, hi3, hz3, hs3, hb3⟩ := info_parts info3
  simp [zeroValue, typeInfo, hi3, hz3]
theorem infoU : (Try.prog.info? 84).map (fun i => (i.zero, i.size, i.bytes)) = some (some (.agg #[]), 0, 0) := by kernel_rfl
theorem zeroU (w : World) : (zeroValue 84).run Try.prog w = .ok (.agg #[]) w := by
  obtain ⟨i3, hi3, hz3, hs3, hb3⟩ := info_parts infoU
  simp [zeroValue, typeInfo, hi3, hz3]
theorem ask_int {w : World} {b : Nat} {f : Int → Option Int} (h : IMap w b (intF f)) (k : Int) :
    (Instr.lookup 66 (.map (some b)) (.int .i64 k) true).run Try.prog w = .ok (.tuple #[.int .i64 ((f k).getD 0), .bool (f k).isSome]) w := by
  rw [run_lookup_map 66 3 Try.underlying66 (zeroI w) h k true]
  unfold intF
  cases f k <;> rfl
theorem ask_set {w : World} {b : Nat} {f : Int → Bool} (h : IMap w b (setF f)) (k : Int) :
    (Instr.lookup 67 (.map (some b)) (.int .i64 k) true).run Try.prog w = .ok (.tuple #[.agg #[], .bool (f k)]) w := by
  rw [run_lookup_map 67 84 Try.underlying67 (zeroU w) h k true]
  unfold setF
  cases f k <;> rfl

/-- what is turned: the closure's variables -/
theorem turned_any (s : M.St) (a : M.Act) (f : Int) (B sb bm bo bs : Nat) (A : Option Addr) (n c : Nat) (us : List NV) (D : Option Addr) (p q : Nat) (avs : List AV) (b1 b2 b3 : Nat) (w : World) (h : StM w B sb s A n c us D p q avs b1 b2 b3)
    (hm : w.cell? ⟨bm, 0, none⟩ = some (.bool (M.makeB a))) (ho : w.cell? ⟨bo, 0, none⟩ = some (.int .i64 a.fid)) (hp : w.cell? ⟨bs, 0, none⟩ = some (.pointer (some ⟨sb, 0, none⟩))) :
    Calls Try.prog 39 #[.int .i64 f, .pointer (some ⟨bm, 0, none⟩), .pointer (some ⟨bo, 0, none⟩), .pointer (some ⟨bs, 0, none⟩)] w fun e w' => e = .returned (.int .i64 (M.turnS s a f)) ∧ w' = w := by
  obtain ⟨f0, f1, f2, f3, f4, f5, f6, ff, fz⟩ := h.facts
  have hl := ask_int h.m1 f
  by_cases hc : M.makeB a = true
  · rw [hc] at hm
    by_cases he : f = a.fid
    · have HR : Hid (M.turnS s a f = s.next) := by show _ = _; unfold M.turnS; rw [hc]; simp [he]
      have he' : (f == a.fid) = true := by simp [he]
      clear he
      go_enter Try.func39, Try.ntmps39
      go_wp2
      go_ret
      exact ⟨ret_int HR.out.symm, rfl⟩
    · have he' : (f == a.fid) = false := by simp [he]
      cases hmd : s.made f with
      | none =>
        have HR : Hid (M.turnS s a f = f) := by show _ = _; unfold M.turnS; rw [hc, hmd]; simp [he]
        rw [hmd] at hl
        clear he hmd
        go_enter Try.func39, Try.ntmps39
        go_wp2
        go_ret
        exact ⟨ret_int HR.out.symm, rfl⟩
      | some y =>
        have HR : Hid (M.turnS s a f = y) := by show _ = _; unfold M.turnS; rw [hc, hmd]; simp [he]
        rw [hmd] at hl
        clear he hmd
        go_enter Try.func39, Try.ntmps39
        go_wp2
        go_ret
        exact ⟨by rw [HR.out]; rfl, rfl⟩
  · rw [Bool.not_eq_true] at hc
    rw [hc] at hm
    cases hmd : s.made f with
    | none =>
      have HR : Hid (M.turnS s a f = f) := by show _ = _; unfold M.turnS; rw [hc, hmd]; simp
      rw [hmd] at hl
      clear hmd
      go_enter Try.func39, Try.ntmps39
      go_wp2
      go_ret
      exact ⟨ret_int HR.out.symm, rfl⟩
    | some y =>
      have HR : Hid (M.turnS s a f = y) := by show _ = _; unfold M.turnS; rw [hc, hmd]; simp
      rw [hmd] at hl
      clear hmd
      go_enter Try.func39, Try.ntmps39
      go_wp2
      go_ret
      exact ⟨by rw [HR.out]; rfl, rfl⟩

theorem fresh_any (s : M.St) (f : Int) (B sb : Nat) (A : Option Addr) (n c : Nat) (us : List NV) (D : Option Addr) (p q : Nat) (avs : List AV) (b1 b2 b3 : Nat) (w : World) (h : StM w B sb s A n c us D p q avs b1 b2 b3) :
    Calls Try.prog 41 #[.pointer (some ⟨sb, 0, none⟩), .int .i64 f] w fun e w' => e = .returned (.bool (M.freshS s f)) ∧ w' = w := by
  obtain ⟨f0, f1, f2, f3, f4, f5, f6, ff, fz⟩ := h.facts
  have hl := ask_int h.m1 f
  by_cases hn : f < 0
  · have HR : Hid (M.freshS s f = !(s.made f).isSome) := by show _ = _; unfold M.freshS; simp [hn]
    cases hmd : (s.made f).isSome
    all_goals
      rw [hmd] at hl
      have HQ := HR
      unfold Hid at HQ
      rw [hmd] at HQ
      have HS : Hid _ := HQ
      clear HQ HR hmd
      go_enter Try.func41, Try.ntmps41
      go_wp2
      go_ret
      exact ⟨by rw [HS.out]; first | rfl | simp, rfl⟩
  · have HR : Hid (M.freshS s f = false) := by show _ = _; unfold M.freshS; simp [hn]
    go_enter Try.func41, Try.ntmps41
    go_wp2
    go_ret
    exact ⟨by rw [HR.out]; first | rfl | simp [hn], rfl⟩
end Go.Proofs.Ytcjobmbbikfnaad
/-
  PACKAGE cert: the state in memory, as it is written.
-/
namespace Go.Proofs.Ytcjobmbbikfnaad
open Go.RowKit
open Go.ChangeMaps (setBlock)

theorem intF_upd (f : Int → Option Int) (k v : Int) : updF (intF f) k (.int .i64 v) = intF (M.updM f k v) := by
  funext q
  unfold updF intF M.updM
  by_cases h : q = k
  · rw [if_pos h, if_pos h]; rfl
  · rw [if_neg h, if_neg h]
theorem setF_upd (f : Int → Bool) (k : Int) : updF (setF f) k (.agg #[]) = setF (M.updB f [k]) := by
  funext q
  unfold updF setF M.updB
  by_cases h : q = k
  · rw [if_pos h]; simp [h]
  · rw [if_neg h]; simp [h]
theorem updB_snoc (f : Int → Bool) (ks : List Int) (k : Int) : M.updB (M.updB f ks) [k] = M.updB f (ks ++ [k]) := by
  funext q
  unfold M.updB
  simp [Bool.or_assoc]
theorem updB_nil (f : Int → Bool) : M.updB f [] = f := by
  funext q
  unfold M.updB
  simp
section
variable {w : World} {B sb : Nat} {s : M.St} {A : Option Addr} {n c : Nat} {us : List NV} {D : Option Addr} {p q : Nat} {avs : List AV} {b1 b2 b3 : Nat}
theorem StM.apart (h : StM w B sb s A n c us D p q avs b1 b2 b3) : sb ≠ b1 ∧ sb ≠ b2 ∧ sb ≠ b3 := by
  obtain ⟨_, _, e1, _⟩ := h.m1
  obtain ⟨_, _, e2, _⟩ := h.m2
  obtain ⟨_, _, e3, _⟩ := h.m3
  have hb := h.box
  refine ⟨?_, ?_, ?_⟩ <;> (intro e; subst e; first | (rw [hb] at e1; cases e1) | (rw [hb] at e2; cases e2) | (rw [hb] at e3; cases e3))
/-- what a map's new object leaves -/
theorem StM.setMap (h : StM w B sb s A n c us D p q avs b1 b2 b3) {b : Nat} {f : Int → Option Value} (hm : IMap w b f) (hs : sb ≠ b) (o : Obj) :
    (setBlock w b o).heap[sb]? = some (.cells #[.slice A n c, .int .i64 s.next, .int .i64 s.ver, .slice D p q, .map (some b1), .map (some b2), .map (some b3)] 69 (0, 0)) ∧ OwnT (setBlock w b o) B A n c us s.tr ∧ OwnAs (setBlock w b o) B D p q avs s.done :=
  ⟨by rw [setBlock_other hs]; exact h.box, h.tree.keep (.setBlock hm o) (.setBlock hm o) (.setBlock hm o), h.acts.keep (.setBlock hm o) (.setBlock hm o)⟩
theorem StM.made1 (h : StM w B sb s A n c us D p q avs b1 b2 b3) (k v : Int) : ∃ o : Obj, (Instr.mapUpdate 66 (.map (some b1)) (.int .i64 k) (.int .i64 v)).run Try.prog w = .ok () (setBlock w b1 o) ∧ StM (setBlock w b1 o) B sb { s with made := M.updM s.made k v } A n c us D p q avs b1 b2 b3 ∧ Below B w (setBlock w b1 o) ∧ ∀ e, KeepE e w (setBlock w b1 o) := by
  obtain ⟨o, hr, hi⟩ := run_update_map 66 3 Try.underlying66 h.m1 k (.int .i64 v)
  obtain ⟨q1, q2, q3⟩ := h.setMap h.m1 h.apart.1 o
  rw [intF_upd] at hi
  exact ⟨o, hr, ⟨q1, q2, q3, hi, h.m2.setBlock (Ne.symm h.ne.1) o, h.m3.setBlock (Ne.symm h.ne.2.1) o, h.lo, h.ne⟩, setBlock_below (Below.refl _ _) h.lo.2.1 o, fun _ => .setBlock h.m1 o⟩
theorem StM.touch (h : StM w B sb s A n c us D p q avs b1 b2 b3) (k : Int) : ∃ o : Obj, (Instr.mapUpdate 67 (.map (some b2)) (.int .i64 k) (.agg #[])).run Try.prog w = .ok () (setBlock w b2 o) ∧ StM (setBlock w b2 o) B sb { s with tch := M.updB s.tch [k] } A n c us D p q avs b1 b2 b3 ∧ Below B w (setBlock w b2 o) ∧ ∀ e, KeepE e w (setBlock w b2 o) := by
  obtain ⟨o, hr, hi⟩ := run_update_map 67 84 Try.underlying67 h.m2 k (.agg #[])
  obtain ⟨q1, q2, q3⟩ := h.setMap h.m2 h.apart.2.1 o
  rw [setF_upd] at hi
  exact ⟨o, hr, ⟨q1, q2, q3, h.m1.setBlock h.ne.1 o, hi, h.m3.setBlock (Ne.symm h.ne.2.2) o, h.lo, h.ne⟩, setBlock_below (Below.refl _ _) h.lo.2.2.1 o, fun _ => .setBlock h.m2 o⟩
theorem StM.refuse (h : StM w B sb s A n c us D p q avs b1 b2 b3) (k : Int) : ∃ o : Obj, (Instr.mapUpdate 67 (.map (some b3)) (.int .i64 k) (.agg #[])).run Try.prog w = .ok () (setBlock w b3 o) ∧ StM (setBlock w b3 o) B sb { s with ref := M.updB s.ref [k] } A n c us D p q avs b1 b2 b3 ∧ Below B w (setBlock w b3 o) ∧ ∀ e, KeepE e w (setBlock w b3 o) := by
  obtain ⟨o, hr, hi⟩ := run_update_map 67 84 Try.underlying67 h.m3 k (.agg #[])
  obtain ⟨q1, q2, q3⟩ := h.setMap h.m3 h.apart.2.2 o
  rw [setF_upd] at hi
  exact ⟨o, hr, ⟨q1, q2, q3, h.m1.setBlock h.ne.2.1 o, h.m2.setBlock h.ne.2.2 o, hi, h.lo, h.ne⟩, setBlock_below (Below.refl _ _) h.lo.2.2.2 o, fun _ => .setBlock h.m3 o⟩
/-- what a cell of the state leaves -/
theorem StM.cell (h : StM w B sb s A n c us D p q avs b1 b2 b3) (o : Nat) (u : Value) :
    OwnT (w.setCell ⟨sb, o, none⟩ u) B A n c us s.tr ∧ OwnAs (w.setCell ⟨sb, o, none⟩ u) B D p q avs s.done ∧ IMap (w.setCell ⟨sb, o, none⟩ u) b1 (intF s.made) ∧ IMap (w.setCell ⟨sb, o, none⟩ u) b2 (setF s.tch) ∧ IMap (w.setCell ⟨sb, o, none⟩ u) b3 (setF s.ref) ∧ Below B w (w.setCell ⟨sb, o, none⟩ u) ∧ ∀ e, e ≠ 69 → KeepE e w (w.setCell ⟨sb, o, none⟩ u) :=
  ⟨h.tree.keep (.setCell h.box (by decide) o u) (.setCell h.box (by decide) o u) (.setCell h.box (by decide) o u), h.acts.keep (.setCell h.box (by decide) o u) (.setCell h.box (by decide) o u), h.m1.setCell h.box o u, h.m2.setCell h.box o u, h.m3.setCell h.box o u, (Below.refl _ _).setCell (p := ⟨sb, o, none⟩) h.lo.1 u, fun _ he => .setCell h.box (fun k => he k.symm) o u⟩
theorem StM.next1 (h : StM w B sb s A n c us D p q avs b1 b2 b3) (x : Int) : StM (w.setCell ⟨sb, 1, none⟩ (.int .i64 x)) B sb { s with next := x } A n c us D p q avs b1 b2 b3 := by
  obtain ⟨k1, k2, k3, k4, k5, _⟩ := h.cell 1 (.int .i64 x)
  exact ⟨by rw [heap_setCell_same _ _ _ _ _ _ h.box]; rfl, k1, k2, k3, k4, k5, h.lo, h.ne⟩
theorem StM.ver1 (h : StM w B sb s A n c us D p q avs b1 b2 b3) (x : Int) : StM (w.setCell ⟨sb, 2, none⟩ (.int .i64 x)) B sb { s with ver := x } A n c us D p q avs b1 b2 b3 := by
  obtain ⟨k1, k2, k3, k4, k5, _⟩ := h.cell 2 (.int .i64 x)
  exact ⟨by rw [heap_setCell_same _ _ _ _ _ _ h.box]; rfl, k1, k2, k3, k4, k5, h.lo, h.ne⟩
theorem StM.tree1 (h : StM w B sb s A n c us D p q avs b1 b2 b3) {A' : Option Addr} {n' c' : Nat} {us' : List NV} {ys : List M.Nd} (ht : OwnT w B A' n' c' us' ys) : StM (w.setCell ⟨sb, 0, none⟩ (.slice A' n' c')) B sb { s with tr := ys } A' n' c' us' D p q avs b1 b2 b3 := by
  obtain ⟨_, k2, k3, k4, k5, _⟩ := h.cell 0 (.slice A' n' c')
  exact ⟨by rw [heap_setCell_same _ _ _ _ _ _ h.box]; rfl, ht.keep (.setCell h.box (by decide) _ _) (.setCell h.box (by decide) _ _) (.setCell h.box (by decide) _ _), k2, k3, k4, k5, h.lo, h.ne⟩
theorem StM.acts1 (h : StM w B sb s A n c us D p q avs b1 b2 b3) {A' : Option Addr} {n' c' : Nat} {us' : List AV} {ys : List M.Act} (ht : OwnAs w B A' n' c' us' ys) : StM (w.setCell ⟨sb, 3, none⟩ (.slice A' n' c')) B sb { s with done := ys } A n c us A' n' c' us' b1 b2 b3 := by
  obtain ⟨k1, _, k3, k4, k5, _⟩ := h.cell 3 (.slice A' n' c')
  exact ⟨by rw [heap_setCell_same _ _ _ _ _ _ h.box]; rfl, k1, ht.keep (.setCell h.box (by decide) _ _) (.setCell h.box (by decide) _ _), k3, k4, k5, h.lo, h.ne⟩
/-- behind an append onto the acts that were done -/
theorem StM.grown {w' : World} {v' : Value} {n' : Nat} {B' k' : Nat} {xs' : List Value} (h : StM w B sb s A n c us D p q avs b1 b2 b3) (h' : w.ownsRow B' 36 k' v' n' xs') (hg : w.grownBy w' v'.ownBlock) :
    w'.heap[sb]? = some (.cells #[.slice A n c, .int .i64 s.next, .int .i64 s.ver, .slice D p q, .map (some b1), .map (some b2), .map (some b3)] 69 (0, 0)) ∧ OwnT w' B A n c us s.tr ∧ IMap w' b1 (intF s.made) ∧ IMap w' b2 (setF s.tch) ∧ IMap w' b3 (setF s.ref) ∧ ∀ e, e ≠ 36 → KeepE e w w' :=
  ⟨KeepE.grown h' (by decide) hg _ _ h.box, h.tree.keep (.grown h' (by decide) hg) (.grown h' (by decide) hg) (.grown h' (by decide) hg), h.m1.grown h' hg, h.m2.grown h' hg, h.m3.grown h' hg, fun _ he => .grown h' he hg⟩
end
end Go.Proofs.Ytcjobmbbikfnaad
/-
  PACKAGE cert: what rests on what was refused.
-/
namespace Go.Proofs.Ytcjobmbbikfnaad
open Go.RowKit
open Go.ChangeMaps (setBlock)

theorem fids_len3 (ac : M.Act) : (M.fidsS ac).length ≤ 3 := by unfold M.fidsS; split <;> split <;> simp
theorem ref_take {f : Int → Bool} {fs : List Int} {k : Nat} {x : Int} (h : fs[k]? = some x) (hx : f x = false) (hk : ∀ y ∈ fs.take k, f y = false) : ∀ y ∈ fs.take (k + 1), f y = false := by
  intro y hy
  rw [take_step h] at hy
  rcases List.mem_append.1 hy with h1 | h1
  · exact hk y h1
  · rw [List.mem_singleton.1 h1]; exact hx
set_option maxHeartbeats 1000000 in
theorem rests_any (s : M.St) (a : AV) (ac : M.Act) (B sb : Nat) (A : Option Addr) (n c : Nat) (us : List NV) (D : Option Addr) (p q : Nat) (avs : List AV) (b1 b2 b3 : Nat) (w : World) (h : StM w B sb s A n c us D p q avs b1 b2 b3) (ha : ContA w a ac) :
    Calls Try.prog 40 #[.pointer (some ⟨sb, 0, none⟩), a.val] w fun e w' => e = .returned (.bool (M.restS s ac)) ∧ Below w.heap.size w w' := by
  have HW : Hid _ := boxA_start w a
  have HS : Hid (StM w B sb s A n c us D p q avs b1 b2 b3 ∧ ContA w a ac) := ⟨h, ha⟩
  clear h ha
  go_enter Try.func40, Try.ntmps40
  go_wp2_with (fail)
  obtain ⟨q1, q2, q3⟩ := HW.out _ rfl
  refine (fids_any a ac _ (HS.out.2.below (Nat.le_refl _) q1)).mono ?_
  rintro e w1 ⟨Fa, fc, rfl, hfo, hb1⟩
  have hb : Below w.heap.size w w1 := q1.trans (hb1.mono q1.size)
  have H1 : Hid (Below w.heap.size w w1 ∧ StM w1 B sb s A n c us D p q avs b1 b2 b3) := ⟨hb, HS.out.1.below (Nat.le_refl _) hb⟩
  have HR : Hid (Row 1 (fun f : Int => [Value.int .i64 f]) w1 Fa (M.fidsS ac).length (M.fidsS ac)) := Row.ofOwn (fun _ => rfl) (by decide) (by rw [fm_ints]; exact hfo)
  have HL : Hid (M.restS s ac = (M.fidsS ac).any s.ref) := rfl
  have HLEN : Hid ((M.fidsS ac).length ≤ 3) := fids_len3 ac
  generalize M.fidsS ac = fs at HR HL HLEN ⊢
  have hn : fs.length ≤ 3 := HLEN.out
  clear q1 q2 q3 hb1 hb hfo HW HS
  go_wp2_with (fail)
  go_loopw [12] (fun i wr => ∃ k : Nat, k ≤ fs.length ∧ i = .int .i64 k ∧ Hid (∀ y ∈ fs.take k, s.ref y = false) ∧ Below w1.heap.size w1 wr) (fun i _ => fs.length - (intOf i).toNat)
  case atStart => exact ⟨0, Nat.zero_le _, rfl, by show ∀ y ∈ _, _; simp, Below.refl _ _⟩
  case round =>
    obtain ⟨k, hk, rfl, HN, hbr⟩ := hrel
    have hzr := hbr.size
    by_cases hlt : k < fs.length
    · obtain ⟨b, o, x, rfl, _, hx, hc⟩ := Row.at (HR.out.below (Nat.le_refl _) hbr) hlt
      have c0 := hc 0 _ rfl
      simp only [Nat.mul_one, Nat.add_zero] at c0
      have HX : Hid (fs[k]? = some x) := hx
      have HSr : Hid (StM wr B sb s A n c us D p q avs b1 b2 b3) := H1.out.2.below (Nat.le_refl _) hbr
      obtain ⟨f0, f1, f2, f3, f4, f5, f6, ff, fz⟩ := HSr.out.facts
      have hl := ask_set HSr.out.m3 x
      clear hx hc
      cases hrx : s.ref x
      · rw [hrx] at hl
        have HM : Hid (∀ y ∈ fs.take (k + 1), s.ref y = false) := ref_take HX.out hrx HN.out
        clear hrx
        go_wp2_with (fail)
        go_roundw
        case rel => exact ⟨k + 1, by omega, by go_num, HM, hbr.alloc hzr _⟩
        case measure => simp [intOf]; omega
      · rw [hrx] at hl
        have HM : Hid (fs.any s.ref = true) := List.any_eq_true.2 ⟨x, List.mem_of_getElem? HX.out, hrx⟩
        clear hrx
        go_wp2_with (fail)
        go_ret
        exact ⟨ret_bool (HL.out.trans HM.out).symm, (H1.out.1.trans (hbr.mono H1.out.1.size)).alloc (by have := H1.out.1.size; omega) _⟩
    · have HM : Hid (fs.any s.ref = false) := by
        show _ = _
        rw [List.any_eq_false]
        have h := HN.out
        rw [List.take_of_length_le (by omega)] at h
        intro y hy; rw [h y hy]; decide
      go_wp2_with (fail)
      go_ret
      exact ⟨ret_bool (HL.out.trans HM.out).symm, H1.out.1.trans (hbr.mono H1.out.1.size)⟩
end Go.Proofs.Ytcjobmbbikfnaad
/-
  PACKAGE cert: what is stale.
-/
namespace Go.Proofs.Ytcjobmbbikfnaad
open Go.RowKit
open Go.ChangeMaps (setBlock)

theorem hid4 {a b c d : Prop} (ha : a) (hb : b) (hc : c) (hd : d) : Hid (a ∧ b ∧ c ∧ d) := ⟨ha, hb, hc, hd⟩
theorem stale_found {s : M.St} {f v : Int} {x : M.Nd} {b : Bool} (hf : Found s.tr f x b) (hr : M.RsN s.tr) : M.otherS s.tr f v = (!b || !decide (x.ver = v)) := by
  obtain ⟨rfl, rfl⟩ := hf.2.2 hr
  unfold M.otherS
  cases M.find s.tr f <;> rfl
set_option maxHeartbeats 2000000 in
theorem stale_any (s : M.St) (a : AV) (ac : M.Act) (seen : Int) (B sb : Nat) (A : Option Addr) (n c : Nat) (us : List NV) (D : Option Addr) (p q : Nat) (avs : List AV) (b1 b2 b3 : Nat) (w : World) (h : StM w B sb s A n c us D p q avs b1 b2 b3) (hg : Good s.tr) (ha : ContA w a ac) :
    Calls Try.prog 42 #[.pointer (some ⟨sb, 0, none⟩), a.val, .int .i64 seen] w fun e w' => e = .returned (.bool (M.staleS s ac seen)) ∧ Below w.heap.size w w' := by
  have HW : Hid _ := boxA_start w a
  have HK : Hid (a.kind = ac.kind ∧ a.fid = ac.fid) := ⟨ha.1, ha.2.1⟩
  have HS : Hid (StM w B sb s A n c us D p q avs b1 b2 b3 ∧ Good s.tr) := ⟨h, hg⟩
  clear h ha hg
  go_enter Try.func42, Try.ntmps42
  go_upto_region 1 with (fail)
  go_cut [22] from 11 to 22 (fun t W => t = .bool (!(decide (a.kind = 3) || decide (a.kind = 4)) || decide (seen < 0)) ∧ Below w.heap.size w W ∧ BoxA W w.heap.size a ∧ W.heap.size = w.heap.size + 1)
  case first =>
    by_cases h3 : a.kind = 3
    · have k3 : (a.kind != 3) = false := by simp [h3]
      by_cases hn : seen < 0
      · have E1 : Hid ((!(decide (a.kind = 3) || decide (a.kind = 4)) || decide (seen < 0)) = true) := by show _ = _; simp [h3, hn]
        clear h3
        go_wp2_with (fail)
        go_meet
        case rel => exact ⟨congrArg Value.bool E1.out.symm, HW.out _ rfl⟩
      · have E1 : Hid ((!(decide (a.kind = 3) || decide (a.kind = 4)) || decide (seen < 0)) = false) := by show _ = _; simp [h3, hn]
        clear h3
        go_wp2_with (fail)
        go_meet
        case rel => exact ⟨congrArg Value.bool E1.out.symm, HW.out _ rfl⟩
    · have k3 : (a.kind != 3) = true := by simp [h3]
      by_cases h4 : a.kind = 4
      · have k4 : (a.kind != 4) = false := by simp [h4]
        by_cases hn : seen < 0
        · have E1 : Hid ((!(decide (a.kind = 3) || decide (a.kind = 4)) || decide (seen < 0)) = true) := by show _ = _; simp [h4, hn]
          clear h3 h4
          go_wp2_with (fail)
          go_meet
          case rel => exact ⟨congrArg Value.bool E1.out.symm, HW.out _ rfl⟩
        · have E1 : Hid ((!(decide (a.kind = 3) || decide (a.kind = 4)) || decide (seen < 0)) = false) := by show _ = _; simp [h4, hn]
          clear h3 h4
          go_wp2_with (fail)
          go_meet
          case rel => exact ⟨congrArg Value.bool E1.out.symm, HW.out _ rfl⟩
      · have k4 : (a.kind != 4) = true := by simp [h4]
        have E1 : Hid ((!(decide (a.kind = 3) || decide (a.kind = 4)) || decide (seen < 0)) = true) := by show _ = _; simp [h3, h4]
        clear h3 h4
        go_wp2_with (fail)
        go_meet
        case rel => exact ⟨congrArg Value.bool E1.out.symm, HW.out _ rfl⟩
  obtain ⟨rfl, q1, q2, q3⟩ := hcut
  rename World => w1
  have H1 : Hid (Below w.heap.size w w1 ∧ BoxA w1 w.heap.size a ∧ StM w1 B sb s A n c us D p q avs b1 b2 b3) := ⟨q1, q2, HS.out.1.below (Nat.le_refl _) q1⟩
  obtain ⟨kb, hkb⟩ : ∃ kb : Bool, (!(decide (a.kind = 3) || decide (a.kind = 4)) || decide (seen < 0)) = kb := ⟨_, rfl⟩
  rw [hkb]
  have HKB : Hid (M.staleS s ac seen = (!kb && !s.tch a.fid && M.otherS s.tr a.fid seen)) := by
    show _ = _
    unfold M.staleS
    rw [← hkb, ← HK.out.1, ← HK.out.2]
    have : decide (seen < 0) = !decide (0 ≤ seen) := by by_cases h : seen < 0 <;> simp [h] <;> omega
    rw [this]
    cases (decide (a.kind = 3) || decide (a.kind = 4)) <;> cases decide (0 ≤ seen) <;> rfl
  clear q1 q2 q3 hkb HW
  cases kb
  case' true =>
    go_wp2_with (fail)
    go_ret
    exact ⟨by rw [HKB.out]; rfl, H1.out.1⟩
  go_upto_region 3 with (fail)
  go_cut [7, 8] from 23 to 32 (fun _ t W => t = .bool (s.tch a.fid) ∧ Below w1.heap.size w1 W)
  case first =>
    obtain ⟨f0, f1, f2, f3, f4, f5, f6, ff, fz⟩ := H1.out.2.2.facts
    obtain ⟨a0, a1, a2, a3, a4, a5, a6, af, az⟩ := H1.out.2.1.facts
    have hl := ask_set (H1.out.2.2.m2.below (Nat.le_refl _) ((Below.refl _ _).drew)) a.fid
    have hl2 := ask_set (H1.out.2.2.m2.below (Nat.le_refl _) (((Below.refl _ _).alloc (Nat.le_refl _) (.cells #[] 84)).drew)) a.fid
    have HD : Hid (Below w1.heap.size w1 (w1.alloc (.cells #[] 84)).drew) := ((Below.refl _ _).alloc (Nat.le_refl _) (.cells #[] 84)).drew
    go_region
    all_goals
      go_wp2_with (fail)
      go_meet
      case rel => exact ⟨rfl, HD.out⟩
  obtain ⟨rfl, q1⟩ := hcut
  rename World => w2
  have H2 : Hid (Below w.heap.size w w2 ∧ BoxA w2 w.heap.size a ∧ StM w2 B sb s A n c us D p q avs b1 b2 b3) := ⟨H1.out.1.trans (q1.mono H1.out.1.size), H1.out.2.1.below q1 (lt_of_block H1.out.2.1), H1.out.2.2.below (Nat.le_refl _) q1⟩
  have HTC : Hid (M.staleS s ac seen = (!s.tch a.fid && M.otherS s.tr a.fid seen)) := by show _ = _; rw [HKB.out]; rfl
  generalize s.tch a.fid = tb at HTC ⊢
  clear q1 H1 HKB
  cases tb
  case' true =>
    go_wp2_with (fail)
    go_ret
    exact ⟨by rw [HTC.out]; rfl, H2.out.1⟩
  have hm72 : n * 72 ≤ 140737488355328 := by have h1 := H2.out.2.2.tree.tree.1.1; have h2 := H2.out.2.2.tree.tree.2.1; have h3 := HS.out.2.2.2; omega
  go_upto_region 6 with (fail)
  go_cut [9, 10] from 34 to 43 (fun x t W => ∃ (g : Nat) (v : NV) (y : M.Nd) (b : Bool), x = .pointer (some ⟨g, 0, none⟩) ∧ t = .bool b ∧ Hid (Box W g v ∧ v.ver = y.ver ∧ Found s.tr a.fid y b ∧ Below w2.heap.size w2 W))
  case first =>
    obtain ⟨f0, f1, f2, f3, f4, f5, f6, ff, fz⟩ := H2.out.2.2.facts
    obtain ⟨a0, a1, a2, a3, a4, a5, a6, af, az⟩ := H2.out.2.1.facts
    have HZ : Hid (∀ W, W = w2.alloc (.cells #[.int .i64 0, .bool false, .slice none 0 0, .slice none 0 0, .int .i64 0] 41) → Below w2.heap.size w2 W.drew ∧ Box W.drew w2.heap.size NV.zero ∧ W.drew.heap.size = w2.heap.size + 1) := by
      rintro W rfl
      exact ⟨((Below.refl _ _).alloc (Nat.le_refl _) _).drew, Box.new0 w2, by simp⟩
    have HD : Hid (Below w2.heap.size w2 w2.drew) := (Below.refl _ _).drew
    go_region_with (first
      | (go_at_call 48; refine (find_gen A n c us s.tr a.fid w2.drew (H2.out.2.2.tree.tree.below (Nat.le_refl _) HD.out) hm72 HS.out.2.2.1).mono ?_; rintro e w3 ⟨v, y, b, rfl, ho, hf, hb⟩; have H3 : Hid (Below w2.heap.size w2 w3 ∧ v.ver = y.ver ∧ Found s.tr a.fid y b) := ⟨HD.out.trans (hb.mono (Nat.le_refl _)), ho.2.2.1, hf⟩; clear ho hf hb)
      | (go_at_call 48; refine (find_gen A n c us s.tr a.fid (w2.alloc (.cells #[.int .i64 0, .bool false, .slice none 0 0, .slice none 0 0, .int .i64 0] 41)).drew (H2.out.2.2.tree.tree.below (Nat.le_refl _) (HZ.out _ rfl).1) hm72 HS.out.2.2.1).mono ?_; rintro e w3 ⟨v, y, b, rfl, ho, hf, hb⟩; have H3 : Hid (Below w2.heap.size w2 w3 ∧ v.ver = y.ver ∧ Found s.tr a.fid y b) := ⟨(HZ.out _ rfl).1.trans (hb.mono (HZ.out _ rfl).1.size), ho.2.2.1, hf⟩; have HB3 : Hid (Box w3 w2.heap.size NV.zero) := (HZ.out _ rfl).2.1.below hb (by rw [(HZ.out _ rfl).2.2]; omega); obtain ⟨z0, z1, z2, z3, z4, zf, zz⟩ := HB3.out.facts; clear ho hf hb))
    all_goals
      go_wp2_with (fail)
      go_meet
      case rel => first
        | with_reducible exact ⟨w3.heap.size, v, y, b, rfl, rfl, hid4 (Box.new w3 v) H3.out.2.1 H3.out.2.2 (H3.out.1.alloc H3.out.1.size _)⟩
        | with_reducible exact ⟨w2.heap.size, v, y, b, rfl, rfl, hid4 (put5_box HB3.out v) H3.out.2.1 H3.out.2.2 (put5_below H3.out.1 (Nat.le_refl _) 0 v)⟩
  obtain ⟨g, v, y, b, rfl, rfl, H3⟩ := hcut
  rename World => w3
  obtain ⟨z0, z1, z2, z3, z4, zf, zz⟩ := H3.out.1.facts
  have HE : Hid (M.staleS s ac seen = (!b || (v.ver != seen))) := by
    show _ = _
    rw [HTC.out, stale_found H3.out.2.2.1 HS.out.2.1.1, H3.out.2.1]
    by_cases h : y.ver = seen <;> simp [h]
  have HB : Hid (Below w.heap.size w w3) := H2.out.1.trans (H3.out.2.2.2.mono H2.out.1.size)
  clear HTC H2 H3
  cases b
  · go_wp2_with (fail)
    go_ret
    exact ⟨ret_bool (by rw [HE.out]; rfl), HB.out⟩
  · go_wp2_with (fail)
    go_ret
    exact ⟨ret_bool (by rw [HE.out]; rfl), HB.out⟩
end Go.Proofs.Ytcjobmbbikfnaad
/-
  A REGION THAT DRAWS THE ORDER OF MANY OPERATIONS: of each operation it is said what its value is, in words that last while memory below is as it was;
  each operation is looked at once, whatever came up before it.
-/
namespace Go.Proofs.Ytcjobmbbikfnaad
open Go.RowKit

/-- the slot of operation j -/
def slotAt (ops : Array Oper) (j : Nat) : Nat := ((ops[j]?).bind (·.dst)).getD 0
/-- each operation has a slot of its own in the frame, and waits for earlier ones alone -/
def tidy (ops : Array Oper) (size : Nat) : Bool :=
  (List.range ops.size).all fun i => match ops[i]? with
    | some o => (o.after.all fun e => decide (e.on < i)) && (match o.dst with
        | some d => decide (d < size) && ((List.range i).all fun j => ((ops[j]?).bind (·.dst)) != some d)
        | none => false)
    | none => true
/-- operation i waits for operation j -/
def waits (o : Oper) (j : Nat) : Bool := o.after.any fun e => Region.binds .any e && e.on == j
/-- slot t is no operation's -/
def apart (ops : Array Oper) (t : Nat) : Bool := ops.all fun o => o.dst != some t

theorem tidy_at {ops : Array Oper} {size i : Nat} {o : Oper} (h : tidy ops size = true) (hi : ops[i]? = some o) :
    (∀ e ∈ o.after, e.on < i) ∧ ∃ d, o.dst = some d ∧ d < size ∧ slotAt ops i = d ∧ ∀ j, j < i → ((ops[j]?).bind (·.dst)) ≠ some d := by
  unfold tidy at h
  rw [List.all_eq_true] at h
  have hlt : i < ops.size := (Array.getElem?_eq_some_iff.1 hi).1
  have h1 := h i (List.mem_range.2 hlt)
  rw [hi] at h1
  simp only [Bool.and_eq_true] at h1
  obtain ⟨h2, h3⟩ := h1
  refine ⟨fun e he => ?_, ?_⟩
  · have := Array.all_eq_true_iff_forall_mem.1 h2 e he
    simpa using this
  · cases hd : o.dst with
    | none => rw [hd] at h3; cases h3
    | some d =>
      rw [hd] at h3
      simp only [Bool.and_eq_true, decide_eq_true_eq, List.all_eq_true, List.mem_range] at h3
      refine ⟨d, rfl, h3.1, by simp [slotAt, hi, hd], fun j hj => ?_⟩
      have := h3.2 j hj
      simpa using this

theorem tidy_ne {ops : Array Oper} {size i j : Nat} {o u : Oper} (h : tidy ops size = true) (hi : ops[i]? = some o) (hj : ops[j]? = some u) (hne : i ≠ j) : slotAt ops i ≠ slotAt ops j := by
  obtain ⟨_, d, hd, _, hs, hall⟩ := tidy_at h hi
  obtain ⟨_, e, he, _, ht, hall'⟩ := tidy_at h hj
  rw [hs, ht]
  intro hde
  subst hde
  rcases Nat.lt_or_gt_of_ne hne with hl | hl
  · exact hall' i hl (by rw [hi]; exact hd)
  · exact hall j hl (by rw [hj]; exact he)

/-- what lasts while memory below is as it was -/
def Stays (p : Value → World → Prop) : Prop := ∀ v w w', Below w.heap.size w w' → p v w → p v w'

/-- the frame behind some operations of the region -/
structure Framed (ops : Array Oper) (a0 a : Act) : Prop where
  size : a.tmps.size = a0.tmps.size
  defers : a.defers = a0.defers
  keeps : ∀ t, apart ops t = true → a.eval (.tmp t) = a0.eval (.tmp t)

/-- slot t holds, when operation i comes up, what it held when the region began: whoever writes it waits for i -/
def freeFor (ops : Array Oper) (i t : Nat) : Bool := (List.range ops.size).all fun j => match ops[j]? with
  | some o => j == i || o.dst != some t || waits o i
  | none => true
structure FramedAt (ops : Array Oper) (i : Nat) (a0 a : Act) : Prop where
  size : a.tmps.size = a0.tmps.size
  defers : a.defers = a0.defers
  keeps : ∀ t, freeFor ops i t = true → a.eval (.tmp t) = a0.eval (.tmp t)
/-- the frame behind the operations that are listed; what is listed waits for nothing more -/
structure FramedBy (ops : Array Oper) (listed : Array Bool) (a0 a : Act) : Prop where
  size : a.tmps.size = a0.tmps.size
  defers : a.defers = a0.defers
  keeps : ∀ t, (∀ j o, ops[j]? = some o → listed.getD j true = true → o.dst ≠ some t) → a.eval (.tmp t) = a0.eval (.tmp t)
  closed : ∀ j o, ops[j]? = some o → listed.getD j true = true → ∀ i, waits o i = true → listed.getD i true = true
theorem FramedBy.at_ {ops : Array Oper} {listed : Array Bool} {a0 a : Act} (h : FramedBy ops listed a0 a) {i : Nat} (hi : listed.getD i true = false) : FramedAt ops i a0 a := by
  refine ⟨h.size, h.defers, fun t ht => h.keeps t fun j o hj hl hd => ?_⟩
  unfold freeFor at ht
  rw [List.all_eq_true] at ht
  have h1 := ht j (List.mem_range.2 (Array.getElem?_eq_some_iff.1 hj).1)
  simp only [hj, hd, bne_self_eq_false, Bool.or_false, Bool.or_eq_true, beq_iff_eq] at h1
  rcases h1 with h1 | h1
  · subst h1; rw [hl] at hi; cases hi
  · have := h.closed j o hj hl i h1; rw [this] at hi; cases hi
theorem FramedBy.all {ops : Array Oper} {listed : Array Bool} {a0 a : Act} (h : FramedBy ops listed a0 a) : Framed ops a0 a := by
  refine ⟨h.size, h.defers, fun t ht => h.keeps t fun j o hj _ hd => ?_⟩
  have := Array.all_eq_true_iff_forall_mem.1 ht o (Array.mem_of_getElem? hj)
  simp [hd] at this
theorem FramedBy.put {ops : Array Oper} {listed : Array Bool} {a0 a : Act} (h : FramedBy ops listed a0 a) {i : Nat} {o : Oper} (hi : ops[i]? = some o) (hsz : listed.size = ops.size)
    (hw : ∀ j, waits o j = true → listed.getD j true = true) (v : Value) : FramedBy ops (listed.setIfInBounds i true) a0 (a.put o.dst v) := by
  have hil : i < listed.size := by rw [hsz]; exact (Array.getElem?_eq_some_iff.1 hi).1
  have hself : (listed.setIfInBounds i true).getD i true = true := by simp [hil]
  have hup : ∀ j, listed.getD j true = true → (listed.setIfInBounds i true).getD j true = true := by
    intro j hj
    by_cases hji : j = i
    · rw [hji]; exact hself
    · rw [getD_set_ne true (Ne.symm hji)]; exact hj
  refine ⟨?_, ?_, fun t ht => ?_, fun j u hj hl q hq => ?_⟩
  · cases hd : o.dst <;> simp [Act.put, h.size]
  · cases hd : o.dst <;> simp [Act.put, h.defers]
  · rw [Act.eval_put, h.keeps t fun j u hj hl => ht j u hj (hup j hl)]
    intro d hd e
    injection e with e
    exact ht i o hi hself (by rw [hd, e])
  · by_cases hji : j = i
    · subst hji
      rw [hi] at hj
      injection hj with hj
      subst hj
      exact hup q (hw q hq)
    · rw [getD_set_ne true (Ne.symm hji)] at hl
      exact hup q (h.closed j u hj hl q hq)

/-- What is asked of operation i: whatever came up before it, its value is as it is said. -/
def StepAt (P : Program) (ops : Array Oper) (Q : Exit → Act → World → Prop) (a0 : Act) (w0 : World) (V : Nat → Value → World → Prop) (i : Nat) : Prop :=
  ∀ o, ops[i]? = some o → ∀ a w, FramedAt ops i a0 a → Below w0.heap.size w0 w → (∀ j, waits o j = true → V j (a.eval (.tmp (slotAt ops j))) w) →
    ∀ K : Act → World → Prop, Hid (∀ v w', Below w.heap.size w w' → V i v w' → K (a.put o.dst v) w') →
      if Region.wanted o (yielded ops a.tmps) = true then Oper.wp P o a w K Q else K (a.put o.dst undef) w

def unlisted (listed : Array Bool) : Nat := (listed.toList.filter (fun b => !b)).length

theorem unlisted_set {listed : Array Bool} {i : Nat} (h : listed.getD i true = false) : unlisted (listed.setIfInBounds i true) + 1 = unlisted listed := by
  obtain ⟨l⟩ := listed
  simp only [unlisted, Array.getD_eq_getD_getElem?, List.getElem?_toArray, List.setIfInBounds_toArray] at h ⊢
  induction l generalizing i with
  | nil => simp at h
  | cons b l ih =>
    cases i with
    | zero => simp at h; subst h; simp
    | succ i =>
      simp only [List.getElem?_cons_succ] at h
      have := ih (i := i) (by simpa using h)
      cases b <;> simp [List.set_cons_succ] at this ⊢ <;> omega

theorem wpAny_vals {P : Program} {ops : Array Oper} {Q : Exit → Act → World → Prop} {a0 : Act} {w0 : World} {V : Nat → Value → World → Prop} (ht : tidy ops a0.tmps.size = true) (hst : ∀ i, Stays (V i))
    (steps : ∀ i, i < ops.size → StepAt P ops Q a0 w0 V i)
    (last : ∀ a w, Framed ops a0 a → Below w0.heap.size w0 w → (∀ j, j < ops.size → V j (a.eval (.tmp (slotAt ops j))) w) → Q .normal a w) :
    ∀ (fuel : Nat) (listed : Array Bool) (a : Act) (w : World), listed.size = ops.size → unlisted listed ≤ fuel → FramedBy ops listed a0 a → Below w0.heap.size w0 w →
      (∀ j, j < ops.size → listed.getD j true = true → V j (a.eval (.tmp (slotAt ops j))) w) → wpAny P .any ops Q fuel listed a w := by
  have hdone : ∀ (listed : Array Bool), listed.size = ops.size → Region.ready .any ops listed = [] → ∀ j, j < ops.size → listed.getD j true = true := by
    intro listed hsz hr j
    induction j using Nat.strongRecOn with
    | ind j ih =>
      intro hj
      cases hb : listed.getD j true with
      | true => rfl
      | false =>
        have ho : ops[j]? = some ops[j] := Array.getElem?_eq_getElem hj
        have hm : j ∈ Region.ready .any ops listed := by
          rw [mem_ready]
          refine ⟨hb, _, ho, fun e he _ => ?_⟩
          have hlt := (tidy_at ht ho).1 e he
          have h1 := ih e.on hlt (by omega)
          have h2 : e.on < listed.size := by omega
          simp only [Array.getD_eq_getD_getElem?, Array.getElem?_eq_getElem h2, Option.getD_some] at h1 ⊢
          exact h1
        rw [hr] at hm
        cases hm
  intro fuel
  induction fuel with
  | zero =>
    intro listed a w hsz hu hf hb hV
    have hall : ∀ j, listed.getD j true = true := by
      intro j
      have h0 : listed.toList.filter (fun b => !b) = [] := List.eq_nil_of_length_eq_zero (by simpa [unlisted] using hu)
      rw [List.filter_eq_nil_iff] at h0
      rcases Nat.lt_or_ge j listed.size with h | h
      · have := h0 listed[j] (by simp)
        simp [h] at this ⊢
        exact this
      · simp [h]
    refine ⟨?_, last a w hf.all hb fun j hj => hV j hj (hall j)⟩
    unfold Region.ready
    rw [List.filter_eq_nil_iff]
    intro j _
    rw [hall j]
    simp
  | succ fuel ih =>
    intro listed a w hsz hu hf hb hV
    refine ⟨fun hr => last a w hf.all hb fun j hj => hV j hj (hdone listed hsz hr j hj), fun i hi => ?_⟩
    obtain ⟨hun, o, ho, hall⟩ := mem_ready.1 hi
    have hilt : i < ops.size := (Array.getElem?_eq_some_iff.1 ho).1
    obtain ⟨hback, d, hd, hdlt, hslot, _⟩ := tidy_at ht ho
    refine wpOp_step ho fun K' hK => ?_
    have hlw : ∀ j, waits o j = true → listed.getD j true = true := by
      intro j hj
      obtain ⟨e, he, hbe⟩ := Array.any_eq_true'.1 hj
      simp only [Bool.and_eq_true, beq_iff_eq] at hbe
      have h1 := hall e he hbe.1
      have h2 := hback e he
      rw [← hbe.2]
      have h3 : e.on < listed.size := by omega
      simp only [Array.getD_eq_getD_getElem?, Array.getElem?_eq_getElem h3, Option.getD_some] at h1 ⊢
      exact h1
    refine steps i hilt o ho a w (hf.at_ hun) hb ?_ K' ?_
    · intro j hj
      obtain ⟨e, he, hbe⟩ := Array.any_eq_true'.1 hj
      simp only [Bool.and_eq_true, beq_iff_eq] at hbe
      have h1 := hall e he hbe.1
      have h2 := hback e he
      rw [← hbe.2]
      refine hV e.on (by omega) ?_
      have h3 : e.on < listed.size := by omega
      simp only [Array.getD_eq_getD_getElem?, Array.getElem?_eq_getElem h3, Option.getD_some] at h1 ⊢
      exact h1
    · intro v w' hw hv
      refine hK _ _ (ih _ _ _ (by simp [hsz]) (by have := unlisted_set hun; omega) (hf.put ho hsz hlw v) (hb.trans (hw.mono hb.size)) fun j hj hl => ?_)
      by_cases hji : j = i
      · subst hji
        have : (a.put o.dst v).eval (.tmp (slotAt ops j)) = v := by
          rw [hslot, hd]
          have hlt : d < a.tmps.size := by rw [hf.size]; exact hdlt
          simp [Act.eval, Act.put, hlt]
        rw [this]
        exact hv
      · have hoj : ops[j]? = some ops[j] := Array.getElem?_eq_getElem hj
        have hne := tidy_ne ht hoj ho hji
        rw [Act.eval_put (by intro d' hd' e; injection e with e; rw [hd] at hd'; injection hd' with hd'; rw [hslot] at hne; exact hne (e.trans hd'.symm))]
        rw [getD_set_ne true (Ne.symm hji)] at hl
        exact hst j _ _ _ hw (hV j hj hl)

/-- THE RULE. -/
theorem wp_region_vals {P : Program} {ops : Array Oper} {Q : Exit → Act → World → Prop} {a0 : Act} {w0 : World} (V : Nat → Value → World → Prop) {id : Nat} (hm : P.follows .mixedOrders = true)
    (ht : tidy ops a0.tmps.size = true) (hst : ∀ i, Stays (V i)) (steps : ∀ i, i < ops.size → StepAt P ops Q a0 w0.drew V i)
    (last : ∀ a w, Framed ops a0 a → Below w0.heap.size w0 w → (∀ j, j < ops.size → V j (a.eval (.tmp (slotAt ops j))) w) → Q .normal a w) :
    (Code.region id ops true).wp P Q a0 w0 := by
  refine wp_region_any hm ?_
  refine wpAny_vals (w0 := w0.drew) ht hst steps (fun a w hf hb hv => last a w hf ((Below.refl _ _).drew.trans hb) hv) _ _ _ _ (by simp) ?_ ?_ (Below.refl _ _) ?_
  · simp [unlisted]
  · refine ⟨rfl, rfl, fun _ _ => rfl, fun j o hj hl => ?_⟩
    have hlt := (Array.getElem?_eq_some_iff.1 hj).1
    simp [hlt] at hl
  · intro j hj hl
    simp [hj] at hl
end Go.Proofs.Ytcjobmbbikfnaad
/-
  WHAT SINGLE OPERATIONS DO, for regions that draw their order (text Vals).
-/
namespace Go.Proofs.Ytcjobmbbikfnaad
open Go.RowKit

/-- the operation makes a value and a world of which R is true, by itself or by a call -/
def Does (P : Program) (o : Oper) (a : Act) (w : World) (R : Value → World → Prop) : Prop :=
  (∃ v w', (execOp a.eval o).run P w = .ok (.value v) w' ∧ R v w') ∨
  ∃ f args w', (execOp a.eval o).run P w = .ok (.enter f args) w' ∧ Calls P f args w' fun e w'' => ∃ r, e = .returned r ∧ R r w''

theorem StepAt.by {P : Program} {ops : Array Oper} {Q : Exit → Act → World → Prop} {a0 : Act} {w0 : World} {V : Nat → Value → World → Prop} {i : Nat} {o : Oper} (ho : ops[i]? = some o)
    (h : ∀ a w, FramedAt ops i a0 a → Below w0.heap.size w0 w → (∀ j, waits o j = true → V j (a.eval (.tmp (slotAt ops j))) w) →
      (Region.wanted o (yielded ops a.tmps) = true ∧ Does P o a w (fun v w' => Below w.heap.size w w' ∧ V i v w')) ∨ (Region.wanted o (yielded ops a.tmps) = false ∧ V i undef w)) : StepAt P ops Q a0 w0 V i := by
  intro o' ho' a w hf hb hd K hK
  have e : o = o' := Option.some.inj (ho.symm.trans ho')
  subst e
  rcases h a w hf hb hd with ⟨hw, hr⟩ | ⟨hw, hv⟩
  · rw [if_pos hw]
    unfold Oper.wp
    rcases hr with ⟨v, w', hr, hb', hv⟩ | ⟨f, args, w', hr, hc⟩
    · rw [hr]
      exact hK.out v w' hb' hv
    · rw [hr]
      refine Calls.mono hc ?_
      rintro e w'' ⟨r, rfl, hb', hv⟩
      exact hK.out r w'' hb' hv
  · rw [hw]
    exact hK.out undef w (Below.refl _ _) hv

/-- function f is the program's own -/
def Enters (P : Program) (f : FuncId) : Prop := ∀ args w, (callFunc f args).run P w = .ok (.enter f args) w
theorem Enters.out {P : Program} {f : FuncId} (h : Enters P f) (args : Array Value) (w : World) : (callFunc f args).run P w = .ok (.enter f args) w := h args w
theorem eval_func (a : Act) (f : FuncId) : a.eval (.func f) = .func (.func f) #[] #[] := rfl
theorem eval_const (a : Act) (v : Value) : a.eval (.const v) = v := rfl
theorem enters_of {P : Program} {f : FuncId} {fn : Func} (hf : P.funcs[f]? = some fn) (hn : (fn.name == "runtime.NumGoroutine") = false) (hb : fn.body.isNone = false) : Enters P f := by
  intro args w
  unfold callFunc
  simp only [Sem.run_bind, run_program, Result.andThen_ok, hf, hn, hb, Bool.false_eq_true, if_false]
  rfl
theorem run_call {P : Program} {ρ : Operand → Value} {w : World} {d : Option Tmp} {ty : TypeId} {pos : String} {af : Array Edge} {g : Option (Nat × Bool)} {f : FuncId} {xs : Array Operand} {us : Array Value} {ts : Array TypeId} (hcf : Enters P f) (hfn : ρ (.func f) = .func (.func f) #[] #[]) (hx : xs.map ρ = us) :
    (execOp ρ ⟨d, .call { callee := .value (.func f), args := xs, argTypes := ts }, ty, pos, af, g⟩).run P w = .ok (.enter f us) w := by
  simp [execOp, resolve, invoke, hcf.out, hfn, hx, go_sem]
theorem run_not {P : Program} {ρ : Operand → Value} {w : World} {d : Option Tmp} {ty : TypeId} {pos : String} {af : Array Edge} {g : Option (Nat × Bool)} {x : Operand} {b : Bool} {t : TypeId} (hx : ρ x = .bool b) : (execOp ρ ⟨d, .unOp .not t x, ty, pos, af, g⟩).run P w = .ok (.value (.bool !b)) w := by
  simp [execOp, hx, go_sem]
theorem run_pick {P : Program} {ρ : Operand → Value} {w : World} {d : Option Tmp} {ty : TypeId} {pos : String} {af : Array Edge} {g : Option (Nat × Bool)} {c x y : Operand} {b : Bool} (hc : ρ c = .bool b) : (execOp ρ ⟨d, .pick c x y, ty, pos, af, g⟩).run P w = .ok (.value (if b then ρ x else ρ y)) w := by
  cases b <;> simp [execOp, hc, go_sem]
theorem run_neqB {ρ : Operand → Value} {w : World} {d : Option Tmp} {ty : TypeId} {pos : String} {af : Array Edge} {g : Option (Nat × Bool)} {x y : Operand} {b c : Bool} (hx : ρ x = .bool b) (hy : ρ y = .bool c) : (execOp ρ ⟨d, .binOp .neq 4 x y 4, ty, pos, af, g⟩).run Try.prog w = .ok (.value (.bool (b != c))) w := by
  simp [execOp, hx, hy, go_sem, bne]
theorem run_neqI {ρ : Operand → Value} {w : World} {d : Option Tmp} {ty : TypeId} {pos : String} {af : Array Edge} {g : Option (Nat × Bool)} {x y : Operand} {b c : Int} (hx : ρ x = .int .i64 b) (hy : ρ y = .int .i64 c) : (execOp ρ ⟨d, .binOp .neq 3 x y 3, ty, pos, af, g⟩).run Try.prog w = .ok (.value (.bool (b != c))) w := by
  simp [execOp, hx, hy, go_sem, bne]
theorem run_load26 {ρ : Operand → Value} {w : World} {d : Option Tmp} {ty : TypeId} {pos : String} {af : Array Edge} {g : Option (Nat × Bool)} {x : Operand} {s : Nat} {v : NV} (hx : ρ x = .pointer (some ⟨s, 0, none⟩)) (hb : Box w s v) : (execOp ρ ⟨d, .load 41 x, ty, pos, af, g⟩).run Try.prog w = .ok (.value v.val) w := by
  obtain ⟨p0, p1, p2, p3, p4, pf, pz⟩ := hb.facts
  simp [execOp, hx, go_sem, p0, p1, p2, p3, p4]
section
variable {P : Program} {ops : Array Oper} {a : Act} {w : World} {R : Value → World → Prop} {d : Option Tmp} {ty : TypeId} {pos : String} {af : Array Edge} {g : Option (Nat × Bool)} {op : Op}
theorem want_none : Region.wanted ⟨d, op, ty, pos, af, none⟩ (yielded ops a.tmps) = true := rfl
theorem want_some {k t : Nat} {b want : Bool} (hk : (ops[k]?).bind (·.dst) = some t) (h : a.eval (.tmp t) = .bool b) : Region.wanted ⟨d, op, ty, pos, af, some (k, want)⟩ (yielded ops a.tmps) = (b == want) := by
  have ht : a.tmps[t]? = some (.bool b) := by
    have h : a.tmps.getD t undef = .bool b := h
    rw [Array.getD_eq_getD_getElem?] at h
    cases hx : a.tmps[t]? with
    | none => rw [hx] at h; cases h
    | some v => rw [hx] at h; exact congrArg some h
  unfold Region.wanted yielded
  simp only [hk, Option.bind_some, ht]
  cases b <;> cases want <;> rfl

theorem does_move {x : Operand} {v : Value} (hx : a.eval x = v) (h : R v w) : Does P ⟨d, .move x, ty, pos, af, g⟩ a w R := .inl ⟨_, _, rfl, by rw [hx]; exact h⟩
theorem does_assign {x : Operand} {v : Value} (hx : a.eval x = v) (h : R v w) : Does P ⟨d, .assign x, ty, pos, af, g⟩ a w R := .inl ⟨_, _, rfl, by rw [hx]; exact h⟩
theorem does_call0 {f : FuncId} {ts : Array TypeId} (hcf : Enters P f) (h : Calls P f #[] w fun e w'' => ∃ r, e = .returned r ∧ R r w'') :
    Does P ⟨d, .call { callee := .value (.func f), args := #[], argTypes := ts }, ty, pos, af, g⟩ a w R := .inr ⟨f, #[], w, run_call hcf rfl (by simp), h⟩
theorem does_call1 {f : FuncId} {x : Operand} {u : Value} {ts : Array TypeId} (hcf : Enters P f) (hx : a.eval x = u) (h : Calls P f #[u] w fun e w'' => ∃ r, e = .returned r ∧ R r w'') :
    Does P ⟨d, .call { callee := .value (.func f), args := #[x], argTypes := ts }, ty, pos, af, g⟩ a w R := .inr ⟨f, #[u], w, run_call hcf rfl (by simp [hx]), h⟩
theorem does_call2 {f : FuncId} {x y : Operand} {u v : Value} {ts : Array TypeId} (hcf : Enters P f) (hx : a.eval x = u) (hy : a.eval y = v) (h : Calls P f #[u, v] w fun e w'' => ∃ r, e = .returned r ∧ R r w'') :
    Does P ⟨d, .call { callee := .value (.func f), args := #[x, y], argTypes := ts }, ty, pos, af, g⟩ a w R := .inr ⟨f, #[u, v], w, run_call hcf rfl (by simp [hx, hy]), h⟩
theorem does_call3 {f : FuncId} {x y z : Operand} {u v t : Value} {ts : Array TypeId} (hcf : Enters P f) (hx : a.eval x = u) (hy : a.eval y = v) (hz : a.eval z = t) (h : Calls P f #[u, v, t] w fun e w'' => ∃ r, e = .returned r ∧ R r w'') :
    Does P ⟨d, .call { callee := .value (.func f), args := #[x, y, z], argTypes := ts }, ty, pos, af, g⟩ a w R := .inr ⟨f, #[u, v, t], w, run_call hcf rfl (by simp [hx, hy, hz]), h⟩
theorem does_not {x : Operand} {b : Bool} {t : TypeId} (hx : a.eval x = .bool b) (h : R (.bool !b) w) : Does P ⟨d, .unOp .not t x, ty, pos, af, g⟩ a w R := .inl ⟨_, _, run_not hx, h⟩
theorem does_pick {c x y : Operand} {b : Bool} {v : Value} (hc : a.eval c = .bool b) (hv : (if b then a.eval x else a.eval y) = v) (h : R v w) : Does P ⟨d, .pick c x y, ty, pos, af, g⟩ a w R := .inl ⟨_, _, run_pick hc, by rw [hv]; exact h⟩
end
theorem does_neqB {a : Act} {w : World} {R : Value → World → Prop} {d : Option Tmp} {ty : TypeId} {pos : String} {af : Array Edge} {g : Option (Nat × Bool)} {x y : Operand} {b c : Bool} (hx : a.eval x = .bool b) (hy : a.eval y = .bool c) (h : R (.bool (b != c)) w) : Does Try.prog ⟨d, .binOp .neq 4 x y 4, ty, pos, af, g⟩ a w R := .inl ⟨_, _, run_neqB hx hy, h⟩
theorem does_neqI {a : Act} {w : World} {R : Value → World → Prop} {d : Option Tmp} {ty : TypeId} {pos : String} {af : Array Edge} {g : Option (Nat × Bool)} {x y : Operand} {b c : Int} (hx : a.eval x = .int .i64 b) (hy : a.eval y = .int .i64 c) (h : R (.bool (b != c)) w) : Does Try.prog ⟨d, .binOp .neq 3 x y 3, ty, pos, af, g⟩ a w R := .inl ⟨_, _, run_neqI hx hy, h⟩
theorem does_load26 {a : Act} {w : World} {R : Value → World → Prop} {d : Option Tmp} {ty : TypeId} {pos : String} {af : Array Edge} {g : Option (Nat × Bool)} {x : Operand} {s : Nat} {v : NV} (hx : a.eval x = .pointer (some ⟨s, 0, none⟩)) (hb : Box w s v) (h : R v.val w) : Does Try.prog ⟨d, .load 41 x, ty, pos, af, g⟩ a w R := .inl ⟨_, _, run_load26 hx hb, h⟩
end Go.Proofs.Ytcjobmbbikfnaad
/-
  THE FRAME behind a region that draws its order, written out.
-/
namespace Go.Proofs.Ytcjobmbbikfnaad
open Go.RowKit

/-- the frame behind a region: slots for which wr is true hold something -/
def overL (wr : Nat → Bool) (a : Act) : Nat → List Value → List Value
  | _, [] => []
  | t, v :: vs => (match wr t with | true => a.eval (.tmp t) | false => v) :: overL wr a (t + 1) vs
theorem overL_len (wr : Nat → Bool) (a : Act) : ∀ (l : List Value) (t : Nat), (overL wr a t l).length = l.length
  | [], _ => rfl
  | _ :: l, t => by simp [overL, overL_len wr a l (t + 1)]
theorem overL_get (wr : Nat → Bool) (a : Act) : ∀ (l : List Value) (t i : Nat) (v : Value), l[i]? = some v → (overL wr a t l)[i]? = some (match wr (t + i) with | true => a.eval (.tmp (t + i)) | false => v)
  | [], _, _, _, h => by cases h
  | x :: l, t, 0, v, h => by
    simp at h
    subst h
    simp [overL]
  | x :: l, t, i + 1, v, h => by
    simp only [List.getElem?_cons_succ] at h
    have := overL_get wr a l (t + 1) i v h
    simp only [overL, List.getElem?_cons_succ]
    rw [this, show t + 1 + i = t + (i + 1) by omega]
theorem Framed.lit {ops : Array Oper} {a0 a : Act} (hf : Framed ops a0 a) (wr : Nat → Bool) (hw : (ops.all fun o => match o.dst with | some d => wr d | none => true) = true) : a = ⟨(overL wr a 0 a0.tmps.toList).toArray, a0.defers⟩ := by
  have hs : a.tmps = (overL wr a 0 a0.tmps.toList).toArray := by
    apply Array.ext_getElem?
    intro i
    have hr : (overL wr a 0 a0.tmps.toList).toArray[i]? = (overL wr a 0 a0.tmps.toList)[i]? := by simp
    rw [hr]
    rcases Nat.lt_or_ge i a0.tmps.size with hi | hi
    · have h0 : a0.tmps.toList[i]? = some a0.tmps[i] := by rw [Array.getElem?_toList]; exact Array.getElem?_eq_getElem hi
      rw [overL_get wr a _ 0 i _ h0, Nat.zero_add]
      have hi' : i < a.tmps.size := by rw [hf.size]; exact hi
      have hev : a.eval (.tmp i) = a.tmps[i] := by simp [Act.eval, hi']
      rw [Array.getElem?_eq_getElem hi']
      cases hwi : wr i with
      | true => rw [← hev]
      | false =>
        have hap : apart ops i = true := by
          unfold apart
          rw [Array.all_eq_true_iff_forall_mem] at hw ⊢
          intro o ho
          have := hw o ho
          cases hd : o.dst with
          | none => rfl
          | some d =>
            rw [hd] at this
            simp only at this
            simp only [bne_iff_ne, ne_eq, Option.some.injEq]
            intro e
            subst e
            rw [hwi] at this
            cases this
        have := hf.keeps i hap
        rw [hev] at this
        rw [this]
        simp [Act.eval, hi]
    · rw [Array.getElem?_eq_none (by rw [hf.size]; exact hi), List.getElem?_eq_none (by rw [overL_len]; simpa using hi)]
  have hd := hf.defers
  cases a
  simp only at hs hd
  subst hd
  rw [Act.mk.injEq]
  exact ⟨hs, rfl⟩

end Go.Proofs.Ytcjobmbbikfnaad
