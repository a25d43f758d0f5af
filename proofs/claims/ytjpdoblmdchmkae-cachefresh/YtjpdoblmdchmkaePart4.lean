/- TEXTS LAID TOGETHER: Ask, Kbas, Kpt, Kof, Krw, Kmath, Kca, Commonk, Kcb -/
import Derived.Test.YtjpdoblmdchmkaePart3
import Derived.Deep.CutRange
import Derived.Test.YtjpdoblmdchmkaePart1
/-
  A TREE AS A MAP, asked.
-/
namespace Go.Proofs.Ytjpdoblmdchmkae
open Go.RowKit

theorem zero26 (w : World) : (zeroValue 34).run Try.prog w = .ok NV.zero.val w := by
  obtain ⟨i26, hi26, hz26, hs26, hb26⟩ := info_parts info26
  simp [zeroValue, typeInfo, hi26, hz26, NV.zero]
theorem IMap.ask {w : World} {bm : Nat} {xs : List M.Nd} (h : TMap w bm xs) (k : Int) :
    (M.find xs k = none ∧ ∀ ok : Bool, (Instr.lookup 29 (.map (some bm)) (.int .i64 k) ok).run Try.prog w = .ok (if ok then .tuple #[NV.zero.val, .bool false] else NV.zero.val) w) ∨
    ∃ (v : NV) (x : M.Nd), M.find xs k = some x ∧ Cont w v x ∧ ∀ ok : Bool, (Instr.lookup 29 (.map (some bm)) (.int .i64 k) ok).run Try.prog w = .ok (if ok then .tuple #[v.val, .bool true] else v.val) w := by
  obtain ⟨f, hi, ha⟩ := h
  rcases ha k with ⟨h1, h2⟩ | ⟨v, x, h1, h2, h3⟩
  · refine .inl ⟨h2, fun ok => ?_⟩
    rw [run_lookup_map 29 34 Try.underlying29 (zero26 w) hi k ok, h1]
    rfl
  · refine .inr ⟨v, x, h2, h3, fun ok => ?_⟩
    rw [run_lookup_map 29 34 Try.underlying29 (zero26 w) hi k ok, h1]
    rfl

end Go.Proofs.Ytjpdoblmdchmkae
/-
  NODES WHOSE LISTS STAY: each lies in memory that was there at the start, or in a block of bytes, or of entries; so it stays while others are written.
-/
namespace Go.Proofs.Ytjpdoblmdchmkae
open Go.RowKit
open Go.ChangeMaps (setBlock)

/-- where the memory ends that was there at the start -/
structure BaseN where
  n : Nat
def kbase [Inhabited BaseN] : Nat := (default : BaseN).n
section
variable [Inhabited BaseN]
/-- a list lies there, or in a block of its type -/
def Lies (w : World) (A : Option Addr) (n : Nat) (e : TypeId) : Prop := n = 0 ∨ ∃ b o, A = some ⟨b, o, none⟩ ∧ b < w.heap.size ∧ (b < kbase ∨ ∃ cur, w.heap[b]? = some (.cells cur e (0, 0)))
theorem Lies.keep {w w' : World} {A : Option Addr} {n : Nat} {e : TypeId} (h : Lies w A n e) (hs : w.heap.size ≤ w'.heap.size) (hk : KeepE e w w') : Lies w' A n e := by
  rcases h with h | ⟨b, o, e1, hb, h⟩
  · exact .inl h
  · refine .inr ⟨b, o, e1, by omega, h.imp id fun ⟨cur, h⟩ => ⟨cur, hk b cur h⟩⟩
theorem Lies.below {B : Nat} {w w' : World} {A : Option Addr} {n : Nat} {e : TypeId} (h : Lies w A n e) (hB : w.heap.size ≤ B) (hb : Below B w w') : Lies w' A n e := h.keep hb.size (.below hb hB)
theorem Lies.none (w : World) (A : Option Addr) (e : TypeId) : Lies w A 0 e := .inl rfl
theorem Lies.own {w : World} {B : Nat} {e : TypeId} {k : Nat} {A : Option Addr} {n c : Nat} {xs : List Value} (h : w.ownsRow B e k (.slice A n c) n xs) : Lies w A n e := by
  rcases h.2 with ⟨h1, h2⟩ | ⟨g, cap, cur, e1, h1, hg, _⟩
  · exact .inl h2
  · cases e1
    exact .inr ⟨g, 0, rfl, lt_of_block hg, .inr ⟨cur, hg⟩⟩
theorem Lies.old {α : Type} {k : Nat} {cs : α → List Value} {w : World} {A : Option Addr} {n : Nat} {vs : List α} (h : Row k cs w A n vs) (hk : w.heap.size ≤ kbase) (e : TypeId) : Lies w A n e := by
  rcases h.2 with h1 | ⟨b, o, e1, hb, _⟩
  · left; rw [h.1, h1]; rfl
  · exact .inr ⟨b, o, e1, hb, .inl (by omega)⟩
theorem Row.keep {α : Type} {k : Nat} {cs : α → List Value} {w w' : World} {A : Option Addr} {n : Nat} {vs : List α} {e : TypeId} (h : Row k cs w A n vs) (hl : Lies w A n e) (hb : Below kbase w w') (hk : KeepE e w w') : Row k cs w' A n vs := by
  refine ⟨h.1, ?_⟩
  rcases h.2 with h1 | ⟨b, o, e1, hlt, hc⟩
  · exact .inl h1
  · rcases hl with h0 | ⟨b', o', e2, _, h3⟩
    · left; exact List.eq_nil_of_length_eq_zero (by rw [← h.1]; exact h0)
    · rw [e1] at e2
      cases e2
      have hh : w'.heap[b]? = w.heap[b]? := by
        rcases h3 with h3 | ⟨cur, h3⟩
        · exact hb.block b h3
        · rw [h3]; exact hk b cur h3
      refine .inr ⟨b, o, e1, by have := hb.size; omega, fun j v hv i c hi => ?_⟩
      have := hc j v hv i c hi
      unfold World.cell? at this ⊢
      rw [hh]
      exact this
/-- a node, and where its lists lie -/
def ContK (w : World) (v : NV) (x : M.Nd) : Prop := Cont w v x ∧ Lies w v.dA v.dn 5 ∧ Lies w v.eA v.en 49
theorem ContK.below {B : Nat} {w w' : World} {v : NV} {x : M.Nd} (h : ContK w v x) (hB : w.heap.size ≤ B) (hb : Below B w w') : ContK w' v x := ⟨h.1.below hB hb, h.2.1.below hB hb, h.2.2.below hB hb⟩
theorem ContK.keep {w w' : World} {v : NV} {x : M.Nd} (h : ContK w v x) (hb : Below kbase w w') (h5 : KeepE 5 w w') (hE : KeepE 49 w w') : ContK w' v x :=
  ⟨⟨h.1.1, h.1.2.1, h.1.2.2.1, h.1.2.2.2.1.keep h.2.1 hb h5, h.1.2.2.2.2.keep h.2.2 hb hE⟩, h.2.1.keep hb.size h5, h.2.2.keep hb.size hE⟩
theorem ContK.old {w : World} {v : NV} {x : M.Nd} (h : Cont w v x) (hk : w.heap.size ≤ kbase) : ContK w v x := ⟨h, .old h.2.2.2.1 hk 5, .old h.2.2.2.2 hk 49⟩
def AgreeK (w : World) (f : Int → Option Value) (xs : List M.Nd) : Prop :=
  ∀ k, (f k = none ∧ M.find xs k = none) ∨ ∃ (v : NV) (x : M.Nd), f k = some v.val ∧ M.find xs k = some x ∧ ContK w v x
theorem AgreeK.below {B : Nat} {w w' : World} {f : Int → Option Value} {xs : List M.Nd} (h : AgreeK w f xs) (hB : w.heap.size ≤ B) (hb : Below B w w') : AgreeK w' f xs := fun k =>
  (h k).imp id fun ⟨v, x, h1, h2, h3⟩ => ⟨v, x, h1, h2, h3.below hB hb⟩
theorem AgreeK.weak {w : World} {f : Int → Option Value} {xs : List M.Nd} (h : AgreeK w f xs) : Agree w f xs := fun k =>
  (h k).imp id fun ⟨v, x, h1, h2, h3⟩ => ⟨v, x, h1, h2, h3.1⟩
def TMapK (w : World) (b : Nat) (xs : List M.Nd) : Prop := ∃ f, IMap w b f ∧ AgreeK w f xs
theorem TMapK.below {B : Nat} {w w' : World} {b : Nat} {xs : List M.Nd} (h : TMapK w b xs) (hB : w.heap.size ≤ B) (hb : Below B w w') : TMapK w' b xs := by
  obtain ⟨f, h1, h2⟩ := h
  exact ⟨f, h1.below hB hb, h2.below hB hb⟩
theorem TMapK.weak {w : World} {b : Nat} {xs : List M.Nd} (h : TMapK w b xs) : TMap w b xs := by
  obtain ⟨f, h1, h2⟩ := h
  exact ⟨f, h1, h2.weak⟩
/-- it stays while neither it, nor bytes, nor entries are written -/
theorem TMapK.keep {w w' : World} {b : Nat} {xs : List M.Nd} (h : TMapK w b xs) (hm : w'.heap[b]? = w.heap[b]?) (hb : Below kbase w w') (h5 : KeepE 5 w w') (hE : KeepE 49 w w') : TMapK w' b xs := by
  obtain ⟨f, h1, h2⟩ := h
  exact ⟨f, h1.same hm, fun k => (h2 k).imp id fun ⟨v, x, e1, e2, e3⟩ => ⟨v, x, e1, e2, e3.keep hb h5 hE⟩⟩
theorem TMapK.old {w : World} {b : Nat} {xs : List M.Nd} {w0 : World} (h : TMap w b xs) (hx : ∀ f, IMap w b f → Agree w f xs → AgreeK w0 f xs) (hw : w = w0) : TMapK w b xs := by
  subst hw
  obtain ⟨f, h1, h2⟩ := h
  exact ⟨f, h1, hx f h1 h2⟩
theorem agreeK_upd {w : World} {f : Int → Option Value} {xs ys : List M.Nd} {v : NV} {x : M.Nd} (h : AgreeK w f xs) (hc : ContK w v x) (hf : ∀ k, M.find ys k = if k = x.fid then some x else M.find xs k) : AgreeK w (updF f v.fid v.val) ys := by
  intro k
  rw [hf k]
  unfold updF
  rw [hc.1.1]
  by_cases hk : k = x.fid
  · rw [if_pos hk, if_pos hk]; exact .inr ⟨v, x, rfl, rfl, hc⟩
  · rw [if_neg hk, if_neg hk]; exact h k
theorem IMap.askK {w : World} {bm : Nat} {xs : List M.Nd} (h : TMapK w bm xs) (k : Int) :
    (M.find xs k = none ∧ ∀ ok : Bool, (Instr.lookup 29 (.map (some bm)) (.int .i64 k) ok).run Try.prog w = .ok (if ok then .tuple #[NV.zero.val, .bool false] else NV.zero.val) w) ∨
    ∃ (v : NV) (x : M.Nd), M.find xs k = some x ∧ ContK w v x ∧ ∀ ok : Bool, (Instr.lookup 29 (.map (some bm)) (.int .i64 k) ok).run Try.prog w = .ok (if ok then .tuple #[v.val, .bool true] else v.val) w := by
  obtain ⟨f, hi, ha⟩ := h
  rcases ha k with ⟨h1, h2⟩ | ⟨v, x, h1, h2, h3⟩
  · refine .inl ⟨h2, fun ok => ?_⟩
    rw [run_lookup_map 29 34 Try.underlying29 (zero26 w) hi k ok, h1]
    rfl
  · refine .inr ⟨v, x, h2, h3, fun ok => ?_⟩
    rw [run_lookup_map 29 34 Try.underlying29 (zero26 w) hi k ok, h1]
    rfl
end
end Go.Proofs.Ytjpdoblmdchmkae
/-
  NODES THAT ARE KEPT, in memory.
-/
namespace Go.Proofs.Ytjpdoblmdchmkae
open Go.RowKit
open Go.ChangeMaps (setBlock)

namespace M
/-- a node that is kept -/
structure Kp where
  node : Nd
  dirty : Bool
  worth : Int
  last : Int
end M
theorem infoK : (Try.prog.info? 36).map (fun i => (i.zero, i.size, i.bytes)) = some (some (.agg #[.int .i64 0, .bool false, .slice none 0 0, .slice none 0 0, .int .i64 0, .bool false, .int .i64 0, .int .i64 0]), 8, 96) := by kernel_rfl
structure KV where
  n : NV
  dirty : Bool
  worth : Int
  last : Int
def KV.cells (v : KV) : List Value := [.int .i64 v.n.fid, .bool v.n.dir, .slice v.n.dA v.n.dn v.n.dc, .slice v.n.eA v.n.en v.n.ec, .int .i64 v.n.ver, .bool v.dirty, .int .i64 v.worth, .int .i64 v.last]
@[reducible] def KV.val (v : KV) : Value := .agg #[.int .i64 v.n.fid, .bool v.n.dir, .slice v.n.dA v.n.dn v.n.dc, .slice v.n.eA v.n.en v.n.ec, .int .i64 v.n.ver, .bool v.dirty, .int .i64 v.worth, .int .i64 v.last]
@[reducible] def KV.obj (v : KV) : Obj := .cells #[.int .i64 v.n.fid, .bool v.n.dir, .slice v.n.dA v.n.dn v.n.dc, .slice v.n.eA v.n.en v.n.ec, .int .i64 v.n.ver, .bool v.dirty, .int .i64 v.worth, .int .i64 v.last] 36
def KV.zero : KV := ⟨NV.zero, false, 0, 0⟩
theorem kept_len (v : KV) : v.cells.length = 8 := rfl
theorem kept_one (v : KV) : ∀ u ∈ v.cells, u.oneCell' = true := by intro u hu; simp [KV.cells] at hu; rcases hu with rfl | rfl | rfl | rfl | rfl | rfl | rfl | rfl <;> rfl
def BoxK (w : World) (g : Nat) (v : KV) : Prop := w.heap[g]? = some (.cells #[.int .i64 v.n.fid, .bool v.n.dir, .slice v.n.dA v.n.dn v.n.dc, .slice v.n.eA v.n.en v.n.ec, .int .i64 v.n.ver, .bool v.dirty, .int .i64 v.worth, .int .i64 v.last] 36 (0, 0))
section
variable {w w' : World} {g B : Nat} {v : KV}
theorem BoxK.facts (h : BoxK w g v) : w.cell? ⟨g, 0, none⟩ = some (.int .i64 v.n.fid) ∧ w.cell? ⟨g, 1, none⟩ = some (.bool v.n.dir) ∧ w.cell? ⟨g, 2, none⟩ = some (.slice v.n.dA v.n.dn v.n.dc) ∧ w.cell? ⟨g, 3, none⟩ = some (.slice v.n.eA v.n.en v.n.ec) ∧ w.cell? ⟨g, 4, none⟩ = some (.int .i64 v.n.ver) ∧
    w.cell? ⟨g, 5, none⟩ = some (.bool v.dirty) ∧ w.cell? ⟨g, 6, none⟩ = some (.int .i64 v.worth) ∧ w.cell? ⟨g, 7, none⟩ = some (.int .i64 v.last) ∧ (∀ o, w.frozen? ⟨g, o, none⟩ = false) ∧ g < w.heap.size := by
  unfold BoxK at h
  refine ⟨by simp [World.cell?, h], by simp [World.cell?, h], by simp [World.cell?, h], by simp [World.cell?, h], by simp [World.cell?, h], by simp [World.cell?, h], by simp [World.cell?, h], by simp [World.cell?, h], fun o => by simp [World.frozen?, h], lt_of_block h⟩
theorem BoxK.below (h : BoxK w g v) (hb : Below B w w') (hs : g < B) : BoxK w' g v := by
  unfold BoxK at h ⊢; rw [hb.block g hs]; exact h
theorem BoxK.alloc (h : BoxK w g v) (o : Obj) : BoxK (w.alloc o) g v := by
  unfold BoxK at h ⊢; rw [Below.heap_alloc w o g (lt_of_block h)]; exact h
theorem boxK_one (w : World) (v : KV) : ∀ W, W = w.alloc (.cells #[.int .i64 v.n.fid, .bool v.n.dir, .slice v.n.dA v.n.dn v.n.dc, .slice v.n.eA v.n.en v.n.ec, .int .i64 v.n.ver, .bool v.dirty, .int .i64 v.worth, .int .i64 v.last] 36) → Below w.heap.size w W ∧ BoxK W w.heap.size v ∧ W.heap.size = w.heap.size + 1 := by
  rintro W rfl
  exact ⟨(Below.refl _ _).alloc (Nat.le_refl _) _, heap_alloc_new w _, by simp⟩
theorem rowK_box (h : BoxK w g v) : Row 8 KV.cells w (some ⟨g, 0, none⟩) 1 [v] := by
  refine ⟨rfl, .inr ⟨g, 0, rfl, lt_of_block h, fun j u hv i c hi => ?_⟩⟩
  obtain ⟨b0, b1, b2, b3, b4, b5, b6, b7, bf, bz⟩ := h.facts
  cases j with
  | succ j => cases hv
  | zero =>
    cases hv
    match i, hi with
    | 0, hi => cases hi; exact b0
    | 1, hi => cases hi; exact b1
    | 2, hi => cases hi; exact b2
    | 3, hi => cases hi; exact b3
    | 4, hi => cases hi; exact b4
    | 5, hi => cases hi; exact b5
    | 6, hi => cases hi; exact b6
    | 7, hi => cases hi; exact b7
    | i + 8, hi => cases hi
end
abbrev Kepts := Row 8 KV.cells
theorem Kepts.at {w : World} {A : Option Addr} {n : Nat} {vs : List KV} (h : Kepts w A n vs) {j : Nat} (hj : j < n) :
    ∃ b o v, A = some ⟨b, o, none⟩ ∧ b < w.heap.size ∧ vs[j]? = some v ∧ w.cell? ⟨b, o + j * 8, none⟩ = some (.int .i64 v.n.fid) ∧ w.cell? ⟨b, o + j * 8 + 1, none⟩ = some (.bool v.n.dir) ∧ w.cell? ⟨b, o + j * 8 + 2, none⟩ = some (.slice v.n.dA v.n.dn v.n.dc) ∧
      w.cell? ⟨b, o + j * 8 + 3, none⟩ = some (.slice v.n.eA v.n.en v.n.ec) ∧ w.cell? ⟨b, o + j * 8 + 4, none⟩ = some (.int .i64 v.n.ver) ∧ w.cell? ⟨b, o + j * 8 + 5, none⟩ = some (.bool v.dirty) ∧ w.cell? ⟨b, o + j * 8 + 6, none⟩ = some (.int .i64 v.worth) ∧ w.cell? ⟨b, o + j * 8 + 7, none⟩ = some (.int .i64 v.last) := by
  obtain ⟨b, o, v, e, hlt, hv, hc⟩ := Row.at h hj
  exact ⟨b, o, v, e, hlt, hv, hc 0 _ rfl, hc 1 _ rfl, hc 2 _ rfl, hc 3 _ rfl, hc 4 _ rfl, hc 5 _ rfl, hc 6 _ rfl, hc 7 _ rfl⟩
theorem snoc_belowK {w W w2 : World} {B : Nat} {A : Option Addr} {m c : Nat} {L : List Value} (hb : Below B w W) (hB : B ≤ w.heap.size) (ho : W.ownsRow B 36 8 (.slice A m c) m L) (hg : W.grownBy w2 (Value.slice A m c).ownBlock) : Below B w w2 :=
  Below.grown hb hg (Nat.le_trans hB hb.size) (fun k hk => (ho.lt k hk).1)
variable [Inhabited BaseN]
/-- the value v is what is kept, its lists where they stay -/
def ContKp (w : World) (v : KV) (x : M.Kp) : Prop := ContK w v.n x.node ∧ v.dirty = x.dirty ∧ v.worth = x.worth ∧ v.last = x.last
theorem ContKp.below {B : Nat} {w w' : World} {v : KV} {x : M.Kp} (h : ContKp w v x) (hB : w.heap.size ≤ B) (hb : Below B w w') : ContKp w' v x := ⟨h.1.below hB hb, h.2⟩
theorem ContKp.keep {w w' : World} {v : KV} {x : M.Kp} (h : ContKp w v x) (hb : Below kbase w w') (h5 : KeepE 5 w w') (hE : KeepE 49 w w') : ContKp w' v x := ⟨h.1.keep hb h5 hE, h.2⟩
/-- a cache that came in -/
def KeptK (w : World) (A : Option Addr) (n : Nat) (vs : List KV) (xs : List M.Kp) : Prop := Kepts w A n vs ∧ Lies w A n 36 ∧ All2 (ContKp w) vs xs
theorem KeptK.below {B : Nat} {w w' : World} {A : Option Addr} {n : Nat} {vs : List KV} {xs : List M.Kp} (h : KeptK w A n vs xs) (hB : w.heap.size ≤ B) (hb : Below B w w') : KeptK w' A n vs xs :=
  ⟨h.1.below hB hb, h.2.1.below hB hb, h.2.2.imp fun _ _ h => h.below hB hb⟩
theorem KeptK.len {w : World} {A : Option Addr} {n : Nat} {vs : List KV} {xs : List M.Kp} (h : KeptK w A n vs xs) : n = xs.length := by rw [h.1.1, h.2.2.1]
/-- a cache of one's own: its list is new -/
def OwnK (w : World) (B : Nat) (A : Option Addr) (n c : Nat) (vs : List KV) (xs : List M.Kp) : Prop := w.ownsRow B 36 8 (.slice A n c) n (vs.flatMap KV.cells) ∧ All2 (ContKp w) vs xs
theorem OwnK.kept {w : World} {B : Nat} {A : Option Addr} {n c : Nat} {vs : List KV} {xs : List M.Kp} (h : OwnK w B A n c vs xs) : KeptK w A n vs xs :=
  ⟨Row.ofOwn kept_len (by decide) h.1, .own h.1, h.2⟩
theorem OwnK.below {B C : Nat} {w w' : World} {A : Option Addr} {n c : Nat} {vs : List KV} {xs : List M.Kp} (h : OwnK w B A n c vs xs) (hC : w.heap.size ≤ C) (hb : Below C w w') : OwnK w' B A n c vs xs :=
  ⟨own_below h.1 hb hC, h.2.imp fun _ _ h => h.below hC hb⟩
theorem OwnK.mono {B B' : Nat} {w : World} {A : Option Addr} {n c : Nat} {vs : List KV} {xs : List M.Kp} (h : OwnK w B A n c vs xs) (hB : B' ≤ B) : OwnK w B' A n c vs xs := ⟨own_mono h.1 hB, h.2⟩
theorem OwnK.nil (w : World) (B : Nat) : OwnK w B none 0 0 [] [] := ⟨World.ownsRow_nil _ _ _ _, All2.nil⟩
theorem ContKp.grown {w w' : World} {B : Nat} {A : Option Addr} {n c : Nat} {L : List Value} {v : KV} {x : M.Kp} (h : ContKp w v x) (hB : kbase ≤ B) (hk : kbase ≤ w.heap.size) (ho : w.ownsRow B 36 8 (.slice A n c) n L) (hg : w.grownBy w' (Value.slice A n c).ownBlock) : ContKp w' v x :=
  h.keep (Below.grown (Below.refl _ _) hg hk (fun k hk => Nat.le_trans hB (ho.lt k hk).1)) (.grown ho (by decide) hg) (.grown ho (by decide) hg)
/-- one more is behind -/
theorem OwnK.snoc {w w' : World} {B : Nat} {A : Option Addr} {n c : Nat} {A' : Option Addr} {n' c' : Nat} {vs : List KV} {xs : List M.Kp} {r : KV} {x : M.Kp} (h : OwnK w B A n c vs xs) (hB : kbase ≤ B) (hk : kbase ≤ w.heap.size) (hr : ContKp w r x) (ho : w'.ownsRow B 36 8 (.slice A' n' c') n' (vs.flatMap KV.cells ++ r.cells)) (hg : w.grownBy w' (Value.slice A n c).ownBlock) : OwnK w' B A' n' c' (vs ++ [r]) (xs ++ [x]) := by
  refine ⟨?_, All2.append (h.2.imp fun _ _ k => k.grown hB hk h.1 hg) (All2.one (hr.grown hB hk h.1 hg))⟩
  rw [List.flatMap_append]
  simpa using ho
end Go.Proofs.Ytjpdoblmdchmkae
/-
  TREES WHOSE LISTS STAY: Of.
-/
namespace Go.Proofs.Ytjpdoblmdchmkae
open Go.RowKit
open Go.ChangeMaps (setBlock)
variable [Inhabited BaseN]

/-- a tree that came in, its lists where they stay -/
def TreeK (w : World) (A : Option Addr) (n : Nat) (vs : List NV) (xs : List M.Nd) : Prop := Nodes w A n vs ∧ All2 (ContK w) vs xs
theorem TreeK.below {B : Nat} {w w' : World} {A : Option Addr} {n : Nat} {vs : List NV} {xs : List M.Nd} (h : TreeK w A n vs xs) (hB : w.heap.size ≤ B) (hb : Below B w w') : TreeK w' A n vs xs :=
  ⟨h.1.below hB hb, h.2.imp fun _ _ h => h.below hB hb⟩
theorem TreeK.old {w : World} {A : Option Addr} {n : Nat} {vs : List NV} {xs : List M.Nd} (h : Tree w A n vs xs) (hk : w.heap.size ≤ kbase) : TreeK w A n vs xs := ⟨h.1, h.2.imp fun _ _ h => .old h hk⟩
theorem agreeK_nil (w : World) : AgreeK w (fun _ => none) [] := fun _ => .inl ⟨rfl, rfl⟩
/-- so far -/
def OfInvK (w : World) (b : Nat) (xs : List M.Nd) (wr : World) : Prop := (∃ f, IMap wr b f ∧ AgreeK w f xs) ∧ Below w.heap.size w wr
theorem of_stepK {w : World} {b : Nat} {xs ys : List M.Nd} {v : NV} {x : M.Nd} {wr : World} (h : OfInvK w b xs wr) (hwb : w.heap.size ≤ b) (hc : ContK w v x) (hf : ∀ k, M.find ys k = if k = x.fid then some x else M.find xs k) :
    ∃ o : Obj, (Instr.mapUpdate 29 (.map (some b)) (.int .i64 v.fid) v.val).run Try.prog wr = .ok () (setBlock wr b o) ∧ OfInvK w b ys (setBlock wr b o) := by
  obtain ⟨⟨f, hi, ha⟩, hb⟩ := h
  obtain ⟨o, hrun, him⟩ := run_update_map 29 34 Try.underlying29 hi v.fid v.val
  exact ⟨o, hrun, ⟨_, him, agreeK_upd ha hc hf⟩, setBlock_below hb hwb o⟩
theorem OfInvK.alloc {w : World} {b : Nat} {xs : List M.Nd} {wr : World} (h : OfInvK w b xs wr) (o : Obj) : OfInvK w b xs (wr.alloc o) := by
  obtain ⟨⟨f, hi, ha⟩, hb⟩ := h
  exact ⟨⟨f, hi.below (Nat.le_refl _) ((Below.refl _ _).alloc (Nat.le_refl _) o), ha⟩, hb.alloc hb.size o⟩
theorem OfInvK.tmap {w : World} {b : Nat} {xs : List M.Nd} {wr : World} (h : OfInvK w b xs wr) : TMapK wr b xs := by
  obtain ⟨⟨f, hi, ha⟩, hb⟩ := h
  exact ⟨f, hi, ha.below (Nat.le_refl _) hb⟩
set_option maxHeartbeats 2000000 in
theorem ofK_any (A : Option Addr) (n c : Nat) (vs : List NV) (xs : List M.Nd) (w : World) (ht : TreeK w A n vs xs) (hr : M.RsN xs) (hn : n * 72 ≤ 140737488355328) :
    Calls Try.prog 8 #[.slice A n c] w fun e w' => ∃ b, e = .returned (.map (some b)) ∧ TMapK w' b xs ∧ Below w.heap.size w w' := by
  have HT : Hid (TreeK w A n vs xs ∧ M.RsN xs) := ⟨ht, hr⟩
  have HL : Hid (n = xs.length) := by show n = _; rw [ht.1.1, ht.2.1]
  have hmm := @run_makeMap Try.prog
  have H0 : Hid (OfInvK w w.heap.size [] (w.alloc (.map #[] 0))) := ⟨⟨_, IMap.new w, agreeK_nil w⟩, (Below.refl _ _).alloc (Nat.le_refl _) _⟩
  clear ht hr
  go_enter Try.func8, Try.ntmps8
  go_wp2
  go_loopw [9] (fun i wr => ∃ k : Nat, k ≤ n ∧ i = .int .i64 k ∧ OfInvK w w.heap.size (xs.take k) wr) (fun i _ => n - (intOf i).toNat)
  case atStart => exact ⟨0, Nat.zero_le _, rfl, H0.out⟩
  case round =>
    obtain ⟨k, hk, rfl, hinv⟩ := hrel
    have HI : Hid (OfInvK w w.heap.size (xs.take k) wr) := hinv
    have hb := hinv.2
    clear hinv
    by_cases hlt : k < n
    · have hxr := HT.out.1.below (Nat.le_refl _) hb
      obtain ⟨b, o, v, hA, _, hvk, a0, a1, a2, a3, a4⟩ := hxr.1.at hlt
      obtain ⟨x, hxk, hcx⟩ := HT.out.1.2.at hvk
      have HX : Hid (ContK w v x ∧ xs[k]? = some x) := ⟨hcx, hxk⟩
      have HF : Hid (∀ q, M.find (xs.take (k + 1)) q = if q = x.fid then some x else M.find (xs.take k) q) := by
        intro q
        have h1 := rs_takeN (k + 1) HT.out.2
        rw [take_step hxk] at h1 ⊢
        exact find_snoc h1 q
      obtain ⟨ob, hrun, hinv2⟩ := of_stepK (HI.out.alloc (.cells #[.int .i64 v.fid, .bool v.dir, .slice v.dA v.dn v.dc, .slice v.eA v.en v.ec, .int .i64 v.ver] 34)) (Nat.le_refl _) hcx HF.out
      have HI2 : Hid (OfInvK w w.heap.size (xs.take (k + 1)) (setBlock (wr.alloc (.cells #[.int .i64 v.fid, .bool v.dir, .slice v.dA v.dn v.dc, .slice v.eA v.en v.ec, .int .i64 v.ver] 34)) w.heap.size ob)) := hinv2
      have hkn : (k : Int) < (n : Int) := by omega
      have hk0 : (0 : Int) ≤ (k : Int) := by omega
      subst hA
      clear hxr hvk hxk hcx hinv2
      go_wp2
      go_roundw
      case rel => exact ⟨k + 1, by omega, by go_num, HI2.out⟩
      case measure => simp [intOf]; omega
    · have HN : Hid (xs.take k = xs) := by have := HL.out; show _ = _; exact List.take_of_length_le (by omega)
      go_wp2
      go_ret
      have h1 := HI.out
      rw [HN.out] at h1
      exact ⟨_, rfl, h1.tmap, hb⟩
end Go.Proofs.Ytjpdoblmdchmkae
/-
  THE REFERENCE's caches: Worse, Fresh, Kept.
-/
namespace Go.Proofs.Ytjpdoblmdchmkae
open Go.RowKit
open Go.ChangeMaps (setBlock)

def worseV (a b : KV) : Bool := if a.worth = b.worth then (if a.last = b.last then decide (a.n.fid < b.n.fid) else decide (a.last < b.last)) else decide (a.worth < b.worth)
def M.worseS (a b : M.Kp) : Bool := if a.worth = b.worth then (if a.last = b.last then decide (a.node.fid < b.node.fid) else decide (a.last < b.last)) else decide (a.worth < b.worth)
theorem two_boxesK (w : World) (a b : KV) : ∀ W, W = (w.alloc (.cells #[.int .i64 a.n.fid, .bool a.n.dir, .slice a.n.dA a.n.dn a.n.dc, .slice a.n.eA a.n.en a.n.ec, .int .i64 a.n.ver, .bool a.dirty, .int .i64 a.worth, .int .i64 a.last] 36)).alloc (.cells #[.int .i64 b.n.fid, .bool b.n.dir, .slice b.n.dA b.n.dn b.n.dc, .slice b.n.eA b.n.en b.n.ec, .int .i64 b.n.ver, .bool b.dirty, .int .i64 b.worth, .int .i64 b.last] 36) → Below w.heap.size w W := by
  rintro W rfl
  exact ((Below.refl _ _).alloc (Nat.le_refl _) _).alloc (by simp) _
namespace M
/-- what is dirty, or of the version that is there -/
def freshB (ts : List Nd) (x : Kp) : Bool := x.dirty || match find ts x.node.fid with
  | none => false
  | some y => decide (y.ver = x.node.ver)
/-- the nodes, by their fids -/
def keptT (xs : List Kp) : List Nd := xs.foldl (fun t k => putN t k.node) []
theorem keptT_snoc (xs : List Kp) (x : Kp) : keptT (xs ++ [x]) = putN (keptT xs) x.node := by unfold keptT; rw [List.foldl_append]; rfl
end M
variable [Inhabited BaseN]
theorem worseV_is {w : World} {a b : KV} {x y : M.Kp} (ha : ContKp w a x) (hb : ContKp w b y) : worseV a b = M.worseS x y := by
  unfold worseV M.worseS
  rw [ha.2.2.1, ha.2.2.2, ha.1.1.1, hb.2.2.1, hb.2.2.2, hb.1.1.1]

end Go.Proofs.Ytjpdoblmdchmkae
/-
  PLAIN MATHEMATICS of chapter 8: what is kept.
-/
namespace Go.Proofs.Ytjpdoblmdchmkae
namespace M
def hasK (xs : List Kp) (f : Int) : Bool := xs.any fun x => decide (x.node.fid = f)
/-- in another one's place -/
def mixK (x k : Kp) : Kp := ⟨k.node, k.dirty, if k.worth < x.worth then x.worth else k.worth, k.last⟩
def repK : List Kp → Kp → List Kp
  | [], _ => []
  | x :: xs, k => if x.node.fid = k.node.fid then mixK x k :: xs else x :: repK xs k
/-- so far: the list, and whether it was there -/
def stepK (k : Kp) (s : List Kp × Bool) (x : Kp) : List Kp × Bool := if (decide (x.node.fid = k.node.fid) && !s.2) = true then (s.1 ++ [mixK x k], true) else (s.1 ++ [x], s.2)
theorem fold_true (k : Kp) : ∀ (xs a : List Kp), xs.foldl (stepK k) (a, true) = (a ++ xs, true)
  | [], a => by simp
  | x :: xs, a => by
    rw [List.foldl_cons]
    have e : stepK k (a, true) x = (a ++ [x], true) := by unfold stepK; simp
    rw [e, fold_true k xs, List.append_assoc]
    rfl
theorem fold_false (k : Kp) : ∀ (xs a : List Kp), xs.foldl (stepK k) (a, false) = (a ++ repK xs k, hasK xs k.node.fid)
  | [], a => by simp [repK, hasK]
  | x :: xs, a => by
    rw [List.foldl_cons]
    by_cases h : x.node.fid = k.node.fid
    · have e : stepK k (a, false) x = (a ++ [mixK x k], true) := by unfold stepK; simp [h]
      rw [e, fold_true, repK, if_pos h, List.append_assoc]
      unfold hasK
      simp [h]
    · have e : stepK k (a, false) x = (a ++ [x], false) := by unfold stepK; simp [h]
      rw [e, fold_false k xs, repK, if_neg h, List.append_assoc]
      unfold hasK
      simp [h]
theorem rep_not : ∀ (xs : List Kp) (k : Kp), hasK xs k.node.fid = false → repK xs k = xs
  | [], _, _ => rfl
  | x :: xs, k, h => by
    unfold hasK at h
    rw [List.any_cons, Bool.or_eq_false_iff] at h
    have h1 : ¬ x.node.fid = k.node.fid := by simpa using h.1
    rw [repK, if_neg h1, rep_not xs k h.2]
theorem fold_len (k : Kp) : ∀ (xs a : List Kp) (b : Bool), (xs.foldl (stepK k) (a, b)).1.length = a.length + xs.length
  | [], a, b => by simp
  | x :: xs, a, b => by
    rw [List.foldl_cons, List.length_cons]
    unfold stepK
    split
    · rw [show ((a ++ [mixK x k], true) : List Kp × Bool) = (a ++ [mixK x k], true) from rfl]
      have := fold_len k xs (a ++ [mixK x k]) true
      unfold stepK at this
      rw [this, List.length_append, List.length_singleton]; omega
    · have := fold_len k xs (a ++ [x]) b
      unfold stepK at this
      rw [this, List.length_append, List.length_singleton]; omega
/-- it may go -/
def freeK (x : Kp) : Bool := !x.dirty && !decide (x.node.fid = 0)
def ahead (xs : List Kp) (x : Kp) : Option Nat → Bool
  | none => true
  | some j => match xs[j]? with
    | none => true
    | some y => worseS x y
/-- the worst of the first ones -/
def worstS (xs : List Kp) : Nat → Option Nat
  | 0 => none
  | k + 1 => match xs[k]? with
    | none => worstS xs k
    | some x => if (freeK x && ahead xs x (worstS xs k)) = true then some k else worstS xs k
theorem worst_lt (xs : List Kp) : ∀ (k i : Nat), worstS xs k = some i → i < k ∧ i < xs.length
  | 0, _, h => by cases h
  | k + 1, i, h => by
    unfold worstS at h
    cases hx : xs[k]? with
    | none =>
      rw [hx] at h
      have := worst_lt xs k i h
      omega
    | some x =>
      rw [hx] at h
      simp only at h
      split at h
      · cases h
        exact ⟨Nat.lt_succ_self _, (List.getElem?_eq_some_iff.1 hx).1⟩
      · have := worst_lt xs k i h
        omega
theorem worst_step {xs : List Kp} {k : Nat} {x : Kp} (h : xs[k]? = some x) : worstS xs (k + 1) = if (freeK x && ahead xs x (worstS xs k)) = true then some k else worstS xs k := by
  rw [worstS, h]
def shrinkS (xs : List Kp) (room : Int) : Option (List Kp) :=
  if room ≤ (xs.length : Int) then
    match _hw : worstS xs xs.length with
    | none => none
    | some i => shrinkS (xs.eraseIdx i) room
  else some xs
termination_by xs.length
decreasing_by
  have := (worst_lt xs _ _ _hw).2
  rw [List.length_eraseIdx_of_lt this]
  omega
theorem shrink_end {xs : List Kp} {room : Int} (h : ¬ room ≤ (xs.length : Int)) : shrinkS xs room = some xs := by rw [shrinkS, if_neg h]
theorem shrink_none {xs : List Kp} {room : Int} (h : room ≤ (xs.length : Int)) (hw : worstS xs xs.length = none) : shrinkS xs room = none := by
  rw [shrinkS, if_pos h]
  split
  · rfl
  · rename_i h2; rw [hw] at h2; cases h2
theorem shrink_some {xs : List Kp} {room : Int} {i : Nat} (h : room ≤ (xs.length : Int)) (hw : worstS xs xs.length = some i) : shrinkS xs room = shrinkS (xs.eraseIdx i) room := by
  conv => lhs; rw [shrinkS, if_pos h]
  split
  · rename_i h2; rw [hw] at h2; cases h2
  · rename_i j h2; rw [hw] at h2; cases h2; rfl
def keepS (xs : List Kp) (room : Int) (k : Kp) : Int × List Kp :=
  if hasK xs k.node.fid = true then (0, repK xs k) else match shrinkS xs room with
    | none => (5, [])
    | some ys => (0, ys ++ [k])
end M
end Go.Proofs.Ytjpdoblmdchmkae
/-
  PACKAGE cache, in memory: what is kept, and copies of one's own.
-/
namespace Go.Proofs.Ytjpdoblmdchmkae
open Go.RowKit

section
variable {w w' : World} {B C : Nat} {v : KV} {x : M.Kp} {A : Option Addr} {n c : Nat} {vs : List KV} {xs : List M.Kp}
/-- the value v is what is kept -/
def ContC (w : World) (v : KV) (x : M.Kp) : Prop := Cont w v.n x.node ∧ v.dirty = x.dirty ∧ v.worth = x.worth ∧ v.last = x.last
theorem ContC.below (h : ContC w v x) (hB : w.heap.size ≤ B) (hb : Below B w w') : ContC w' v x := ⟨h.1.below hB hb, h.2⟩
/-- a cache, wherever it lies -/
def TreeC (w : World) (A : Option Addr) (n : Nat) (vs : List KV) (xs : List M.Kp) : Prop := Kepts w A n vs ∧ All2 (ContC w) vs xs
theorem TreeC.below (h : TreeC w A n vs xs) (hB : w.heap.size ≤ B) (hb : Below B w w') : TreeC w' A n vs xs := ⟨h.1.below hB hb, h.2.imp fun _ _ h => h.below hB hb⟩
theorem TreeC.len (h : TreeC w A n vs xs) : n = xs.length := by rw [h.1.1, h.2.1]
/-- its lists are the call's own -/
def OwnKp (w : World) (B : Nat) (v : KV) (x : M.Kp) : Prop := OwnN w B v.n x.node ∧ v.dirty = x.dirty ∧ v.worth = x.worth ∧ v.last = x.last
theorem OwnKp.cont (h : OwnKp w B v x) : ContC w v x := ⟨h.1.cont, h.2⟩
theorem OwnKp.below (h : OwnKp w B v x) (hC : w.heap.size ≤ C) (hb : Below C w w') : OwnKp w' B v x := ⟨h.1.below hC hb, h.2⟩
theorem OwnKp.mono (h : OwnKp w C v x) (hB : B ≤ C) : OwnKp w B v x := ⟨h.1.mono hB, h.2⟩
/-- a cache of one's own -/
def OwnC (w : World) (B : Nat) (A : Option Addr) (n c : Nat) (vs : List KV) (xs : List M.Kp) : Prop := w.ownsRow B 36 8 (.slice A n c) n (vs.flatMap KV.cells) ∧ All2 (OwnKp w B) vs xs
theorem OwnC.tree (h : OwnC w B A n c vs xs) : TreeC w A n vs xs := ⟨Row.ofOwn kept_len (by decide) h.1, h.2.imp fun _ _ h => h.cont⟩
theorem OwnC.below (h : OwnC w B A n c vs xs) (hC : w.heap.size ≤ C) (hb : Below C w w') : OwnC w' B A n c vs xs := ⟨own_below h.1 hb hC, h.2.imp fun _ _ h => h.below hC hb⟩
theorem OwnC.mono (h : OwnC w C A n c vs xs) (hB : B ≤ C) : OwnC w B A n c vs xs := ⟨own_mono h.1 hB, h.2.imp fun _ _ h => h.mono hB⟩
theorem OwnC.nil (w : World) (B : Nat) : OwnC w B none 0 0 [] [] := ⟨World.ownsRow_nil _ _ _ _, All2.nil⟩
theorem OwnC.len (h : OwnC w B A n c vs xs) : n = xs.length := h.tree.len
theorem OwnKp.grown {v' : Value} {n' : Nat} {L : List Value} (h : OwnKp w C v x) (h' : w.ownsRow B 36 8 v' n' L) (hg : w.grownBy w' v'.ownBlock) : OwnKp w' C v x :=
  ⟨⟨h.1.1, h.1.2.1, h.1.2.2.1, own_grown h.1.2.2.2.1 h' (by decide) hg, own_grown h.1.2.2.2.2 h' (by decide) hg⟩, h.2⟩
theorem OwnC.snoc {A' : Option Addr} {n' c' : Nat} {r : KV} {x : M.Kp} (h : OwnC w B A n c vs xs) (hr : OwnKp w B r x) (ho : w'.ownsRow B 36 8 (.slice A' n' c') n' (vs.flatMap KV.cells ++ r.cells)) (hg : w.grownBy w' (Value.slice A n c).ownBlock) : OwnC w' B A' n' c' (vs ++ [r]) (xs ++ [x]) := by
  refine ⟨?_, All2.append (h.2.imp fun _ _ k => k.grown h.1 hg) (All2.one (hr.grown h.1 hg))⟩
  rw [List.flatMap_append]
  simpa using ho
theorem KeptK.weak [Inhabited BaseN] (h : KeptK w A n vs xs) : TreeC w A n vs xs := ⟨h.1, h.2.2.imp fun _ _ h => ⟨h.1.1, h.2⟩⟩
/-- what is one's own lies where nothing else does -/
theorem OwnC.keptK [Inhabited BaseN] (h : OwnC w B A n c vs xs) : KeptK w A n vs xs :=
  ⟨h.tree.1, .own h.1, h.2.imp fun _ _ k => ⟨⟨k.1.cont, .own k.1.2.2.2.1, .own k.1.2.2.2.2⟩, k.2⟩⟩
theorem KeptK.old [Inhabited BaseN] (h : TreeC w A n vs xs) (hk : w.heap.size ≤ kbase) : KeptK w A n vs xs := ⟨h.1, .old h.1 hk _, h.2.imp fun _ _ k => ⟨.old k.1 hk, k.2⟩⟩
end
/-- an index, or -1 -/
def idxC : Option Nat → Int
  | none => -1
  | some k => k
theorem idxC_none {xs : List M.Kp} {p : M.Kp → Bool} (h : ∀ x ∈ xs, p x = false) : idxC (xs.findIdx? p) = -1 := by
  rw [List.findIdx?_eq_none_iff.2 (fun x hx => by simpa using h x hx)]; rfl
theorem idxC_at {xs : List M.Kp} {p : M.Kp → Bool} {k : Nat} {x : M.Kp} (h : ∀ x ∈ xs.take k, p x = false) (hx : xs[k]? = some x) (hp : p x = true) : idxC (xs.findIdx? p) = (k : Int) := by
  obtain ⟨hk, he⟩ := List.getElem?_eq_some_iff.1 hx
  have : xs.findIdx? p = some k := by
    rw [List.findIdx?_eq_some_iff_getElem]
    refine ⟨hk, by rw [he]; exact hp, fun j hj => ?_⟩
    have hjl : j < xs.length := by omega
    have := h xs[j] (List.mem_of_getElem? (i := j) (by rw [List.getElem?_take, if_pos hj]; exact List.getElem?_eq_getElem hjl))
    rw [this]; simp
  rw [this]; rfl
/-- where it is kept -/
def M.placeK (xs : List M.Kp) (f : Int) : Option Nat := xs.findIdx? fun x => decide (x.node.fid = f)
theorem place_has (xs : List M.Kp) (f : Int) : M.hasK xs f = decide (0 ≤ idxC (M.placeK xs f)) := by
  unfold M.hasK M.placeK
  cases h : xs.findIdx? fun x => decide (x.node.fid = f) with
  | none =>
    rw [List.findIdx?_eq_none_iff] at h
    rw [List.any_eq_false.2 (fun x hx => by rw [h x hx]; decide)]
    simp [idxC]
  | some k =>
    obtain ⟨hk, hp, _⟩ := List.findIdx?_eq_some_iff_getElem.1 h
    have ha : (xs.any fun x => decide (x.node.fid = f)) = true := List.any_eq_true.2 ⟨xs[k], List.getElem_mem hk, hp⟩
    rw [ha]
    simp [idxC]
end Go.Proofs.Ytjpdoblmdchmkae
/-
  CACHES AS THEY ARE READ.
-/
namespace Go.Proofs.Ytjpdoblmdchmkae
open Go.ChangeShapes Go.WideShapes Go.ChangeAt Go.RowKit Go.Deep

theorem cellsK : Try.prog.cellsOf 36 = 8 := by kernel_rfl
theorem bytesK : Try.prog.bytesOf 36 = 96 := by kernel_rfl
section
variable {H : Type} {enc : TypeId × Value → H}
instance : Inhabited KV := ⟨KV.zero⟩
instance : Inhabited M.Kp := ⟨⟨nd0, false, 0, 0⟩⟩
set_option maxRecDepth 8000 in
/-- one that is kept, as it came in -/
theorem open_kept {W : World} {sp : Nat → Bool} {held : Bool} {fuel : Nat} {cs : List Value} {x : DataW H × List MemPlace} (h : DataW.trod enc Try.prog W 0 sp held fuel 36 cs = some x) :
    ∃ (v : KV) (y : M.Kp), cs = v.cells ∧ ContC W v y ∧ (Sized 36 x.1 → y.node.data.length ≤ reachBytes ∧ y.node.ents.length * 24 ≤ reachBytes) := by
  obtain ⟨ys, m, _, rfl, hl, hys, hf⟩ := DataW.trod_struct Try.underlying36 h
  rw [cellsK] at hl
  obtain ⟨c0, c1, c2, c3, c4, c5, c6, c7, rfl⟩ : ∃ a b c d e f g i, cs = [a, b, c, d, e, f, g, i] := by
    match cs, hl with
    | [a, b, c, d, e, f, g, i], _ => exact ⟨a, b, c, d, e, f, g, i, rfl⟩
  have f0 : DataW.trod enc Try.prog W 0 sp held m 34 (([c0, c1, c2, c3, c4, c5, c6, c7].drop 0).take (Try.prog.cellsOf 34)) = ys[0]? := hf 0 _ rfl
  rw [cells26] at f0
  change DataW.trod enc Try.prog W 0 sp held m 34 [c0, c1, c2, c3, c4] = ys[0]? at f0
  have f1 : DataW.trod enc Try.prog W 0 sp held m 4 (([c0, c1, c2, c3, c4, c5, c6, c7].drop 5).take (Try.prog.cellsOf 4)) = ys[1]? := hf 1 _ rfl
  rw [cells4] at f1
  change DataW.trod enc Try.prog W 0 sp held m 4 [c5] = ys[1]? at f1
  have f2 : DataW.trod enc Try.prog W 0 sp held m 3 (([c0, c1, c2, c3, c4, c5, c6, c7].drop 6).take (Try.prog.cellsOf 3)) = ys[2]? := hf 2 _ rfl
  rw [cells3] at f2
  change DataW.trod enc Try.prog W 0 sp held m 3 [c6] = ys[2]? at f2
  have f3 : DataW.trod enc Try.prog W 0 sp held m 3 (([c0, c1, c2, c3, c4, c5, c6, c7].drop 7).take (Try.prog.cellsOf 3)) = ys[3]? := hf 3 _ rfl
  rw [cells3] at f3
  change DataW.trod enc Try.prog W 0 sp held m 3 [c7] = ys[3]? at f3
  have hlen : ys.length = 4 := hys
  have g : ∀ k, k < 4 → ∃ y, ys[k]? = some y := fun k hk => ⟨_, List.getElem?_eq_getElem (by omega)⟩
  obtain ⟨y0, g0⟩ := g 0 (by omega)
  obtain ⟨y1, g1⟩ := g 1 (by omega)
  obtain ⟨y2, g2⟩ := g 2 (by omega)
  obtain ⟨y3, g3⟩ := g 3 (by omega)
  rw [g0] at f0
  rw [g1] at f1
  rw [g2] at f2
  rw [g3] at f3
  obtain ⟨vn, y, e0, hc, s0⟩ := open_node f0
  obtain ⟨b1, e1, _⟩ := DataW.trod_bool Try.underlying4 f1
  obtain ⟨z2, e2, _, _⟩ := DataW.trod_int Try.underlying3 f2
  obtain ⟨z3, e3, _, _⟩ := DataW.trod_int Try.underlying3 f3
  cases e1; cases e2; cases e3
  refine ⟨⟨vn, b1, z2, z3⟩, ⟨y, b1, z2, z3⟩, ?_, ⟨hc, rfl, rfl, rfl⟩, fun hsz => ?_⟩
  · simp only [NV.cells, List.cons.injEq, and_true] at e0
    obtain ⟨rfl, rfl, rfl, rfl, rfl⟩ := e0
    rfl
  · exact s0 (sized_field (H := H) (j := 0) Try.underlying36 hsz rfl (by rw [List.getElem?_map, g0]; rfl))
/-- a cache that came in -/
theorem open_kepts {W : World} {sp : Nat → Bool} {held : Bool} {fuel : Nat} {l : List Value} {x : DataW H × List MemPlace} (h : DataW.trod enc Try.prog W 0 sp held fuel 22 l = some x) :
    ∃ (A : Option Addr) (n c : Nat) (vs : List KV) (xs : List M.Kp), l = [.slice A n c] ∧ TreeC W A n vs xs ∧ (Sized 22 x.1 → n * 96 ≤ reachBytes ∧ ∀ y ∈ xs, y.node.data.length ≤ reachBytes ∧ y.node.ents.length * 24 ≤ reachBytes) := by
  obtain ⟨A, n, c, vs, xs, rfl, h1, h2, h3, h4, h5⟩ := open_rows KV.cells kept_len (by decide) Try.underlying22 cellsK (ContC W) (fun d y => (Sized (H := H) 36 d → y.node.data.length ≤ reachBytes ∧ y.node.ents.length * 24 ≤ reachBytes)) (fun h => open_kept h) h
  have hnx : n = xs.length := by rw [h3.1, h4.1]
  refine ⟨A, n, c, vs, xs, rfl, ⟨h3, h4⟩, fun hs => ?_⟩
  rcases h5 with ⟨_, h0⟩ | ⟨es, spare, he, hl, hS⟩
  · refine ⟨by rw [h0]; simp, fun y hy => ?_⟩
    rw [h0] at hnx
    rw [List.eq_nil_of_length_eq_zero hnx.symm] at hy
    cases hy
  · rw [he] at hs
    refine ⟨?_, fun y hy => ?_⟩
    · have := sized_len Try.underlying22 hs
      rw [bytesK] at this
      omega
    · obtain ⟨j, hj⟩ := List.getElem?_of_mem hy
      obtain ⟨d, hd, s1⟩ := hS j y hj
      exact s1 (sized_elem Try.underlying22 hs (List.mem_of_getElem? hd))
theorem kept_val {v : Value} {x : KV} (h : v.cells.toList = x.cells) : v = x.val := by
  cases v <;> simp [Value.cells, KV.cells] at h
  rename_i xs
  rw [KV.val]
  congr 1
  apply Array.ext'
  exact h
end
end Go.Proofs.Ytjpdoblmdchmkae
/-
  PACKAGE cache: place, Has, own.
-/
namespace Go.Proofs.Ytjpdoblmdchmkae
open Go.RowKit

theorem place1_kept (v : KV) (p : Nat) (f : Int) (w : World) (hp : w.cell? ⟨p, 0, none⟩ = some (.int .i64 f)) :
    Calls Try.prog 33 #[v.val, .pointer (some ⟨p, 0, none⟩)] w fun e w' => e = .returned (.bool (decide (v.n.fid = f))) ∧ Below w.heap.size w w' := by
  have HW : Hid _ := boxK_one w v
  have hpl := cell_lt hp
  by_cases hf : v.n.fid = f
  · have kf : (v.n.fid == f) = true := by simp [hf]
    have HU : Hid (decide (v.n.fid = f) = true) := by show _ = _; simp [hf]
    clear hf
    go_enter Try.func33, Try.ntmps33
    go_wp2
    go_ret
    exact ⟨ret_bool HU.out.symm, (HW.out _ rfl).1⟩
  · have kf : (v.n.fid == f) = false := by simp [hf]
    have HU : Hid (decide (v.n.fid = f) = false) := by show _ = _; simp [hf]
    clear hf
    go_enter Try.func33, Try.ntmps33
    go_wp2
    go_ret
    exact ⟨ret_bool HU.out.symm, (HW.out _ rfl).1⟩
set_option maxHeartbeats 1000000 in
theorem placeIdx_kept (A : Option Addr) (n c : Nat) (vs : List KV) (xs : List M.Kp) (p : Nat) (f : Int) (w : World) (ht : TreeC w A n vs xs) (hn : n ≤ 140737488355328) (hp : w.cell? ⟨p, 0, none⟩ = some (.int .i64 f)) :
    Calls Try.prog 32 #[.slice A n c, .func (.func 33) #[] #[.pointer (some ⟨p, 0, none⟩)]] w fun e w' => e = .returned (.int .i64 (idxC (M.placeK xs f))) ∧ Below w.heap.size w w' := by
  have hpl : p < w.heap.size := cell_lt hp
  have HT : Hid (TreeC w A n vs xs ∧ w.cell? ⟨p, 0, none⟩ = some (.int .i64 f)) := ⟨ht, hp⟩
  clear ht hp
  go_enter Try.func32, Try.ntmps32
  go_wp2
  go_loopw [8] (fun i wr => ∃ k : Nat, k ≤ n ∧ i = .int .i64 k ∧ Hid (∀ x ∈ xs.take k, decide (x.node.fid = f) = false) ∧ Below w.heap.size w wr) (fun i _ => n - (intOf i).toNat)
  case atStart => exact ⟨0, Nat.zero_le _, rfl, (by show ∀ x ∈ _, _; simp), Below.refl _ _⟩
  case round =>
    obtain ⟨k, hk, rfl, HN, hb⟩ := hrel
    have hsz := hb.size
    by_cases hlt : k < n
    · have htr := HT.out.1.below (Nat.le_refl _) hb
      obtain ⟨g, o, v, rfl, hgb, hvk, c0, c1, c2, c3, c4, c5, c6, c7⟩ := htr.1.at hlt
      obtain ⟨x, hx, hcx⟩ := htr.2.at hvk
      have HX : Hid (xs[k]? = some x ∧ v.n.fid = x.node.fid ∧ wr.cell? ⟨p, 0, none⟩ = some (.int .i64 f)) := ⟨hx, hcx.1.1, by rw [hb.cell (p := ⟨p, 0, none⟩) hpl]; exact HT.out.2⟩
      have HB : Hid (Below w.heap.size w wr) := hb
      clear hvk htr hx hcx hb
      go_wp2_with (fail)
      refine (place1_kept v p f _ HX.out.2.2).mono ?_
      rintro e w1 ⟨rfl, hb1⟩
      have HB1 : Hid (Below w.heap.size w w1) := HB.out.trans (hb1.mono hsz)
      have HPX : Hid (decide (v.n.fid = f) = decide (x.node.fid = f)) := by show _ = _; rw [HX.out.2.1]
      clear hb1
      generalize decide (v.n.fid = f) = q at HPX ⊢
      cases q
      · have HN2 : Hid (∀ y ∈ xs.take (k + 1), decide (y.node.fid = f) = false) := by
          show ∀ y ∈ _, _
          intro y hy
          rw [take_step HX.out.1] at hy
          rcases List.mem_append.1 hy with h | h
          · exact HN.out y h
          · rw [List.mem_singleton.1 h]; exact HPX.out.symm
        go_wp2_with (fail)
        go_roundw
        case rel => exact ⟨k + 1, by omega, by go_num, HN2, HB1.out⟩
        case measure => simp [intOf]; omega
      · have HR : Hid (idxC (M.placeK xs f) = (k : Int)) := idxC_at HN.out HX.out.1 HPX.out.symm
        go_wp2_with (fail)
        go_ret
        exact ⟨ret_int HR.out.symm, HB1.out⟩
    · have HR : Hid (idxC (M.placeK xs f) = -1) := idxC_none (by
        have := HN.out
        rw [List.take_of_length_le (by rw [← HT.out.1.len]; omega)] at this
        exact this)
      go_wp2
      go_ret
      exact ⟨ret_int HR.out.symm, hb⟩
theorem cell_one (w : World) (f : Int) : (w.alloc (.cells #[.int .i64 f] 3)).cell? ⟨w.heap.size, 0, none⟩ = some (.int .i64 f) := by
  have h := heap_alloc_new w (.cells #[.int .i64 f] 3)
  unfold World.cell?
  rw [h]; rfl
theorem place_kept (A : Option Addr) (n c : Nat) (vs : List KV) (xs : List M.Kp) (f : Int) (w : World) (ht : TreeC w A n vs xs) (hn : n ≤ 140737488355328) :
    Calls Try.prog 20 #[.slice A n c, .int .i64 f] w fun e w' => e = .returned (.int .i64 (idxC (M.placeK xs f))) ∧ Below w.heap.size w w' := by
  have HT : Hid (TreeC w A n vs xs) := ht
  have HW : Hid (∀ W, W = w.alloc (.cells #[.int .i64 f] 3) → Below w.heap.size w W ∧ W.cell? ⟨w.heap.size, 0, none⟩ = some (.int .i64 f) ∧ W.heap.size = w.heap.size + 1) := by
    rintro W rfl
    exact ⟨(Below.refl _ _).alloc (Nat.le_refl _) _, cell_one w f, by simp⟩
  clear ht
  go_enter Try.func20, Try.ntmps20
  go_wp2_with (fail)
  obtain ⟨q1, q2, q3⟩ := HW.out _ rfl
  refine (placeIdx_kept A n c vs xs w.heap.size f _ (HT.out.below (Nat.le_refl _) q1) hn q2).mono ?_
  rintro e w1 ⟨rfl, hb1⟩
  have HB : Hid (Below w.heap.size w w1) := q1.trans (hb1.mono (by omega))
  clear q1 q2 q3 hb1 HW
  go_wp2
  go_ret
  exact ⟨rfl, HB.out⟩
theorem has_kept (A : Option Addr) (n c : Nat) (vs : List KV) (xs : List M.Kp) (f : Int) (w : World) (ht : TreeC w A n vs xs) (hn : n ≤ 140737488355328) :
    Calls Try.prog 9 #[.slice A n c, .int .i64 f] w fun e w' => e = .returned (.bool (M.hasK xs f)) ∧ Below w.heap.size w w' := by
  have HT : Hid (TreeC w A n vs xs) := ht
  have HU : Hid (M.hasK xs f = decide (0 ≤ idxC (M.placeK xs f))) := place_has xs f
  clear ht
  go_enter Try.func9, Try.ntmps9
  go_wp2_with (fail)
  refine (place_kept A n c vs xs f _ HT.out hn).mono ?_
  rintro e w1 ⟨rfl, hb1⟩
  have HB : Hid (Below w.heap.size w w1) := hb1
  clear hb1
  go_wp2
  go_ret
  exact ⟨ret_bool HU.out.symm, HB.out⟩
abbrev put8 (w : World) (s o : Nat) (v : KV) : World := (((put5 w s o v.n).setCell ⟨s, o + 5, none⟩ (.bool v.dirty)).setCell ⟨s, o + 6, none⟩ (.int .i64 v.worth)).setCell ⟨s, o + 7, none⟩ (.int .i64 v.last)
theorem put8_below {B : Nat} {a w : World} (h : Below B a w) {s : Nat} (hs : B ≤ s) (o : Nat) (v : KV) : Below B a (put8 w s o v) :=
  (((put5_below h hs o v.n).setCell (by exact hs) _).setCell (by exact hs) _).setCell (by exact hs) _
theorem put8_own {w : World} {B : Nat} {e : TypeId} {k : Nat} {v : Value} {n : Nat} {xs : List Value} (h : w.ownsRow B e k v n xs) {s : Nat} (hs : s < B) (o : Nat) (x : KV) : (put8 w s o x).ownsRow B e k v n xs :=
  ownsRow_setCell_below (ownsRow_setCell_below (ownsRow_setCell_below (put5_own h hs o x.n) (by exact hs) _) (by exact hs) _) (by exact hs) _
theorem ownK_start (w : World) (v : KV) : ∀ W, W = (w.alloc v.obj).alloc (.cells #[.int .i64 0, .bool false, .slice none 0 0, .slice none 0 0, .int .i64 0, .bool false, .int .i64 0, .int .i64 0] 36) → Below w.heap.size w W ∧ BoxK W w.heap.size v ∧ BoxK W (w.heap.size + 1) KV.zero ∧ W.heap.size = w.heap.size + 2 := by
  rintro W rfl
  refine ⟨((Below.refl _ _).alloc (Nat.le_refl _) _).alloc (by simp) _, (show BoxK (w.alloc v.obj) w.heap.size v from heap_alloc_new w _).alloc _, ?_, by simp⟩
  have h := heap_alloc_new (w.alloc v.obj) (.cells #[.int .i64 0, .bool false, .slice none 0 0, .slice none 0 0, .int .i64 0, .bool false, .int .i64 0, .int .i64 0] 36)
  unfold BoxK
  simpa [KV.zero, NV.zero] using h
theorem nodes_one {w : World} {s : Nat} {v : NV} (h : Box w s v) : Nodes w (some ⟨s, 0, none⟩) 1 [v] := by
  obtain ⟨b0, b1, b2, b3, b4, bf, bz⟩ := h.facts
  refine ⟨rfl, .inr ⟨s, 0, rfl, bz, fun j u hv i c hi => ?_⟩⟩
  cases j with
  | succ j => cases hv
  | zero =>
    cases hv
    match i, hi with
    | 0, hi => cases hi; exact b0
    | 1, hi => cases hi; exact b1
    | 2, hi => cases hi; exact b2
    | 3, hi => cases hi; exact b3
    | 4, hi => cases hi; exact b4
    | i + 5, hi => cases hi
theorem ownK_start2 (w : World) (v : KV) : ∀ W, W = ((w.alloc v.obj).alloc (.cells #[.int .i64 0, .bool false, .slice none 0 0, .slice none 0 0, .int .i64 0, .bool false, .int .i64 0, .int .i64 0] 36)).alloc (.cells #[.int .i64 v.n.fid, .bool v.n.dir, .slice v.n.dA v.n.dn v.n.dc, .slice v.n.eA v.n.en v.n.ec, .int .i64 v.n.ver] 34) → Below w.heap.size w W ∧ BoxK W w.heap.size v ∧ BoxK W (w.heap.size + 1) KV.zero ∧ Box W (w.heap.size + 2) v.n ∧ W.heap.size = w.heap.size + 3 := by
  rintro W rfl
  obtain ⟨h1, h2, h3, h4⟩ := ownK_start w v _ rfl
  have h5 := Box.new ((w.alloc v.obj).alloc (.cells #[.int .i64 0, .bool false, .slice none 0 0, .slice none 0 0, .int .i64 0, .bool false, .int .i64 0, .int .i64 0] 36)) v.n
  rw [h4] at h5
  exact ⟨h1.alloc (by rw [h4]; omega) _, h2.alloc _, h3.alloc _, h5, by simp⟩
set_option maxRecDepth 8000 in
set_option maxHeartbeats 1000000 in
theorem own_kept (v : KV) (x : M.Kp) (w : World) (hc : ContC w v x) (hs : Small x.node) :
    Calls Try.prog 21 #[v.val] w fun e w' => ∃ v' : KV, e = .returned v'.val ∧ OwnKp w' w.heap.size v' x ∧ Below w.heap.size w w' := by
  have HW : Hid _ := ownK_start2 w v
  have HC : Hid (ContC w v x ∧ Small x.node) := ⟨hc, hs⟩
  clear hc hs
  go_enter Try.func21, Try.ntmps21
  go_wp2_with (fail)
  obtain ⟨q1, q2, q3, q5, q4⟩ := HW.out _ rfl
  refine (own_any (some ⟨w.heap.size + 2, 0, none⟩) 1 1 [v.n] [x.node] _ ⟨nodes_one q5, All2.one (HC.out.1.1.below (Nat.le_refl _) q1)⟩ (by decide) (by intro y hy; rw [List.mem_singleton.1 hy]; exact HC.out.2)).mono ?_
  rintro e w1 ⟨g, us, rfl, ho, hb1⟩
  have hz1 := hb1.size
  rw [q4] at hz1 ho
  obtain ⟨u, rfl⟩ : ∃ u, us = [u] := List.length_eq_one_iff.1 ho.2.1
  have hou : OwnN w1 (w.heap.size + 3) u x.node := ho.2.2 0 u x.node rfl rfl
  obtain ⟨u', hu', a0, a1, a2, a3, a4, af, az⟩ := own_at5 ho.1 (j := 0) (by decide)
  cases hu'
  have hgl := ho.1.lt g rfl
  have HB : Hid (Below w.heap.size w w1 ∧ BoxK w1 w.heap.size v ∧ BoxK w1 (w.heap.size + 1) KV.zero) := ⟨q1.trans (hb1.mono (by omega)), q2.below hb1 (by omega), q3.below hb1 (by omega)⟩
  have HO : Hid (OwnN w1 (w.heap.size + 3) u x.node) := hou
  obtain ⟨b0, b1, b2, b3, b4, b5, b6, b7, bf, bz⟩ := HB.out.2.1.facts
  obtain ⟨z0, z1, z2, z3, z4, z5, z6, z7, zf, zz⟩ := HB.out.2.2.facts
  clear q1 q2 q3 q4 q5 hb1 HW ho hou
  go_wp2
  refine bodyPost_ret (v := KV.val ⟨u, v.dirty, v.worth, v.last⟩) (by simp [results, Try.results21, go_sem, z0, z1, z2, z3, z4, z5, z6, z7]) rfl ⟨⟨u, v.dirty, v.worth, v.last⟩, rfl, ⟨⟨HO.out.1, HO.out.2.1, HO.out.2.2.1, own_mono ?_ (Nat.le_add_right _ 3), own_mono ?_ (Nat.le_add_right _ 3)⟩, HC.out.1.2⟩, ?_⟩
  · exact put8_own (put5_own HO.out.2.2.2.1 (s := w.heap.size) (by omega) 0 u) (s := w.heap.size + 1) (by omega) 0 ⟨u, v.dirty, v.worth, v.last⟩
  · exact put8_own (put5_own HO.out.2.2.2.2 (s := w.heap.size) (by omega) 0 u) (s := w.heap.size + 1) (by omega) 0 ⟨u, v.dirty, v.worth, v.last⟩
  · exact put8_below (put5_below HB.out.1 (s := w.heap.size) (Nat.le_refl _) 0 u) (s := w.heap.size + 1) (by omega) 0 ⟨u, v.dirty, v.worth, v.last⟩
end Go.Proofs.Ytjpdoblmdchmkae
