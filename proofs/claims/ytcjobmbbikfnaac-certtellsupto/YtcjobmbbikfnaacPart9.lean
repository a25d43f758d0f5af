/- TEXTS LAID TOGETHER: Ckeep, Refe, Refx, With, Refc, Refd -/
import Derived.Test.YtcjobmbbikfnaacPart8
import Derived.Test.YtcjobmbbikfnaacPart7
import Derived.Test.YtcjobmbbikfnaacPart5
import Derived.Deep.Cut
/-
  WHAT STAYS: blocks of cells of one type, while others are written.
-/
namespace Go.Proofs.Ytcjobmbbikfnaac
open Go.RowKit
open Go.ChangeMaps (setBlock)

/-- blocks of cells of that type are as they were -/
def KeepE (e : TypeId) (w w' : World) : Prop := ∀ (g : Nat) (cur : Array Value), w.heap[g]? = some (.cells cur e (0, 0)) → w'.heap[g]? = some (.cells cur e (0, 0))
theorem KeepE.refl (e : TypeId) (w : World) : KeepE e w w := fun _ _ h => h
theorem KeepE.trans {e : TypeId} {a b c : World} (h : KeepE e a b) (k : KeepE e b c) : KeepE e a c := fun g cur hg => k g cur (h g cur hg)
theorem KeepE.below {e : TypeId} {C : Nat} {w w' : World} (hb : Below C w w') (hC : w.heap.size ≤ C) : KeepE e w w' := fun g cur hg => by rw [hb.block g (by have := lt_of_block hg; omega)]; exact hg
theorem KeepE.alloc (e : TypeId) (w : World) (o : Obj) : KeepE e w (w.alloc o) := KeepE.below ((Below.refl _ _).alloc (Nat.le_refl _) o) (Nat.le_refl _)
theorem KeepE.setBlock {e : TypeId} {w : World} {b : Nat} {f : Int → Option Value} (h : IMap w b f) (o : Obj) : KeepE e w (setBlock w b o) := fun g cur hg => by
  obtain ⟨es, c, hb, _⟩ := h
  rw [setBlock_other (fun e => by rw [e, hb] at hg; cases hg)]
  exact hg
theorem KeepE.setCell {e t : TypeId} {w : World} {s : Nat} {cs : Array Value} {fz : Nat × Nat} (h : w.heap[s]? = some (.cells cs t fz)) (ht : t ≠ e) (o : Nat) (u : Value) : KeepE e w (w.setCell ⟨s, o, none⟩ u) := fun g cur hg => by
  rw [Below.heap_setCell _ _ _ _ (fun k => by subst k; rw [h] at hg; injection hg with hg; injection hg with _ hg _; exact ht hg)]
  exact hg
theorem KeepE.grown {w w' : World} {e e' : TypeId} {B' k' : Nat} {v' : Value} {n' : Nat} {xs' : List Value} (h' : w.ownsRow B' e' k' v' n' xs') (hne : e ≠ e') (hg : w.grownBy w' v'.ownBlock) : KeepE e w w' := fun g cur hgc => by
  rw [hg.block g (lt_of_block hgc) (fun k => ?_)]
  · exact hgc
  · rcases h'.2 with ⟨rfl, _⟩ | ⟨g', cap, cur', rfl, _, hh, _⟩
    · cases k
    · cases k
      rw [hh] at hgc
      injection hgc with hgc
      injection hgc with _ hgc _
      exact hne hgc.symm
theorem own_keep {w w' : World} {B : Nat} {e : TypeId} {k : Nat} {v : Value} {n : Nat} {xs : List Value} (h : w.ownsRow B e k v n xs) (hk : KeepE e w w') : w'.ownsRow B e k v n xs := by
  refine ⟨h.1, ?_⟩
  rcases h.2 with h2 | ⟨g, cap, cur, e1, h1, hg, r⟩
  · exact .inl h2
  · exact .inr ⟨g, cap, cur, e1, h1, hk g cur hg, r⟩
theorem OwnN.keep {w w' : World} {B : Nat} {v : NV} {x : M.Nd} (h : OwnN w B v x) (h5 : KeepE 5 w w') (hE : KeepE 58 w w') : OwnN w' B v x :=
  ⟨h.1, h.2.1, h.2.2.1, own_keep h.2.2.2.1 h5, own_keep h.2.2.2.2 hE⟩
theorem OwnT.keep {w w' : World} {B : Nat} {A : Option Addr} {n c : Nat} {vs : List NV} {xs : List M.Nd} (h : OwnT w B A n c vs xs) (hN : KeepE 56 w w') (h5 : KeepE 5 w w') (hE : KeepE 58 w w') : OwnT w' B A n c vs xs :=
  ⟨own_keep h.1 hN, h.2.imp fun _ _ h => h.keep h5 hE⟩
theorem OwnA.keep {w w' : World} {B : Nat} {v : AV} {x : M.Act} (h : OwnA w B v x) (h5 : KeepE 5 w w') : OwnA w' B v x :=
  ⟨h.1, h.2.1, h.2.2.1, h.2.2.2.1, h.2.2.2.2.1, h.2.2.2.2.2.1, own_keep h.2.2.2.2.2.2 h5⟩
theorem OwnAs.keep {w w' : World} {B : Nat} {A : Option Addr} {n c : Nat} {vs : List AV} {xs : List M.Act} (h : OwnAs w B A n c vs xs) (hA : KeepE 43 w w') (h5 : KeepE 5 w w') : OwnAs w' B A n c vs xs :=
  ⟨own_keep h.1 hA, h.2.imp fun _ _ h => h.keep h5⟩
/-- all types but one's own -/
def KeepO (t : TypeId) (w w' : World) : Prop := ∀ e, e ≠ t → KeepE e w w'
theorem KeepO.trans {t : TypeId} {a b c : World} (h : KeepO t a b) (k : KeepO t b c) : KeepO t a c := fun e he => (h e he).trans (k e he)
theorem KeepO.below {t : TypeId} {C : Nat} {w w' : World} (hb : Below C w w') (hC : w.heap.size ≤ C) : KeepO t w w' := fun _ _ => KeepE.below hb hC
theorem KeepO.setBlock {t : TypeId} {w : World} {b : Nat} {f : Int → Option Value} (h : IMap w b f) (o : Obj) : KeepO t w (setBlock w b o) := fun _ _ => KeepE.setBlock h o
theorem KeepO.setCell {t : TypeId} {w : World} {s : Nat} {cs : Array Value} {fz : Nat × Nat} (h : w.heap[s]? = some (.cells cs t fz)) (o : Nat) (u : Value) : KeepO t w (w.setCell ⟨s, o, none⟩ u) := fun _ he => KeepE.setCell h (fun k => he k.symm) o u
theorem IMap.setCell {w : World} {b s : Nat} {f : Int → Option Value} {cs : Array Value} {t : TypeId} {fz : Nat × Nat} (h : IMap w b f) (hs : w.heap[s]? = some (.cells cs t fz)) (o : Nat) (u : Value) : IMap (w.setCell ⟨s, o, none⟩ u) b f := by
  refine h.same (Below.heap_setCell _ _ _ _ (fun k => ?_))
  obtain ⟨es, c, hb, _⟩ := h
  subst k
  rw [hs] at hb
  cases hb
theorem IMap.setBlock {w : World} {b s : Nat} {f : Int → Option Value} (h : IMap w b f) (hs : b ≠ s) (o : Obj) : IMap (setBlock w s o) b f := h.same (setBlock_other hs)
theorem IMap.grown {w w' : World} {b : Nat} {f : Int → Option Value} {e' : TypeId} {B' k' : Nat} {v' : Value} {n' : Nat} {xs' : List Value} (h : IMap w b f) (h' : w.ownsRow B' e' k' v' n' xs') (hg : w.grownBy w' v'.ownBlock) : IMap w' b f := by
  refine h.same (hg.block b h.lt (fun k => ?_))
  obtain ⟨es, c, hb, _⟩ := h
  rcases h'.2 with ⟨rfl, _⟩ | ⟨g', cap, cur', rfl, _, hh, _⟩
  · cases k
  · cases k
    rw [hh] at hb
    cases hb
end Go.Proofs.Ytcjobmbbikfnaac
/-
  THE REFERENCE's Entry.
-/
namespace Go.Proofs.Ytcjobmbbikfnaac
open Go.RowKit

theorem look_none {es : List (ByteArray × Int)} {s : ByteArray} {k : Nat} (h : ∀ e ∈ es.take k, e.1 ≠ s) (hk : es.length ≤ k) : M.look es s = none := by
  rw [List.take_of_length_le hk] at h
  unfold M.look
  rw [List.find?_eq_none]
  intro e he
  simpa using h e he
theorem look_some {es : List (ByteArray × Int)} {s : ByteArray} {k : Nat} {a : ByteArray × Int} (h : ∀ e ∈ es.take k, e.1 ≠ s) (ha : es[k]? = some a) (hs : a.1 = s) : M.look es s = some a := by
  unfold M.look
  obtain ⟨hi, hx⟩ := List.getElem?_eq_some_iff.1 ha
  rw [List.find?_eq_some_iff_getElem]
  refine ⟨by simpa using hs, k, hi, hx, fun j hj => ?_⟩
  have := h es[j] (List.mem_take_iff_getElem.2 ⟨j, by omega, rfl⟩)
  simpa using this

set_option maxHeartbeats 2000000 in
theorem refEntry_any (v : NV) (x : M.Nd) (s : ByteArray) (w : World) (hc : Cont w v x) (hs : Small x) :
    Calls Try.prog 28 #[v.val, .string s] w fun e w' => e = .returned (.tuple #[.int .i64 (((M.look x.ents s).map (·.2)).getD 0), .bool (M.look x.ents s).isSome]) ∧ Below w.heap.size w w' := by
  have hwa : Below w.heap.size w (w.alloc (.cells #[.int .i64 v.fid, .bool v.dir, .slice v.dA v.dn v.dc, .slice v.eA v.en v.ec, .int .i64 v.ver] 56)) := (Below.refl _ _).alloc (Nat.le_refl _) _
  have HB : Hid (Box (w.alloc (.cells #[.int .i64 v.fid, .bool v.dir, .slice v.dA v.dn v.dc, .slice v.eA v.en v.ec, .int .i64 v.ver] 56)) w.heap.size v) := Box.new w v
  have HC : Hid (Cont w v x ∧ Small x) := ⟨hc, hs⟩
  have hen : v.en ≤ 140737488355328 := by have := hc.2.2.2.2.1; have := hs.2; omega
  have HL : Hid (v.en = x.ents.length) := hc.2.2.2.2.1
  clear hc hs
  go_enter Try.func28, Try.ntmps28
  go_wp2
  go_loopw [11] (fun i wr => ∃ k : Nat, k ≤ v.en ∧ i = .int .i64 k ∧ Hid (∀ e ∈ x.ents.take k, e.1 ≠ s) ∧ Box wr w.heap.size v ∧ Below w.heap.size w wr) (fun i _ => v.en - (intOf i).toNat)
  case atStart => exact ⟨0, Nat.zero_le _, rfl, (by intro e he; simp at he), HB.out, hwa⟩
  case round =>
    obtain ⟨k, hk, rfl, HE, hbx, hb⟩ := hrel
    have HBX : Hid (Box wr w.heap.size v) := hbx
    obtain ⟨p0, p1, p2, p3, p4, pf, pz⟩ := hbx.facts
    clear hbx p0 p1 p2 p4
    have hsz := hb.size
    by_cases hlt : k < v.en
    · obtain ⟨g, o, ⟨nm, fd⟩, ha, _, hak, a0, a1⟩ := Ents.at (HC.out.1.2.2.2.2.below (Nat.le_refl _) hb) hlt
      have HA : Hid (x.ents[k]? = some (nm, fd)) := hak
      dsimp only at a0 a1
      have hkn : (k : Int) < (v.en : Int) := by omega
      have hk0 : (0 : Int) ≤ (k : Int) := by omega
      have hba : Below wr.heap.size wr (wr.alloc (.cells #[.string nm, .int .i64 fd] 58)) := (Below.refl _ _).alloc (Nat.le_refl _) _
      have HR : Hid (Box (wr.alloc (.cells #[.string nm, .int .i64 fd] 58)) w.heap.size v ∧ Below w.heap.size w (wr.alloc (.cells #[.string nm, .int .i64 fd] 58))) := ⟨HBX.out.alloc _, hb.trans (hba.mono hsz)⟩
      clear hak hba p3
      by_cases hse : nm = s
      · have q : (nm.toList == s.toList) = true := by rw [raw_eq]; exact decide_eq_true hse
        have HSE : Hid (nm = s) := hse
        clear hse
        go_wp2
        go_ret2
        rw [look_some HE.out HA.out HSE.out]
        exact ⟨rfl, HR.out.2⟩
      · have q : (nm.toList == s.toList) = false := by rw [raw_eq]; exact decide_eq_false hse
        have HSE : Hid (nm ≠ s) := hse
        clear hse
        go_wp2
        go_roundw
        case rel => exact ⟨k + 1, by omega, by go_num, by intro e he; rw [take_step HA.out] at he; rcases List.mem_append.1 he with h1 | h1; exact HE.out e h1; rw [List.mem_singleton.1 h1]; exact HSE.out, HR.out.1, HR.out.2⟩
        case measure => simp [intOf]; omega
    · have HN : Hid (x.ents.length ≤ k) := by have := HL.out; show _ ≤ _; omega
      go_wp2
      go_ret2
      rw [look_none HE.out HN.out]
      exact ⟨rfl, hb⟩
end Go.Proofs.Ytcjobmbbikfnaac
/-
  THE REFERENCE's dir, room, and what sets a version.
-/
namespace Go.Proofs.Ytcjobmbbikfnaac
open Go.RowKit

set_option maxRecDepth 4000 in
set_option maxHeartbeats 1000000 in
theorem refDir_any (bm : Nat) (xs : List M.Nd) (t : Int) (w : World) (ht : TMap w bm xs) :
    Calls Try.prog 24 #[.map (some bm), .int .i64 t] w fun e w' => ∃ v : NV, e = .returned (.tuple #[v.val, .int .i64 (M.dirS xs t).1]) ∧ ((M.dirS xs t).1 = 0 → Cont w' v (M.dirS xs t).2) ∧ Below w.heap.size w w' := by
  obtain ⟨f, hi, ha⟩ := ht
  have hlk := run_lookup_map 30 56 Try.underlying30 (zero26 (w.alloc (.cells #[.int .i64 0, .bool false, .slice none 0 0, .slice none 0 0, .int .i64 0] 56))) (hi.below (Nat.le_refl _) ((Below.refl _ _).alloc (Nat.le_refl _) (.cells #[.int .i64 0, .bool false, .slice none 0 0, .slice none 0 0, .int .i64 0] 56))) t true
  rcases ha t with ⟨h1, hf⟩ | ⟨v, x, h1, hf, hcx⟩
  · rw [h1] at hlk
    simp only [if_true, Option.getD_none, Option.isSome_none] at hlk
    have HD : Hid (M.dirS xs t = (12, nd0)) := M.dir_none hf
    clear hf hi ha h1
    go_enter Try.func24, Try.ntmps24
    go_wp2
    exact bodyPost_ret (v := .tuple #[NV.zero.val, .int .i64 12]) (by simp [results, Try.results24, go_sem, NV.zero]) rfl ⟨NV.zero, by rw [HD.out], fun h => by rw [HD.out] at h; simp at h, ((Below.refl _ _).alloc (Nat.le_refl _) _).alloc (by simp) _⟩
  · rw [h1] at hlk
    simp only [if_true, Option.getD_some, Option.isSome_some] at hlk
    clear hi ha h1
    obtain ⟨fi, di, dA, dn, dc, eA, en, ec, ve⟩ := v
    cases di
    · have HD : Hid (M.dirS xs t = (8, nd0)) := M.dir_file hf hcx.2.1.symm
      clear hf hcx
      go_enter Try.func24, Try.ntmps24
      go_wp2
      exact bodyPost_ret (v := .tuple #[NV.val ⟨fi, false, dA, dn, dc, eA, en, ec, ve⟩, .int .i64 8]) (by simp [results, Try.results24, go_sem]) rfl ⟨⟨fi, false, dA, dn, dc, eA, en, ec, ve⟩, by rw [HD.out], fun h => by rw [HD.out] at h; simp at h, ((Below.refl _ _).alloc (Nat.le_refl _) _).alloc (by simp) _⟩
    · have HD : Hid (M.dirS xs t = (0, x)) := M.dir_yes hf hcx.2.1.symm
      have HC : Hid (Cont w ⟨fi, true, dA, dn, dc, eA, en, ec, ve⟩ x) := hcx
      clear hf hcx
      go_enter Try.func24, Try.ntmps24
      go_wp2
      exact bodyPost_ret (v := .tuple #[NV.val ⟨fi, true, dA, dn, dc, eA, en, ec, ve⟩, .int .i64 0]) (by simp [results, Try.results24, go_sem]) rfl ⟨⟨fi, true, dA, dn, dc, eA, en, ec, ve⟩, by rw [HD.out], fun _ => by rw [HD.out]; exact HC.out.below (Nat.le_refl _) (((Below.refl _ _).alloc (Nat.le_refl _) _).alloc (by simp) _), ((Below.refl _ _).alloc (Nat.le_refl _) _).alloc (by simp) _⟩

set_option maxHeartbeats 1000000 in
theorem refRoom_any (v : NV) (x : M.Nd) (s : ByteArray) (w : World) (hc : Cont w v x) (hs : Small x) (hl : s.size ≤ maxLen) :
    Calls Try.prog 25 #[v.val, .string s] w fun e w' => e = .returned (.int .i64 (M.freeS x s)) ∧ Below w.heap.size w w' := by
  have HT : Hid (Cont w v x ∧ Small x ∧ s.size ≤ maxLen) := ⟨hc, hs, hl⟩
  have HW : Hid (Below w.heap.size w (w.alloc (.cells #[.int .i64 v.fid, .bool v.dir, .slice v.dA v.dn v.dc, .slice v.eA v.en v.ec, .int .i64 v.ver] 56)) ∧ Box (w.alloc (.cells #[.int .i64 v.fid, .bool v.dir, .slice v.dA v.dn v.dc, .slice v.eA v.en v.ec, .int .i64 v.ver] 56)) w.heap.size v) := ⟨(Below.refl _ _).alloc (Nat.le_refl _) _, Box.new w v⟩
  clear hc hs hl
  go_enter Try.func25, Try.ntmps25
  go_wp2_with (fail)
  refine (refEntry_any v x s _ (HT.out.1.below (Nat.le_refl _) HW.out.1) HT.out.2.1).mono ?_
  rintro e w1 ⟨rfl, hb1⟩
  have HB : Hid (Below w.heap.size w w1 ∧ Box w1 w.heap.size v) := ⟨HW.out.1.trans (hb1.mono (by simp)), HW.out.2.below hb1 (by simp)⟩
  have HEN : Hid (v.en = x.ents.length) := HT.out.1.2.2.2.2.1
  obtain ⟨b, hbe⟩ : ∃ b : Bool, (M.look x.ents s).isSome = b := ⟨_, rfl⟩
  have HU : Hid (M.freeS x s = if b || !M.nameB s.data.toList then 7 else if 6 ≤ x.ents.length then 5 else 0) := by show _ = _; unfold M.freeS; rw [hbe]
  rw [hbe]
  generalize ((M.look x.ents s).map (·.2)).getD 0 = f
  clear hb1 HW hbe
  obtain ⟨z0, z1, z2, z3, z4, zf, zz⟩ := HB.out.2.facts
  cases b
  · cases hnb : M.nameB s.data.toList
    · have HV : Hid ((7 : Int) = M.freeS x s) := by show _ = _; rw [HU.out, hnb]; rfl
      go_wp2_with (go_at_call 37; refine (refName_any s _ HT.out.2.2).mono ?_; rintro e w2 ⟨rfl, hw⟩; rw [hw, hnb]; clear hw)
      go_ret
      exact ⟨ret_int HV.out, HB.out.1⟩
    · by_cases h6 : 6 ≤ v.en
      · have HV : Hid ((5 : Int) = M.freeS x s) := by show _ = _; rw [HU.out, hnb, ← HEN.out, if_neg (by simp), if_pos h6]
        have h6' : (6 : Int) ≤ (v.en : Int) := by omega
        go_wp2_with (go_at_call 37; refine (refName_any s _ HT.out.2.2).mono ?_; rintro e w2 ⟨rfl, hw⟩; rw [hw, hnb]; clear hw)
        go_ret
        exact ⟨ret_int HV.out, HB.out.1⟩
      · have HV : Hid ((0 : Int) = M.freeS x s) := by show _ = _; rw [HU.out, hnb, ← HEN.out, if_neg (by simp), if_neg h6]
        have h6' : ¬ (6 : Int) ≤ (v.en : Int) := by omega
        go_wp2_with (go_at_call 37; refine (refName_any s _ HT.out.2.2).mono ?_; rintro e w2 ⟨rfl, hw⟩; rw [hw, hnb]; clear hw)
        go_ret
        exact ⟨ret_int HV.out, HB.out.1⟩
  · have HV : Hid ((7 : Int) = M.freeS x s) := by show _ = _; rw [HU.out]; rfl
    go_wp2_with (fail)
    go_ret
    exact ⟨ret_int HV.out, HB.out.1⟩

theorem refVer_any (v : NV) (p : Nat) (ver : Int) (w : World) (hp : w.cell? ⟨p, 0, none⟩ = some (.int .i64 ver)) :
    Calls Try.prog 23 #[v.val, .pointer (some ⟨p, 0, none⟩)] w fun e w' => e = .returned (NV.val ⟨v.fid, v.dir, v.dA, v.dn, v.dc, v.eA, v.en, v.ec, ver⟩) ∧ Below w.heap.size w w' := by
  have hpl : p < w.heap.size := World.block_lt_of_cell? w _ hp
  go_enter Try.func23, Try.ntmps23
  go_wp2
  exact bodyPost_ret (v := NV.val ⟨v.fid, v.dir, v.dA, v.dn, v.dc, v.eA, v.en, v.ec, ver⟩) (by simp [results, Try.results23, go_sem]) rfl ⟨rfl, ((Below.refl _ _).alloc (Nat.le_refl _) _).alloc (by simp) _⟩
end Go.Proofs.Ytcjobmbbikfnaac
/-
  A MAP IS GONE THROUGH; the reference's With and Without.
-/
namespace Go.Proofs.Ytcjobmbbikfnaac
open Go.RowKit
open Go.ChangeMaps (setBlock)

/-- block r goes through the map at bm; all that was there in w0 is there -/
structure It (w0 : World) (r bm : Nat) (es : Array MapEntry) (clock : Nat) (seen : Array Nat) (wr : World) : Prop where
  it : ∃ c0, wr.heap[r]? = some (.mapIter (some bm) clock seen c0) ∧ clock ≤ c0
  at_ : w0.heap[bm]? = some (.map es clock)
  far : w0.heap.size ≤ r
  bel : Below w0.heap.size w0 wr
theorem It.below {w0 : World} {r bm : Nat} {es : Array MapEntry} {clock : Nat} {seen : Array Nat} {wr w' : World} (h : It w0 r bm es clock seen wr) (hb : Below wr.heap.size wr w') : It w0 r bm es clock seen w' := by
  obtain ⟨⟨c0, h1, h2⟩, h3, h4, h5⟩ := h
  exact ⟨⟨c0, by rw [hb.block r (lt_of_block h1)]; exact h1, h2⟩, h3, h4, h5.trans (hb.mono h5.size)⟩
theorem It.set {w0 : World} {r bm : Nat} {es : Array MapEntry} {clock : Nat} {seen : Array Nat} {wr : World} (h : It w0 r bm es clock seen wr) {b : Nat} (hb : w0.heap.size ≤ b) (hne : r ≠ b) (o : Obj) : It w0 r bm es clock seen (setBlock wr b o) := by
  obtain ⟨⟨c0, h1, h2⟩, h3, h4, h5⟩ := h
  exact ⟨⟨c0, by rw [setBlock_other hne]; exact h1, h2⟩, h3, h4, setBlock_below h5 hb o⟩
theorem It.seen {w0 : World} {r bm : Nat} {es : Array MapEntry} {clock : Nat} {seen : Array Nat} {wr : World} (h : It w0 r bm es clock seen wr) : wr.iterSeen r = seen := by
  obtain ⟨⟨c0, h1, _⟩, _⟩ := h
  simp [World.iterSeen, h1]

/-- the worlds behind 'next' -/
theorem It.next {w0 : World} {r bm : Nat} {es : Array MapEntry} {clock : Nat} {seen : Array Nat} {wr : World} (h : It w0 r bm es clock seen wr) (hn : (es.toList.map (·.born)).Nodup) (hc : ∀ e ∈ es.toList, e.born < clock) (ty : TypeId) :
    ((leftOf es seen).size = 0 ∧ (Instr.next (.pointer (some ⟨r, 0, none⟩)) false ty).run Try.prog wr = .ok (.tuple #[.bool false]) wr) ∨
    ∃ e ∈ (leftOf es seen).toList, ∃ W : World, (Instr.next (.pointer (some ⟨r, 0, none⟩)) false ty).run Try.prog wr = .ok (.tuple #[.bool true, e.key, e.val]) W ∧
      (Instr.entry (.pointer (some ⟨r, 0, none⟩))).run Try.prog W = .ok (.tuple #[e.key, e.val]) W ∧ It w0 r bm es clock (seen.push e.born) W ∧ W.heap.size = wr.heap.size ∧ ∀ c : Nat, c ≠ r → W.heap[c]? = wr.heap[c]? := by
  obtain ⟨⟨c0, h1, h2⟩, h3, h4, h5⟩ := h
  have hbm : bm < w0.heap.size := lt_of_block h3
  have hb : wr.heap[bm]? = some (.map es clock) := by rw [h5.block bm hbm]; exact h3
  rcases run_next_at (P := Try.prog) wr ty r bm clock c0 seen es clock h1 hb hc h2 with h | ⟨e, he, w1, hw1, hrun⟩
  · exact .inl h
  · right
    have hr1 : w1.heap[r]? = some (.mapIter (some bm) clock seen c0) := by rcases hw1 with rfl | rfl <;> exact h1
    have hsz : w1.heap.size = wr.heap.size := by rcases hw1 with rfl | rfl <;> rfl
    have hh : ∀ c : Nat, w1.heap[c]? = wr.heap[c]? := by rcases hw1 with rfl | rfl <;> exact fun _ => rfl
    have hb1 : Below w0.heap.size w0 w1 := by rcases hw1 with rfl | rfl; exact h5; exact h5.drew
    have hW : (setBlock w1 r (.mapIter (some bm) clock (seen.push e.born) clock)).heap[r]? = some (.mapIter (some bm) clock (seen.push e.born) clock) := setBlock_at hr1
    refine ⟨e, he, _, hrun, run_entry_at _ r bm clock seen es clock e hW (by rw [setBlock_other (by omega), hh]; exact hb) (mem_left he).1 hn, ⟨⟨clock, hW, Nat.le_refl _⟩, h3, h4, setBlock_below hb1 h4 _⟩, by rw [setBlock_size]; exact hsz, fun c hc => by rw [setBlock_other hc]; exact hh c⟩

/-- of what has been seen, and is asked for, g tells -/
def Seen (p : Int → Bool) (es : Array MapEntry) (seen : Array Nat) (g : Int → Option Value) : Prop :=
  ∀ k v, g k = some v ↔ ∃ e ∈ es.toList, seen.contains e.born = true ∧ e.key = .int .i64 k ∧ e.val = v ∧ p k = true
theorem seen_none (p : Int → Bool) (es : Array MapEntry) : Seen p es #[] (fun _ => none) := by
  intro k v
  constructor
  · intro h; cases h
  · rintro ⟨e, _, h, _⟩; simp at h
theorem key_one {L : List MapEntry} (hp : L.Pairwise fun a b => a.key ≠ b.key) {a b : MapEntry} (ha : a ∈ L) (hb : b ∈ L) (h : a.key = b.key) : a = b := by
  obtain ⟨i, hi, rfl⟩ := List.mem_iff_getElem.1 ha
  obtain ⟨j, hj, rfl⟩ := List.mem_iff_getElem.1 hb
  rw [List.pairwise_iff_getElem] at hp
  rcases Nat.lt_trichotomy i j with h1 | h1 | h1
  · exact absurd h (hp i j hi hj h1)
  · subst h1; rfl
  · exact absurd h.symm (hp j i hj hi h1)
theorem seen_step {p : Int → Bool} {es : Array MapEntry} {seen : Array Nat} {g f : Int → Option Value} {e : MapEntry} {k : Int} (h : Seen p es seen g) (hh : Holds es.toList f) (hn : (es.toList.map (·.born)).Nodup)
    (he : e ∈ es.toList) (hk : e.key = .int .i64 k) (hp : p k = true) : Seen p es (seen.push e.born) (updF g k e.val) := by
  intro q v
  unfold updF
  by_cases hq : q = k
  · rw [if_pos hq]
    subst hq
    constructor
    · intro h1
      injection h1 with h1
      exact ⟨e, he, by rw [contains_push]; simp, hk, h1, hp⟩
    · rintro ⟨x, hx, _, hxk, hxv, _⟩
      have := key_one hh.one hx he (by rw [hxk, hk])
      rw [← hxv, this]
  · rw [if_neg hq, h q v]
    constructor
    · rintro ⟨x, hx, hs, hr⟩
      exact ⟨x, hx, by rw [contains_push, hs]; rfl, hr⟩
    · rintro ⟨x, hx, hs, hxk, hr⟩
      refine ⟨x, hx, ?_, hxk, hr⟩
      rw [contains_push, Bool.or_eq_true] at hs
      rcases hs with hs | hs
      · exact hs
      · have hxe := born_inj hn hx he (by simpa using hs)
        subst hxe
        rw [hk] at hxk
        injection hxk with _ hxk
        exact absurd hxk.symm hq
theorem seen_skip {p : Int → Bool} {es : Array MapEntry} {seen : Array Nat} {g : Int → Option Value} {e : MapEntry} {k : Int} (h : Seen p es seen g) (hn : (es.toList.map (·.born)).Nodup)
    (he : e ∈ es.toList) (hk : e.key = .int .i64 k) (hp : p k = false) : Seen p es (seen.push e.born) g := by
  intro q v
  rw [h q v]
  constructor
  · rintro ⟨x, hx, hs, hr⟩
    exact ⟨x, hx, by rw [contains_push, hs]; rfl, hr⟩
  · rintro ⟨x, hx, hs, hxk, hxv, hpq⟩
    refine ⟨x, hx, ?_, hxk, hxv, hpq⟩
    rw [contains_push, Bool.or_eq_true] at hs
    rcases hs with hs | hs
    · exact hs
    · have hxe := born_inj hn hx he (by simpa using hs)
      subst hxe
      rw [hk] at hxk
      injection hxk with _ hxk
      subst hxk
      rw [hp] at hpq
      cases hpq
theorem seen_end {p : Int → Bool} {es : Array MapEntry} {seen : Array Nat} {g f : Int → Option Value} (h : Seen p es seen g) (hh : Holds es.toList f) (h0 : (leftOf es seen).size = 0) (k : Int) : g k = if p k then f k else none := by
  have hall := all_seen es seen h0
  cases hg : g k with
  | some v =>
    obtain ⟨e, he, _, hk, hv, hp⟩ := (h k v).1 hg
    rw [hp, if_pos rfl]
    obtain ⟨q, hq, hf⟩ := hh.key e he
    rw [hk] at hq
    injection hq with _ hq
    subst hq
    rw [hf, hv]
  | none =>
    cases hp : p k with
    | false => rfl
    | true =>
      rw [if_pos rfl]
      cases hf : f k with
      | none => rfl
      | some v =>
        obtain ⟨e, he, hk, hv⟩ := hh.all k v hf
        have := (h k v).2 ⟨e, he, hall e he, hk, hv, hp⟩
        rw [hg] at this
        cases this

/-- the map's copy, so far -/
def RI (w0 : World) (bm : Nat) (es : Array MapEntry) (clock : Nat) (p : Int → Bool) (seen : Array Nat) (wr : World) : Prop :=
  It w0 (w0.heap.size + 1) bm es clock seen wr ∧ ∃ g, IMap wr w0.heap.size g ∧ Seen p es seen g
theorem RI.start {w0 : World} {bm : Nat} {es : Array MapEntry} {clock : Nat} (p : Int → Bool) (hb : w0.heap[bm]? = some (.map es clock)) : RI w0 bm es clock p #[] ((w0.alloc (.map #[] 0)).alloc (.mapIter (some bm) clock #[] clock)) := by
  have h1 : ((w0.alloc (.map #[] 0)).alloc (.mapIter (some bm) clock #[] clock)).heap[w0.heap.size + 1]? = some (.mapIter (some bm) clock #[] clock) := by
    have := heap_alloc_new (w0.alloc (.map #[] 0)) (.mapIter (some bm) clock #[] clock)
    simpa using this
  refine ⟨⟨⟨clock, h1, Nat.le_refl _⟩, hb, by omega, ((Below.refl _ _).alloc (Nat.le_refl _) _).alloc (by simp) _⟩, fun _ => none, ?_, seen_none p es⟩
  exact (IMap.new w0).below (Nat.le_refl _) ((Below.refl _ _).alloc (Nat.le_refl _) _)
/-- what a round of the copy finds -/
theorem RI.round {w0 : World} {bm : Nat} {es : Array MapEntry} {clock : Nat} {p : Int → Bool} {seen : Array Nat} {wr : World} {f : Int → Option Value} {xs : List M.Nd} (h : RI w0 bm es clock p seen wr) (hh : Holds es.toList f) (hn : (es.toList.map (·.born)).Nodup) (hc : ∀ e ∈ es.toList, e.born < clock) (ha : Agree w0 f xs) (ty : TypeId) :
    ((leftOf es seen).size = 0 ∧ (Instr.next (.pointer (some ⟨w0.heap.size + 1, 0, none⟩)) false ty).run Try.prog wr = .ok (.tuple #[.bool false]) wr) ∨
    ∃ (b : Nat) (v : NV) (k : Int) (W : World), (leftOf es (seen.push b)).size < (leftOf es seen).size ∧ (Instr.next (.pointer (some ⟨w0.heap.size + 1, 0, none⟩)) false ty).run Try.prog wr = .ok (.tuple #[.bool true, .int .i64 k, v.val]) W ∧
      (Instr.entry (.pointer (some ⟨w0.heap.size + 1, 0, none⟩))).run Try.prog W = .ok (.tuple #[.int .i64 k, v.val]) W ∧
      (p k = false → RI w0 bm es clock p (seen.push b) (W.alloc (.cells #[.int .i64 v.fid, .bool v.dir, .slice v.dA v.dn v.dc, .slice v.eA v.en v.ec, .int .i64 v.ver] 56))) ∧
      (p k = true → ∃ o : Obj, (Instr.mapUpdate 30 (.map (some w0.heap.size)) (.int .i64 k) v.val).run Try.prog (W.alloc (.cells #[.int .i64 v.fid, .bool v.dir, .slice v.dA v.dn v.dc, .slice v.eA v.en v.ec, .int .i64 v.ver] 56)) = .ok () (setBlock (W.alloc (.cells #[.int .i64 v.fid, .bool v.dir, .slice v.dA v.dn v.dc, .slice v.eA v.en v.ec, .int .i64 v.ver] 56)) w0.heap.size o) ∧ RI w0 bm es clock p (seen.push b) (setBlock (W.alloc (.cells #[.int .i64 v.fid, .bool v.dir, .slice v.dA v.dn v.dc, .slice v.eA v.en v.ec, .int .i64 v.ver] 56)) w0.heap.size o)) := by
  obtain ⟨hit, g, hg, hs⟩ := h
  rcases hit.next hn hc ty with h1 | ⟨e, he, W, h1, h2, h3, h4, h5⟩
  · exact .inl h1
  · right
    obtain ⟨hem, _⟩ := mem_left he
    obtain ⟨k, hk, hf⟩ := hh.key e hem
    rcases ha k with ⟨h6, _⟩ | ⟨v, x, h6, _, _⟩
    · rw [h6] at hf; cases hf
    · rw [h6] at hf
      injection hf with hf
      have hgW : IMap W w0.heap.size g := hg.same (h5 _ (by omega))
      have hwa : Below W.heap.size W (W.alloc (.cells #[.int .i64 v.fid, .bool v.dir, .slice v.dA v.dn v.dc, .slice v.eA v.en v.ec, .int .i64 v.ver] 56)) := (Below.refl _ _).alloc (Nat.le_refl _) _
      refine ⟨e.born, v, k, W, left_shrinks es seen e he, by rw [h1, hk, hf], by rw [h2, hk, hf], fun hp => ?_, fun hp => ?_⟩
      · exact ⟨h3.below hwa, g, hgW.below (Nat.le_refl _) hwa, seen_skip hs hn hem hk hp⟩
      · obtain ⟨o, hr, hi⟩ := run_update_map 30 56 Try.underlying30 (hgW.below (Nat.le_refl _) hwa) k v.val
        refine ⟨o, hr, (h3.below hwa).set (Nat.le_refl _) (by omega) o, _, hi, ?_⟩
        have := seen_step hs hh hn hem hk hp
        rw [← hf] at this
        exact this

theorem find_putN (xs : List M.Nd) (x : M.Nd) (k : Int) : M.find (M.putN xs x) k = if k = x.fid then some x else M.find xs k := by
  by_cases hk : k = x.fid
  · rw [if_pos hk, hk]; exact findN_put xs x
  · rw [if_neg hk]; exact findN_other xs x k hk

set_option maxHeartbeats 2000000 in
theorem with_any (bm : Nat) (xs : List M.Nd) (v : NV) (x : M.Nd) (w : World) (ht : TMap w bm xs) (hc : Cont w v x) :
    Calls Try.prog 26 #[.map (some bm), v.val] w fun e w' => ∃ b, e = .returned (.map (some b)) ∧ TMap w' b (M.putN xs x) ∧ Below w.heap.size w w' := by
  obtain ⟨f, ⟨es, clock, hb, hh, hn, hcl⟩, ha⟩ := ht
  have hwa : Below w.heap.size w (w.alloc (.cells #[.int .i64 v.fid, .bool v.dir, .slice v.dA v.dn v.dc, .slice v.eA v.en v.ec, .int .i64 v.ver] 56)) := (Below.refl _ _).alloc (Nat.le_refl _) _
  have hbm : bm < w.heap.size := lt_of_block hb
  have H0 : Hid ((w.alloc (.cells #[.int .i64 v.fid, .bool v.dir, .slice v.dA v.dn v.dc, .slice v.eA v.en v.ec, .int .i64 v.ver] 56)).heap[bm]? = some (.map es clock) ∧ Box (w.alloc (.cells #[.int .i64 v.fid, .bool v.dir, .slice v.dA v.dn v.dc, .slice v.eA v.en v.ec, .int .i64 v.ver] 56)) w.heap.size v ∧ Cont (w.alloc (.cells #[.int .i64 v.fid, .bool v.dir, .slice v.dA v.dn v.dc, .slice v.eA v.en v.ec, .int .i64 v.ver] 56)) v x ∧ Agree (w.alloc (.cells #[.int .i64 v.fid, .bool v.dir, .slice v.dA v.dn v.dc, .slice v.eA v.en v.ec, .int .i64 v.ver] 56)) f xs ∧ Below w.heap.size w (w.alloc (.cells #[.int .i64 v.fid, .bool v.dir, .slice v.dA v.dn v.dc, .slice v.eA v.en v.ec, .int .i64 v.ver] 56))) :=
    ⟨by rw [hwa.block bm hbm]; exact hb, Box.new w v, hc.below (Nat.le_refl _) hwa, ha.below (Nat.le_refl _) hwa, hwa⟩
  have HH : Hid (Holds es.toList f ∧ (es.toList.map (·.born)).Nodup ∧ ∀ e ∈ es.toList, e.born < clock) := ⟨hh, hn, hcl⟩
  have hrg := run_range_map (P := Try.prog) ((w.alloc (.cells #[.int .i64 v.fid, .bool v.dir, .slice v.dA v.dn v.dc, .slice v.eA v.en v.ec, .int .i64 v.ver] 56)).alloc (.map #[] 0)) 30 3 56 bm es clock Try.underlying30 (by rw [Below.heap_alloc _ _ _ (lt_of_block H0.out.1)]; exact H0.out.1)
  have hmm := @run_makeMap Try.prog
  clear hb hh hn hcl ha hc hwa
  go_enter Try.func26, Try.ntmps26
  go_wp2
  have hsz : (w.alloc (.cells #[.int .i64 v.fid, .bool v.dir, .slice v.dA v.dn v.dc, .slice v.eA v.en v.ec, .int .i64 v.ver] 56)).heap.size = w.heap.size + 1 := by simp
  generalize w.alloc (.cells #[.int .i64 v.fid, .bool v.dir, .slice v.dA v.dn v.dc, .slice v.eA v.en v.ec, .int .i64 v.ver] 56) = W0 at H0 hrg hsz ⊢
  have HSZ : Hid (W0.heap.size = w.heap.size + 1) := hsz
  clear hrg hsz
  go_loopw [] (fun wr => ∃ seen, RI W0 bm es clock (fun _ => true) seen wr) (fun wr => (leftOf es (wr.iterSeen (w.heap.size + 1 + 1))).size)
  case atStart => exact ⟨#[], RI.start _ H0.out.1⟩
  case round =>
    obtain ⟨seen, hri⟩ := hrel
    have HRI : Hid (RI W0 bm es clock (fun _ => true) seen wr) := hri
    have hse := hri.1.seen
    have hrd := hri.round HH.out.1 HH.out.2.1 HH.out.2.2 H0.out.2.2.2.1 0
    rw [HSZ.out] at hrd hse
    rcases hrd with ⟨h0, hnx⟩ | ⟨b, ve, k, W, hlt, hnx, hen, _, hup⟩
    · obtain ⟨hit, g, hg, hs⟩ := HRI.out
      have hge : g = f := by funext q; have := seen_end hs HH.out.1 h0 q; simpa using this
      rw [hge] at hg
      rw [HSZ.out] at hg
      obtain ⟨o, hu, him⟩ := run_update_map 30 56 Try.underlying30 hg v.fid v.val
      have hbl : Below w.heap.size w (setBlock wr (w.heap.size + 1) o) := setBlock_below (H0.out.2.2.2.2.trans (hit.bel.mono (by rw [HSZ.out]; omega))) (by omega) o
      have hb0 : Below W0.heap.size W0 (setBlock wr (w.heap.size + 1) o) := setBlock_below hit.bel (by rw [HSZ.out]; omega) o
      have HF : Hid (TMap (setBlock wr (w.heap.size + 1) o) (w.heap.size + 1) (M.putN xs x) ∧ Below w.heap.size w (setBlock wr (w.heap.size + 1) o)) :=
        ⟨⟨_, him, (agree_upd H0.out.2.2.2.1 H0.out.2.2.1 (find_putN xs x)).below (Nat.le_refl _) hb0⟩, hbl⟩
      obtain ⟨p0, p1, p2, p3, p4, pf, pz⟩ := (H0.out.2.1.below hit.bel (by rw [HSZ.out]; omega)).facts
      clear hit hs hge hg him hbl hb0 hse h0 hri
      go_wp2
      go_ret
      exact ⟨_, rfl, HF.out.1, HF.out.2⟩
    · obtain ⟨o, hu, hri2⟩ := hup rfl
      have HR2 : Hid (RI W0 bm es clock (fun _ => true) (seen.push b) (setBlock (W.alloc (.cells #[.int .i64 ve.fid, .bool ve.dir, .slice ve.dA ve.dn ve.dc, .slice ve.eA ve.en ve.ec, .int .i64 ve.ver] 56)) (w.heap.size + 1) o)) := hri2
      have hse2 := hri2.1.seen
      rw [HSZ.out] at hse2
      have HM : Hid (_ ∧ _ ∧ _) := ⟨hlt, hse, hse2⟩
      clear hup hri hri2 hlt hse hse2
      go_wp2
      go_roundw
      case rel => exact ⟨_, HR2.out⟩
      case measure => rw [HM.out.2.2, HM.out.2.1]; exact HM.out.1

theorem find_dropN (xs : List M.Nd) (t k : Int) : M.find (M.dropN xs t) k = if k = t then none else M.find xs k := by
  by_cases hk : k = t
  · rw [if_pos hk, hk]; exact findN_drop xs t
  · rw [if_neg hk]
    unfold M.find M.dropN
    rw [List.find?_filter]
    congr 1
    funext y
    by_cases hy : y.fid = k
    · simp [hy, hk]
    · simp [hy]

set_option maxHeartbeats 2000000 in
theorem without_any (bm : Nat) (xs : List M.Nd) (t : Int) (w : World) (ht : TMap w bm xs) :
    Calls Try.prog 30 #[.map (some bm), .int .i64 t] w fun e w' => ∃ b, e = .returned (.map (some b)) ∧ TMap w' b (M.dropN xs t) ∧ Below w.heap.size w w' := by
  obtain ⟨f, ⟨es, clock, hb, hh, hn, hcl⟩, ha⟩ := ht
  have H0 : Hid (w.heap[bm]? = some (.map es clock) ∧ Agree w f xs) := ⟨hb, ha⟩
  have HH : Hid (Holds es.toList f ∧ (es.toList.map (·.born)).Nodup ∧ ∀ e ∈ es.toList, e.born < clock) := ⟨hh, hn, hcl⟩
  have hrg := run_range_map (P := Try.prog) (w.alloc (.map #[] 0)) 30 3 56 bm es clock Try.underlying30 (by rw [Below.heap_alloc _ _ _ (lt_of_block hb)]; exact hb)
  have hmm := @run_makeMap Try.prog
  clear hb hh hn hcl ha
  go_enter Try.func30, Try.ntmps30
  go_wp2
  clear hrg
  go_loopw [] (fun wr => ∃ seen, RI w bm es clock (fun k => !decide (k = t)) seen wr) (fun wr => (leftOf es (wr.iterSeen (w.heap.size + 1))).size)
  case atStart => exact ⟨#[], RI.start _ H0.out.1⟩
  case round =>
    obtain ⟨seen, hri⟩ := hrel
    have HRI : Hid (RI w bm es clock (fun k => !decide (k = t)) seen wr) := hri
    have hse := hri.1.seen
    have hrd := hri.round HH.out.1 HH.out.2.1 HH.out.2.2 H0.out.2 0
    rcases hrd with ⟨h0, hnx⟩ | ⟨b, ve, k, W, hlt, hnx, hen, hno, hup⟩
    · obtain ⟨hit, g, hg, hs⟩ := HRI.out
      have HF : Hid (TMap wr w.heap.size (M.dropN xs t) ∧ Below w.heap.size w wr) := by
        refine ⟨⟨g, hg, fun q => ?_⟩, hit.bel⟩
        rw [seen_end hs HH.out.1 h0 q, find_dropN]
        by_cases hq : q = t
        · simp [hq]
        · have := (H0.out.2.below (Nat.le_refl _) hit.bel) q
          simpa [hq] using this
      clear hit hs hg hse h0 hri
      go_wp2
      go_ret
      exact ⟨_, rfl, HF.out.1, HF.out.2⟩
    · by_cases hkt : k = t
      · have hri2 := hno (by simp [hkt])
        have HR2 : Hid (RI w bm es clock (fun k => !decide (k = t)) (seen.push b) (W.alloc (.cells #[.int .i64 ve.fid, .bool ve.dir, .slice ve.dA ve.dn ve.dc, .slice ve.eA ve.en ve.ec, .int .i64 ve.ver] 56))) := hri2
        have hse2 := hri2.1.seen
        have HM : Hid (_ ∧ _ ∧ _) := ⟨hlt, hse, hse2⟩
        have q1 : (k == t) = true := by simp [hkt]
        have q2 : (k != t) = false := by simp [hkt]
        clear hup hno hri hri2 hlt hse hse2 hkt
        go_wp2
        go_roundw
        case rel => exact ⟨_, HR2.out⟩
        case measure => rw [HM.out.2.2, HM.out.2.1]; exact HM.out.1
      · obtain ⟨o, hu, hri2⟩ := hup (by simp [hkt])
        have HR2 : Hid (RI w bm es clock (fun k => !decide (k = t)) (seen.push b) (setBlock (W.alloc (.cells #[.int .i64 ve.fid, .bool ve.dir, .slice ve.dA ve.dn ve.dc, .slice ve.eA ve.en ve.ec, .int .i64 ve.ver] 56)) w.heap.size o)) := hri2
        have hse2 := hri2.1.seen
        have HM : Hid (_ ∧ _ ∧ _) := ⟨hlt, hse, hse2⟩
        have q1 : (k == t) = false := by simp [hkt]
        have q2 : (k != t) = true := by simp [hkt]
        clear hup hno hri hri2 hlt hse hse2 hkt
        go_wp2
        go_roundw
        case rel => exact ⟨_, HR2.out⟩
        case measure => rw [HM.out.2.2, HM.out.2.1]; exact HM.out.1
end Go.Proofs.Ytcjobmbbikfnaac
/-
  THE REFERENCE's Leave AND Enter: lists of one's own, one entry behind the other.
-/
namespace Go.Proofs.Ytcjobmbbikfnaac
open Go.RowKit

/-- a list of one's own since w0 -/
def Keep (w0 : World) (es : List (ByteArray × Int)) (A : Option Addr) (m c : Nat) (wr : World) : Prop :=
  wr.ownsRow w0.heap.size 58 2 (.slice A m c) m (es.flatMap entCells) ∧ Below w0.heap.size w0 wr
theorem Keep.start (w0 : World) : Keep w0 [] none 0 0 w0 := ⟨World.ownsRow_nil _ _ _ _, Below.refl _ _⟩
theorem Keep.alloc {w0 : World} {es : List (ByteArray × Int)} {A : Option Addr} {m c : Nat} {wr : World} (h : Keep w0 es A m c wr) (o : Obj) : Keep w0 es A m c (wr.alloc o) :=
  ⟨own_below h.1 ((Below.refl _ _).alloc (Nat.le_refl _) o) (Nat.le_refl _), h.2.alloc h.2.size o⟩
theorem Keep.drew {w0 : World} {es : List (ByteArray × Int)} {A : Option Addr} {m c : Nat} {wr : World} (h : Keep w0 es A m c wr) : Keep w0 es A m c wr.drew :=
  ⟨own_below h.1 ((Below.refl _ _).drew) (Nat.le_refl _), h.2.drew⟩
theorem Keep.app {w0 : World} {es : List (ByteArray × Int)} {e : ByteArray × Int} {A A' : Option Addr} {m c c' : Nat} {W w1 : World} (h : Keep w0 es A m c W) (hg : W.grownBy w1 (Value.slice A m c).ownBlock)
    (ho : w1.ownsRow w0.heap.size 58 2 (.slice A' (m + 1) c') (m + 1) (es.flatMap entCells ++ [e].flatMap entCells)) : Keep w0 (es ++ [e]) A' (m + 1) c' w1 := by
  refine ⟨by rw [List.flatMap_append]; exact ho, h.2.grown hg h.2.size fun k hk => (h.1.lt k hk).1⟩
theorem Keep.len {w0 : World} {es : List (ByteArray × Int)} {A : Option Addr} {m c : Nat} {wr : World} (h : Keep w0 es A m c wr) : m = es.length := own_len ent_len (by decide) h.1

theorem row_new2 (w : World) (o : Obj) (e : ByteArray × Int) : Row 2 entCells ((w.alloc o).alloc (.cells #[.string e.1, .int .i64 e.2] 58)) (some ⟨w.heap.size + 1, 0, none⟩) 1 [e] := by
  have := row_of_box2 (Box2.new (w.alloc o) e)
  simpa using this
theorem row_new1 (w : World) (e : ByteArray × Int) : Row 2 entCells (w.alloc (.cells #[.string e.1, .int .i64 e.2] 58)) (some ⟨w.heap.size, 0, none⟩) 1 [e] := row_of_box2 (Box2.new w e)

theorem dropE_snoc (es : List (ByteArray × Int)) (e : ByteArray × Int) (s : ByteArray) : M.dropE (es ++ [e]) s = if e.1 = s then M.dropE es s else M.dropE es s ++ [e] := by
  unfold M.dropE
  rw [List.filter_append]
  by_cases h : e.1 = s <;> simp [h]

set_option maxHeartbeats 2000000 in
theorem refLeave_own (v : NV) (x : M.Nd) (s : ByteArray) (w : World) (hc : Cont w v x) (hs : Small x) :
    Calls Try.prog 29 #[v.val, .string s] w fun e w' => ∃ (A : Option Addr) (m c : Nat), e = .returned (NV.val ⟨v.fid, v.dir, v.dA, v.dn, v.dc, A, m, c, v.ver⟩) ∧ w'.ownsRow w.heap.size 58 2 (.slice A m c) m ((M.dropE x.ents s).flatMap entCells) ∧ Below w.heap.size w w' := by
  have hB0 : ∀ W : World, W = (w.alloc (.cells #[.int .i64 v.fid, .bool v.dir, .slice v.dA v.dn v.dc, .slice v.eA v.en v.ec, .int .i64 v.ver] 56)).alloc (.cells #[.int .i64 0, .bool false, .slice none 0 0, .slice none 0 0, .int .i64 0] 56) → Box W w.heap.size v ∧ Box W (w.heap.size + 1) NV.zero ∧ W.heap.size = w.heap.size + 2 ∧ Below w.heap.size w W := by
    rintro W rfl
    exact ⟨(Box.new w v).alloc _, by have := Box.new0 (w.alloc (.cells #[.int .i64 v.fid, .bool v.dir, .slice v.dA v.dn v.dc, .slice v.eA v.en v.ec, .int .i64 v.ver] 56)); simpa using this, by simp, ((Below.refl _ _).alloc (Nat.le_refl _) _).alloc (by simp) _⟩
  have HB0 : Hid _ := hB0
  have HC : Hid (Cont w v x ∧ Small x) := ⟨hc, hs⟩
  have hen : v.en * 24 ≤ 140737488355328 := by have := hc.2.2.2.2.1; have := hs.2; omega
  have HL : Hid (v.en = x.ents.length) := hc.2.2.2.2.1
  obtain ⟨i58, hi58, hz58, hs58, hb58⟩ := info_parts info58
  clear hB0 hc hs
  go_enter Try.func29, Try.ntmps29
  go_wp2
  obtain ⟨q0, q1, q2, q3⟩ := HB0.out _ rfl
  generalize (w.alloc (.cells #[.int .i64 v.fid, .bool v.dir, .slice v.dA v.dn v.dc, .slice v.eA v.en v.ec, .int .i64 v.ver] 56)).alloc (.cells #[.int .i64 0, .bool false, .slice none 0 0, .slice none 0 0, .int .i64 0] 56) = W0 at q0 q1 q2 q3 ⊢
  have H0 : Hid (Box W0 w.heap.size v ∧ Box W0 (w.heap.size + 1) NV.zero ∧ Below w.heap.size w W0 ∧ W0.heap.size = w.heap.size + 2) := ⟨q0, q1, q3, q2⟩
  clear q0 q1 q2 q3 HB0
  go_loopw [5, 11] (fun l i wr => ∃ (k m c : Nat) (A : Option Addr), k ≤ v.en ∧ i = .int .i64 k ∧ l = .slice A m c ∧ m ≤ k ∧ Keep W0 (M.dropE (x.ents.take k) s) A m c wr) (fun _ i _ => v.en - (intOf i).toNat)
  case atStart => exact ⟨0, 0, 0, none, Nat.zero_le _, rfl, rfl, Nat.le_refl _, by rw [List.take_zero]; exact Keep.start W0⟩
  case round =>
    obtain ⟨k, m, c, A, hk, rfl, rfl, hmk, hkp⟩ := hrel
    have HK : Hid (Keep W0 (M.dropE (x.ents.take k) s) A m c wr) := hkp
    have HBX : Hid (Box wr w.heap.size v ∧ Box wr (w.heap.size + 1) NV.zero ∧ Below w.heap.size w wr) := ⟨H0.out.1.below hkp.2 (by rw [H0.out.2.2.2]; omega), H0.out.2.1.below hkp.2 (by rw [H0.out.2.2.2]; omega), H0.out.2.2.1.trans (hkp.2.mono (by rw [H0.out.2.2.2]; omega))⟩
    clear hkp
    obtain ⟨p0, p1, p2, p3, p4, pf, pz⟩ := HBX.out.1.facts
    obtain ⟨z0, z1, z2, z3, z4, zf, zz⟩ := HBX.out.2.1.facts
    by_cases hlt : k < v.en
    · obtain ⟨g, o, ⟨nm, fd⟩, ha, _, hak, a0, a1⟩ := Ents.at (HC.out.1.2.2.2.2.below (Nat.le_refl _) HBX.out.2.2) hlt
      have HA : Hid (x.ents[k]? = some (nm, fd)) := hak
      dsimp only at a0 a1
      have hkn : (k : Int) < (v.en : Int) := by omega
      have hk0 : (0 : Int) ≤ (k : Int) := by omega
      clear hak p0 p1 p2 p3 p4 z0 z1 z2 z3 z4
      by_cases hse : nm = s
      · have q : (nm.toList == s.toList) = true := by rw [raw_eq]; exact decide_eq_true hse
        have r : (nm.toList != s.toList) = false := by rw [bne, q]; rfl
        have HSE : Hid (nm = s) := hse
        clear hse
        go_wp2
        go_roundw
        case rel => exact ⟨k + 1, m, c, A, by omega, by go_num, rfl, by omega, by rw [take_step HA.out, dropE_snoc, if_pos HSE.out]; exact HK.out.alloc _⟩
        case measure => simp [intOf]; omega
      · have q : (nm.toList == s.toList) = false := by rw [raw_eq]; exact decide_eq_false hse
        have r : (nm.toList != s.toList) = true := by rw [bne, q]; rfl
        have HSE : Hid (nm ≠ s) := hse
        clear hse
        go_wp2_with (at_builtin; refine wpList_append_row _ (by rfl) (.tmp 19) (.tmp 21) 54 (by rfl) W0.heap.size 58 i58 (.agg #[.string ByteArray.empty, .int .i64 0]) 24 Try.underlying54 hi58 hz58 hs58 hb58 rfl (by decide) _ m _ (by rfl) ((HK.out.alloc _).alloc _).1 _ 1 1 [(nm, fd)] (by rfl) (row_new2 wr _ (nm, fd)) ent_len ent_one (by unfold maxLen; omega) (by omega) ((HK.out.alloc _).alloc _).2.size ?_; intro v1 w1 hown1 hg1; obtain ⟨A1, c1, rfl, hA1, hA2⟩ := own_form hown1; have HK1 : Hid (Keep W0 (M.dropE (x.ents.take k) s ++ [(nm, fd)]) A1 (m + 1) c1 w1) := ((HK.out.alloc _).alloc _).app hg1 hown1; clear hown1 hg1 ha)
        go_roundw
        case rel => exact ⟨k + 1, m + 1, c1, A1, by omega, by go_num, rfl, by omega, by rw [take_step HA.out, dropE_snoc, if_neg HSE.out]; exact HK1.out⟩
        case measure => simp [intOf]; omega
    · have HN : Hid (x.ents.take k = x.ents) := by have := HL.out; show _ = _; exact List.take_of_length_le (by omega)
      go_wp2
      have hkk := HK.out
      rw [HN.out] at hkk
      have hbr := put5_below (HBX.out.2.2.setCell (p := ⟨w.heap.size, 3, none⟩) (Nat.le_refl _) (.slice A m c)) (s := w.heap.size + 1) (by omega) 0 ⟨v.fid, v.dir, v.dA, v.dn, v.dc, A, m, c, v.ver⟩
      have hoe := put5_own (ownsRow_setCell_below hkk.1 (a := ⟨w.heap.size, 3, none⟩) (by show w.heap.size < _; rw [H0.out.2.2.2]; omega) (.slice A m c)) (s := w.heap.size + 1) (by rw [H0.out.2.2.2]; omega) 0 ⟨v.fid, v.dir, v.dA, v.dn, v.dc, A, m, c, v.ver⟩
      exact bodyPost_ret (v := NV.val ⟨v.fid, v.dir, v.dA, v.dn, v.dc, A, m, c, v.ver⟩) (by simp [results, Try.results29, go_sem, z0, z1, z2, z3, z4]) rfl ⟨A, m, c, rfl, own_mono hoe (by rw [H0.out.2.2.2]; omega), hbr⟩

theorem refLeave_any (v : NV) (x : M.Nd) (s : ByteArray) (w : World) (hc : Cont w v x) (hs : Small x) :
    Calls Try.prog 29 #[v.val, .string s] w fun e w' => ∃ v' : NV, e = .returned v'.val ∧ Cont w' v' (withE x (M.dropE x.ents s)) ∧ Below w.heap.size w w' := by
  refine (refLeave_own v x s w hc hs).mono ?_
  rintro e w' ⟨A, m, c, rfl, ho, hb⟩
  exact ⟨_, rfl, ⟨hc.1, hc.2.1, hc.2.2.1, hc.2.2.2.1.below (Nat.le_refl _) hb, Row.ofOwn ent_len (by decide) ho⟩, hb⟩
end Go.Proofs.Ytcjobmbbikfnaac
/-
  THE REFERENCE's Enter.
-/
namespace Go.Proofs.Ytcjobmbbikfnaac
open Go.RowKit

/-- has the new entry its place already? what is there so far -/
def isIn (s : ByteArray) (l : List (ByteArray × Int)) : Bool := l.any fun e => M.ltB s e.1
def sofar (e0 : ByteArray × Int) (l : List (ByteArray × Int)) : List (ByteArray × Int) := if isIn e0.1 l then M.putE l e0 else l
theorem isIn_no {s : ByteArray} {l : List (ByteArray × Int)} (h : isIn s l = false) : ∀ e ∈ l, M.ltB s e.1 = false := by
  unfold isIn at h
  rw [List.any_eq_false] at h
  intro e he
  simpa using h e he
theorem low_all {s : ByteArray} {l : List (ByteArray × Int)} (h : isIn s l = false) (hne : ∀ e ∈ l, e.1 ≠ s) : ∀ e ∈ l, M.ltB e.1 s = true := by
  intro e he
  cases hl : M.ltB e.1 s
  · exact absurd (M.ordB.tri _ _ hl (isIn_no h e he)) (hne e he)
  · rfl
theorem putE_low {e0 : ByteArray × Int} {l : List (ByteArray × Int)} (h : isIn e0.1 l = false) (hne : ∀ e ∈ l, e.1 ≠ e0.1) : M.putE l e0 = l ++ [e0] := by
  unfold M.putE M.put
  rw [List.filter_eq_self.2 (low_all h hne), List.filter_eq_nil_iff.2 (fun e he => by rw [isIn_no h e he]; simp)]
theorem isIn_snoc (s : ByteArray) (l : List (ByteArray × Int)) (e : ByteArray × Int) : isIn s (l ++ [e]) = (isIn s l || M.ltB s e.1) := by
  unfold isIn; rw [List.any_append]; simp
theorem rs_last {l : List (ByteArray × Int)} {e : ByteArray × Int} (hr : M.RsE (l ++ [e])) {s : ByteArray} (h : isIn s l = true) : M.ltB s e.1 = true := by
  unfold isIn at h
  rw [List.any_eq_true] at h
  obtain ⟨y, hy, hsy⟩ := h
  have hp : M.Rs M.ltB ((l ++ [e]).map (·.1)) := hr
  unfold M.Rs at hp
  rw [List.map_append, List.pairwise_append] at hp
  exact M.ordB.tra _ _ _ hsy (hp.2.2 y.1 (List.mem_map.2 ⟨y, hy, rfl⟩) e.1 (by simp))
theorem sofar_first {e0 e : ByteArray × Int} {l : List (ByteArray × Int)} (h : isIn e0.1 l = false) (hne : ∀ e ∈ l, e.1 ≠ e0.1) (hl : M.ltB e0.1 e.1 = true) : sofar e0 (l ++ [e]) = l ++ [e0] ++ [e] := by
  unfold sofar
  rw [isIn_snoc, h, hl]
  simp only [Bool.false_or, if_true]
  unfold M.putE M.put
  have hel : M.ltB e.1 e0.1 = false := by
    cases hx : M.ltB e.1 e0.1
    · rfl
    · have := M.ordB.tra _ _ _ hx hl; rw [M.ordB.irr] at this; cases this
  have hL : l.filter (fun y => M.ltB y.1 e0.1) = l := List.filter_eq_self.2 (low_all h hne)
  have hR : l.filter (fun y => M.ltB e0.1 y.1) = [] := List.filter_eq_nil_iff.2 (fun e he => by rw [isIn_no h e he]; simp)
  rw [List.filter_append, List.filter_append, hL, hR]
  simp [hel, hl]
theorem sofar_low {e0 e : ByteArray × Int} {l : List (ByteArray × Int)} (h : isIn e0.1 l = false) (hl : M.ltB e0.1 e.1 = false) : sofar e0 (l ++ [e]) = l ++ [e] := by
  unfold sofar
  rw [isIn_snoc, h, hl]
  rfl
theorem sofar_then {e0 e : ByteArray × Int} {l : List (ByteArray × Int)} (h : isIn e0.1 l = true) (hr : M.RsE (l ++ [e])) : sofar e0 (l ++ [e]) = sofar e0 l ++ [e] := by
  have hl := rs_last hr h
  have hel : M.ltB e.1 e0.1 = false := by
    cases hx : M.ltB e.1 e0.1
    · rfl
    · have := M.ordB.tra _ _ _ hx hl; rw [M.ordB.irr] at this; cases this
  unfold sofar
  rw [isIn_snoc, h]
  simp only [Bool.true_or, if_true]
  unfold M.putE M.put
  rw [List.filter_append, List.filter_append]
  simp [hel, hl]
theorem putE_drop (es : List (ByteArray × Int)) (e0 : ByteArray × Int) : M.putE (M.dropE es e0.1) e0 = M.putE es e0 := by
  unfold M.putE M.put M.dropE
  rw [List.filter_filter, List.filter_filter]
  have h1 : ∀ y : ByteArray × Int, (M.ltB y.1 e0.1 && !decide (y.1 = e0.1)) = M.ltB y.1 e0.1 := fun y => by
    by_cases h : y.1 = e0.1
    · rw [h, M.ordB.irr]; rfl
    · simp [h]
  have h2 : ∀ y : ByteArray × Int, (M.ltB e0.1 y.1 && !decide (y.1 = e0.1)) = M.ltB e0.1 y.1 := fun y => by
    by_cases h : y.1 = e0.1
    · rw [h, M.ordB.irr]; rfl
    · simp [h]
  simp only [h1, h2]
theorem drop_ne (es : List (ByteArray × Int)) (s : ByteArray) : ∀ e ∈ M.dropE es s, e.1 ≠ s := by
  intro e he
  have := (List.mem_filter.1 he).2
  simpa using this
theorem rs_dropE {es : List (ByteArray × Int)} (s : ByteArray) (h : M.RsE es) : M.RsE (M.dropE es s) := M.rs_sub h (List.filter_sublist.map _)
theorem rs_takeE {es : List (ByteArray × Int)} (k : Nat) (h : M.RsE es) : M.RsE (es.take k) := M.rs_sub h ((List.take_sublist k es).map _)

/-- the entry at hand stays where it is -/
theorem box2_kept {w0 : World} {es : List (ByteArray × Int)} {A : Option Addr} {m c : Nat} {wr w4 : World} {e : ByteArray × Int} {o : Obj} (h : Keep w0 es A m c wr)
    (hg : ((wr.alloc (.cells #[.string e.1, .int .i64 e.2] 58)).alloc o).grownBy w4 (Value.slice A m c).ownBlock) : Box2 w4 wr.heap.size e := by
  have h0 : Box2 (wr.alloc (.cells #[.string e.1, .int .i64 e.2] 58)) wr.heap.size e := Box2.new wr e
  have h1 : Box2 ((wr.alloc (.cells #[.string e.1, .int .i64 e.2] 58)).alloc o) wr.heap.size e := by
    unfold Box2 at h0 ⊢
    rw [Below.heap_alloc _ _ _ (lt_of_block h0)]
    exact h0
  refine h1.grownO hg fun hx => ?_
  have := (h.1.lt wr.heap.size hx.symm).2
  omega

set_option maxHeartbeats 1000000 in
theorem refEnter_own (v : NV) (x : M.Nd) (s : ByteArray) (f : Int) (w : World) (hc : Cont w v x) (hr : M.RsE x.ents) (hs : Small x) (hs1 : (x.ents.length + 1) * 24 ≤ 140737488355328) :
    Calls Try.prog 27 #[v.val, .string s, .int .i64 f] w fun e w' => ∃ (A : Option Addr) (m c : Nat), e = .returned (NV.val ⟨v.fid, v.dir, v.dA, v.dn, v.dc, A, m, c, v.ver⟩) ∧ w'.ownsRow w.heap.size 58 2 (.slice A m c) m ((M.putE x.ents (s, f)).flatMap entCells) ∧ Below w.heap.size w w' := by
  have hB0 : ∀ W : World, W = (w.alloc (.cells #[.int .i64 v.fid, .bool v.dir, .slice v.dA v.dn v.dc, .slice v.eA v.en v.ec, .int .i64 v.ver] 56)).alloc (.cells #[.int .i64 0, .bool false, .slice none 0 0, .slice none 0 0, .int .i64 0] 56) → Box W w.heap.size v ∧ Box W (w.heap.size + 1) NV.zero ∧ W.heap.size = w.heap.size + 2 ∧ Below w.heap.size w W := by
    rintro W rfl
    exact ⟨(Box.new w v).alloc _, by have := Box.new0 (w.alloc (.cells #[.int .i64 v.fid, .bool v.dir, .slice v.dA v.dn v.dc, .slice v.eA v.en v.ec, .int .i64 v.ver] 56)); simpa using this, by simp, ((Below.refl _ _).alloc (Nat.le_refl _) _).alloc (by simp) _⟩
  have HB0 : Hid _ := hB0
  have HC : Hid (Cont w v x ∧ Small x) := ⟨hc, hs⟩
  have HR : Hid (M.RsE (M.dropE x.ents s)) := rs_dropE s hr
  have hlen : (M.dropE x.ents s).length ≤ x.ents.length := List.length_filter_le _ _
  obtain ⟨i58, hi58, hz58, hs58, hb58⟩ := info_parts info58
  clear hB0 hc hs hr
  go_enter Try.func27, Try.ntmps27
  go_wp2_with (fail)
  obtain ⟨q0, q1, q2, q3⟩ := HB0.out _ rfl
  refine (refLeave_own v x s _ (HC.out.1.below (Nat.le_refl _) q3) HC.out.2).mono ?_
  rintro e w1 ⟨A1, m1, c1, rfl, ho1, hb1⟩
  have hz1 := hb1.size
  rw [q2] at hz1 hb1 ho1
  have HX1 : Hid (Box w1 w.heap.size v) := q0.below hb1 (by omega)
  have HX2 : Hid (Box w1 (w.heap.size + 1) NV.zero ∧ Below w.heap.size w w1 ∧ w1.ownsRow (w.heap.size + 2) 58 2 (.slice A1 m1 c1) m1 ((M.dropE x.ents s).flatMap entCells)) := ⟨q1.below hb1 (by omega), q3.trans (hb1.mono (by omega)), ho1⟩
  have HL : Hid (m1 = (M.dropE x.ents s).length) := own_len ent_len (by decide) ho1
  have hen : (m1 + 1) * 24 ≤ 140737488355328 := by have := HL.out; omega
  clear q0 q1 q2 q3 HB0 hb1 ho1 hlen
  obtain ⟨p0, p1, p2, p3, p4, pf, pz⟩ := HX1.out.facts
  go_upto_region 2 with (fail)
  have H0 : ∀ W : World, W = put5 w1 w.heap.size 0 ⟨v.fid, v.dir, v.dA, v.dn, v.dc, A1, m1, c1, v.ver⟩ → Hid (Box W w.heap.size ⟨v.fid, v.dir, v.dA, v.dn, v.dc, A1, m1, c1, v.ver⟩ ∧ Box W (w.heap.size + 1) NV.zero ∧ Below w.heap.size w W ∧ Ents W A1 m1 (M.dropE x.ents s) ∧ w.heap.size + 2 ≤ W.heap.size) := by
    rintro W rfl
    exact ⟨put5_box HX1.out _, put5_box_other HX2.out.1 (by omega) 0 _, put5_below HX2.out.2.1 (Nat.le_refl _) _ _, Row.ofOwn ent_len (by decide) (put5_own HX2.out.2.2 (by omega) _ _), by simp [put5, World.setCell]; omega⟩
  obtain ⟨W1, hW1⟩ : ∃ W, W = put5 w1 w.heap.size 0 ⟨v.fid, v.dir, v.dA, v.dn, v.dc, A1, m1, c1, v.ver⟩ := ⟨_, rfl⟩
  have HW := H0 W1 hW1
  rw [show ((((w1.setCell ⟨w.heap.size, 0, none⟩ (.int .i64 v.fid)).setCell ⟨w.heap.size, 1, none⟩ (.bool v.dir)).setCell ⟨w.heap.size, 2, none⟩ (.slice v.dA v.dn v.dc)).setCell ⟨w.heap.size, 3, none⟩ (.slice A1 m1 c1)).setCell ⟨w.heap.size, 4, none⟩ (.int .i64 v.ver) = W1 from hW1.symm]
  clear H0 hW1 HX1 HX2 p0 p1 p2 p3 p4 pf pz hz1
  obtain ⟨p0, p1, p2, p3, p4, pf, pz⟩ := HW.out.1.facts
  go_wp2
  go_loopw [7, 8, 17] (fun l d i wr => ∃ (k m c : Nat) (A : Option Addr), k ≤ m1 ∧ i = .int .i64 k ∧ l = .slice A m c ∧ d = .bool (isIn s ((M.dropE x.ents s).take k)) ∧ m ≤ k + (isIn s ((M.dropE x.ents s).take k)).toNat ∧ Keep W1 (sofar (s, f) ((M.dropE x.ents s).take k)) A m c wr) (fun _ _ i _ => m1 - (intOf i).toNat)
  case atStart => exact ⟨0, 0, 0, none, Nat.zero_le _, rfl, rfl, rfl, Nat.le_refl _, by rw [List.take_zero]; exact Keep.start W1⟩
  case round =>
    obtain ⟨k, m, c, A, hk, rfl, rfl, rfl, hmk, hkp⟩ := hrel
    have HK : Hid (Keep W1 (sofar (s, f) ((M.dropE x.ents s).take k)) A m c wr) := hkp
    have HBX : Hid (Box wr w.heap.size ⟨v.fid, v.dir, v.dA, v.dn, v.dc, A1, m1, c1, v.ver⟩ ∧ Box wr (w.heap.size + 1) NV.zero ∧ Below w.heap.size w wr ∧ Ents wr A1 m1 (M.dropE x.ents s)) := ⟨HW.out.1.below hkp.2 (by have := HW.out.2.2.2.2; omega), HW.out.2.1.below hkp.2 (by have := HW.out.2.2.2.2; omega), HW.out.2.2.1.trans (hkp.2.mono (by have := HW.out.2.2.2.2; omega)), HW.out.2.2.2.1.below (Nat.le_refl _) hkp.2⟩
    clear hkp p0 p1 p2 p3 p4 pf pz
    obtain ⟨p0, p1, p2, p3, p4, pf, pz⟩ := HBX.out.1.facts
    obtain ⟨z0, z1, z2, z3, z4, zf, zz⟩ := HBX.out.2.1.facts
    by_cases hlt : k < m1
    · obtain ⟨g, o, ⟨nm, fd⟩, ha, _, hak, a0, a1⟩ := Ents.at HBX.out.2.2.2 hlt
      have HA : Hid ((M.dropE x.ents s)[k]? = some (nm, fd)) := hak
      have HNE : Hid (∀ e ∈ (M.dropE x.ents s).take k, e.1 ≠ s) := fun e he => drop_ne _ s e (List.mem_of_mem_take he)
      have HRK : Hid (M.RsE ((M.dropE x.ents s).take k ++ [(nm, fd)])) := by have := rs_takeE (k + 1) HR.out; rw [take_step hak] at this; exact this
      subst ha
      dsimp only at a0 a1
      have hkn : (k : Int) < (m1 : Int) := by omega
      have hk0 : (0 : Int) ≤ (k : Int) := by omega
      clear hak p0 p1 p2 p3 p4 z0 z1 z2 z3 z4
      cases hd : isIn s ((M.dropE x.ents s).take k)
      · rw [hd] at hmk
        simp only [Bool.toNat_false, Nat.add_zero] at hmk
        have HD : Hid (isIn s ((M.dropE x.ents s).take k) = false) := hd
        have HK0 : Hid (Keep W1 ((M.dropE x.ents s).take k) A m c wr) := by have := HK.out; unfold sofar at this; rw [show ((s, f) : ByteArray × Int).1 = s from rfl, hd] at this; exact this
        clear hd HK
        have hnm : nm ≠ s := drop_ne _ s (nm, fd) (List.mem_of_getElem? HA.out)
        have q2 : (nm.toList == s.toList) = false := by rw [raw_eq]; exact decide_eq_false hnm
        cases hlb : M.ltB s nm
        · have q : Op.bytesLess nm.toList s.toList = true := by
            cases hx : M.ltB nm s
            · exact absurd (M.ordB.tri _ _ hx hlb) hnm
            · exact hx
          have HLB : Hid (M.ltB s nm = false) := hlb
          clear hlb hnm
          go_wp2_with (at_builtin; refine wpList_append_row _ (by rfl) (.tmp 35) (.tmp 37) 54 (by rfl) W1.heap.size 58 i58 (.agg #[.string ByteArray.empty, .int .i64 0]) 24 Try.underlying54 hi58 hz58 hs58 hb58 rfl (by decide) _ m _ (by rfl) ((HK0.out.alloc _).alloc _).1 _ 1 1 [(nm, fd)] (by rfl) (row_new2 wr _ (nm, fd)) ent_len ent_one (by unfold maxLen; omega) (by omega) ((HK0.out.alloc _).alloc _).2.size ?_; intro v5 w5 hown5 hg5; obtain ⟨A5, c5, rfl, _, _⟩ := own_form hown5; have HK5 : Hid (Keep W1 (((M.dropE x.ents s).take k) ++ [(nm, fd)]) A5 (m + 1) c5 w5) := ((HK0.out.alloc _).alloc _).app hg5 hown5; clear hown5 hg5)
          go_roundw
          case rel => exact ⟨k + 1, m + 1, c5, A5, by omega, by go_num, rfl, by rw [take_step HA.out, isIn_snoc, HD.out, HLB.out]; rfl, by omega, by rw [take_step HA.out, sofar_low HD.out HLB.out]; exact HK5.out⟩
          case measure => simp [intOf]; omega
        · have q : Op.bytesLess nm.toList s.toList = false := by
            cases hx : M.ltB nm s
            · exact hx
            · have := M.ordB.tra _ _ _ hx hlb; rw [M.ordB.irr] at this; cases this
          have HLB : Hid (M.ltB s nm = true) := hlb
          have HM2 : Hid (m + 1 + 1 ≤ maxLen ∧ (m + 1 + 1) * 24 ≤ 140737488355328) := ⟨by unfold maxLen; omega, Nat.le_trans (Nat.mul_le_mul_right 24 (show m + 1 + 1 ≤ m1 + 1 by omega)) hen⟩
          clear hlb hnm
          go_wp2_with (first
            | (at_builtin; have hk4 := HK4.out; clear hk4; refine wpList_append_row _ (by rfl) (.tmp 35) (.tmp 37) 54 (by rfl) W1.heap.size 58 i58 (.agg #[.string ByteArray.empty, .int .i64 0]) 24 Try.underlying54 hi58 hz58 hs58 hb58 rfl (by decide) _ (m + 1) _ (by rfl) (HK4.out.alloc _).1 _ 1 1 [(nm, fd)] (by rfl) (row_new1 w4 (nm, fd)) ent_len ent_one HM2.out.1 HM2.out.2 (HK4.out.alloc _).2.size ?_; intro v5 w5 hown5 hg5; obtain ⟨A5, c5, rfl, _, _⟩ := own_form hown5; have HK5 : Hid (Keep W1 (((M.dropE x.ents s).take k) ++ [(s, f)] ++ [(nm, fd)]) A5 (m + 1 + 1) c5 w5) := (HK4.out.alloc _).app hg5 hown5; clear hown5 hg5)
            | (at_builtin; refine wpList_append_row _ (by rfl) (.tmp 29) (.tmp 33) 54 (by rfl) W1.heap.size 58 i58 (.agg #[.string ByteArray.empty, .int .i64 0]) 24 Try.underlying54 hi58 hz58 hs58 hb58 rfl (by decide) _ m _ (by rfl) ((HK0.out.alloc _).alloc _).1 _ 1 1 [(s, f)] (by rfl) (row_new2 wr _ (s, f)) ent_len ent_one (by unfold maxLen; omega) (by omega) ((HK0.out.alloc _).alloc _).2.size ?_; intro v4 w4 hown4 hg4; obtain ⟨A4, c4, rfl, -, -⟩ := own_form hown4; have HB4 : Hid (Box2 w4 wr.heap.size (nm, fd)) := box2_kept HK0.out hg4; have HK4 : Hid (Keep W1 (((M.dropE x.ents s).take k) ++ [(s, f)]) A4 (m + 1) c4 w4) := ((HK0.out.alloc _).alloc _).app hg4 hown4; clear hown4 hg4; obtain ⟨e0, e1, ef, ez⟩ := HB4.out.facts; dsimp only at e0 e1))
          go_roundw
          case rel => exact ⟨k + 1, m + 1 + 1, c5, A5, by omega, by go_num, rfl, by rw [take_step HA.out, isIn_snoc, HD.out, HLB.out]; rfl, by rw [take_step HA.out, isIn_snoc, HD.out, HLB.out]; simp; omega, by rw [take_step HA.out, sofar_first HD.out HNE.out HLB.out]; exact HK5.out⟩
          case measure => simp [intOf]; omega
      · rw [hd] at hmk
        simp only [Bool.toNat_true] at hmk
        have HD : Hid (isIn s ((M.dropE x.ents s).take k) = true) := hd
        clear hd
        go_wp2_with (at_builtin; refine wpList_append_row _ (by rfl) (.tmp 35) (.tmp 37) 54 (by rfl) W1.heap.size 58 i58 (.agg #[.string ByteArray.empty, .int .i64 0]) 24 Try.underlying54 hi58 hz58 hs58 hb58 rfl (by decide) _ m _ (by rfl) ((HK.out.alloc _).alloc _).1 _ 1 1 [(nm, fd)] (by rfl) (row_new2 wr _ (nm, fd)) ent_len ent_one (by unfold maxLen; omega) (by omega) ((HK.out.alloc _).alloc _).2.size ?_; intro v5 w5 hown5 hg5; obtain ⟨A5, c5, rfl, _, _⟩ := own_form hown5; have HK5 : Hid (Keep W1 (sofar (s, f) ((M.dropE x.ents s).take k) ++ [(nm, fd)]) A5 (m + 1) c5 w5) := ((HK.out.alloc _).alloc _).app hg5 hown5; clear hown5 hg5)
        go_roundw
        case rel => exact ⟨k + 1, m + 1, c5, A5, by omega, by go_num, rfl, by rw [take_step HA.out, isIn_snoc, HD.out]; rfl, by rw [take_step HA.out, isIn_snoc, HD.out]; simp; omega, by rw [take_step HA.out, sofar_then HD.out HRK.out]; exact HK5.out⟩
        case measure => simp [intOf]; omega
    · have HN : Hid ((M.dropE x.ents s).take k = M.dropE x.ents s) := by have := HL.out; show _ = _; exact List.take_of_length_le (by omega)
      cases hd : isIn s ((M.dropE x.ents s).take k)
      · rw [hd] at hmk
        have HD : Hid (isIn s (M.dropE x.ents s) = false) := by have := HN.out; rw [this] at hd; exact hd
        simp only [Bool.toNat_false, Nat.add_zero] at hmk
        have HK0 : Hid (Keep W1 (M.dropE x.ents s) A m c wr) := by have := HK.out; unfold sofar at this; rw [show ((s, f) : ByteArray × Int).1 = s from rfl, hd, HN.out] at this; exact this
        clear hd HK
        go_wp2_with (at_builtin; refine wpList_append_row _ (by rfl) (.tmp 42) (.tmp 46) 54 (by rfl) W1.heap.size 58 i58 (.agg #[.string ByteArray.empty, .int .i64 0]) 24 Try.underlying54 hi58 hz58 hs58 hb58 rfl (by decide) _ m _ (by rfl) (HK0.out.alloc _).1 _ 1 1 [(s, f)] (by rfl) (row_new1 wr (s, f)) ent_len ent_one (by unfold maxLen; omega) (by omega) (HK0.out.alloc _).2.size ?_; intro v5 w5 hown5 hg5; obtain ⟨A5, c5, rfl, _, _⟩ := own_form hown5; have HK5 : Hid (Keep W1 (M.dropE x.ents s ++ [(s, f)]) A5 (m + 1) c5 w5) := (HK0.out.alloc _).app hg5 hown5; clear hown5 hg5; have HBZ : Hid (Box w5 w.heap.size ⟨v.fid, v.dir, v.dA, v.dn, v.dc, A1, m1, c1, v.ver⟩ ∧ Box w5 (w.heap.size + 1) NV.zero ∧ Below w.heap.size w w5) := ⟨HW.out.1.below HK5.out.2 (by have := HW.out.2.2.2.2; omega), HW.out.2.1.below HK5.out.2 (by have := HW.out.2.2.2.2; omega), HW.out.2.2.1.trans (HK5.out.2.mono (by have := HW.out.2.2.2.2; omega))⟩; clear p0 p1 p2 p3 p4 pf pz z0 z1 z2 z3 z4 zf zz; obtain ⟨p0, p1, p2, p3, p4, pf, pz⟩ := HBZ.out.1.facts; obtain ⟨z0, z1, z2, z3, z4, zf, zz⟩ := HBZ.out.2.1.facts)
        have hkk := HK5.out
        rw [← putE_low (e0 := (s, f)) HD.out (drop_ne _ s), show M.putE (M.dropE x.ents s) (s, f) = M.putE x.ents (s, f) from putE_drop x.ents (s, f)] at hkk
        have hbr := put5_below (HBZ.out.2.2.setCell (p := ⟨w.heap.size, 3, none⟩) (Nat.le_refl _) (.slice A5 (m + 1) c5)) (s := w.heap.size + 1) (by omega) 0 ⟨v.fid, v.dir, v.dA, v.dn, v.dc, A5, m + 1, c5, v.ver⟩
        have hoe := put5_own (ownsRow_setCell_below hkk.1 (a := ⟨w.heap.size, 3, none⟩) (by show w.heap.size < _; have := HW.out.2.2.2.2; omega) (.slice A5 (m + 1) c5)) (s := w.heap.size + 1) (by have := HW.out.2.2.2.2; omega) 0 ⟨v.fid, v.dir, v.dA, v.dn, v.dc, A5, m + 1, c5, v.ver⟩
        exact bodyPost_ret (v := NV.val ⟨v.fid, v.dir, v.dA, v.dn, v.dc, A5, m + 1, c5, v.ver⟩) (by simp [results, Try.results27, go_sem, z0, z1, z2, z3, z4]) rfl ⟨A5, m + 1, c5, rfl, own_mono hoe (by have := HW.out.2.2.2.2; omega), hbr⟩
      · have HKF : Hid (Keep W1 (M.putE x.ents (s, f)) A m c wr) := by have := HK.out; unfold sofar at this; rw [show ((s, f) : ByteArray × Int).1 = s from rfl, hd, HN.out, if_pos rfl] at this; rw [← putE_drop]; exact this
        clear hd HK
        go_wp2
        have hkk := HKF.out
        have hbr := put5_below (HBX.out.2.2.1.setCell (p := ⟨w.heap.size, 3, none⟩) (Nat.le_refl _) (.slice A m c)) (s := w.heap.size + 1) (by omega) 0 ⟨v.fid, v.dir, v.dA, v.dn, v.dc, A, m, c, v.ver⟩
        have hoe := put5_own (ownsRow_setCell_below hkk.1 (a := ⟨w.heap.size, 3, none⟩) (by show w.heap.size < _; have := HW.out.2.2.2.2; omega) (.slice A m c)) (s := w.heap.size + 1) (by have := HW.out.2.2.2.2; omega) 0 ⟨v.fid, v.dir, v.dA, v.dn, v.dc, A, m, c, v.ver⟩
        exact bodyPost_ret (v := NV.val ⟨v.fid, v.dir, v.dA, v.dn, v.dc, A, m, c, v.ver⟩) (by simp [results, Try.results27, go_sem, z0, z1, z2, z3, z4]) rfl ⟨A, m, c, rfl, own_mono hoe (by have := HW.out.2.2.2.2; omega), hbr⟩
theorem refEnter_any (v : NV) (x : M.Nd) (s : ByteArray) (f : Int) (w : World) (hc : Cont w v x) (hr : M.RsE x.ents) (hs : Small x) (hs1 : (x.ents.length + 1) * 24 ≤ 140737488355328) :
    Calls Try.prog 27 #[v.val, .string s, .int .i64 f] w fun e w' => ∃ v' : NV, e = .returned v'.val ∧ Cont w' v' (withE x (M.putE x.ents (s, f))) ∧ Below w.heap.size w w' := by
  refine (refEnter_own v x s f w hc hr hs hs1).mono ?_
  rintro e w' ⟨A, m, c, rfl, ho, hb⟩
  exact ⟨_, rfl, ⟨hc.1, hc.2.1, hc.2.2.1, hc.2.2.2.1.below (Nat.le_refl _) hb, Row.ofOwn ent_len (by decide) ho⟩, hb⟩
end Go.Proofs.Ytcjobmbbikfnaac
