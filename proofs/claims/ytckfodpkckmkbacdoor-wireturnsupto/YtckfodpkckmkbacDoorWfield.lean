/-
  PACKAGE wire: fields, as Print calls it.
-/
import Derived.Test.YtckfodpkckmkbacDoorWprint
import Derived.Laws.EntriesVeiled
namespace Go.Proofs.YtckfodpkckmkbacDoor
open Go.RowKit

abbrev fPutNum (w0 : World) : Value := .func (.func 18) #[] #[.pointer (some ⟨w0.heap.size + 4, 0, none⟩)]
abbrev fPutName (w0 : World) : Value := .func (.func 20) #[] #[.pointer (some ⟨w0.heap.size + 3, 0, none⟩), .pointer (some ⟨w0.heap.size + 4, 0, none⟩)]
abbrev fPutData (w0 : World) : Value := .func (.func 22) #[] #[.pointer (some ⟨w0.heap.size + 4, 0, none⟩)]
theorem PrW.env {w0 w : World} {r : RV} {ls : List ByteArray} {nm : Bool} (h : PrW w0 w r ls nm) (he : Env w0) : Env w := he.below he.g h.below
theorem PrW.drew {w0 w : World} {r : RV} {ls : List ByteArray} {nm : Bool} (h : PrW w0 w r ls nm) : PrW w0 w.drew r ls nm := h.more (Below.refl _ _).drew
structure PrIn (w0 : World) (r : RV) (x : M.Rec) : Prop where
  env : Env w0
  c : ContR w0 r x
  fit : M.FitR x
  nm : x.act.name.size ≤ maxLen
  tn : x.act.toName.size ≤ maxLen
  dt : x.act.data.length ≤ 17592186044416
theorem line3 {x : M.Rec} (h : x.act.kind = 3) (ls : List ByteArray) (nm : Bool) : ls ++ [M.itB x.id] ++ [M.itB x.ver] ++ [M.itB x.act.fid] ++ [M.datB x.act.data] = ls ++ M.lineS x ∧ nm = (nm && M.namedB x) := by
  refine ⟨by simp [M.lineS, h], by simp [M.namedB, h]⟩
theorem line5 {x : M.Rec} (h : x.act.kind = 5) (ls : List ByteArray) (nm : Bool) : ls ++ [M.itB x.id] ++ [M.itB x.ver] ++ [M.itB x.act.fid] ++ [M.itB x.act.dir] ++ [x.act.name] ++ [M.itB x.act.to] ++ [x.act.toName] = ls ++ M.lineS x ∧ ((nm && M.nameB x.act.name.data.toList) && M.nameB x.act.toName.data.toList) = (nm && M.namedB x) := by
  refine ⟨by simp [M.lineS, h], by simp [M.namedB, h, Bool.and_assoc]⟩
theorem line1 {x : M.Rec} (h3 : x.act.kind ≠ 3) (h : x.act.kind ≠ 5) (ls : List ByteArray) (nm : Bool) : ls ++ [M.itB x.id] ++ [M.itB x.ver] ++ [M.itB x.act.fid] ++ [M.itB x.act.dir] ++ [x.act.name] = ls ++ M.lineS x ∧ (nm && M.nameB x.act.name.data.toList) = (nm && M.namedB x) := by
  refine ⟨by simp [M.lineS, h, h3], by simp [M.namedB, h, h3]⟩
set_option maxRecDepth 8000 in
set_option maxHeartbeats 2000000 in
theorem fieldsP_any (w0 w : World) (r : RV) (x : M.Rec) (ls : List ByteArray) (nm : Bool) (h : PrW w0 w r ls nm) (hl : ls.length ≤ 20) (hi : PrIn w0 r x) :
    Calls Tryd.prog 17 #[.pointer (some ⟨w0.heap.size, 0, none⟩), fPutNum w0, fPutName w0, fPutData w0] w fun e w' => e = .returned (.tuple #[]) ∧ PrW w0 w' r (ls ++ M.lineS x) (nm && M.namedB x) := by
  have HI : Hid (PrIn w0 r x) := hi
  have HP : Hid (PrW w0 w r ls nm) := h
  obtain ⟨⟨k1, k2, k3, k4, k5, k6, k7⟩, k8, k9⟩ := hi.c
  have HK : Hid (r.a.kind = x.act.kind ∧ r.a.fid = x.act.fid ∧ r.a.dir = x.act.dir ∧ r.a.name = x.act.name ∧ r.a.to = x.act.to ∧ r.a.toName = x.act.toName ∧ Byts w0 r.a.dA r.a.dn x.act.data ∧ r.ver = x.ver ∧ r.id = x.id) := ⟨k1, k2, k3, k4, k5, k6, k7, k8, k9⟩
  clear k1 k2 k3 k4 k5 k6 k7 k8 k9 hi h
  go_enter Tryd.func17, Tryd.ntmps17
  go_wp2_with (fail)
  refine (putNum_any w0 _ r ls nm 8 x.id HP.out (by omega) (HP.out.env HI.out.env) (by rw [HP.out.bx.facts.2.2.2.2.2.2.2.2.1, HK.out.2.2.2.2.2.2.2.2]) HI.out.fit.1).mono ?_
  rintro e w1 ⟨rfl, hp1⟩
  have HP1 : Hid (PrW w0 w1 r (ls ++ [M.itB x.id]) nm) := hp1
  clear hp1 HP
  go_wp2_with (fail)
  refine (putNum_any w0 _ r (ls ++ [M.itB x.id]) nm 7 x.ver HP1.out (by simp; omega) (HP1.out.env HI.out.env) (by rw [HP1.out.bx.facts.2.2.2.2.2.2.2.1, HK.out.2.2.2.2.2.2.2.1]) HI.out.fit.2.1).mono ?_
  rintro e w2 ⟨rfl, hp2⟩
  have HP2 : Hid (PrW w0 w2 r ((ls ++ [M.itB x.id]) ++ [M.itB x.ver]) nm) := hp2
  clear hp2 HP1
  go_wp2_with (fail)
  refine (putNum_any w0 _ r (ls ++ [M.itB x.id] ++ [M.itB x.ver]) nm 1 x.act.fid HP2.out (by simp; omega) (HP2.out.env HI.out.env) (by rw [HP2.out.bx.facts.2.1, HK.out.2.1]) HI.out.fit.2.2.1).mono ?_
  rintro e w3 ⟨rfl, hp3⟩
  have HP3 : Hid (PrW w0 w3 r ((ls ++ [M.itB x.id] ++ [M.itB x.ver]) ++ [M.itB x.act.fid]) nm) := hp3
  clear hp3 HP2
  have hk0 : w3.cell? ⟨w0.heap.size, 0, none⟩ = some (.int .i64 x.act.kind) := by rw [HP3.out.bx.facts.1, HK.out.1]
  by_cases h3 : x.act.kind = 3
  · have H3 : Hid (x.act.kind = 3) := h3
    have hq : (x.act.kind == 3) = true := by rw [h3]; rfl
    clear h3
    go_wp2_with (fail)
    refine (putData_any w0 _ r (ls ++ [M.itB x.id] ++ [M.itB x.ver] ++ [M.itB x.act.fid]) nm 6 r.a.dA r.a.dn r.a.dc x.act.data HP3.out (by simp; omega) HP3.out.bx.facts.2.2.2.2.2.2.1 HK.out.2.2.2.2.2.2.1 HI.out.dt).mono ?_
    rintro e w4 ⟨rfl, hp4⟩
    have HP4 : Hid (PrW w0 w4 r ((ls ++ [M.itB x.id] ++ [M.itB x.ver] ++ [M.itB x.act.fid]) ++ [M.datB x.act.data]) nm) := hp4
    clear hp4 HP3 hk0
    go_wp2_with (fail)
    refine bodyPost_ret (results_none rfl _ _ _) rfl ?_
    have q := line3 H3.out ls nm
    have hp := HP4.out
    rw [q.1] at hp
    exact ⟨rfl, by rw [← q.2]; exact hp⟩
  · have H3 : Hid (x.act.kind ≠ 3) := h3
    have hq : (x.act.kind == 3) = false := by rw [beq_eq_false_iff_ne]; exact h3
    clear h3
    go_wp2_with (fail)
    refine (putNum_any w0 _ r (ls ++ [M.itB x.id] ++ [M.itB x.ver] ++ [M.itB x.act.fid]) nm 2 x.act.dir HP3.out (by simp; omega) (HP3.out.env HI.out.env) (by rw [HP3.out.bx.facts.2.2.1, HK.out.2.2.1]) HI.out.fit.2.2.2.1).mono ?_
    rintro e w4 ⟨rfl, hp4⟩
    have HP4 : Hid (PrW w0 w4 r ((ls ++ [M.itB x.id] ++ [M.itB x.ver] ++ [M.itB x.act.fid]) ++ [M.itB x.act.dir]) nm) := hp4
    clear hp4 HP3
    go_wp2_with (fail)
    refine (putName_any w0 _ r (ls ++ [M.itB x.id] ++ [M.itB x.ver] ++ [M.itB x.act.fid] ++ [M.itB x.act.dir]) nm 3 x.act.name HP4.out (by simp; omega) (by rw [HP4.out.bx.facts.2.2.2.1, HK.out.2.2.2.1]) HI.out.nm).mono ?_
    rintro e w5 ⟨rfl, hp5⟩
    have HP5 : Hid (PrW w0 w5 r ((ls ++ [M.itB x.id] ++ [M.itB x.ver] ++ [M.itB x.act.fid] ++ [M.itB x.act.dir]) ++ [x.act.name]) (nm && M.nameB x.act.name.data.toList)) := hp5
    clear hp5 HP4
    have hk5 : w5.cell? ⟨w0.heap.size, 0, none⟩ = some (.int .i64 x.act.kind) := by rw [HP5.out.bx.facts.1, HK.out.1]
    by_cases h5 : x.act.kind = 5
    · have H5 : Hid (x.act.kind = 5) := h5
      have hq5 : (x.act.kind == 5) = true := by rw [h5]; rfl
      clear h5
      go_wp2_with (fail)
      refine (putNum_any w0 _ r (ls ++ [M.itB x.id] ++ [M.itB x.ver] ++ [M.itB x.act.fid] ++ [M.itB x.act.dir] ++ [x.act.name]) (nm && M.nameB x.act.name.data.toList) 4 x.act.to HP5.out (by simp; omega) (HP5.out.env HI.out.env) (by rw [HP5.out.bx.facts.2.2.2.2.1, HK.out.2.2.2.2.1]) HI.out.fit.2.2.2.2).mono ?_
      rintro e w6 ⟨rfl, hp6⟩
      have HP6 : Hid (PrW w0 w6 r ((ls ++ [M.itB x.id] ++ [M.itB x.ver] ++ [M.itB x.act.fid] ++ [M.itB x.act.dir] ++ [x.act.name]) ++ [M.itB x.act.to]) (nm && M.nameB x.act.name.data.toList)) := hp6
      clear hp6 HP5
      go_wp2_with (fail)
      refine (putName_any w0 _ r (ls ++ [M.itB x.id] ++ [M.itB x.ver] ++ [M.itB x.act.fid] ++ [M.itB x.act.dir] ++ [x.act.name] ++ [M.itB x.act.to]) (nm && M.nameB x.act.name.data.toList) 5 x.act.toName HP6.out (by simp; omega) (by rw [HP6.out.bx.facts.2.2.2.2.2.1, HK.out.2.2.2.2.2.1]) HI.out.tn).mono ?_
      rintro e w7 ⟨rfl, hp7⟩
      have HP7 : Hid (PrW w0 w7 r ((ls ++ [M.itB x.id] ++ [M.itB x.ver] ++ [M.itB x.act.fid] ++ [M.itB x.act.dir] ++ [x.act.name] ++ [M.itB x.act.to]) ++ [x.act.toName]) ((nm && M.nameB x.act.name.data.toList) && M.nameB x.act.toName.data.toList)) := hp7
      clear hp7 HP6
      go_wp2_with (fail)
      go_end0
      have q := line5 H5.out ls nm
      have hp := HP7.out
      rw [q.1] at hp
      exact ⟨rfl, by rw [← q.2]; exact hp⟩
    · have H5 : Hid (x.act.kind ≠ 5) := h5
      have hq5 : (x.act.kind == 5) = false := by rw [beq_eq_false_iff_ne]; exact h5
      clear h5
      go_wp2_with (fail)
      go_end0
      have q := line1 H3.out H5.out ls nm
      have hp := HP5.out
      rw [q.1] at hp
      exact ⟨rfl, by rw [← q.2]; exact hp⟩
end Go.Proofs.YtckfodpkckmkbacDoor
