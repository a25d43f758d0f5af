/- TEXTS LAID TOGETHER: Math, Base, Search, Own, Copy, Mathb -/
import GoSem.Op.String
import Derived.Laws.Strings
import Derived.Test.YtjpdoblmdchmkadRows
import Derived.WalkKit
import Derived.WalkSpells
import Derived.WalkLawsBesides
import Derived.Deep.Draws
import Derived.Deep.QuietTactic
import Derived.BigQuiet
/-
  PLAIN MATHEMATICS of chapter 2: the order of texts, what a search by halves keeps, nodes, and what becomes of lists of them.
-/
namespace Go.Proofs.Ytjpdoblmdchmkad
namespace M

/-- an order by a test -/
structure Ordr {K : Type} (lt : K → K → Bool) : Prop where
  irr : ∀ a, lt a a = false
  tra : ∀ a b c, lt a b = true → lt b c = true → lt a c = true
  tri : ∀ a b, lt a b = false → lt b a = false → a = b

theorem bl_irr : ∀ x : List UInt8, Op.bytesLess x x = false
  | [] => rfl
  | a :: x => by simp [Op.bytesLess, bl_irr x, UInt8.lt_irrefl]
theorem bl_tra : ∀ x y z : List UInt8, Op.bytesLess x y = true → Op.bytesLess y z = true → Op.bytesLess x z = true
  | x, [], z, h, _ => by cases x <;> simp [Op.bytesLess] at h
  | x, b :: y, [], _, h => by simp [Op.bytesLess] at h
  | [], b :: y, c :: z, _, _ => rfl
  | a :: x, b :: y, c :: z, h1, h2 => by
    simp only [Op.bytesLess, Bool.or_eq_true, decide_eq_true_eq, Bool.and_eq_true, beq_iff_eq] at h1 h2 ⊢
    rcases h1 with h1 | ⟨rfl, h1⟩ <;> rcases h2 with h2 | ⟨rfl, h2⟩
    · exact .inl (UInt8.lt_trans h1 h2)
    · exact .inl h1
    · exact .inl h2
    · exact .inr ⟨rfl, bl_tra x y z h1 h2⟩
theorem bl_tri : ∀ x y : List UInt8, Op.bytesLess x y = false → Op.bytesLess y x = false → x = y
  | [], [], _, _ => rfl
  | [], b :: y, h, _ => by simp [Op.bytesLess] at h
  | a :: x, [], _, h => by simp [Op.bytesLess] at h
  | a :: x, b :: y, h1, h2 => by
    simp only [Op.bytesLess, Bool.or_eq_false_iff, decide_eq_false_iff_not, Bool.and_eq_false_iff, beq_eq_false_iff_ne] at h1 h2
    have e : a = b := by
      apply UInt8.toNat_inj.1
      have := h1.1; have := h2.1
      simp only [UInt8.lt_iff_toNat_lt] at *
      omega
    subst e
    rcases h1.2 with h | h
    · exact absurd rfl h
    · rcases h2.2 with h' | h'
      · exact absurd rfl h'
      · rw [bl_tri x y h h']

def ltB (a b : ByteArray) : Bool := Op.bytesLess a.toList b.toList
theorem toList_inj {a b : ByteArray} (h : a.toList = b.toList) : a = b := by
  rw [ByteArray.toList_eq, ByteArray.toList_eq] at h
  cases a; cases b
  exact congrArg ByteArray.mk (Array.toList_inj.1 h)
theorem ordB : Ordr ltB := ⟨fun _ => bl_irr _, fun _ _ _ => bl_tra _ _ _, fun _ _ h1 h2 => toList_inj (bl_tri _ _ h1 h2)⟩
def ltI (a b : Int) : Bool := decide (a < b)
theorem ordI : Ordr ltI := ⟨fun a => by simp [ltI], fun a b c => by simp [ltI]; omega, fun a b => by simp [ltI]; omega⟩

section
variable {K : Type} (lt : K → K → Bool)
/-- they rise -/
def Rs (l : List K) : Prop := l.Pairwise fun a b => lt a b = true
/-- what a search by halves keeps -/
def Mid (ks : List K) (t : K) (i j : Nat) : Prop :=
  i ≤ j ∧ j ≤ ks.length ∧ (Rs lt ks → (∀ k x, k < i → ks[k]? = some x → lt x t = true) ∧ (∀ k x, j ≤ k → ks[k]? = some x → lt x t = false))
theorem mid_start (ks : List K) (t : K) : Mid lt ks t 0 ks.length :=
  ⟨Nat.zero_le _, Nat.le_refl _, fun _ => ⟨fun k x h => absurd h (Nat.not_lt_zero _), fun k x h hx => by rw [List.getElem?_eq_none h] at hx; cases hx⟩⟩
variable {lt}
theorem rs_at {ks : List K} (h : Rs lt ks) {i j : Nat} {x y : K} (hij : i < j) (hx : ks[i]? = some x) (hy : ks[j]? = some y) : lt x y = true := by
  obtain ⟨hi, rfl⟩ := List.getElem?_eq_some_iff.1 hx
  obtain ⟨hj, rfl⟩ := List.getElem?_eq_some_iff.1 hy
  exact List.pairwise_iff_getElem.1 h i j hi hj hij
theorem mid_up (o : Ordr lt) {ks : List K} {t : K} {i j h : Nat} (m : Mid lt ks t i j) (hj : h < j) {x : K} (hx : ks[h]? = some x) (hlt : lt x t = true) : Mid lt ks t (h + 1) j := by
  refine ⟨hj, m.2.1, fun r => ⟨fun k y hk hy => ?_, (m.2.2 r).2⟩⟩
  rcases Nat.lt_or_ge k h with h1 | h1
  · exact o.tra _ _ _ (rs_at r h1 hy hx) hlt
  · obtain rfl : k = h := by omega
    rw [hx] at hy; cases hy; exact hlt
theorem mid_down (o : Ordr lt) {ks : List K} {t : K} {i j h : Nat} (m : Mid lt ks t i j) (hi : i ≤ h) (hj : h < j) {x : K} (hx : ks[h]? = some x) (hlt : lt x t = false) : Mid lt ks t i h := by
  refine ⟨hi, by have := m.2.1; omega, fun r => ⟨(m.2.2 r).1, fun k y hk hy => ?_⟩⟩
  rcases Nat.eq_or_lt_of_le hk with rfl | h1
  · rw [hx] at hy; cases hy; exact hlt
  · cases e : lt y t
    · rfl
    · rw [o.tra _ _ _ (rs_at r h1 hx hy) e] at hlt; cases hlt
end

/-- a node, as the document has it -/
structure Nd where
  fid : Int
  dir : Bool
  data : List UInt8
  ents : List (ByteArray × Int)
  ver : Int

/-- how two numbers, two texts compare -/
def cmpI (a b : Int) : Int := if a < b then -1 else if b < a then 1 else 0
def cmpB (a b : ByteArray) : Int := if ltB a b then -1 else if ltB b a then 1 else 0
theorem cmpI_lt {a b : Int} (h : ltI a b = true) : cmpI a b = -1 := by simp [ltI] at h; simp [cmpI, h]
theorem cmpI_ge {a b : Int} (h : ltI a b = false) : 0 ≤ cmpI a b := by simp [ltI] at h; unfold cmpI; rw [if_neg (by omega)]; split <;> omega
theorem cmpI_eq (a b : Int) : (cmpI a b == 0) = decide (a = b) := by
  unfold cmpI
  rcases Int.lt_trichotomy a b with h | h | h
  · rw [if_pos h]; simp; omega
  · subst h; simp
  · rw [if_neg (by omega), if_pos h]; simp; omega
theorem cmpB_lt {a b : ByteArray} (h : ltB a b = true) : cmpB a b = -1 := by simp [cmpB, h]
theorem cmpB_ge {a b : ByteArray} (h : ltB a b = false) : 0 ≤ cmpB a b := by unfold cmpB; rw [h]; simp; split <;> omega
theorem cmpB_eq (a b : ByteArray) : (cmpB a b == 0) = decide (a = b) := by
  unfold cmpB
  cases h1 : ltB a b
  · cases h2 : ltB b a
    · simp [ordB.tri a b h1 h2]
    · have : a ≠ b := by intro e; subst e; rw [ordB.irr] at h2; cases h2
      simp [this]
  · have : a ≠ b := by intro e; subst e; rw [ordB.irr] at h1; cases h1
    simp [this]
end M
end Go.Proofs.Ytjpdoblmdchmkad
/-
  NODES AND TREES IN MEMORY: what a value, a slice of entries, of bytes, of nodes holds.
-/
namespace Go.Proofs.Ytjpdoblmdchmkad
open Go.RowKit

theorem info58 : (Try.prog.info? 81).map (fun i => (i.zero, i.size, i.bytes)) = some (some (.agg #[.string ByteArray.empty, .int .i64 0]), 2, 24) := by kernel_rfl
theorem info26 : (Try.prog.info? 41).map (fun i => (i.zero, i.size, i.bytes)) = some (some (.agg #[.int .i64 0, .bool false, .slice none 0 0, .slice none 0 0, .int .i64 0]), 5, 72) := by kernel_rfl
theorem info5 : (Try.prog.info? 5).map (fun i => (i.zero, i.size, i.bytes)) = some (some (.int .u8 0), 1, 1) := by kernel_rfl

theorem ret_bool {a b : Bool} (h : a = b) : Ending.returned (.bool a) = .returned (.bool b) := by rw [h]
theorem ret_int {k : IntKind} {a b : Int} (h : a = b) : Ending.returned (.int k a) = .returned (.int k b) := by rw [h]

/-- a node's value -/
structure NV where
  fid : Int
  dir : Bool
  dA : Option Addr
  dn : Nat
  dc : Nat
  eA : Option Addr
  en : Nat
  ec : Nat
  ver : Int
def NV.cells (v : NV) : List Value := [.int .i64 v.fid, .bool v.dir, .slice v.dA v.dn v.dc, .slice v.eA v.en v.ec, .int .i64 v.ver]
@[reducible] def NV.val (v : NV) : Value := .agg #[.int .i64 v.fid, .bool v.dir, .slice v.dA v.dn v.dc, .slice v.eA v.en v.ec, .int .i64 v.ver]

/-- n elements of k cells each lie at A -/
def Row {α : Type} (k : Nat) (cs : α → List Value) (w : World) (A : Option Addr) (n : Nat) (vs : List α) : Prop :=
  n = vs.length ∧ (vs = [] ∨ ∃ b o, A = some ⟨b, o, none⟩ ∧ b < w.heap.size ∧ ∀ (j : Nat) v, vs[j]? = some v → ∀ (i : Nat) c, (cs v)[i]? = some c → w.cell? ⟨b, o + j * k + i, none⟩ = some c)
theorem Row.below {α : Type} {k : Nat} {cs : α → List Value} {B : Nat} {w w' : World} {A : Option Addr} {n : Nat} {vs : List α} (h : Row k cs w A n vs) (hB : w.heap.size ≤ B) (hb : Below B w w') : Row k cs w' A n vs := by
  obtain ⟨hn, h⟩ := h
  refine ⟨hn, h.imp id ?_⟩
  rintro ⟨b, o, e, hlt, hc⟩
  refine ⟨b, o, e, by have := hb.size; omega, fun j v hv i c hi => ?_⟩
  rw [hb.cell (p := ⟨b, o + j * k + i, none⟩) (by show b < B; omega)]
  exact hc j v hv i c hi
theorem Row.at {α : Type} {k : Nat} {cs : α → List Value} {w : World} {A : Option Addr} {n : Nat} {vs : List α} (h : Row k cs w A n vs) {j : Nat} (hj : j < n) :
    ∃ b o v, A = some ⟨b, o, none⟩ ∧ b < w.heap.size ∧ vs[j]? = some v ∧ ∀ (i : Nat) c, (cs v)[i]? = some c → w.cell? ⟨b, o + j * k + i, none⟩ = some c := by
  obtain ⟨hn, h⟩ := h
  rcases h with h | ⟨b, o, e, hlt, hc⟩
  · subst h; simp at hn; omega
  · have hx : vs[j]? = some vs[j] := List.getElem?_eq_getElem (by omega)
    exact ⟨b, o, _, e, hlt, hx, hc j _ hx⟩
abbrev Nodes := Row 5 NV.cells
theorem Nodes.at {w : World} {A : Option Addr} {n : Nat} {vs : List NV} (h : Nodes w A n vs) {j : Nat} (hj : j < n) :
    ∃ b o v, A = some ⟨b, o, none⟩ ∧ b < w.heap.size ∧ vs[j]? = some v ∧ w.cell? ⟨b, o + j * 5, none⟩ = some (.int .i64 v.fid) ∧ w.cell? ⟨b, o + j * 5 + 1, none⟩ = some (.bool v.dir) ∧
      w.cell? ⟨b, o + j * 5 + 2, none⟩ = some (.slice v.dA v.dn v.dc) ∧ w.cell? ⟨b, o + j * 5 + 3, none⟩ = some (.slice v.eA v.en v.ec) ∧ w.cell? ⟨b, o + j * 5 + 4, none⟩ = some (.int .i64 v.ver) := by
  obtain ⟨b, o, v, e, hlt, hv, hc⟩ := Row.at h hj
  exact ⟨b, o, v, e, hlt, hv, hc 0 _ rfl, hc 1 _ rfl, hc 2 _ rfl, hc 3 _ rfl, hc 4 _ rfl⟩

/-- an entry's value and cells; a byte's; a text's -/
def entCells (x : ByteArray × Int) : List Value := [.string x.1, .int .i64 x.2]
def byteCells1 (x : UInt8) : List Value := [.int .u8 (x.toNat : Int)]
def strCells (x : ByteArray) : List Value := [.string x]
abbrev Ents := Row 2 entCells
abbrev Byts := Row 1 byteCells1
abbrev Strs := Row 1 strCells
theorem Ents.at {w : World} {A : Option Addr} {n : Nat} {vs : List (ByteArray × Int)} (h : Ents w A n vs) {j : Nat} (hj : j < n) :
    ∃ b o v, A = some ⟨b, o, none⟩ ∧ b < w.heap.size ∧ vs[j]? = some v ∧ w.cell? ⟨b, o + j * 2, none⟩ = some (.string v.1) ∧ w.cell? ⟨b, o + j * 2 + 1, none⟩ = some (.int .i64 v.2) := by
  obtain ⟨b, o, v, e, hlt, hv, hc⟩ := Row.at h hj
  exact ⟨b, o, v, e, hlt, hv, hc 0 _ rfl, hc 1 _ rfl⟩

theorem cmpI_any (a b : Int) (w : World) : Calls Try.prog 54 #[.int .i64 a, .int .i64 b] w fun e w' => e = .returned (.int .i64 (M.cmpI a b)) ∧ w' = w := by
  rcases Int.lt_trichotomy a b with h | h | h
  · go_enter Try.func54, Try.ntmps54
    go_wp2_with (go_in)
    go_ret
    exact ⟨ret_int (by unfold M.cmpI; rw [if_pos h]), rfl⟩
  · subst h
    go_enter Try.func54, Try.ntmps54
    go_wp2_with (go_in)
    go_ret
    exact ⟨ret_int (by unfold M.cmpI; simp), rfl⟩
  · have h' : ¬ a < b := by omega
    go_enter Try.func54, Try.ntmps54
    go_wp2_with (go_in)
    go_ret
    exact ⟨ret_int (by unfold M.cmpI; rw [if_neg (by omega), if_pos h]), rfl⟩

theorem place1_any (v : NV) (t : Int) (w : World) : Calls Try.prog 114 #[v.val, .int .i64 t] w fun e w' => e = .returned (.int .i64 (M.cmpI v.fid t)) ∧ Below w.heap.size w w' := by
  go_enter Try.func114, Try.ntmps114
  go_wp2_with (go_at_call 54; refine (cmpI_any _ _ _).mono ?_; rintro e w1 ⟨rfl, hw⟩; rw [hw]; clear hw)
  go_ret
  exact ⟨rfl, (Below.refl _ _).alloc (Nat.le_refl _) _⟩

theorem raw_yes (x : ByteArray) : (x.toList == x.toList) = true := beq_self_eq_true _
theorem raw_no {x y : ByteArray} (h : x ≠ y) : (x.toList == y.toList) = false := by
  rw [beq_eq_false_iff_ne]
  exact fun e => h (M.toList_inj e)
theorem raw_eq (x y : ByteArray) : (x.toList == y.toList) = decide (x = y) := by
  by_cases h : x = y
  · subst h; simp
  · rw [raw_no h]; simp [h]

theorem cmpB_any (a b : ByteArray) (w : World) : Calls Try.prog 111 #[.string a, .string b] w fun e w' => e = .returned (.int .i64 (M.cmpB a b)) ∧ w' = w := by
  have qa := raw_yes a
  have qb := raw_yes b
  cases h : M.ltB a b
  · by_cases e : a = b
    · subst e
      have h1 : Op.bytesLess a.toList a.toList = false := h
      have HC : Hid (M.cmpB a a = 0) := by show _ = _; unfold M.cmpB; rw [M.ordB.irr]; rfl
      clear h
      go_enter Try.func111, Try.ntmps111
      go_wp2_with (go_in)
      go_ret
      exact ⟨ret_int HC.out.symm, rfl⟩
    · have h1 : Op.bytesLess a.toList b.toList = false := h
      have q := raw_no e
      have HC : Hid (M.cmpB a b = 1) := by
        show M.cmpB a b = 1
        unfold M.cmpB
        rw [h]
        cases h2 : M.ltB b a
        · exact absurd (M.ordB.tri a b h h2) e
        · rfl
      clear h e
      go_enter Try.func111, Try.ntmps111
      go_wp2_with (go_in)
      go_ret
      exact ⟨ret_int HC.out.symm, rfl⟩
  · have h1 : Op.bytesLess a.toList b.toList = true := h
    have HC : Hid (M.cmpB a b = -1) := M.cmpB_lt h
    clear h
    go_enter Try.func111, Try.ntmps111
    go_wp2_with (go_in)
    go_ret
    exact ⟨ret_int HC.out.symm, rfl⟩

theorem spot1_any (v : ByteArray × Int) (t : ByteArray) (w : World) : Calls Try.prog 110 #[.agg #[.string v.1, .int .i64 v.2], .string t] w fun e w' => e = .returned (.int .i64 (M.cmpB v.1 t)) ∧ Below w.heap.size w w' := by
  go_enter Try.func110, Try.ntmps110
  go_wp2_with (go_at_call 111; refine (cmpB_any _ _ _).mono ?_; rintro e w1 ⟨rfl, hw⟩; rw [hw]; clear hw)
  go_ret
  exact ⟨rfl, (Below.refl _ _).alloc (Nat.le_refl _) _⟩
end Go.Proofs.Ytjpdoblmdchmkad
/-
  THE SEARCH BY HALVES: place and spot tell where a fid, a name stands, or would stand.
-/
namespace Go.Proofs.Ytjpdoblmdchmkad
open Go.RowKit

theorem cell_lt {w : World} {a : Addr} {v : Value} (h : w.cell? a = some v) : a.block < w.heap.size := World.block_lt_of_cell? w _ h

set_option maxHeartbeats 400000 in
theorem searchI_any (A : Option Addr) (n c : Nat) (vs : List NV) (t : Int) (w : World) (hv : Nodes w A n vs) (hn : n ≤ 4611686018427387904) :
    Calls Try.prog 113 #[.slice A n c, .int .i64 t, .func (.func 114) #[] #[]] w fun e w' => ∃ (i : Nat) (b : Bool), e = .returned (.tuple #[.int .i64 i, .bool b]) ∧ i ≤ n ∧ b = decide ((vs.map (·.fid))[i]? = some t) ∧ M.Mid M.ltI (vs.map (·.fid)) t i i ∧ Below w.heap.size w w' := by
  go_enter Try.func113, Try.ntmps113
  go_wp2
  go_loopw [9, 10] (fun i j wr => ∃ a b : Nat, i = .int .i64 a ∧ j = .int .i64 b ∧ M.Mid M.ltI (vs.map (·.fid)) t a b ∧ Below w.heap.size w wr) (fun i j _ => (intOf j).toNat - (intOf i).toNat)
  case atStart => exact ⟨0, n, rfl, rfl, by rw [hv.1, ← List.length_map (f := fun v : NV => v.fid)]; exact M.mid_start _ _ _, Below.refl _ _⟩
  case round =>
    obtain ⟨a, b, rfl, rfl, hm, hb⟩ := hrel
    have hvr : Nodes wr A n vs := hv.below (Nat.le_refl _) hb
    have hab := hm.1
    have hbn : b ≤ n := by have := hm.2.1; rw [List.length_map] at this; rw [hv.1]; exact this
    have HM : Hid (M.Mid M.ltI (vs.map (·.fid)) t a b) := hm
    clear hm
    have hbz := hb.size
    by_cases hlt : a < b
    · obtain ⟨g, o, v, rfl, hgl, hvk, c0, c1, c2, c3, c4⟩ := hvr.at (j := (a + b) / 2) (by omega)
      have HK : Hid ((vs.map (·.fid))[(a + b) / 2]? = some v.fid) := by show _ = _; rw [List.getElem?_map, hvk]; rfl
      have HH : Hid (a ≤ (a + b) / 2 ∧ (a + b) / 2 < b) := by show _ ∧ _; omega
      clear hvk
      cases hl : M.ltI v.fid t
      · have hc := M.cmpI_ge hl
        have HL : Hid (M.ltI v.fid t = false) := hl
        clear hl
        go_wp2_with (go_at_call 114; refine (place1_any v t _).mono ?_; rintro e w1 ⟨rfl, hb1⟩)
        go_roundw
        case rel => exact ⟨a, (a + b) / 2, rfl, by go_num, M.mid_down M.ordI HM.out HH.out.1 HH.out.2 HK.out HL.out, hb.trans (hb1.mono hbz)⟩
        case measure => simp [intOf]; omega
      · have hc := M.cmpI_lt hl
        have HL : Hid (M.ltI v.fid t = true) := hl
        clear hl
        go_wp2_with (go_at_call 114; refine (place1_any v t _).mono ?_; rintro e w1 ⟨rfl, hb1⟩; rw [hc])
        go_roundw
        case rel => exact ⟨(a + b) / 2 + 1, b, by go_num, rfl, M.mid_up M.ordI HM.out HH.out.2 HK.out HL.out, hb.trans (hb1.mono hbz)⟩
        case measure => simp [intOf]; omega
    · obtain rfl : a = b := by omega
      by_cases han : a < n
      · obtain ⟨g, o, v, rfl, hgl, hvk, c0, c1, c2, c3, c4⟩ := hvr.at (j := a) han
        have HK : Hid ((vs.map (·.fid))[a]? = some v.fid) := by show _ = _; rw [List.getElem?_map, hvk]; rfl
        clear hvk
        go_wp2_with (go_at_call 114; refine (place1_any v t _).mono ?_; rintro e w1 ⟨rfl, hb1⟩)
        go_ret2
        exact ⟨a, _, rfl, by omega, by rw [HK.out, M.cmpI_eq]; simp, HM.out, hb.trans (hb1.mono hbz)⟩
      · have HN : Hid (vs.length ≤ a) := by show _ ≤ _; have := hv.1; omega
        go_wp2
        go_ret2
        exact ⟨a, _, rfl, by omega, by rw [List.getElem?_eq_none (by rw [List.length_map]; exact HN.out)]; simp, HM.out, hb⟩

theorem place_any (A : Option Addr) (n c : Nat) (vs : List NV) (t : Int) (w : World) (hv : Nodes w A n vs) (hn : n ≤ 4611686018427387904) :
    Calls Try.prog 98 #[.slice A n c, .int .i64 t] w fun e w' => ∃ (i : Nat) (b : Bool), e = .returned (.tuple #[.int .i64 i, .bool b]) ∧ i ≤ n ∧ b = decide ((vs.map (·.fid))[i]? = some t) ∧ M.Mid M.ltI (vs.map (·.fid)) t i i ∧ Below w.heap.size w w' := by
  go_enter Try.func98, Try.ntmps98
  go_wp2_with (go_at_call 113; refine (searchI_any A n c vs t _ hv hn).mono ?_; rintro e w1 ⟨i, b, rfl, h1, h2, h3, h4⟩; have H2 : Hid (b = _) := h2; clear h2)
  go_ret2
  exact ⟨i, b, rfl, h1, H2.out, h3, h4⟩

set_option maxHeartbeats 400000 in
theorem searchB_any (A : Option Addr) (n c : Nat) (vs : List (ByteArray × Int)) (t : ByteArray) (w : World) (hv : Ents w A n vs) (hn : n ≤ 4611686018427387904) :
    Calls Try.prog 109 #[.slice A n c, .string t, .func (.func 110) #[] #[]] w fun e w' => ∃ (i : Nat) (b : Bool), e = .returned (.tuple #[.int .i64 i, .bool b]) ∧ i ≤ n ∧ b = decide ((vs.map (·.1))[i]? = some t) ∧ M.Mid M.ltB (vs.map (·.1)) t i i ∧ Below w.heap.size w w' := by
  go_enter Try.func109, Try.ntmps109
  go_wp2
  go_loopw [9, 10] (fun i j wr => ∃ a b : Nat, i = .int .i64 a ∧ j = .int .i64 b ∧ M.Mid M.ltB (vs.map (·.1)) t a b ∧ Below w.heap.size w wr) (fun i j _ => (intOf j).toNat - (intOf i).toNat)
  case atStart => exact ⟨0, n, rfl, rfl, by rw [hv.1, ← List.length_map (f := fun v : (ByteArray × Int) => v.1)]; exact M.mid_start _ _ _, Below.refl _ _⟩
  case round =>
    obtain ⟨a, b, rfl, rfl, hm, hb⟩ := hrel
    have hvr : Ents wr A n vs := hv.below (Nat.le_refl _) hb
    have hab := hm.1
    have hbn : b ≤ n := by have := hm.2.1; rw [List.length_map] at this; rw [hv.1]; exact this
    have HM : Hid (M.Mid M.ltB (vs.map (·.1)) t a b) := hm
    clear hm
    have hbz := hb.size
    by_cases hlt : a < b
    · obtain ⟨g, o, v, rfl, hgl, hvk, c0, c1⟩ := hvr.at (j := (a + b) / 2) (by omega)
      have HK : Hid ((vs.map (·.1))[(a + b) / 2]? = some v.1) := by show _ = _; rw [List.getElem?_map, hvk]; rfl
      have HH : Hid (a ≤ (a + b) / 2 ∧ (a + b) / 2 < b) := by show _ ∧ _; omega
      clear hvk
      cases hl : M.ltB v.1 t
      · have hc := M.cmpB_ge hl
        have HL : Hid (M.ltB v.1 t = false) := hl
        clear hl
        go_wp2_with (go_at_call 110; refine (spot1_any v t _).mono ?_; rintro e w1 ⟨rfl, hb1⟩)
        go_roundw
        case rel => exact ⟨a, (a + b) / 2, rfl, by go_num, M.mid_down M.ordB HM.out HH.out.1 HH.out.2 HK.out HL.out, hb.trans (hb1.mono hbz)⟩
        case measure => simp [intOf]; omega
      · have hc := M.cmpB_lt hl
        have HL : Hid (M.ltB v.1 t = true) := hl
        clear hl
        go_wp2_with (go_at_call 110; refine (spot1_any v t _).mono ?_; rintro e w1 ⟨rfl, hb1⟩; rw [hc])
        go_roundw
        case rel => exact ⟨(a + b) / 2 + 1, b, by go_num, rfl, M.mid_up M.ordB HM.out HH.out.2 HK.out HL.out, hb.trans (hb1.mono hbz)⟩
        case measure => simp [intOf]; omega
    · obtain rfl : a = b := by omega
      by_cases han : a < n
      · obtain ⟨g, o, v, rfl, hgl, hvk, c0, c1⟩ := hvr.at (j := a) han
        have HK : Hid ((vs.map (·.1))[a]? = some v.1) := by show _ = _; rw [List.getElem?_map, hvk]; rfl
        clear hvk
        go_wp2_with (go_at_call 110; refine (spot1_any v t _).mono ?_; rintro e w1 ⟨rfl, hb1⟩)
        go_ret2
        exact ⟨a, _, rfl, by omega, by rw [HK.out, M.cmpB_eq]; simp, HM.out, hb.trans (hb1.mono hbz)⟩
      · have HN : Hid (vs.length ≤ a) := by show _ ≤ _; have := hv.1; omega
        go_wp2
        go_ret2
        exact ⟨a, _, rfl, by omega, by rw [List.getElem?_eq_none (by rw [List.length_map]; exact HN.out)]; simp, HM.out, hb⟩

theorem spot_any (A : Option Addr) (n c : Nat) (vs : List (ByteArray × Int)) (t : ByteArray) (w : World) (hv : Ents w A n vs) (hn : n ≤ 4611686018427387904) :
    Calls Try.prog 96 #[.slice A n c, .string t] w fun e w' => ∃ (i : Nat) (b : Bool), e = .returned (.tuple #[.int .i64 i, .bool b]) ∧ i ≤ n ∧ b = decide ((vs.map (·.1))[i]? = some t) ∧ M.Mid M.ltB (vs.map (·.1)) t i i ∧ Below w.heap.size w w' := by
  go_enter Try.func96, Try.ntmps96
  go_wp2_with (go_at_call 109; refine (searchB_any A n c vs t _ hv hn).mono ?_; rintro e w1 ⟨i, b, rfl, h1, h2, h3, h4⟩; have H2 : Hid (b = _) := h2; clear h2)
  go_ret2
  exact ⟨i, b, rfl, h1, H2.out, h3, h4⟩
end Go.Proofs.Ytjpdoblmdchmkad
/-
  MEMORY OF ONE'S OWN: rows of elements of several cells; append from any row; what a node of one's own is.
-/
namespace Go.Proofs.Ytjpdoblmdchmkad
open Go.RowKit

section
variable {α : Type} {cs : α → List Value} {k : Nat}
theorem fm_len (hk : ∀ v, (cs v).length = k) : ∀ vs : List α, (vs.flatMap cs).length = vs.length * k
  | [] => by simp
  | v :: vs => by rw [List.flatMap_cons, List.length_append, hk, fm_len hk vs, List.length_cons, Nat.add_mul]; omega
theorem fm_get (hk : ∀ v, (cs v).length = k) : ∀ (vs : List α) (j i : Nat) (v : α), vs[j]? = some v → i < k → (vs.flatMap cs)[j * k + i]? = (cs v)[i]?
  | [], j, i, v, h, _ => by cases h
  | u :: vs, 0, i, v, h, hi => by
    cases h
    rw [List.flatMap_cons, List.getElem?_append_left (by rw [hk]; omega), Nat.zero_mul, Nat.zero_add]
  | u :: vs, j + 1, i, v, h, hi => by
    rw [List.flatMap_cons, List.getElem?_append_right (by rw [hk, Nat.add_mul]; omega), hk, ← fm_get hk vs j i v h hi]
    congr 1
    rw [Nat.add_mul]; omega
theorem fm_inv (hk : ∀ v, (cs v).length = k) (vs : List α) (j : Nat) (u : Value) (h : (vs.flatMap cs)[j]? = some u) : ∃ v, vs[j / k]? = some v ∧ (cs v)[j % k]? = some u := by
  have hj : j < (vs.flatMap cs).length := by
    rcases Nat.lt_or_ge j (vs.flatMap cs).length with h1 | h1
    · exact h1
    · rw [List.getElem?_eq_none h1] at h; cases h
  rw [fm_len hk] at hj
  have hk0 : 0 < k := by
    rcases Nat.eq_zero_or_pos k with e | e
    · subst e; simp at hj
    · exact e
  have hq : j / k < vs.length := Nat.div_lt_of_lt_mul (by rw [Nat.mul_comm]; exact hj)
  have hv : vs[j / k]? = some vs[j / k] := List.getElem?_eq_getElem hq
  refine ⟨_, hv, ?_⟩
  rw [← fm_get hk vs (j / k) (j % k) _ hv (Nat.mod_lt _ hk0), Nat.div_add_mod' j k]
  exact h
theorem fm_set (hk : ∀ v, (cs v).length = k) : ∀ (vs : List α) (j : Nat) (v : α), j < vs.length → (vs.set j v).flatMap cs = (vs.flatMap cs).take (j * k) ++ (cs v ++ (vs.flatMap cs).drop (j * k + k))
  | [], j, v, h => by simp at h
  | u :: vs, 0, v, _ => by
    rw [List.set_cons_zero, List.flatMap_cons, List.flatMap_cons, Nat.zero_mul, Nat.zero_add, List.take_zero, List.nil_append, ← hk u, List.drop_left]
  | u :: vs, j + 1, v, h => by
    rw [List.set_cons_succ, List.flatMap_cons, List.flatMap_cons, fm_set hk vs j v (by simpa using h)]
    have e1 : (j + 1) * k = (cs u).length + j * k := by rw [hk, Nat.add_mul]; omega
    rw [e1, List.take_length_add_append, Nat.add_assoc, List.drop_length_add_append, List.append_assoc]

theorem own_form {w : World} {B : Nat} {e : TypeId} {v : Value} {n : Nat} {xs : List Value} (h : w.ownsRow B e k v n xs) : ∃ A c, v = .slice A n c ∧ n ≤ c ∧ c ≤ maxLen := by
  rcases h.2 with ⟨rfl, rfl⟩ | ⟨g, cap, cur, rfl, _, _, h1, h2, _⟩
  · exact ⟨none, 0, rfl, Nat.le_refl _, by decide⟩
  · exact ⟨_, _, rfl, h1, h2⟩
theorem own_len {w : World} {B : Nat} {e : TypeId} {v : Value} {n : Nat} {vs : List α} (hk : ∀ v, (cs v).length = k) (k0 : 0 < k) (h : w.ownsRow B e k v n (vs.flatMap cs)) : n = vs.length := by
  have := h.1
  rw [fm_len hk] at this
  exact (Nat.eq_of_mul_eq_mul_right k0 this).symm
theorem Row.ofOwn {w : World} {B : Nat} {e : TypeId} {A : Option Addr} {n c : Nat} {vs : List α} (hk : ∀ v, (cs v).length = k) (k0 : 0 < k) (h : w.ownsRow B e k (.slice A n c) n (vs.flatMap cs)) : Row k cs w A n vs := by
  refine ⟨own_len hk k0 h, ?_⟩
  rcases h.2 with ⟨h', rfl⟩ | ⟨g, cap, cur, h', hb, hg, hnc, hcm, hcs, htake⟩
  · left
    have := own_len hk k0 h
    exact List.eq_nil_of_length_eq_zero this.symm
  · right
    simp only [Value.slice.injEq, true_and] at h'
    obtain ⟨rfl, rfl⟩ := h'
    refine ⟨g, 0, rfl, (h.lt g rfl).2, fun j v hv i u hu => ?_⟩
    have hi : i < k := by
      rcases Nat.lt_or_ge i (cs v).length with h1 | h1
      · rwa [hk] at h1
      · rw [List.getElem?_eq_none h1] at hu; cases hu
    have hj : j < n := by
      rw [own_len hk k0 h]
      rcases Nat.lt_or_ge j vs.length with h1 | h1
      · exact h1
      · rw [List.getElem?_eq_none h1] at hv; cases hv
    rw [Nat.zero_add, h.cellAt (j * k + i) (by have : (j + 1) * k ≤ n * k := Nat.mul_le_mul_right _ hj; rw [Nat.add_mul] at this; omega), fm_get hk vs j i v hv hi]
    exact hu
theorem own_apart {w : World} {B B' : Nat} {e e' : TypeId} {k k' : Nat} {v v' : Value} {n n' : Nat} {xs xs' : List Value} (h : w.ownsRow B e k v n xs) (h' : w.ownsRow B' e' k' v' n' xs') (hne : e ≠ e') : v.ownBlock = none ∨ v.ownBlock ≠ v'.ownBlock := by
  rcases h.2 with ⟨rfl, _⟩ | ⟨g, cap, cur, rfl, _, hg, _⟩
  · exact .inl rfl
  · right
    rcases h'.2 with ⟨rfl, _⟩ | ⟨g', cap', cur', rfl, _, hg', _⟩
    · simp [Value.ownBlock]
    · simp only [Value.ownBlock, ne_eq, Option.some.injEq]
      rintro rfl
      rw [hg] at hg'
      simp at hg'
      exact hne hg'.2
theorem own_mono {w : World} {B B' : Nat} {e : TypeId} {v : Value} {n : Nat} {xs : List Value} (h : w.ownsRow B e k v n xs) (hB : B' ≤ B) : w.ownsRow B' e k v n xs := by
  refine ⟨h.1, h.2.imp id ?_⟩
  rintro ⟨g, cap, cur, e1, h1, r⟩
  exact ⟨g, cap, cur, e1, by omega, r⟩
theorem own_below {w w' : World} {B C : Nat} {e : TypeId} {v : Value} {n : Nat} {xs : List Value} (h : w.ownsRow B e k v n xs) (hb : Below C w w') (hC : w.heap.size ≤ C) : w'.ownsRow B e k v n xs := by
  refine ⟨h.1, ?_⟩
  rcases h.2 with h2 | ⟨g, cap, cur, e1, h1, hg, r⟩
  · exact .inl h2
  · exact .inr ⟨g, cap, cur, e1, h1, by rw [hb.block g (by have := lt_of_block hg; omega)]; exact hg, r⟩

/-- append onto a row of one's own, of whatever a row holds -/
theorem run_append_row {P : Program} (w : World) (B : Nat) (t ty e : TypeId) (i : TypeInfo) (z : Value) (bytes : Nat) (ht : P.underlying t = some (.slice e)) (hi : P.info? e = some i) (hz : i.zero = some z)
    (hsize : i.size = k) (hby : i.bytes = bytes) (hzs : z.cells.size = k) (hsz : 0 < k) (v : Value) (n : Nat) (xs : List Value) (hown : w.ownsRow B e k v n xs)
    (A : Option Addr) (m c : Nat) (vs : List α) (hrow : Row k cs w A m vs) (hk : ∀ v, (cs v).length = k) (h1 : ∀ v, ∀ u ∈ cs v, u.oneCell' = true)
    (h63 : n + m ≤ maxLen) (hbytes : (n + m) * bytes ≤ 140737488355328) (hbase : B ≤ w.heap.size) :
    ∃ v' w', (Builtin.append_ #[t, t] ty #[v, .slice A m c]).run P w = .ok v' w' ∧ w'.ownsRow B e k v' (n + m) (xs ++ vs.flatMap cs) ∧ w.grownBy w' v.ownBlock := by
  cases A with
  | none =>
    have hm : m = 0 := by
      rcases hrow.2 with h | ⟨b, o, h, _⟩
      · rw [hrow.1, h]; rfl
      · cases h
    have hvs : vs = [] := List.eq_nil_of_length_eq_zero (by rw [← hrow.1]; exact hm)
    subst hm hvs
    refine ⟨v, w, ?_, by simpa using hown, World.grownBy.refl _ _⟩
    rcases hown.2 with ⟨rfl, rfl⟩ | ⟨g, cap, cur, rfl, _, _, hnc, _⟩
    · simp [Builtin.append_, run_underlying ht, sizeOf, typeInfo, hi, Builtin.lenOf, Builtin.firstCells]
    · simp [Builtin.append_, run_underlying ht, sizeOf, typeInfo, hi, Builtin.lenOf, Builtin.firstCells, hnc, storeCells]
  | some a =>
    have hl : (vs.flatMap cs).length = m * k := by rw [fm_len hk, hrow.1]
    have hone : ∀ u ∈ vs.flatMap cs, u.oneCell' = true := by
      intro u hu
      obtain ⟨v, _, hv⟩ := List.mem_flatMap.1 hu
      exact h1 v u hv
    have hcell : ∀ j u, (vs.flatMap cs)[j]? = some u → w.cell? (a.add j) = some u := by
      intro j u hu
      rcases hrow.2 with h | ⟨b, o, h, hb, hc⟩
      · subst h; cases hu
      · cases h
        obtain ⟨v, hv, hv2⟩ := fm_inv hk vs j u hu
        have := hc _ v hv _ u hv2
        rw [Nat.add_assoc, Nat.div_add_mod'] at this
        rw [show (⟨b, o, none⟩ : Addr).add j = ⟨b, o + j, none⟩ from by simp [Addr.add]]; exact this
    obtain ⟨v', w', hr, h2, h3, _⟩ := run_append_own (P := P) w B t ty e i z k bytes ht hi hz hsize hby hzs hsz v n xs hown a m c _ hl hcell hone h63 hbytes hbase
    exact ⟨v', w', hr, h2, h3⟩

theorem wpList_append_row {P : Program} (w : World) {ops : Array Oper} {rest : List Oper} {o : Oper} {a : Act} {Q : Exit → Act → World → Prop} (hgd : o.guard = none) (s x : Operand) (t : TypeId)
    (ho : o.op = .call { callee := .builtin .append, args := #[s, x], argTypes := #[t, t] })
    (B : Nat) (e : TypeId) (i : TypeInfo) (z : Value) (bytes : Nat) (ht : P.underlying t = some (.slice e)) (hi : P.info? e = some i) (hz : i.zero = some z)
    (hsize : i.size = k) (hby : i.bytes = bytes) (hzs : z.cells.size = k) (hsz : 0 < k) (v : Value) (n : Nat) (xs : List Value) (hs : a.eval s = v) (hown : w.ownsRow B e k v n xs)
    (A : Option Addr) (m c : Nat) (vs : List α) (hx : a.eval x = .slice A m c) (hrow : Row k cs w A m vs) (hk : ∀ v, (cs v).length = k) (h1 : ∀ v, ∀ u ∈ cs v, u.oneCell' = true)
    (h63 : n + m ≤ maxLen) (hbytes : (n + m) * bytes ≤ 140737488355328) (hbase : B ≤ w.heap.size)
    (h : ∀ v' w', w'.ownsRow B e k v' (n + m) (xs ++ vs.flatMap cs) → w.grownBy w' v.ownBlock → wpList P ops Q rest (a.put o.dst v') w') : wpList P ops Q (o :: rest) a w := by
  obtain ⟨v', w', hr, h2, h3⟩ := run_append_row (P := P) w B t o.type e i z bytes ht hi hz hsize hby hzs hsz v n xs hown A m c vs hrow hk h1 h63 hbytes hbase
  refine wpList_plain hgd fun K hK => ?_
  unfold Oper.wp execOp
  simp only [ho, resolve, invoke, builtin, Sem.run_bind, Sem.run_pure, Result.andThen_ok, List.map_toArray, List.map_cons, List.map_nil, hs, hx, hr]
  exact hK _ _ (h v' w' h2 h3)
end

theorem grown_below {w w' : World} (hg : w.grownBy w' none) : Below w.heap.size w w' := ⟨hg.os, hg.tape, hg.output, hg.size, fun k hk => hg.block k hk (by simp)⟩
theorem bcell {W w1 : World} (hb : Below W.heap.size W w1) : (∀ b o, b < W.heap.size → w1.cell? ⟨b, o, none⟩ = W.cell? ⟨b, o, none⟩) ∧ (∀ b o, b < W.heap.size → w1.frozen? ⟨b, o, none⟩ = W.frozen? ⟨b, o, none⟩) :=
  ⟨fun b o h => hb.cell (p := ⟨b, o, none⟩) h, fun b o h => hb.frozen (p := ⟨b, o, none⟩) h⟩
theorem ent_len (x : ByteArray × Int) : (entCells x).length = 2 := rfl
theorem byt_len (x : UInt8) : (byteCells1 x).length = 1 := rfl
theorem nod_len (x : NV) : x.cells.length = 5 := rfl
theorem str_len (x : ByteArray) : (strCells x).length = 1 := rfl
theorem ent_one (x : ByteArray × Int) : ∀ u ∈ entCells x, u.oneCell' = true := by intro u hu; simp [entCells] at hu; rcases hu with rfl | rfl <;> rfl
theorem byt_one (x : UInt8) : ∀ u ∈ byteCells1 x, u.oneCell' = true := by intro u hu; simp [byteCells1] at hu; subst hu; rfl
theorem nod_one (x : NV) : ∀ u ∈ x.cells, u.oneCell' = true := by intro u hu; simp [NV.cells] at hu; rcases hu with rfl | rfl | rfl | rfl | rfl <;> rfl
theorem str_one (x : ByteArray) : ∀ u ∈ strCells x, u.oneCell' = true := by intro u hu; simp [strCells] at hu; subst hu; rfl

def NV.zero : NV := ⟨0, false, none, 0, 0, none, 0, 0, 0⟩
/-- a node in a block of its own -/
def Box (w : World) (s : Nat) (v : NV) : Prop := w.heap[s]? = some (.cells #[.int .i64 v.fid, .bool v.dir, .slice v.dA v.dn v.dc, .slice v.eA v.en v.ec, .int .i64 v.ver] 41 (0, 0))
theorem Box.facts {w : World} {s : Nat} {v : NV} (h : Box w s v) : w.cell? ⟨s, 0, none⟩ = some (.int .i64 v.fid) ∧ w.cell? ⟨s, 1, none⟩ = some (.bool v.dir) ∧ w.cell? ⟨s, 2, none⟩ = some (.slice v.dA v.dn v.dc) ∧
    w.cell? ⟨s, 3, none⟩ = some (.slice v.eA v.en v.ec) ∧ w.cell? ⟨s, 4, none⟩ = some (.int .i64 v.ver) ∧ (∀ o, w.frozen? ⟨s, o, none⟩ = false) ∧ s < w.heap.size := by
  unfold Box at h
  refine ⟨by simp [World.cell?, h], by simp [World.cell?, h], by simp [World.cell?, h], by simp [World.cell?, h], by simp [World.cell?, h], fun o => by simp [World.frozen?, h], lt_of_block h⟩
theorem Box.below {w w' : World} {s B : Nat} {v : NV} (h : Box w s v) (hb : Below B w w') (hs : s < B) : Box w' s v := by
  unfold Box; rw [hb.block s hs]; exact h
theorem Box.alloc {w : World} {s : Nat} {v : NV} (h : Box w s v) (o : Obj) : Box (w.alloc o) s v := by
  unfold Box; rw [Below.heap_alloc _ _ _ (lt_of_block h)]; exact h
theorem Box.new (w : World) (v : NV) : Box (w.alloc (.cells #[.int .i64 v.fid, .bool v.dir, .slice v.dA v.dn v.dc, .slice v.eA v.en v.ec, .int .i64 v.ver] 41)) w.heap.size v := heap_alloc_new w _
theorem Box.new0 (w : World) : Box (w.alloc (.cells #[.int .i64 0, .bool false, .slice none 0 0, .slice none 0 0, .int .i64 0] 41)) w.heap.size NV.zero := heap_alloc_new w _
theorem Box.set2 {w : World} {s : Nat} {v : NV} (h : Box w s v) (A : Option Addr) (n c : Nat) : Box (w.setCell ⟨s, 2, none⟩ (.slice A n c)) s ⟨v.fid, v.dir, A, n, c, v.eA, v.en, v.ec, v.ver⟩ := by
  unfold Box at h ⊢; rw [heap_setCell_same w s 2 _ 41 _ h]; rfl
theorem Box.set3 {w : World} {s : Nat} {v : NV} (h : Box w s v) (A : Option Addr) (n c : Nat) : Box (w.setCell ⟨s, 3, none⟩ (.slice A n c)) s ⟨v.fid, v.dir, v.dA, v.dn, v.dc, A, n, c, v.ver⟩ := by
  unfold Box at h ⊢; rw [heap_setCell_same w s 3 _ 41 _ h]; rfl
theorem Box.setOther {w : World} {s : Nat} {v : NV} (h : Box w s v) {a : Addr} (ha : s ≠ a.block) (u : Value) : Box (w.setCell a u) s v := by
  unfold Box; rw [Below.heap_setCell _ _ _ _ ha]; exact h
/-- a node is stored, cell by cell -/
abbrev put5 (w : World) (s o : Nat) (v : NV) : World :=
  ((((w.setCell ⟨s, o, none⟩ (.int .i64 v.fid)).setCell ⟨s, o + 1, none⟩ (.bool v.dir)).setCell ⟨s, o + 2, none⟩ (.slice v.dA v.dn v.dc)).setCell ⟨s, o + 3, none⟩ (.slice v.eA v.en v.ec)).setCell ⟨s, o + 4, none⟩ (.int .i64 v.ver)
theorem put5_below {B : Nat} {a w : World} (h : Below B a w) {s : Nat} (hs : B ≤ s) (o : Nat) (v : NV) : Below B a (put5 w s o v) :=
  ((((h.setCell (by exact hs) _).setCell (by exact hs) _).setCell (by exact hs) _).setCell (by exact hs) _).setCell (by exact hs) _
theorem put5_own {w : World} {B : Nat} {e : TypeId} {k : Nat} {v : Value} {n : Nat} {xs : List Value} (h : w.ownsRow B e k v n xs) {s : Nat} (hs : s < B) (o : Nat) (x : NV) : (put5 w s o x).ownsRow B e k v n xs :=
  ownsRow_setCell_below (ownsRow_setCell_below (ownsRow_setCell_below (ownsRow_setCell_below (ownsRow_setCell_below h (by exact hs) _) (by exact hs) _) (by exact hs) _) (by exact hs) _) (by exact hs) _
theorem put5_box {w : World} {s : Nat} {v : NV} (h : Box w s v) (x : NV) : Box (put5 w s 0 x) s x := by
  unfold Box at h ⊢
  have e0 := heap_setCell_same w s 0 _ 41 (.int .i64 x.fid) h
  have e1 := heap_setCell_same _ s 1 _ 41 (.bool x.dir) e0
  have e2 := heap_setCell_same _ s 2 _ 41 (.slice x.dA x.dn x.dc) e1
  have e3 := heap_setCell_same _ s 3 _ 41 (.slice x.eA x.en x.ec) e2
  have e4 := heap_setCell_same _ s 4 _ 41 (.int .i64 x.ver) e3
  exact e4
theorem put5_box_other {w : World} {s : Nat} {v : NV} (h : Box w s v) {t : Nat} (ht : s ≠ t) (o : Nat) (x : NV) : Box (put5 w t o x) s v :=
  ((((h.setOther (by exact ht) _).setOther (by exact ht) _).setOther (by exact ht) _).setOther (by exact ht) _).setOther (by exact ht) _

/-- the value v is the node x -/
def Cont (w : World) (v : NV) (x : M.Nd) : Prop := v.fid = x.fid ∧ v.dir = x.dir ∧ v.ver = x.ver ∧ Byts w v.dA v.dn x.data ∧ Ents w v.eA v.en x.ents
theorem Cont.below {B : Nat} {w w' : World} {v : NV} {x : M.Nd} (h : Cont w v x) (hB : w.heap.size ≤ B) (hb : Below B w w') : Cont w' v x :=
  ⟨h.1, h.2.1, h.2.2.1, h.2.2.2.1.below hB hb, h.2.2.2.2.below hB hb⟩
/-- its lists are the call's own -/
def OwnN (w : World) (B : Nat) (v : NV) (x : M.Nd) : Prop := v.fid = x.fid ∧ v.dir = x.dir ∧ v.ver = x.ver ∧ w.ownsRow B 5 1 (.slice v.dA v.dn v.dc) v.dn (x.data.flatMap byteCells1) ∧ w.ownsRow B 81 2 (.slice v.eA v.en v.ec) v.en (x.ents.flatMap entCells)
theorem OwnN.cont {w : World} {B : Nat} {v : NV} {x : M.Nd} (h : OwnN w B v x) : Cont w v x :=
  ⟨h.1, h.2.1, h.2.2.1, Row.ofOwn byt_len (by decide) h.2.2.2.1, Row.ofOwn ent_len (by decide) h.2.2.2.2⟩
theorem OwnN.below {B C : Nat} {w w' : World} {v : NV} {x : M.Nd} (h : OwnN w B v x) (hC : w.heap.size ≤ C) (hb : Below C w w') : OwnN w' B v x :=
  ⟨h.1, h.2.1, h.2.2.1, own_below h.2.2.2.1 hb hC, own_below h.2.2.2.2 hb hC⟩
theorem OwnN.mono {B B' : Nat} {w : World} {v : NV} {x : M.Nd} (h : OwnN w B v x) (hB : B' ≤ B) : OwnN w B' v x :=
  ⟨h.1, h.2.1, h.2.2.1, own_mono h.2.2.2.1 hB, own_mono h.2.2.2.2 hB⟩
/-- no list of it is too long -/
def Small (x : M.Nd) : Prop := x.data.length ≤ 140737488355328 ∧ x.ents.length * 24 ≤ 140737488355328

/-- pair by pair -/
def All2 {α β : Type} (R : α → β → Prop) (vs : List α) (xs : List β) : Prop := vs.length = xs.length ∧ ∀ (j : Nat) v x, vs[j]? = some v → xs[j]? = some x → R v x
theorem All2.imp {α β : Type} {R S : α → β → Prop} {vs : List α} {xs : List β} (h : All2 R vs xs) (f : ∀ v x, R v x → S v x) : All2 S vs xs := ⟨h.1, fun j v x hv hx => f v x (h.2 j v x hv hx)⟩
theorem All2.nil {α β : Type} {R : α → β → Prop} : All2 R [] [] := ⟨rfl, fun j v x hv => by cases hv⟩
theorem All2.cons {α β : Type} {R : α → β → Prop} {v : α} {x : β} {vs : List α} {xs : List β} (h0 : R v x) (h : All2 R vs xs) : All2 R (v :: vs) (x :: xs) :=
  ⟨by simp [h.1], fun j v' x' hv hx => by
    cases j with
    | zero => cases hv; cases hx; exact h0
    | succ j => exact h.2 j v' x' hv hx⟩
theorem All2.append {α β : Type} {R : α → β → Prop} {vs us : List α} {xs ys : List β} (h : All2 R vs xs) (h' : All2 R us ys) : All2 R (vs ++ us) (xs ++ ys) := by
  refine ⟨by simp [h.1, h'.1], fun j v x hv hx => ?_⟩
  rcases Nat.lt_or_ge j vs.length with h1 | h1
  · rw [List.getElem?_append_left h1] at hv
    rw [List.getElem?_append_left (by rw [← h.1]; exact h1)] at hx
    exact h.2 j v x hv hx
  · rw [List.getElem?_append_right h1] at hv
    rw [List.getElem?_append_right (by rw [← h.1]; exact h1), ← h.1] at hx
    exact h'.2 _ v x hv hx
theorem All2.one {α β : Type} {R : α → β → Prop} {v : α} {x : β} (h : R v x) : All2 R [v] [x] := All2.cons h All2.nil
theorem All2.take {α β : Type} {R : α → β → Prop} {vs : List α} {xs : List β} (h : All2 R vs xs) (k : Nat) : All2 R (vs.take k) (xs.take k) := by
  refine ⟨by simp [h.1], fun j v x hv hx => ?_⟩
  rw [List.getElem?_take] at hv hx
  split at hv
  · rename_i hk; rw [if_pos hk] at hx; exact h.2 j v x hv hx
  · cases hv
theorem All2.drop {α β : Type} {R : α → β → Prop} {vs : List α} {xs : List β} (h : All2 R vs xs) (k : Nat) : All2 R (vs.drop k) (xs.drop k) := by
  refine ⟨by simp [h.1], fun j v x hv hx => ?_⟩
  rw [List.getElem?_drop] at hv hx
  exact h.2 _ v x hv hx
theorem All2.at {α β : Type} {R : α → β → Prop} {vs : List α} {xs : List β} (h : All2 R vs xs) {j : Nat} {v : α} (hv : vs[j]? = some v) : ∃ x, xs[j]? = some x ∧ R v x := by
  have hj : j < vs.length := by
    rcases Nat.lt_or_ge j vs.length with h1 | h1
    · exact h1
    · rw [List.getElem?_eq_none h1] at hv; cases hv
  have hj' : j < xs.length := by rw [← h.1]; exact hj
  have hx : xs[j]? = some xs[j] := List.getElem?_eq_getElem hj'
  exact ⟨_, hx, h.2 j v _ hv hx⟩
theorem All2.map {α β γ : Type} {R : α → β → Prop} {vs : List α} {xs : List β} (h : All2 R vs xs) (f : α → γ) (g : β → γ) (hfg : ∀ v x, R v x → f v = g x) : vs.map f = xs.map g := by
  apply List.ext_getElem?
  intro j
  rw [List.getElem?_map, List.getElem?_map]
  cases hv : vs[j]? with
  | none =>
    have : xs[j]? = none := by
      rw [List.getElem?_eq_none_iff] at hv ⊢; rw [← h.1]; exact hv
    rw [this]; rfl
  | some v =>
    obtain ⟨x, hx, hr⟩ := h.at hv
    rw [hx]; simp [hfg v x hr]

/-- a tree that came in; a tree of one's own -/
def Tree (w : World) (A : Option Addr) (n : Nat) (vs : List NV) (xs : List M.Nd) : Prop := Nodes w A n vs ∧ All2 (Cont w) vs xs
def OwnT (w : World) (B : Nat) (A : Option Addr) (n c : Nat) (vs : List NV) (xs : List M.Nd) : Prop := w.ownsRow B 41 5 (.slice A n c) n (vs.flatMap NV.cells) ∧ All2 (OwnN w B) vs xs
theorem Tree.below {B : Nat} {w w' : World} {A : Option Addr} {n : Nat} {vs : List NV} {xs : List M.Nd} (h : Tree w A n vs xs) (hB : w.heap.size ≤ B) (hb : Below B w w') : Tree w' A n vs xs :=
  ⟨h.1.below hB hb, h.2.imp fun _ _ h => h.below hB hb⟩
theorem OwnT.tree {w : World} {B : Nat} {A : Option Addr} {n c : Nat} {vs : List NV} {xs : List M.Nd} (h : OwnT w B A n c vs xs) : Tree w A n vs xs :=
  ⟨Row.ofOwn nod_len (by decide) h.1, h.2.imp fun _ _ h => h.cont⟩
theorem OwnT.below {B C : Nat} {w w' : World} {A : Option Addr} {n c : Nat} {vs : List NV} {xs : List M.Nd} (h : OwnT w B A n c vs xs) (hC : w.heap.size ≤ C) (hb : Below C w w') : OwnT w' B A n c vs xs :=
  ⟨own_below h.1 hb hC, h.2.imp fun _ _ h => h.below hC hb⟩
theorem OwnT.mono {B B' : Nat} {w : World} {A : Option Addr} {n c : Nat} {vs : List NV} {xs : List M.Nd} (h : OwnT w B A n c vs xs) (hB : B' ≤ B) : OwnT w B' A n c vs xs :=
  ⟨own_mono h.1 hB, h.2.imp fun _ _ h => h.mono hB⟩
/-- what is no row of nodes stays while a row of nodes is written -/
theorem own_grown {w w' : World} {B B' : Nat} {e e' : TypeId} {k k' : Nat} {v v' : Value} {n n' : Nat} {xs xs' : List Value} (h : w.ownsRow B e k v n xs) (h' : w.ownsRow B' e' k' v' n' xs') (hne : e ≠ e') (hg : w.grownBy w' v'.ownBlock) : w'.ownsRow B e k v n xs :=
  h.kept hg (own_apart h h' hne)
theorem OwnN.grown26 {w w' : World} {B B' : Nat} {v : NV} {x : M.Nd} {k' : Nat} {v' : Value} {n' : Nat} {xs' : List Value} (h : OwnN w B v x) (h' : w.ownsRow B' 41 k' v' n' xs') (hg : w.grownBy w' v'.ownBlock) : OwnN w' B v x :=
  ⟨h.1, h.2.1, h.2.2.1, own_grown h.2.2.2.1 h' (by decide) hg, own_grown h.2.2.2.2 h' (by decide) hg⟩
theorem SmallT.len {xs : List M.Nd} {n : Nat} (h : n = xs.length) (hs : xs.length * 72 ≤ 140737488355328) : n * 72 ≤ 140737488355328 := by rw [h]; exact hs

theorem grown_trans {a b c : World} {row : Option Nat} (h : a.grownBy b row) (k : b.grownBy c row) : a.grownBy c row :=
  ⟨k.os.trans h.os, k.tape.trans h.tape, k.output.trans h.output, Nat.le_trans h.size k.size, fun j hj hr => (k.block j (Nat.lt_of_lt_of_le hj h.size) hr).trans (h.block j hj hr)⟩
theorem set5 (L : List Value) (o : Nat) (a b c d e : Value) (h : o + 5 ≤ L.length) : ((((L.set o a).set (o + 1) b).set (o + 2) c).set (o + 3) d).set (o + 4) e = L.take o ++ ([a, b, c, d, e] ++ L.drop (o + 5)) := by
  apply List.ext_getElem?
  intro j
  by_cases h1 : j < o
  · rw [List.getElem?_append_left (by simp; omega), List.getElem?_take, if_pos h1]
    rw [List.getElem?_set_ne (by omega), List.getElem?_set_ne (by omega), List.getElem?_set_ne (by omega), List.getElem?_set_ne (by omega), List.getElem?_set_ne (by omega)]
  · rw [List.getElem?_append_right (by simp; omega)]
    have e1 : (L.take o).length = o := by simp; omega
    rw [e1]
    by_cases h2 : j < o + 5
    · rw [List.getElem?_append_left (by simp; omega)]
      obtain ⟨i, rfl⟩ : ∃ i, j = o + i := ⟨j - o, by omega⟩
      have hi : i = 0 ∨ i = 1 ∨ i = 2 ∨ i = 3 ∨ i = 4 := by omega
      have e2 : o + i - o = i := by omega
      rw [e2]
      rcases hi with rfl | rfl | rfl | rfl | rfl <;> simp [List.getElem?_set] <;> omega
    · rw [List.getElem?_append_right (by simp; omega), List.getElem?_drop]
      rw [List.getElem?_set_ne (by omega), List.getElem?_set_ne (by omega), List.getElem?_set_ne (by omega), List.getElem?_set_ne (by omega), List.getElem?_set_ne (by omega)]
      congr 1
      simp; omega
theorem own_put5 {w : World} {B g n c : Nat} {us : List NV} (h : w.ownsRow B 41 5 (.slice (some ⟨g, 0, none⟩) n c) n (us.flatMap NV.cells)) (j : Nat) (hj : j < n) (v : NV) :
    (put5 w g (j * 5) v).ownsRow B 41 5 (.slice (some ⟨g, 0, none⟩) n c) n ((us.set j v).flatMap NV.cells) ∧ w.grownBy (put5 w g (j * 5) v) (some g) := by
  have hl := own_len nod_len (by decide) h
  have s0 := h.stored (j * 5) (.int .i64 v.fid)
  have s1 := s0.1.stored (j * 5 + 1) (.bool v.dir)
  have s2 := s1.1.stored (j * 5 + 2) (.slice v.dA v.dn v.dc)
  have s3 := s2.1.stored (j * 5 + 3) (.slice v.eA v.en v.ec)
  have s4 := s3.1.stored (j * 5 + 4) (.int .i64 v.ver)
  refine ⟨?_, grown_trans (grown_trans (grown_trans (grown_trans s0.2 s1.2) s2.2) s3.2) s4.2⟩
  rw [fm_set nod_len us j v (by omega)]
  have := s4.1
  rw [set5 _ _ _ _ _ _ _ (by rw [fm_len nod_len]; omega)] at this
  exact this
theorem made5 (n : Nat) : (madeCells (Value.cells (.agg #[.int .i64 0, .bool false, .slice none 0 0, .slice none 0 0, .int .i64 0])) (n * 5)).toList = (List.replicate n NV.zero).flatMap NV.cells := by
  apply List.ext_getElem?
  intro j
  by_cases hj : j < n * 5
  · have hq : j / 5 < n := by omega
    have := fm_get nod_len (List.replicate n NV.zero) (j / 5) (j % 5) NV.zero (by simp [hq]) (by omega)
    rw [Nat.div_add_mod'] at this
    rw [this]
    have hm : j % 5 = 0 ∨ j % 5 = 1 ∨ j % 5 = 2 ∨ j % 5 = 3 ∨ j % 5 = 4 := by omega
    simp [madeCells, hj, Value.cells]
    rcases hm with h | h | h | h | h <;> simp [h, NV.cells, NV.zero]
  · rw [List.getElem?_eq_none (by simp [size_madeCells]; omega), List.getElem?_eq_none (by rw [fm_len nod_len]; simp; omega)]
theorem own_at5 {w : World} {B g n c : Nat} {us : List NV} (h : w.ownsRow B 41 5 (.slice (some ⟨g, 0, none⟩) n c) n (us.flatMap NV.cells)) {j : Nat} (hj : j < n) :
    ∃ v : NV, us[j]? = some v ∧ w.cell? ⟨g, j * 5, none⟩ = some (.int .i64 v.fid) ∧ w.cell? ⟨g, j * 5 + 1, none⟩ = some (.bool v.dir) ∧
      w.cell? ⟨g, j * 5 + 2, none⟩ = some (.slice v.dA v.dn v.dc) ∧ w.cell? ⟨g, j * 5 + 3, none⟩ = some (.slice v.eA v.en v.ec) ∧ w.cell? ⟨g, j * 5 + 4, none⟩ = some (.int .i64 v.ver) ∧ (∀ o, w.frozen? ⟨g, o, none⟩ = false) ∧ g < w.heap.size := by
  obtain ⟨b, o, v, e, hlt, hv, c0, c1, c2, c3, c4⟩ := Nodes.at (Row.ofOwn nod_len (by decide) h) hj
  cases e
  simp only [Nat.zero_add] at c0 c1 c2 c3 c4
  exact ⟨v, hv, c0, c1, c2, c3, c4, fun o => h.frozenAt o, hlt⟩
theorem own_at2 {w : World} {B g n c : Nat} {us : List (ByteArray × Int)} (h : w.ownsRow B 81 2 (.slice (some ⟨g, 0, none⟩) n c) n (us.flatMap entCells)) {j : Nat} (hj : j < n) :
    ∃ v : ByteArray × Int, us[j]? = some v ∧ w.cell? ⟨g, j * 2, none⟩ = some (.string v.1) ∧ w.cell? ⟨g, j * 2 + 1, none⟩ = some (.int .i64 v.2) ∧ (∀ o, w.frozen? ⟨g, o, none⟩ = false) ∧ g < w.heap.size := by
  obtain ⟨b, o, v, e, hlt, hv, c0, c1⟩ := Ents.at (Row.ofOwn ent_len (by decide) h) hj
  cases e
  simp only [Nat.zero_add] at c0 c1
  exact ⟨v, hv, c0, c1, fun o => h.frozenAt o, hlt⟩
end Go.Proofs.Ytjpdoblmdchmkad
/-
  COPIES: ownNode, Own.
-/
namespace Go.Proofs.Ytjpdoblmdchmkad
open Go.RowKit

set_option maxHeartbeats 400000 in
theorem ownNode_any (v : NV) (x : M.Nd) (w : World) (hc : Cont w v x) (hs : Small x) :
    Calls Try.prog 74 #[v.val] w fun e w' => ∃ v' : NV, e = .returned v'.val ∧ OwnN w' w.heap.size v' x ∧ Below w.heap.size w w' := by
  obtain ⟨i5, hi5, hz5, hs5, hb5⟩ := info_parts info5
  obtain ⟨i58, hi58, hz58, hs58, hb58⟩ := info_parts info58
  obtain ⟨f1, f2, f3, hd, he⟩ := hc
  have hdn := hd.1
  have hen := he.1
  obtain ⟨s1, s2⟩ := hs
  rw [← hdn] at s1
  rw [← hen] at s2
  have HF : Hid (v.fid = x.fid ∧ v.dir = x.dir ∧ v.ver = x.ver) := ⟨f1, f2, f3⟩
  have HD : Hid (Byts w v.dA v.dn x.data) := hd
  have HE : Hid (Ents w v.eA v.en x.ents) := he
  clear f1 f2 f3 hd he hdn hen
  go_enter Try.func74, Try.ntmps74
  have hB0 : ∀ W : World, W = (w.alloc (.cells #[.int .i64 v.fid, .bool v.dir, .slice v.dA v.dn v.dc, .slice v.eA v.en v.ec, .int .i64 v.ver] 41)).alloc (.cells #[.int .i64 0, .bool false, .slice none 0 0, .slice none 0 0, .int .i64 0] 41) → Box W w.heap.size v ∧ Box W (w.heap.size + 1) NV.zero ∧ W.heap.size = w.heap.size + 2 ∧ Below w.heap.size w W := by
    rintro W rfl
    exact ⟨(Box.new w v).alloc _, by have := Box.new0 (w.alloc (.cells #[.int .i64 v.fid, .bool v.dir, .slice v.dA v.dn v.dc, .slice v.eA v.en v.ec, .int .i64 v.ver] 41)); simpa using this, by simp, ((Below.refl _ _).alloc (Nat.le_refl _) _).alloc (by simp) _⟩
  have HB0 : Hid _ := hB0
  clear hB0
  go_wp2_with (first
    | (at_builtin; refine wpList_append_row _ (by rfl) (.const (.slice none 0 0)) (.tmp 4) 34 (by rfl) (w.heap.size + 2) 5 i5 (.int .u8 0) 1 Try.underlying34 hi5 hz5 hs5 hb5 rfl (by decide) _ 0 [] rfl (World.ownsRow_nil _ _ _ _) v.dA v.dn v.dc x.data rfl (HD.out.below (Nat.le_refl _) (((Below.refl _ _).alloc (Nat.le_refl _) _).alloc (by simp) _)) byt_len byt_one (by unfold maxLen; omega) (by omega) (by simp) ?_; intro v1 w1 hown1 hg1; rw [Nat.zero_add, List.nil_append] at hown1; obtain ⟨A1, c1, rfl, hA1, hA2⟩ := own_form hown1; have hb1 := grown_below hg1; clear hg1; obtain ⟨q0, q1, q2, q3⟩ := HB0.out _ rfl; have hbw1 : Below w.heap.size w w1 := q3.trans (hb1.mono (by omega)); have HX1 : Hid (Box w1 w.heap.size v ∧ Box w1 (w.heap.size + 1) NV.zero) := ⟨q0.below hb1 (by omega), q1.below hb1 (by omega)⟩; have hz1 := hb1.size; rw [q2] at hz1; clear hb1 q0 q1 q2 q3; obtain ⟨p0, p1, p2, p3, p4, pf, pz⟩ := HX1.out.1.facts)
    | (at_builtin; refine wpList_append_row _ (by rfl) (.const (.slice none 0 0)) (.tmp 8) 39 (by rfl) (w.heap.size + 2) 81 i58 (.agg #[.string ByteArray.empty, .int .i64 0]) 24 Try.underlying39 hi58 hz58 hs58 hb58 rfl (by decide) _ 0 [] rfl (World.ownsRow_nil _ _ _ _) v.eA v.en v.ec x.ents rfl (HE.out.below (Nat.le_refl _) (hbw1.setCell (Nat.le_refl _) _)) ent_len ent_one (by unfold maxLen; omega) (by omega) (by simp; omega) ?_; intro v2 w2 hown2 hg2; rw [Nat.zero_add, List.nil_append] at hown2; obtain ⟨A2, c2, rfl, hA3, hA4⟩ := own_form hown2; have hb2 := grown_below hg2; clear hg2; have hown3 := own_below (ownsRow_setCell_below hown1 (a := ⟨w.heap.size, 2, none⟩) (by show w.heap.size < _; omega) (.slice A1 v.dn c1)) hb2 (Nat.le_refl _); have hbw2 : Below w.heap.size w w2 := (hbw1.setCell (p := ⟨w.heap.size, 2, none⟩) (Nat.le_refl _) (.slice A1 v.dn c1)).trans (hb2.mono (by simp; omega)); have HX2 : Hid (Box w2 w.heap.size ⟨v.fid, v.dir, A1, v.dn, c1, v.eA, v.en, v.ec, v.ver⟩ ∧ Box w2 (w.heap.size + 1) NV.zero) := ⟨(HX1.out.1.set2 A1 v.dn c1).below hb2 (by simp; omega), (HX1.out.2.setOther (a := ⟨w.heap.size, 2, none⟩) (by show _ ≠ w.heap.size; omega) _).below hb2 (by simp; omega)⟩; clear hb2 p0 p1 p2 p3 p4 pf pz hown1 hbw1; obtain ⟨p0, p1, p2, p3, p4, pf, pz⟩ := HX2.out.1.facts; obtain ⟨z0, z1, z2, z3, z4, zf, zz⟩ := HX2.out.2.facts))
  have hbr := put5_below (hbw2.setCell (p := ⟨w.heap.size, 3, none⟩) (Nat.le_refl _) (.slice A2 v.en c2)) (s := w.heap.size + 1) (by omega) 0 ⟨v.fid, v.dir, A1, v.dn, c1, A2, v.en, c2, v.ver⟩
  have hod := put5_own (ownsRow_setCell_below hown3 (a := ⟨w.heap.size, 3, none⟩) (by show w.heap.size < _; omega) (.slice A2 v.en c2)) (s := w.heap.size + 1) (by omega) 0 ⟨v.fid, v.dir, A1, v.dn, c1, A2, v.en, c2, v.ver⟩
  have hoe := put5_own (ownsRow_setCell_below hown2 (a := ⟨w.heap.size, 3, none⟩) (by show w.heap.size < _; omega) (.slice A2 v.en c2)) (s := w.heap.size + 1) (by omega) 0 ⟨v.fid, v.dir, A1, v.dn, c1, A2, v.en, c2, v.ver⟩
  exact bodyPost_ret (v := NV.val ⟨v.fid, v.dir, A1, v.dn, c1, A2, v.en, c2, v.ver⟩) (by simp [results, Try.results74, go_sem, z0, z1, z2, z3, z4]) rfl ⟨⟨v.fid, v.dir, A1, v.dn, c1, A2, v.en, c2, v.ver⟩, rfl, ⟨HF.out.1, HF.out.2.1, HF.out.2.2, own_mono hod (by omega), own_mono hoe (by omega)⟩, hbr⟩

/-- so far: the first k nodes are copied -/
def Owning (w : World) (n g k : Nat) (xs : List M.Nd) (wr : World) : Prop :=
  ∃ us : List NV, us.length = k ∧ wr.ownsRow w.heap.size 41 5 (.slice (some ⟨g, 0, none⟩) n n) n ((us ++ List.replicate (n - k) NV.zero).flatMap NV.cells) ∧ All2 (OwnN wr w.heap.size) us (xs.take k) ∧ Below w.heap.size w wr
theorem owning_step {w : World} {n g k : Nat} {xs : List M.Nd} {wr wa w1 : World} {v : NV} {x : M.Nd} (h : Owning w n g k xs wr) (hk : k < n) (hx : xs[k]? = some x) (ha : Below wr.heap.size wr wa) (hb : Below wa.heap.size wa w1) (hv : OwnN w1 w.heap.size v x) :
    Owning w n g (k + 1) xs (put5 w1 g (k * 5) v) := by
  obtain ⟨us, hl, ho, ha2, hbw⟩ := h
  have hb1 : Below wr.heap.size wr w1 := ha.trans (hb.mono ha.size)
  have ho1 := own_below ho hb1 (Nat.le_refl _)
  obtain ⟨hp, hg⟩ := own_put5 ho1 k hk v
  have hg2 : w1.grownBy (put5 w1 g (k * 5) v) (Value.ownBlock (.slice (some ⟨g, 0, none⟩) n n)) := hg
  refine ⟨us ++ [v], by simp [hl], ?_, ?_, ?_⟩
  · have e : (us ++ List.replicate (n - k) NV.zero).set k v = us ++ [v] ++ List.replicate (n - (k + 1)) NV.zero := by
      have : n - k = (n - (k + 1)) + 1 := by omega
      rw [List.set_append_right _ _ (by omega), hl, Nat.sub_self, this, List.replicate_succ]
      simp
    rw [e] at hp
    exact hp
  · have e : xs.take (k + 1) = xs.take k ++ [x] := by rw [List.take_add_one, hx]; rfl
    rw [e]
    exact All2.append (ha2.imp fun v x h => (h.below (Nat.le_refl _) hb1).grown26 ho1 hg2) (All2.one (hv.grown26 ho1 hg2))
  · exact put5_below (hbw.trans (hb1.mono hbw.size)) (by have := (ho.lt g rfl).1; exact this) _ _

set_option maxHeartbeats 400000 in
theorem own_any (A : Option Addr) (n c : Nat) (vs : List NV) (xs : List M.Nd) (w : World) (ht : Tree w A n vs xs) (hn : n * 72 ≤ 140737488355328) (hs : ∀ x ∈ xs, Small x) :
    Calls Try.prog 55 #[.slice A n c] w fun e w' => ∃ (g : Nat) (us : List NV), e = .returned (.slice (some ⟨g, 0, none⟩) n n) ∧ OwnT w' w.heap.size (some ⟨g, 0, none⟩) n n us xs ∧ Below w.heap.size w w' := by
  obtain ⟨i26, hi26, hz26, hs26, hb26⟩ := info_parts info26
  have HS : Hid (∀ x ∈ xs, Small x) := hs
  clear hs
  have hb26' : i26.bytes * n ≤ 281474976710656 := by rw [hb26]; omega
  go_enter Try.func55, Try.ntmps55
  go_wp2_with (at_make; refine wpList_make_full _ (by rfl) (.tmp 7) (.tmp 7) 22 (by rfl) w.heap.size 41 i26 (.agg #[.int .i64 0, .bool false, .slice none 0 0, .slice none 0 0, .int .i64 0]) 5 Try.underlying22 hi26 hz26 hs26 .i64 .i64 _ _ n rfl rfl rfl rfl hb26' (by unfold maxLen; omega) (Nat.le_refl _) ?_; intro w1 hown hg1; have hb1 := grown_below hg1; clear hg1; rw [made5] at hown)
  have H0 : Hid (Owning w n w.heap.size 0 xs w1) := ⟨[], rfl, by simpa using hown, All2.nil, hb1⟩
  clear hown
  go_loopw [11] (fun i wr => ∃ k : Nat, k ≤ n ∧ i = .int .i64 k ∧ Owning w n w.heap.size k xs wr) (fun i _ => n - (intOf i).toNat)
  case atStart => exact ⟨0, Nat.zero_le _, rfl, H0.out⟩
  case round =>
    obtain ⟨k, hk, rfl, ho⟩ := hrel
    have HO : Hid (Owning w n w.heap.size k xs wr) := ho
    obtain ⟨us, hul, hor, hal, hbw⟩ := ho
    by_cases hlt : k < n
    · have htr := ht.below (Nat.le_refl _) hbw
      obtain ⟨b, o, v, rfl, hbl, hvk, c0, c1, c2, c3, c4⟩ := htr.1.at hlt
      obtain ⟨x, hx, hcx⟩ := htr.2.at hvk
      have HC : Hid (Cont wr v x ∧ xs[k]? = some x ∧ Small x) := ⟨hcx, hx, HS.out x (List.mem_of_getElem? hx)⟩
      have hfz : ∀ j, wr.frozen? ⟨w.heap.size, j, none⟩ = false := fun j => hor.frozenAt j
      have hwa : Below wr.heap.size wr (wr.alloc (.cells #[.int .i64 v.fid, .bool v.dir, .slice v.dA v.dn v.dc, .slice v.eA v.en v.ec, .int .i64 v.ver] 41)) := (Below.refl _ _).alloc (Nat.le_refl _) _
      have HW : Hid (wr.ownsRow w.heap.size 41 5 (.slice (some ⟨w.heap.size, 0, none⟩) n n) n ((us ++ List.replicate (n - k) NV.zero).flatMap NV.cells)) := hor
      have hsz := hbw.size
      clear hcx hx hvk htr hal hor hul
      go_wp2_with (go_at_call 74; refine (ownNode_any v x _ (HC.out.1.below (Nat.le_refl _) hwa) HC.out.2.2).mono ?_; rintro e w2 ⟨v2, rfl, hon, hb2⟩; obtain ⟨v3, _, q0, q1, q2, q3, q4, qf, qz⟩ := own_at5 (own_below HW.out (hwa.trans (hb2.mono (by simp))) (Nat.le_refl _)) hlt; have HR : Hid (Owning w n w.heap.size (k + 1) xs (put5 w2 w.heap.size (k * 5) v2)) := owning_step HO.out hlt HC.out.2.1 hwa hb2 (hon.mono (by simp; omega)))
      go_roundw
      case rel => exact ⟨k + 1, by omega, by go_num, HR.out⟩
      case measure => simp [intOf]; omega
    · have HQ : Hid (k = n) := by show k = n; omega
      clear hal hor hul
      go_wp2
      go_ret
      obtain ⟨us, hul, hor, hal, hbw⟩ := HO.out
      have e := HQ.out
      subst e
      rw [Nat.sub_self, List.replicate_zero, List.append_nil] at hor
      rw [List.take_of_length_le (by rw [← ht.2.1, ← ht.1.1]; omega)] at hal
      exact ⟨_, us, rfl, ⟨hor, hal⟩, hbw⟩
end Go.Proofs.Ytjpdoblmdchmkad
/-
  PLAIN MATHEMATICS, further: find, put, drop, entry, enter, leave on lists that rise.
-/
namespace Go.Proofs.Ytjpdoblmdchmkad
namespace M

section
variable {K X : Type} {lt : K → K → Bool}
theorem rs_sub {ks ls : List K} (h : Rs lt ls) (hs : ks.Sublist ls) : Rs lt ks := List.Pairwise.sublist hs h

theorem filter_take (p : X → Bool) : ∀ (xs : List X) (i : Nat), (∀ k x, k < i → xs[k]? = some x → p x = true) → (∀ k x, i ≤ k → xs[k]? = some x → p x = false) → xs.filter p = xs.take i
  | [], i, _, _ => by simp
  | x :: xs, 0, _, h2 => by
    rw [List.take_zero, List.filter_eq_nil_iff]
    intro y hy
    obtain ⟨k, hk⟩ := List.getElem?_of_mem hy
    simp [h2 k y (Nat.zero_le _) hk]
  | x :: xs, i + 1, h1, h2 => by
    rw [List.filter_cons, if_pos (h1 0 x (by omega) rfl), List.take_succ_cons]
    congr 1
    exact filter_take p xs i (fun k y hk hy => h1 (k + 1) y (by omega) hy) (fun k y hk hy => h2 (k + 1) y (by omega) hy)
theorem filter_drop (p : X → Bool) : ∀ (xs : List X) (i : Nat), (∀ k x, k < i → xs[k]? = some x → p x = false) → (∀ k x, i ≤ k → xs[k]? = some x → p x = true) → xs.filter p = xs.drop i
  | [], i, _, _ => by simp
  | x :: xs, 0, _, h2 => by
    rw [List.drop_zero, List.filter_eq_self]
    intro y hy
    obtain ⟨k, hk⟩ := List.getElem?_of_mem hy
    exact h2 k y (Nat.zero_le _) hk
  | x :: xs, i + 1, h1, h2 => by
    rw [List.filter_cons, if_neg (by rw [h1 0 x (by omega) rfl]; simp), List.drop_succ_cons]
    exact filter_drop p xs i (fun k y hk hy => h1 (k + 1) y (by omega) hy) (fun k y hk hy => h2 (k + 1) y (by omega) hy)

variable [DecidableEq K] (f : X → K) (xs : List X) (t : K)
omit [DecidableEq K] in
theorem at_key {f : X → K} {xs : List X} {k : Nat} {x : X} (h : xs[k]? = some x) : (xs.map f)[k]? = some (f x) := by rw [List.getElem?_map, h]; rfl
/-- what a search has found -/
theorem mid_find (o : Ordr lt) {i : Nat} (hr : Rs lt (xs.map f)) (hm : Mid lt (xs.map f) t i i) (h : (xs.map f)[i]? = some t) : xs.find? (fun x => decide (f x = t)) = xs[i]? := by
  obtain ⟨m1, m2⟩ := hm.2.2 hr
  rw [List.getElem?_map] at h
  cases hx : xs[i]? with
  | none => rw [hx] at h; cases h
  | some x =>
    rw [hx] at h
    have e : f x = t := Option.some.inj h
    rw [List.find?_eq_some_iff_getElem]
    obtain ⟨hi, hxi⟩ := List.getElem?_eq_some_iff.1 hx
    refine ⟨by simp [e], i, hi, hxi, fun j hj => ?_⟩
    have hl := m1 j (f xs[j]) hj (at_key (List.getElem?_eq_getElem (by omega)))
    have : f xs[j] ≠ t := by intro e'; rw [e', o.irr] at hl; cases hl
    simp [this]
omit [DecidableEq K] in
theorem mid_none (o : Ordr lt) {i : Nat} (hr : Rs lt (xs.map f)) (hm : Mid lt (xs.map f) t i i) (h : (xs.map f)[i]? ≠ some t) : ∀ x ∈ xs, f x ≠ t := by
  obtain ⟨m1, m2⟩ := hm.2.2 hr
  intro x hx e
  obtain ⟨k, hk⟩ := List.getElem?_of_mem hx
  have hk' := at_key (f := f) hk
  rw [e] at hk'
  rcases Nat.lt_trichotomy k i with h1 | h1 | h1
  · have := m1 k t h1 hk'; rw [o.irr] at this; cases this
  · subst h1; exact h hk'
  · have hi : i < (xs.map f).length := by
      have : k < (xs.map f).length := by
        rcases Nat.lt_or_ge k (xs.map f).length with h2 | h2
        · exact h2
        · rw [List.getElem?_eq_none h2] at hk'; cases hk'
      omega
    have hy : (xs.map f)[i]? = some (xs.map f)[i] := List.getElem?_eq_getElem hi
    have a1 := rs_at hr h1 hy hk'
    have a2 := m2 i _ (Nat.le_refl _) hy
    rw [a1] at a2; cases a2
theorem mid_none_find (o : Ordr lt) {i : Nat} (hr : Rs lt (xs.map f)) (hm : Mid lt (xs.map f) t i i) (h : (xs.map f)[i]? ≠ some t) : xs.find? (fun x => decide (f x = t)) = none := by
  rw [List.find?_eq_none]
  intro x hx
  simp [mid_none f xs t o hr hm h x hx]
omit [DecidableEq K] in
theorem mid_low {i : Nat} (hr : Rs lt (xs.map f)) (hm : Mid lt (xs.map f) t i i) : xs.filter (fun x => lt (f x) t) = xs.take i := by
  obtain ⟨m1, m2⟩ := hm.2.2 hr
  exact filter_take _ xs i (fun k x hk hx => m1 k _ hk (at_key hx)) (fun k x hk hx => m2 k _ hk (at_key hx))
omit [DecidableEq K] in
theorem mid_high (o : Ordr lt) {i : Nat} (hr : Rs lt (xs.map f)) (hm : Mid lt (xs.map f) t i i) (h : (xs.map f)[i]? ≠ some t) : xs.filter (fun x => lt t (f x)) = xs.drop i := by
  obtain ⟨m1, m2⟩ := hm.2.2 hr
  refine filter_drop _ xs i (fun k x hk hx => ?_) (fun k x hk hx => ?_)
  · have := m1 k _ hk (at_key hx)
    cases e : lt t (f x)
    · rfl
    · have := o.tra _ _ _ this e; rw [o.irr] at this; cases this
  · have := m2 k _ hk (at_key hx)
    cases e : lt t (f x)
    · exact absurd (o.tri _ _ this e) (mid_none f xs t o hr hm h x (List.mem_of_getElem? hx))
    · rfl
omit [DecidableEq K] in
theorem mid_high_at (o : Ordr lt) {i : Nat} (hr : Rs lt (xs.map f)) (hm : Mid lt (xs.map f) t i i) (h : (xs.map f)[i]? = some t) : xs.filter (fun x => lt t (f x)) = xs.drop (i + 1) := by
  obtain ⟨m1, m2⟩ := hm.2.2 hr
  refine filter_drop _ xs (i + 1) (fun k x hk hx => ?_) (fun k x hk hx => ?_)
  · rcases Nat.lt_or_ge k i with h1 | h1
    · have := m1 k _ h1 (at_key hx)
      cases e : lt t (f x)
      · rfl
      · have := o.tra _ _ _ this e; rw [o.irr] at this; cases this
    · obtain rfl : k = i := by omega
      rw [at_key hx] at h
      rw [Option.some.inj h, o.irr]
  · exact rs_at hr (by omega) h (at_key hx)

/-- x in its place -/
def put (lt : K → K → Bool) (f : X → K) (xs : List X) (x : X) : List X := xs.filter (fun y => lt (f y) (f x)) ++ x :: xs.filter (fun y => lt (f x) (f y))
omit [DecidableEq K] in
theorem put_rs (o : Ordr lt) (x : X) (hr : Rs lt (xs.map f)) : Rs lt ((put lt f xs x).map f) := by
  unfold put Rs
  rw [List.map_append, List.map_cons, List.pairwise_append, List.pairwise_cons]
  refine ⟨rs_sub hr (List.filter_sublist.map f), ⟨?_, rs_sub hr (List.filter_sublist.map f)⟩, ?_⟩
  · intro k hk
    obtain ⟨y, hy, rfl⟩ := List.mem_map.1 hk
    exact (List.mem_filter.1 hy).2
  · intro a ha b hb
    obtain ⟨y, hy, rfl⟩ := List.mem_map.1 ha
    have h1 := (List.mem_filter.1 hy).2
    rcases List.mem_cons.1 hb with rfl | hb
    · exact h1
    · obtain ⟨z, hz, rfl⟩ := List.mem_map.1 hb
      exact o.tra _ _ _ h1 (List.mem_filter.1 hz).2
theorem put_find (o : Ordr lt) (x : X) : (put lt f xs x).find? (fun y => decide (f y = f x)) = some x := by
  unfold put
  rw [List.find?_append]
  have : (xs.filter (fun y => lt (f y) (f x))).find? (fun y => decide (f y = f x)) = none := by
    rw [List.find?_eq_none]
    intro y hy
    have h1 := (List.mem_filter.1 hy).2
    have : f y ≠ f x := by intro e; simp [e, o.irr] at h1
    simp [this]
  rw [this]; simp
theorem find_filter (p : X → Bool) (t : K) (hp : ∀ x ∈ xs, f x = t → p x = true) : (xs.filter p).find? (fun y => decide (f y = t)) = xs.find? (fun y => decide (f y = t)) := by
  induction xs with
  | nil => rfl
  | cons x xs ih =>
    have ih := ih (fun y hy => hp y (List.mem_cons_of_mem _ hy))
    rw [List.filter_cons]
    by_cases e : f x = t
    · rw [if_pos (hp x List.mem_cons_self e)]; simp [e]
    · split
      · rw [List.find?_cons, List.find?_cons]; simp [e, ih]
      · rw [ih, List.find?_cons]; simp [e]
theorem find_filter_none (p : X → Bool) (t : K) (hp : ∀ x ∈ xs, f x = t → p x = false) : (xs.filter p).find? (fun y => decide (f y = t)) = none := by
  rw [List.find?_eq_none]
  intro y hy
  have h := List.mem_filter.1 hy
  have : f y ≠ t := by intro e; rw [hp y h.1 e] at h; cases h.2
  simp [this]
theorem put_find_other (o : Ordr lt) (x : X) (t : K) (ht : t ≠ f x) : (put lt f xs x).find? (fun y => decide (f y = t)) = xs.find? (fun y => decide (f y = t)) := by
  unfold put
  rw [List.find?_append, List.find?_cons]
  have hx : decide (f x = t) = false := by simp [Ne.symm ht]
  rw [hx]
  cases hlt : lt t (f x)
  · rw [find_filter_none f xs (fun y => lt (f y) (f x)) t (fun y _ e => by rw [e]; exact hlt)]
    have hgt : lt (f x) t = true := by
      cases h : lt (f x) t
      · exact absurd (o.tri _ _ hlt h) ht
      · rfl
    exact find_filter f xs (fun y => lt (f x) (f y)) t (fun y _ e => by rw [e]; exact hgt)
  · rw [find_filter f xs (fun y => lt (f y) (f x)) t (fun y _ e => by rw [e]; exact hlt)]
    rw [find_filter_none f xs (fun y => lt (f x) (f y)) t (fun y _ e => by
      show lt (f x) (f y) = false
      rw [e]
      cases h : lt (f x) t
      · rfl
      · have := o.tra _ _ _ hlt h; rw [o.irr] at this; cases this)]
    cases xs.find? (fun y => decide (f y = t)) <;> rfl
/-- what came, and goes -/
theorem put_drop (o : Ordr lt) (x : X) (hr : Rs lt (xs.map f)) (hn : ∀ y ∈ xs, f y ≠ f x) : (put lt f xs x).filter (fun y => !decide (f y = f x)) = xs := by
  unfold put
  rw [List.filter_append, List.filter_cons]
  have hx : (!decide (f x = f x)) = false := by simp
  rw [if_neg (by rw [hx]; simp), List.filter_filter, List.filter_filter]
  have e1 : xs.filter (fun y => (!decide (f y = f x)) && lt (f y) (f x)) = xs.filter (fun y => lt (f y) (f x)) := List.filter_congr (fun y hy => by simp [hn y hy])
  have e2 : xs.filter (fun y => (!decide (f y = f x)) && lt (f x) (f y)) = xs.filter (fun y => lt (f x) (f y)) := List.filter_congr (fun y hy => by simp [hn y hy])
  rw [e1, e2]
  clear e1 e2 hx
  induction xs with
  | nil => rfl
  | cons y ys ih =>
    have hr' : Rs lt (ys.map f) := (List.pairwise_cons.1 hr).2
    have ih := ih hr' (fun z hz => hn z (List.mem_cons_of_mem _ hz))
    rw [List.filter_cons, List.filter_cons]
    cases h1 : lt (f y) (f x)
    · have h2 : lt (f x) (f y) = true := by
        cases h : lt (f x) (f y)
        · exact absurd (o.tri _ _ h1 h) (hn y List.mem_cons_self)
        · rfl
      have hnil : ys.filter (fun z => lt (f z) (f x)) = [] := by
        rw [List.filter_eq_nil_iff]
        intro z hz h
        have := (List.pairwise_cons.1 hr).1 (f z) (List.mem_map.2 ⟨z, hz, rfl⟩)
        have := o.tra _ _ _ this h
        rw [h1] at this; cases this
      rw [hnil] at ih ⊢
      simp only [List.nil_append] at ih ⊢
      simp [h2, ih]
    · have h2 : lt (f x) (f y) = false := by
        cases h : lt (f x) (f y)
        · rfl
        · have := o.tra _ _ _ h1 h; rw [o.irr] at this; cases this
      simp [h2, ih]
omit [DecidableEq K] in
theorem put_len (o : Ordr lt) (x : X) : (put lt f xs x).length ≤ xs.length + 1 := by
  unfold put
  rw [List.length_append, List.length_cons]
  have : (xs.filter (fun y => lt (f y) (f x))).length + (xs.filter (fun y => lt (f x) (f y))).length ≤ xs.length := by
    induction xs with
    | nil => simp
    | cons y ys ih =>
      rw [List.filter_cons, List.filter_cons]
      cases h1 : lt (f y) (f x)
      · cases h2 : lt (f x) (f y)
        · simp; omega
        · simp; omega
      · have h2 : lt (f x) (f y) = false := by
          cases h : lt (f x) (f y)
          · rfl
          · have := o.tra _ _ _ h1 h; rw [o.irr] at this; cases this
        simp [h2]; omega
  omega
end

abbrev RsN (xs : List Nd) : Prop := Rs ltI (xs.map (·.fid))
abbrev RsE (es : List (ByteArray × Int)) : Prop := Rs ltB (es.map (·.1))
def find (xs : List Nd) (t : Int) : Option Nd := xs.find? (fun x => decide (x.fid = t))
def look (es : List (ByteArray × Int)) (s : ByteArray) : Option (ByteArray × Int) := es.find? (fun e => decide (e.1 = s))
def putN (xs : List Nd) (x : Nd) : List Nd := put ltI (·.fid) xs x
def putE (es : List (ByteArray × Int)) (e : ByteArray × Int) : List (ByteArray × Int) := put ltB (·.1) es e
def dropN (xs : List Nd) (t : Int) : List Nd := xs.filter (fun x => !decide (x.fid = t))
def dropE (es : List (ByteArray × Int)) (s : ByteArray) : List (ByteArray × Int) := es.filter (fun e => !decide (e.1 = s))
end M
end Go.Proofs.Ytjpdoblmdchmkad
