/-
  DeleteFunc, and what it calls: on a row of one's own, in place: Drop, Leave.
-/
import Derived.Test.YtlegjdlmcphhlabPlain
import Derived.Test.YtlegjdlmcphhlabLaws
namespace Go.Proofs.Ytlegjdlmcphhlab
open Go.RowKit

/-- where the first one is, of which p holds; else -1 -/
def IdxIs {α : Type} (p : α → Bool) (xs : List α) (r : Int) : Prop := (r = -1 ∧ ∀ x ∈ xs, p x = false) ∨ ∃ i : Nat, r = i ∧ i < xs.length ∧ (∀ k x, k < i → xs[k]? = some x → p x = false) ∧ ∀ x, xs[i]? = some x → p x = true
theorem idx_end {α : Type} {p : α → Bool} {xs : List α} {k : Nat} (hk : xs.length ≤ k) (h : ∀ j x, j < k → xs[j]? = some x → p x = false) : IdxIs p xs (-1) := by
  refine .inl ⟨rfl, fun x hx => ?_⟩
  obtain ⟨j, hj⟩ := List.getElem?_of_mem hx
  have : j < xs.length := by
    rcases Nat.lt_or_ge j xs.length with h1 | h1
    · exact h1
    · rw [List.getElem?_eq_none h1] at hj; cases hj
  exact h j x (by omega) hj

theorem leave1_any (x : ByteArray × Int) (t : ByteArray) (p : Nat) (w : World) (hp : w.cell? ⟨p, 0, none⟩ = some (.string t)) :
    Calls Try.prog 81 #[.agg #[.string x.1, .int .i64 x.2], .pointer (some ⟨p, 0, none⟩)] w fun e w' => e = .returned (.bool (decide (x.1 = t))) ∧ Below w.heap.size w w' := by
  have hpl : p < w.heap.size := World.block_lt_of_cell? w _ hp
  by_cases h : x.1 = t
  · have HH : Hid (decide (x.1 = t) = true) := decide_eq_true h
    have q : (x.1.toList == t.toList) = true := by rw [h]; exact raw_yes t
    clear h
    go_enter Try.func81, Try.ntmps81
    go_wp2
    go_ret
    exact ⟨ret_bool HH.out.symm, (Below.refl _ _).alloc (Nat.le_refl _) _⟩
  · have HH : Hid (decide (x.1 = t) = false) := decide_eq_false h
    have q : (x.1.toList == t.toList) = false := raw_no h
    clear h
    go_enter Try.func81, Try.ntmps81
    go_wp2
    go_ret
    exact ⟨ret_bool HH.out.symm, (Below.refl _ _).alloc (Nat.le_refl _) _⟩

set_option maxHeartbeats 400000 in
theorem leaveIdx_any (A : Option Addr) (n c : Nat) (vs : List (ByteArray × Int)) (t : ByteArray) (p : Nat) (w : World) (hv : Ents w A n vs) (hn : n ≤ 140737488355328) (hp : w.cell? ⟨p, 0, none⟩ = some (.string t)) :
    Calls Try.prog 98 #[.slice A n c, .func (.func 81) #[] #[.pointer (some ⟨p, 0, none⟩)]] w fun e w' => ∃ r : Int, e = .returned (.int .i64 r) ∧ IdxIs (fun x => decide (x.1 = t)) vs r ∧ Below w.heap.size w w' := by
  have hpl : p < w.heap.size := World.block_lt_of_cell? w _ hp
  go_enter Try.func98, Try.ntmps98
  go_wp2
  go_loopw [8] (fun i wr => ∃ k : Nat, k ≤ n ∧ i = .int .i64 k ∧ (∀ j x, j < k → vs[j]? = some x → decide (x.1 = t) = false) ∧ Below w.heap.size w wr) (fun i _ => n - (intOf i).toNat)
  case atStart => exact ⟨0, Nat.zero_le _, rfl, fun j x h => absurd h (Nat.not_lt_zero _), Below.refl _ _⟩
  case round =>
    obtain ⟨k, hk, rfl, hno, hb⟩ := hrel
    have HN : Hid (∀ j x, j < k → vs[j]? = some x → decide (x.1 = t) = false) := hno
    clear hno
    have hsz := hb.size
    by_cases hlt : k < n
    · have hvr := hv.below (Nat.le_refl _) hb
      have hpr : wr.cell? ⟨p, 0, none⟩ = some (.string t) := by rw [hb.cell (p := ⟨p, 0, none⟩) hpl]; exact hp
      obtain ⟨g, o, x, rfl, _, hvk, c0, c1⟩ := Ents.at hvr hlt
      have HX : Hid (vs[k]? = some x) := hvk
      clear hvk hvr
      cases hd : decide (x.1 = t)
      · go_wp2_with (go_at_call 81; refine (leave1_any x t p _ hpr).mono ?_; rintro e w1 ⟨rfl, hb1⟩; rw [hd])
        go_roundw
        case rel => exact ⟨k + 1, by omega, by go_num, fun j y hj hy => by
          rcases Nat.lt_or_ge j k with h1 | h1
          · exact HN.out j y h1 hy
          · obtain rfl : j = k := by omega
            rw [HX.out] at hy; cases hy; exact hd, hb.trans (hb1.mono hsz)⟩
        case measure => simp [intOf]; omega
      · go_wp2_with (go_at_call 81; refine (leave1_any x t p _ hpr).mono ?_; rintro e w1 ⟨rfl, hb1⟩; rw [hd])
        go_ret
        exact ⟨k, rfl, .inr ⟨k, rfl, by rw [← hv.1]; exact hlt, HN.out, fun y hy => by rw [HX.out] at hy; cases hy; exact hd⟩, hb.trans (hb1.mono hsz)⟩
    · have HL : Hid (vs.length ≤ k) := by show _ ≤ _; rw [← hv.1]; omega
      go_wp2
      go_ret
      exact ⟨-1, rfl, idx_end HL.out HN.out, hb⟩

theorem drop1_any (x : NV) (t : Int) (p : Nat) (w : World) (hp : w.cell? ⟨p, 0, none⟩ = some (.int .i64 t)) :
    Calls Try.prog 83 #[x.val, .pointer (some ⟨p, 0, none⟩)] w fun e w' => e = .returned (.bool (decide (x.fid = t))) ∧ Below w.heap.size w w' := by
  have hpl : p < w.heap.size := World.block_lt_of_cell? w _ hp
  by_cases h : x.fid = t
  · have HH : Hid (decide (x.fid = t) = true) := decide_eq_true h
    have q : (x.fid == t) = true := by simp [h]
    clear h
    go_enter Try.func83, Try.ntmps83
    go_wp2
    go_ret
    exact ⟨ret_bool HH.out.symm, (Below.refl _ _).alloc (Nat.le_refl _) _⟩
  · have HH : Hid (decide (x.fid = t) = false) := decide_eq_false h
    have q : (x.fid == t) = false := by simp [h]
    clear h
    go_enter Try.func83, Try.ntmps83
    go_wp2
    go_ret
    exact ⟨ret_bool HH.out.symm, (Below.refl _ _).alloc (Nat.le_refl _) _⟩

set_option maxHeartbeats 400000 in
theorem dropIdx_any (A : Option Addr) (n c : Nat) (vs : List NV) (t : Int) (p : Nat) (w : World) (hv : Nodes w A n vs) (hn : n ≤ 140737488355328) (hp : w.cell? ⟨p, 0, none⟩ = some (.int .i64 t)) :
    Calls Try.prog 99 #[.slice A n c, .func (.func 83) #[] #[.pointer (some ⟨p, 0, none⟩)]] w fun e w' => ∃ r : Int, e = .returned (.int .i64 r) ∧ IdxIs (fun x => decide (x.fid = t)) vs r ∧ Below w.heap.size w w' := by
  have hpl : p < w.heap.size := World.block_lt_of_cell? w _ hp
  go_enter Try.func99, Try.ntmps99
  go_wp2
  go_loopw [8] (fun i wr => ∃ k : Nat, k ≤ n ∧ i = .int .i64 k ∧ (∀ j x, j < k → vs[j]? = some x → decide (x.fid = t) = false) ∧ Below w.heap.size w wr) (fun i _ => n - (intOf i).toNat)
  case atStart => exact ⟨0, Nat.zero_le _, rfl, fun j x h => absurd h (Nat.not_lt_zero _), Below.refl _ _⟩
  case round =>
    obtain ⟨k, hk, rfl, hno, hb⟩ := hrel
    have HN : Hid (∀ j x, j < k → vs[j]? = some x → decide (x.fid = t) = false) := hno
    clear hno
    have hsz := hb.size
    by_cases hlt : k < n
    · have hvr := hv.below (Nat.le_refl _) hb
      have hpr : wr.cell? ⟨p, 0, none⟩ = some (.int .i64 t) := by rw [hb.cell (p := ⟨p, 0, none⟩) hpl]; exact hp
      obtain ⟨g, o, x, rfl, _, hvk, c0, c1, c2, c3, c4⟩ := Nodes.at hvr hlt
      have HX : Hid (vs[k]? = some x) := hvk
      clear hvk hvr
      cases hd : decide (x.fid = t)
      · go_wp2_with (go_at_call 83; refine (drop1_any x t p _ hpr).mono ?_; rintro e w1 ⟨rfl, hb1⟩; rw [hd])
        go_roundw
        case rel => exact ⟨k + 1, by omega, by go_num, fun j y hj hy => by
          rcases Nat.lt_or_ge j k with h1 | h1
          · exact HN.out j y h1 hy
          · obtain rfl : j = k := by omega
            rw [HX.out] at hy; cases hy; exact hd, hb.trans (hb1.mono hsz)⟩
        case measure => simp [intOf]; omega
      · go_wp2_with (go_at_call 83; refine (drop1_any x t p _ hpr).mono ?_; rintro e w1 ⟨rfl, hb1⟩; rw [hd])
        go_ret
        exact ⟨k, rfl, .inr ⟨k, rfl, by rw [← hv.1]; exact hlt, HN.out, fun y hy => by rw [HX.out] at hy; cases hy; exact hd⟩, hb.trans (hb1.mono hsz)⟩
    · have HL : Hid (vs.length ≤ k) := by show _ ≤ _; rw [← hv.1]; omega
      go_wp2
      go_ret
      exact ⟨-1, rfl, idx_end HL.out HN.out, hb⟩
theorem own_some {w : World} {B : Nat} {e : TypeId} {k : Nat} {A : Option Addr} {n c : Nat} {xs : List Value} (h : w.ownsRow B e k (.slice A n c) n xs) (hn : 0 < n) : ∃ g, A = some ⟨g, 0, none⟩ ∧ B ≤ g ∧ g < w.heap.size := by
  rcases h.2 with ⟨_, h0⟩ | ⟨g, cap, cur, h', hb, hg, _⟩
  · omega
  · simp only [Value.slice.injEq, true_and] at h'
    exact ⟨g, h'.1, hb, lt_of_block hg⟩
theorem below_grown {w w' : World} (h : Below w.heap.size w w') (row : Option Nat) : w.grownBy w' row := ⟨h.os, h.tape, h.output, h.size, fun k hk _ => h.block k hk⟩
section
variable {α : Type} {cs : α → List Value} {k : Nat}
theorem fm_take (hk : ∀ v, (cs v).length = k) : ∀ (vs : List α) (i : Nat), (vs.flatMap cs).take (i * k) = (vs.take i).flatMap cs
  | [], i => by simp
  | v :: vs, 0 => by simp
  | v :: vs, i + 1 => by
    rw [List.take_succ_cons, List.flatMap_cons, List.flatMap_cons, ← fm_take hk vs i]
    have e1 : (i + 1) * k = (cs v).length + i * k := by rw [hk, Nat.add_mul]; omega
    rw [e1, List.take_length_add_append]
theorem fm_drop (hk : ∀ v, (cs v).length = k) : ∀ (vs : List α) (i : Nat), (vs.flatMap cs).drop (i * k) = (vs.drop i).flatMap cs
  | [], i => by simp
  | v :: vs, 0 => by simp
  | v :: vs, i + 1 => by
    rw [List.drop_succ_cons, List.flatMap_cons, ← fm_drop hk vs i]
    have e1 : (i + 1) * k = (cs v).length + i * k := by rw [hk, Nat.add_mul]; omega
    rw [e1, List.drop_length_add_append]

/-- what DeleteFunc has done so far: i are kept, of j that were looked at -/
def Del (cs : α → List Value) (k : Nat) (e : TypeId) (p : α → Bool) (w : World) (B g n c : Nat) (xs : List α) (i j : Nat) (wr : World) : Prop :=
  ∃ us : List α, us.length = n ∧ wr.ownsRow B e k (.slice (some ⟨g, 0, none⟩) n c) n (us.flatMap cs) ∧ us.take i = (xs.take j).filter (fun x => !p x) ∧ us.drop j = xs.drop j ∧ i < j ∧ j ≤ n ∧ w.grownBy wr (some g)
theorem del_start {e : TypeId} {p : α → Bool} {w w1 : World} {B g n c : Nat} {xs : List α} {i : Nat} (hn : n = xs.length) (ho : w.ownsRow B e k (.slice (some ⟨g, 0, none⟩) n c) n (xs.flatMap cs)) (hb : Below w.heap.size w w1)
    (hi : i < xs.length) (h1 : ∀ k x, k < i → xs[k]? = some x → p x = false) (h2 : ∀ x, xs[i]? = some x → p x = true) : Del cs k e p w B g n c xs i (i + 1) w1 := by
  refine ⟨xs, hn.symm, own_below ho hb (Nat.le_refl _), ?_, rfl, by omega, by omega, below_grown hb _⟩
  rw [take_step (List.getElem?_eq_getElem hi), List.filter_append]
  have e2 : [xs[i]].filter (fun x => !p x) = [] := by simp [h2 _ (List.getElem?_eq_getElem hi)]
  rw [e2, List.append_nil]
  symm
  rw [List.filter_eq_self]
  intro x hx
  obtain ⟨j, hj⟩ := List.getElem?_of_mem hx
  rw [List.getElem?_take] at hj
  split at hj
  · simp [h1 j x ‹_› hj]
  · cases hj
theorem del_at {xs : List α} {j : Nat} {us : List α} {x : α} (hl : us.drop j = xs.drop j) (hx : us[j]? = some x) : xs[j]? = some x := by
  have := congrArg (fun l => l[0]?) hl
  simp only [List.getElem?_drop, Nat.add_zero] at this
  rw [← this]; exact hx
theorem del_drop {e : TypeId} {p : α → Bool} {w wr w1 : World} {B g n c : Nat} {xs : List α} {i j : Nat} (h : Del cs k e p w B g n c xs i j wr) (hj : j < n) (hb : Below wr.heap.size wr w1) {x : α} (hx : xs[j]? = some x) (hp : p x = true) :
    Del cs k e p w B g n c xs i (j + 1) w1 := by
  obtain ⟨us, h1, h2, h3, h4, h5, h6, h7⟩ := h
  refine ⟨us, h1, own_below h2 hb (Nat.le_refl _), ?_, ?_, by omega, hj, grown_trans h7 (below_grown hb _)⟩
  · rw [take_step hx, List.filter_append, h3]; simp [hp]
  · rw [← List.drop_drop, ← List.drop_drop, h4]
theorem del_keep {e : TypeId} {p : α → Bool} {w wr w1 w2 : World} {B g n c : Nat} {xs : List α} {i j : Nat} {us : List α} {x : α} (h1 : us.length = n) (h3 : us.take i = (xs.take j).filter (fun x => !p x)) (h4 : us.drop j = xs.drop j) (h5 : i < j) (hj : j < n)
    (h7 : w.grownBy wr (some g)) (hb : Below wr.heap.size wr w1) (hx : xs[j]? = some x) (hp : p x = false) (ho : w2.ownsRow B e k (.slice (some ⟨g, 0, none⟩) n c) n ((us.set i x).flatMap cs)) (hg : w1.grownBy w2 (some g)) :
    Del cs k e p w B g n c xs (i + 1) (j + 1) w2 := by
  refine ⟨us.set i x, by rw [List.length_set]; exact h1, ho, ?_, ?_, by omega, hj, grown_trans (grown_trans h7 (below_grown hb _)) hg⟩
  · rw [take_step hx, List.filter_append, ← h3]
    have e1 : [x].filter (fun x => !p x) = [x] := by simp [hp]
    rw [e1, List.take_add_one, List.take_set_of_le (by omega), List.getElem?_set_self (by omega)]
    rfl
  · rw [List.drop_set_of_lt (by omega), ← List.drop_drop, ← List.drop_drop, h4]
theorem del_end {p : α → Bool} {n : Nat} {xs us : List α} {i : Nat} (hn : n = xs.length) (h3 : us.take i = (xs.take n).filter (fun x => !p x)) : us.take i = xs.filter (fun x => !p x) := by
  rw [h3, hn, List.take_length]
end

/-- an entry is stored -/
abbrev put2 (w : World) (s o : Nat) (v : ByteArray × Int) : World := (w.setCell ⟨s, o, none⟩ (.string v.1)).setCell ⟨s, o + 1, none⟩ (.int .i64 v.2)
theorem set2 (L : List Value) (o : Nat) (a b : Value) (h : o + 2 ≤ L.length) : (L.set o a).set (o + 1) b = L.take o ++ ([a, b] ++ L.drop (o + 2)) := by
  apply List.ext_getElem?
  intro j
  by_cases h1 : j < o
  · rw [List.getElem?_append_left (by simp; omega), List.getElem?_take, if_pos h1, List.getElem?_set_ne (by omega), List.getElem?_set_ne (by omega)]
  · rw [List.getElem?_append_right (by simp; omega)]
    have e1 : (L.take o).length = o := by simp; omega
    rw [e1]
    by_cases h2 : j < o + 2
    · rw [List.getElem?_append_left (by simp; omega)]
      obtain ⟨i, rfl⟩ : ∃ i, j = o + i := ⟨j - o, by omega⟩
      have hi : i = 0 ∨ i = 1 := by omega
      have e2 : o + i - o = i := by omega
      rw [e2]
      rcases hi with rfl | rfl <;> simp [List.getElem?_set] <;> omega
    · rw [List.getElem?_append_right (by simp; omega), List.getElem?_drop, List.getElem?_set_ne (by omega), List.getElem?_set_ne (by omega)]
      congr 1
      simp; omega
theorem own_put2 {w : World} {B g n c : Nat} {us : List (ByteArray × Int)} (h : w.ownsRow B 68 2 (.slice (some ⟨g, 0, none⟩) n c) n (us.flatMap entCells)) (j : Nat) (hj : j < n) (v : ByteArray × Int) :
    (put2 w g (j * 2) v).ownsRow B 68 2 (.slice (some ⟨g, 0, none⟩) n c) n ((us.set j v).flatMap entCells) ∧ w.grownBy (put2 w g (j * 2) v) (some g) := by
  have hl := own_len ent_len (by decide) h
  have s0 := h.stored (j * 2) (.string v.1)
  have s1 := s0.1.stored (j * 2 + 1) (.int .i64 v.2)
  refine ⟨?_, grown_trans s0.2 s1.2⟩
  rw [fm_set ent_len us j v (by omega)]
  have := s1.1
  rw [set2 _ _ _ _ (by rw [fm_len ent_len]; omega)] at this
  exact this

theorem zc58 : (Value.cells (.agg #[.string ByteArray.empty, .int .i64 0])).size = 2 := rfl
theorem zc26 : (Value.cells (.agg #[.int .i64 0, .bool false, .slice none 0 0, .slice none 0 0, .int .i64 0])).size = 5 := rfl
theorem zo58 : ∀ u ∈ (Value.cells (.agg #[.string ByteArray.empty, .int .i64 0])).toList, u.oneCell' = true := by
  intro u hu; simp [Value.cells] at hu; rcases hu with rfl | rfl <;> rfl
theorem zo26 : ∀ u ∈ (Value.cells (.agg #[.int .i64 0, .bool false, .slice none 0 0, .slice none 0 0, .int .i64 0])).toList, u.oneCell' = true := by
  intro u hu; simp [Value.cells] at hu; rcases hu with rfl | rfl | rfl | rfl | rfl <;> rfl
/-- an entry in a block of its own -/
def Box2 (w : World) (s : Nat) (v : ByteArray × Int) : Prop := w.heap[s]? = some (.cells #[.string v.1, .int .i64 v.2] 68 (0, 0))
theorem Box2.facts {w : World} {s : Nat} {v : ByteArray × Int} (h : Box2 w s v) : w.cell? ⟨s, 0, none⟩ = some (.string v.1) ∧ w.cell? ⟨s, 1, none⟩ = some (.int .i64 v.2) ∧ (∀ o, w.frozen? ⟨s, o, none⟩ = false) ∧ s < w.heap.size := by
  unfold Box2 at h
  refine ⟨by simp [World.cell?, h], by simp [World.cell?, h], fun o => by simp [World.frozen?, h], lt_of_block h⟩
theorem Box2.below {w w' : World} {s B : Nat} {v : ByteArray × Int} (h : Box2 w s v) (hb : Below B w w') (hs : s < B) : Box2 w' s v := by
  unfold Box2; rw [hb.block s hs]; exact h
theorem Box2.new (w : World) (v : ByteArray × Int) : Box2 (w.alloc (.cells #[.string v.1, .int .i64 v.2] 68)) w.heap.size v := heap_alloc_new w _
abbrev Box5 := Box
theorem Box5.new (w : World) (v : NV) : Box5 (w.alloc (.cells #[.int .i64 v.fid, .bool v.dir, .slice v.dA v.dn v.dc, .slice v.eA v.en v.ec, .int .i64 v.ver] 40)) w.heap.size v := heap_alloc_new w _

set_option maxHeartbeats 1000000 in
theorem leaveDel_any (A : Option Addr) (B n c : Nat) (xs : List (ByteArray × Int)) (t : ByteArray) (p : Nat) (w : World) (hown : w.ownsRow B 68 2 (.slice A n c) n (xs.flatMap entCells)) (hn : n ≤ 140737488355328) (hp : w.cell? ⟨p, 0, none⟩ = some (.string t)) (hpg : (Value.slice A n c).ownBlock ≠ some p) :
    Calls Try.prog 80 #[.slice A n c, .func (.func 81) #[] #[.pointer (some ⟨p, 0, none⟩)]] w fun e w' => ∃ m : Nat, e = .returned (.slice A m c) ∧ m ≤ n ∧ w'.ownsRow B 68 2 (.slice A m c) m ((xs.filter fun x => !decide (x.1 = t)).flatMap entCells) ∧ w.grownBy w' (Value.slice A n c).ownBlock := by
  obtain ⟨i0, hi, hz, hsz, hbz⟩ := info_parts info58
  have hpl : p < w.heap.size := World.block_lt_of_cell? w _ hp
  have hln : n = xs.length := own_len ent_len (by decide) hown
  have HLN : Hid (n = xs.length) := hln
  have hrow : Ents w A n xs := Row.ofOwn ent_len (by decide) hown
  have HO : Hid (w.ownsRow B 68 2 (.slice A n c) n (xs.flatMap entCells)) := hown
  clear hln hown
  go_enter Try.func80, Try.ntmps80
  go_wp2_with (fail)
  refine (leaveIdx_any A n c xs t p _ hrow hn hp).mono ?_
  rintro e w1 ⟨r, rfl, hidx, hb1⟩
  rcases hidx with ⟨rfl, hno⟩ | ⟨i, rfl, hil, hno, hyes⟩
  · have HN : Hid (∀ x ∈ xs, decide (x.1 = t) = false) := hno
    clear hno
    go_wp2
    go_ret
    exact ⟨n, rfl, Nat.le_refl _, by rw [List.filter_eq_self.2 (fun x hx => by rw [HN.out x hx]; rfl)]; exact own_below HO.out hb1 (Nat.le_refl _), below_grown hb1 _⟩
  · obtain ⟨g, hgc, hBg, hgl⟩ := own_some HO.out (by have := HLN.out; omega)
    cases hgc
    have hpg' : p ≠ g := fun e => hpg (by rw [e]; rfl)
    have HD : Hid (Del entCells 2 68 (fun x => decide (x.1 = t)) w B g n c xs i (i + 1) w1) := del_start HLN.out HO.out hb1 hil hno hyes
    have hpw1 : w1.cell? ⟨p, 0, none⟩ = some (.string t) := by rw [hb1.cell (p := ⟨p, 0, none⟩) hpl]; exact hp
    have hin : i < n := by have := HLN.out; omega
    clear hno hyes hil hpg
    have hi1 : ((i : Int) == -1) = false := by rw [beq_eq_false_iff_ne]; omega
    go_wp2
    go_loopw [5, 6] (fun vi vj wr => ∃ a b : Nat, vi = .int .i64 a ∧ vj = .int .i64 b ∧ Del entCells 2 68 (fun x => decide (x.1 = t)) w B g n c xs a b wr) (fun _ j _ => n - (intOf j).toNat)
    case atStart => exact ⟨i, i + 1, rfl, by go_num, HD.out⟩
    case round =>
      obtain ⟨a, b, rfl, rfl, hd⟩ := hrel
      have HDR : Hid (Del entCells 2 68 (fun x => decide (x.1 = t)) w B g n c xs a b wr) := hd
      obtain ⟨us, u1, u2, u3, u4, u5, u6, u7⟩ := hd
      have HU : Hid (us.length = n ∧ us.take a = (xs.take b).filter (fun x => !decide (x.1 = t)) ∧ us.drop b = xs.drop b ∧ w.grownBy wr (some g)) := ⟨u1, u3, u4, u7⟩
      have HUO : Hid (wr.ownsRow B 68 2 (.slice (some ⟨g, 0, none⟩) n c) n (us.flatMap entCells)) := u2
      have hpr : wr.cell? ⟨p, 0, none⟩ = some (.string t) := u7.cell hp (by simpa using hpg')
      clear u1 u3 u4
      have hnc : n ≤ c := by obtain ⟨A1, c1, e1, e2, _⟩ := own_form u2; cases e1; exact e2
      have hcm : c ≤ maxLen := by obtain ⟨A1, c1, e1, _, e2⟩ := own_form u2; cases e1; exact e2
      unfold maxLen at hcm
      by_cases hlt : b < n
      · obtain ⟨x, hx, c0, c1, hfz, hgz⟩ := own_at2 u2 hlt
        have HX : Hid (us[b]? = some x ∧ xs[b]? = some x) := ⟨hx, del_at HU.out.2.2.1 hx⟩
        clear hx u2 u7
        have hwa : Below wr.heap.size wr (wr.alloc (.cells #[.string x.1, .int .i64 x.2] 68)) := (Below.refl _ _).alloc (Nat.le_refl _) _
        have hpa : (wr.alloc (.cells #[.string x.1, .int .i64 x.2] 68)).cell? ⟨p, 0, none⟩ = some (.string t) := by rw [hwa.cell (p := ⟨p, 0, none⟩) (World.block_lt_of_cell? wr _ hpr)]; exact hpr
        cases hd : decide (x.1 = t)
        · go_wp2_with (go_at_call 81; refine (leave1_any x t p _ hpa).mono ?_; rintro e w2 ⟨rfl, hb2⟩; rw [hd]; have hbx : Box2 w2 wr.heap.size x := (Box2.new wr x).below hb2 (by simp); have HB2 : Hid (Below wr.heap.size wr w2) := hwa.trans (hb2.mono (by simp)); obtain ⟨y, _, d0, d1, dfz, dgz⟩ := own_at2 (own_below HUO.out HB2.out (Nat.le_refl _)) (show a < n by omega); obtain ⟨b0, b1, bfz, bgz⟩ := hbx.facts)
          have HP := own_put2 (own_below HUO.out HB2.out (Nat.le_refl _)) a (show a < n by omega) x
          go_roundw
          case rel => exact ⟨a + 1, b + 1, by go_num, by go_num, del_keep HU.out.1 HU.out.2.1 HU.out.2.2.1 u5 hlt HU.out.2.2.2 HB2.out HX.out.2 hd HP.1 HP.2⟩
          case measure => simp [intOf]; omega
        · go_wp2_with (go_at_call 81; refine (leave1_any x t p _ hpa).mono ?_; rintro e w2 ⟨rfl, hb2⟩; rw [hd])
          go_roundw
          case rel => exact ⟨a, b + 1, rfl, by go_num, del_drop HDR.out hlt (hwa.trans (hb2.mono (by simp))) HX.out.2 hd⟩
          case measure => simp [intOf]; omega
      · clear u2 u7
        have hac : a < c := by omega
        go_wp2_with (refine wpList_clear_own _ (by rfl) (.tmp 38) 38 (by rfl) B 68 i0 (.agg #[.string ByteArray.empty, .int .i64 0]) Try.underlying38 hi hz zc58 (by decide) zo58 g n c _ HUO.out (a * 2) (n - a) (c - a) a (by rfl) rfl (by omega) (by omega) ?_; intro w2 hown2 hg2)
        go_ret
        have hbn : b = n := by omega
        subst hbn
        refine ⟨a, rfl, by omega, ?_, grown_trans HU.out.2.2.2 hg2⟩
        rw [fm_take ent_len, del_end HLN.out HU.out.2.1] at hown2
        exact hown2

set_option maxHeartbeats 1000000 in
theorem dropDel_any (A : Option Addr) (B n c : Nat) (xs : List NV) (t : Int) (p : Nat) (w : World) (hown : w.ownsRow B 40 5 (.slice A n c) n (xs.flatMap NV.cells)) (hn : n ≤ 140737488355328) (hp : w.cell? ⟨p, 0, none⟩ = some (.int .i64 t)) (hpg : (Value.slice A n c).ownBlock ≠ some p) :
    Calls Try.prog 82 #[.slice A n c, .func (.func 83) #[] #[.pointer (some ⟨p, 0, none⟩)]] w fun e w' => ∃ m : Nat, e = .returned (.slice A m c) ∧ m ≤ n ∧ w'.ownsRow B 40 5 (.slice A m c) m ((xs.filter fun x => !decide (x.fid = t)).flatMap NV.cells) ∧ w.grownBy w' (Value.slice A n c).ownBlock := by
  obtain ⟨i0, hi, hz, hsz, hbz⟩ := info_parts info26
  have hpl : p < w.heap.size := World.block_lt_of_cell? w _ hp
  have hln : n = xs.length := own_len nod_len (by decide) hown
  have HLN : Hid (n = xs.length) := hln
  have hrow : Nodes w A n xs := Row.ofOwn nod_len (by decide) hown
  have HO : Hid (w.ownsRow B 40 5 (.slice A n c) n (xs.flatMap NV.cells)) := hown
  clear hln hown
  go_enter Try.func82, Try.ntmps82
  go_wp2_with (fail)
  refine (dropIdx_any A n c xs t p _ hrow hn hp).mono ?_
  rintro e w1 ⟨r, rfl, hidx, hb1⟩
  rcases hidx with ⟨rfl, hno⟩ | ⟨i, rfl, hil, hno, hyes⟩
  · have HN : Hid (∀ x ∈ xs, decide (x.fid = t) = false) := hno
    clear hno
    go_wp2
    go_ret
    exact ⟨n, rfl, Nat.le_refl _, by rw [List.filter_eq_self.2 (fun x hx => by rw [HN.out x hx]; rfl)]; exact own_below HO.out hb1 (Nat.le_refl _), below_grown hb1 _⟩
  · obtain ⟨g, hgc, hBg, hgl⟩ := own_some HO.out (by have := HLN.out; omega)
    cases hgc
    have hpg' : p ≠ g := fun e => hpg (by rw [e]; rfl)
    have HD : Hid (Del NV.cells 5 40 (fun x => decide (x.fid = t)) w B g n c xs i (i + 1) w1) := del_start HLN.out HO.out hb1 hil hno hyes
    have hpw1 : w1.cell? ⟨p, 0, none⟩ = some (.int .i64 t) := by rw [hb1.cell (p := ⟨p, 0, none⟩) hpl]; exact hp
    have hin : i < n := by have := HLN.out; omega
    clear hno hyes hil hpg
    have hi1 : ((i : Int) == -1) = false := by rw [beq_eq_false_iff_ne]; omega
    go_wp2
    go_loopw [5, 6] (fun vi vj wr => ∃ a b : Nat, vi = .int .i64 a ∧ vj = .int .i64 b ∧ Del NV.cells 5 40 (fun x => decide (x.fid = t)) w B g n c xs a b wr) (fun _ j _ => n - (intOf j).toNat)
    case atStart => exact ⟨i, i + 1, rfl, by go_num, HD.out⟩
    case round =>
      obtain ⟨a, b, rfl, rfl, hd⟩ := hrel
      have HDR : Hid (Del NV.cells 5 40 (fun x => decide (x.fid = t)) w B g n c xs a b wr) := hd
      obtain ⟨us, u1, u2, u3, u4, u5, u6, u7⟩ := hd
      have HU : Hid (us.length = n ∧ us.take a = (xs.take b).filter (fun x => !decide (x.fid = t)) ∧ us.drop b = xs.drop b ∧ w.grownBy wr (some g)) := ⟨u1, u3, u4, u7⟩
      have HUO : Hid (wr.ownsRow B 40 5 (.slice (some ⟨g, 0, none⟩) n c) n (us.flatMap NV.cells)) := u2
      have hpr : wr.cell? ⟨p, 0, none⟩ = some (.int .i64 t) := u7.cell hp (by simpa using hpg')
      clear u1 u3 u4
      have hnc : n ≤ c := by obtain ⟨A1, c1, e1, e2, _⟩ := own_form u2; cases e1; exact e2
      have hcm : c ≤ maxLen := by obtain ⟨A1, c1, e1, _, e2⟩ := own_form u2; cases e1; exact e2
      unfold maxLen at hcm
      by_cases hlt : b < n
      · obtain ⟨x, hx, c0, c1, c2, c3, c4, hfz, hgz⟩ := own_at5 u2 hlt
        have HX : Hid (us[b]? = some x ∧ xs[b]? = some x) := ⟨hx, del_at HU.out.2.2.1 hx⟩
        clear hx u2 u7
        have hwa : Below wr.heap.size wr (wr.alloc (.cells #[.int .i64 x.fid, .bool x.dir, .slice x.dA x.dn x.dc, .slice x.eA x.en x.ec, .int .i64 x.ver] 40)) := (Below.refl _ _).alloc (Nat.le_refl _) _
        have hpa : (wr.alloc (.cells #[.int .i64 x.fid, .bool x.dir, .slice x.dA x.dn x.dc, .slice x.eA x.en x.ec, .int .i64 x.ver] 40)).cell? ⟨p, 0, none⟩ = some (.int .i64 t) := by rw [hwa.cell (p := ⟨p, 0, none⟩) (World.block_lt_of_cell? wr _ hpr)]; exact hpr
        cases hd : decide (x.fid = t)
        · go_wp2_with (go_at_call 83; refine (drop1_any x t p _ hpa).mono ?_; rintro e w2 ⟨rfl, hb2⟩; rw [hd]; have hbx : Box5 w2 wr.heap.size x := (Box5.new wr x).below hb2 (by simp); have HB2 : Hid (Below wr.heap.size wr w2) := hwa.trans (hb2.mono (by simp)); obtain ⟨y, _, d0, d1, d2, d3, d4, dfz, dgz⟩ := own_at5 (own_below HUO.out HB2.out (Nat.le_refl _)) (show a < n by omega); obtain ⟨b0, b1, b2, b3, b4, bfz, bgz⟩ := hbx.facts)
          have HP := own_put5 (own_below HUO.out HB2.out (Nat.le_refl _)) a (show a < n by omega) x
          go_roundw
          case rel => exact ⟨a + 1, b + 1, by go_num, by go_num, del_keep HU.out.1 HU.out.2.1 HU.out.2.2.1 u5 hlt HU.out.2.2.2 HB2.out HX.out.2 hd HP.1 HP.2⟩
          case measure => simp [intOf]; omega
        · go_wp2_with (go_at_call 83; refine (drop1_any x t p _ hpa).mono ?_; rintro e w2 ⟨rfl, hb2⟩; rw [hd])
          go_roundw
          case rel => exact ⟨a, b + 1, rfl, by go_num, del_drop HDR.out hlt (hwa.trans (hb2.mono (by simp))) HX.out.2 hd⟩
          case measure => simp [intOf]; omega
      · clear u2 u7
        have hac : a < c := by omega
        go_wp2_with (refine wpList_clear_own _ (by rfl) (.tmp 38) 22 (by rfl) B 40 i0 (.agg #[.int .i64 0, .bool false, .slice none 0 0, .slice none 0 0, .int .i64 0]) Try.underlying22 hi hz zc26 (by decide) zo26 g n c _ HUO.out (a * 5) (n - a) (c - a) a (by rfl) rfl (by omega) (by omega) ?_; intro w2 hown2 hg2)
        go_ret
        have hbn : b = n := by omega
        subst hbn
        refine ⟨a, rfl, by omega, ?_, grown_trans HU.out.2.2.2 hg2⟩
        rw [fm_take nod_len, del_end HLN.out HU.out.2.1] at hown2
        exact hown2
end Go.Proofs.Ytlegjdlmcphhlab
