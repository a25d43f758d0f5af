/- TEXTS LAID TOGETHER: Read, Plain, Laws, Del, Leave -/
import Derived.Test.YtjpdoblmdchmkadPart1
import Derived.Laws.StructEq
import Derived.Lib.AppendZerosOnto
import Derived.Lib.Overlaps
import Derived.Deep.RegionLaw
/-
  WHAT ONLY READS: Find, Entry, bytes.Equal, slices.Equal, Same, step, Walk; and the reference's SameNode, Same, Rises.
-/
namespace Go.Proofs.Ytjpdoblmdchmkad
open Go.RowKit

/-- a list of bytes as a text -/
def txt (l : List UInt8) : ByteArray := ⟨l.toArray⟩
theorem txt_inj {a b : List UInt8} : txt a = txt b ↔ a = b := by
  constructor
  · intro h
    have := congrArg (fun x : ByteArray => x.data.toList) h
    simpa [txt] using this
  · rintro rfl; rfl
theorem conv_byts {w : World} {A : Option Addr} {n c : Nat} {l : List UInt8} (h : Byts w A n l) : (convert 34 9 (.slice A n c)).run Try.prog w = .ok (.string (txt l)) w := by
  cases A with
  | none =>
    have hl : l = [] := by
      rcases h.2 with h' | ⟨b, o, h', _⟩
      · exact h'
      · cases h'
    subst hl
    rw [run_convert_bytes_string w 34 9 5 none n c Try.underlying34 Try.underlying5 Try.underlying9]
    rfl
  | some a =>
    rw [h.1]
    exact run_convert_bytes_back w 34 9 5 a c l Try.underlying34 Try.underlying5 Try.underlying9 (fun j hj => by
      rcases h.2 with h' | ⟨b, o, h', _, hc⟩
      · subst h'; simp at hj
      · cases h'
        have := hc j l[j] (List.getElem?_eq_getElem hj) 0 _ rfl
        rw [show (⟨b, o, none⟩ : Addr).add j = ⟨b, o + j, none⟩ from by simp [Addr.add]]
        simpa using this)

theorem neqEnt (x y : ByteArray × Int) (w : World) : (binOp .neq 81 (.agg #[.string x.1, .int .i64 x.2]) (.agg #[.string y.1, .int .i64 y.2])).run Try.prog w = .ok (.bool (!decide (x = y))) w := by
  have u9 := Try.underlying9
  have u3 := Try.underlying3
  have a9 := Try.isAgg9
  have a3 := Try.isAgg3
  have z9 := Try.sizeOf9
  have z3 := Try.sizeOf3
  have hS : Try.prog.underlying 81 = some (.struct (Try.prog.fieldsOf 81)) := by kernel_rfl
  have hp : Try.prog.stoodInHeld 81 = false := by kernel_rfl
  rw [run_neq_struct, show (10000 : Nat) = 9999 + 1 from rfl, run_equalIn_agg w 9999 81 _ _ hS hp]
  simp only [Program.fieldsOf, Try.underlying81]
  go_simp
  obtain ⟨x1, x2⟩ := x
  obtain ⟨y1, y2⟩ := y
  by_cases h1 : x1 = y1 <;> by_cases h2 : x2 = y2 <;> simp [h1, h2]
  exact fun e => h1 (M.toList_inj e)
theorem guardEnt (x y : Operand) (xs ys : Array Value) (w : World) : (eqGuard .neq 81 x y (.agg xs) (.agg ys)).run Try.prog w = .ok () w := run_eqGuard_agg w .neq 81 x y xs ys (by kernel_rfl)

def nd0 : M.Nd := ⟨0, false, [], [], 0⟩
theorem own0 (w : World) (B : Nat) : OwnN w B NV.zero nd0 := ⟨rfl, rfl, rfl, World.ownsRow_nil _ _ _ _, World.ownsRow_nil _ _ _ _⟩
theorem fids {w : World} {A : Option Addr} {n : Nat} {vs : List NV} {xs : List M.Nd} (h : Tree w A n vs xs) : vs.map (·.fid) = xs.map (·.fid) := h.2.map _ _ fun _ _ h => h.1
theorem find_hit {xs : List M.Nd} {t : Int} {i : Nat} {x : M.Nd} (hr : M.RsN xs) (hm : M.Mid M.ltI (xs.map (·.fid)) t i i) (h : (xs.map (·.fid))[i]? = some t) (hx : xs[i]? = some x) : M.find xs t = some x := by
  unfold M.find; rw [M.mid_find (·.fid) xs t M.ordI hr hm h]; exact hx
theorem find_miss {xs : List M.Nd} {t : Int} {i : Nat} (hr : M.RsN xs) (hm : M.Mid M.ltI (xs.map (·.fid)) t i i) (h : (xs.map (·.fid))[i]? ≠ some t) : M.find xs t = none := by unfold M.find; exact M.mid_none_find (·.fid) xs t M.ordI hr hm h

/-- what a search for a fid answers: of a list that rises, what is there -/
def Found (xs : List M.Nd) (t : Int) (x : M.Nd) (b : Bool) : Prop := (b = true → x ∈ xs ∧ x.fid = t) ∧ (b = false → x = nd0) ∧ (M.RsN xs → b = (M.find xs t).isSome ∧ x = (M.find xs t).getD nd0)
set_option maxHeartbeats 400000 in
theorem find_gen (A : Option Addr) (n c : Nat) (vs : List NV) (xs : List M.Nd) (t : Int) (w : World) (ht : Tree w A n vs xs) (hn : n * 72 ≤ 140737488355328) (hs : ∀ x ∈ xs, Small x) :
    Calls Try.prog 86 #[.slice A n c, .int .i64 t] w fun e w' => ∃ (v : NV) (x : M.Nd) (b : Bool), e = .returned (.tuple #[v.val, .bool b]) ∧ OwnN w' w.heap.size v x ∧ Found xs t x b ∧ Below w.heap.size w w' := by
  have hwa : ∀ W, W = w.alloc (.cells #[.int .i64 0, .bool false, .slice none 0 0, .slice none 0 0, .int .i64 0] 41) → Below w.heap.size w W ∧ Box W w.heap.size NV.zero ∧ W.heap.size = w.heap.size + 1 := by
    rintro W rfl
    exact ⟨(Below.refl _ _).alloc (Nat.le_refl _) _, Box.new0 w, by simp⟩
  have HW : Hid _ := hwa
  clear hwa
  have HR : Hid (∀ x ∈ xs, Small x) := hs
  clear hs
  go_enter Try.func86, Try.ntmps86
  go_wp2_with (fail)
  obtain ⟨q1, q2, q3⟩ := HW.out _ rfl
  have ht1 := ht.below (Nat.le_refl _) q1
  refine (place_any A n c vs t _ ht1.1 (by omega)).mono ?_
  rintro e w1 ⟨i, b, rfl, hin, hb, hm, hb1⟩
  have hz1 := hb1.size
  rw [q3] at hz1
  have hbw : Below w.heap.size w w1 := q1.trans (hb1.mono (by omega))
  have hx1 := q2.below hb1 (by omega)
  obtain ⟨z0, z1, z2, z3, z4, zf, zz⟩ := hx1.facts
  have HX1 : Hid (Box w1 w.heap.size NV.zero) := hx1
  have ht2 := ht1.below (Nat.le_refl _) hb1
  rw [fids ht] at hb hm
  have HM : Hid (M.Mid M.ltI (xs.map (·.fid)) t i i) := hm
  clear hm q1 q2 q3 ht1 hb1 hx1
  cases b
  · have HF : Hid (Found xs t nd0 false) := ⟨(by simp), (fun _ => rfl), fun hr => by rw [find_miss hr HM.out (of_decide_eq_false hb.symm)]; exact ⟨rfl, rfl⟩⟩
    clear hb
    go_wp2
    have hbr := put5_below hbw (s := w.heap.size) (Nat.le_refl _) 0 NV.zero
    exact bodyPost_ret (v := .tuple #[NV.zero.val, .bool false]) (by simp [results, Try.results86, go_sem, z0, z1, z2, z3, z4, NV.zero]) rfl ⟨NV.zero, nd0, false, rfl, own0 _ _, HF.out, hbr⟩
  · have hk := of_decide_eq_true hb.symm
    clear hb
    have hil : i < n := by
      rw [ht.1.1, ht.2.1]
      rcases Nat.lt_or_ge i (xs.map (·.fid)).length with h1 | h1
      · simpa using h1
      · rw [List.getElem?_eq_none h1] at hk; cases hk
    obtain ⟨g, o, v, rfl, hgl, hvk, c0, c1, c2, c3, c4⟩ := ht2.1.at hil
    obtain ⟨x, hx, hcx⟩ := ht2.2.at hvk
    have HF : Hid (Found xs t x true) := ⟨fun _ => ⟨List.mem_of_getElem? hx, by rw [M.at_key (f := fun x : M.Nd => x.fid) hx] at hk; exact Option.some.inj hk⟩, (by simp), fun hr => by rw [find_hit hr HM.out hk hx]; exact ⟨rfl, rfl⟩⟩
    have HC : Hid (Cont w1 v x ∧ Small x) := ⟨hcx, HR.out x (List.mem_of_getElem? hx)⟩
    clear hcx hx hvk hk
    go_wp2_with (go_at_call 74; refine (ownNode_any v x _ HC.out.1 HC.out.2).mono ?_; rintro e w2 ⟨v2, rfl, hon, hb2⟩; have HX2 : Hid (Box w2 w.heap.size NV.zero) := (HX1.out.below hb2 zz); clear z0 z1 z2 z3 z4 zf; obtain ⟨z0, z1, z2, z3, z4, zf, zz2⟩ := HX2.out.facts)
    have hbr := put5_below (hbw.trans (hb2.mono (by omega))) (s := w.heap.size) (Nat.le_refl _) 0 v2
    have hon2 : OwnN (put5 w2 w.heap.size 0 v2) w1.heap.size v2 x := ⟨hon.1, hon.2.1, hon.2.2.1, put5_own hon.2.2.2.1 zz _ _, put5_own hon.2.2.2.2 zz _ _⟩
    exact bodyPost_ret (v := .tuple #[v2.val, .bool true]) (by simp [results, Try.results86, go_sem, z0, z1, z2, z3, z4]) rfl ⟨v2, x, true, rfl, hon2.mono (by omega), HF.out, hbr⟩

theorem find_any (A : Option Addr) (n c : Nat) (vs : List NV) (xs : List M.Nd) (t : Int) (w : World) (ht : Tree w A n vs xs) (hr : M.RsN xs) (hn : n * 72 ≤ 140737488355328) (hs : ∀ x ∈ xs, Small x) :
    Calls Try.prog 86 #[.slice A n c, .int .i64 t] w fun e w' => ∃ v : NV, e = .returned (.tuple #[v.val, .bool (M.find xs t).isSome]) ∧ OwnN w' w.heap.size v ((M.find xs t).getD nd0) ∧ Below w.heap.size w w' := by
  refine (find_gen A n c vs xs t w ht hn hs).mono ?_
  rintro e w1 ⟨v, x, b, rfl, ho, hf, hb⟩
  obtain ⟨rfl, rfl⟩ := hf.2.2 hr
  exact ⟨v, rfl, ho, hb⟩

theorem look_hit {es : List (ByteArray × Int)} {t : ByteArray} {i : Nat} {x : ByteArray × Int} (hr : M.RsE es) (hm : M.Mid M.ltB (es.map (·.1)) t i i) (h : (es.map (·.1))[i]? = some t) (hx : es[i]? = some x) : M.look es t = some x := by
  unfold M.look; rw [M.mid_find (·.1) es t M.ordB hr hm h]; exact hx
theorem look_miss {es : List (ByteArray × Int)} {t : ByteArray} {i : Nat} (hr : M.RsE es) (hm : M.Mid M.ltB (es.map (·.1)) t i i) (h : (es.map (·.1))[i]? ≠ some t) : M.look es t = none := by unfold M.look; exact M.mid_none_find (·.1) es t M.ordB hr hm h

set_option maxHeartbeats 400000 in
theorem entry_any (v : NV) (x : M.Nd) (s : ByteArray) (w : World) (hc : Cont w v x) (hs : Small x) :
    Calls Try.prog 93 #[v.val, .string s] w fun e w' => ∃ (f : Int) (b : Bool), e = .returned (.tuple #[.int .i64 f, .bool b]) ∧ (M.RsE x.ents → f = ((M.look x.ents s).map (·.2)).getD 0 ∧ b = (M.look x.ents s).isSome) ∧ Below w.heap.size w w' := by
  have hwa : Below w.heap.size w (w.alloc (.cells #[.int .i64 v.fid, .bool v.dir, .slice v.dA v.dn v.dc, .slice v.eA v.en v.ec, .int .i64 v.ver] 41)) := (Below.refl _ _).alloc (Nat.le_refl _) _
  have hbx := Box.new w v
  have he : Ents w v.eA v.en x.ents := hc.2.2.2.2
  have hen := he.1
  have hs2 := hs.2
  rw [← hen] at hs2
  clear hen
  have HB : Hid (Box (w.alloc (.cells #[.int .i64 v.fid, .bool v.dir, .slice v.dA v.dn v.dc, .slice v.eA v.en v.ec, .int .i64 v.ver] 41)) w.heap.size v) := hbx
  clear hc hs hbx
  go_enter Try.func93, Try.ntmps93
  go_wp2_with (fail)
  refine (spot_any v.eA v.en v.ec x.ents s _ (he.below (Nat.le_refl _) hwa) (by omega)).mono ?_
  rintro e w1 ⟨i, b, rfl, hin, hb, hm, hb1⟩
  have hz1 := hb1.size
  have hbw : Below w.heap.size w w1 := hwa.trans (hb1.mono (by simp))
  have hx1 := HB.out.below hb1 (by simp)
  obtain ⟨z0, z1, z2, z3, z4, zf, zz⟩ := hx1.facts
  have he1 := he.below (Nat.le_refl _) hbw
  have HM : Hid (M.Mid M.ltB (x.ents.map (·.1)) s i i) := hm
  clear hm hb1 hx1 hz1 hwa
  cases b
  · have hk := of_decide_eq_false hb.symm
    have HK : Hid ((x.ents.map (·.1))[i]? ≠ some s) := hk
    clear hb hk
    go_wp2
    go_ret2
    exact ⟨0, false, rfl, fun hr => by rw [look_miss hr HM.out HK.out]; exact ⟨rfl, rfl⟩, hbw⟩
  · have hk := of_decide_eq_true hb.symm
    have HK : Hid ((x.ents.map (·.1))[i]? = some s) := hk
    have hil : i < v.en := by
      rw [he.1]
      rcases Nat.lt_or_ge i (x.ents.map (·.1)).length with h1 | h1
      · simpa using h1
      · rw [List.getElem?_eq_none h1] at hk; cases hk
    clear hb hk
    obtain ⟨g, o, y, hA, hgl, hvk, c0, c1⟩ := Ents.at he1 hil
    have HY : Hid (x.ents[i]? = some y) := hvk
    rw [hA] at z3
    clear hvk
    go_wp2
    go_ret2
    exact ⟨y.2, true, rfl, fun hr => by rw [look_hit hr HM.out HK.out HY.out]; exact ⟨rfl, rfl⟩, hbw⟩

theorem take_step {α : Type} {xs : List α} {k : Nat} {x : α} (h : xs[k]? = some x) : xs.take (k + 1) = xs.take k ++ [x] := by
  rw [List.take_add_one, h]; rfl
theorem ne_of_at {α : Type} {xs ys : List α} {k : Nat} {x y : α} (hx : xs[k]? = some x) (hy : ys[k]? = some y) (h : x ≠ y) : xs ≠ ys := by
  intro e; subst e; rw [hx] at hy; exact h (Option.some.inj hy)

end Go.Proofs.Ytjpdoblmdchmkad
/-
  PIECES for all that follows: worlds that draw, lists pair by pair, lists that rise.
-/
namespace Go.Proofs.Ytjpdoblmdchmkad
open Go.RowKit

theorem below_drewN {B : Nat} {a w : World} (h : Below B a w) : ∀ k, Below B a (w.drewN k)
  | 0 => h
  | k + 1 => (below_drewN h k).drew

/-- alike but for versions -/
def alike (x y : M.Nd) : Bool := decide (x.fid = y.fid) && decide (x.dir = y.dir) && decide (x.data = y.data) && decide (x.ents = y.ents)

/-- two lists, pair by pair -/
def allB {α : Type} (f : α → α → Bool) : List α → List α → Bool
  | [], [] => true
  | a :: l, b :: m => f a b && allB f l m
  | _, _ => false
theorem allB_len {α : Type} {f : α → α → Bool} : ∀ {l m : List α}, l.length ≠ m.length → allB f l m = false
  | [], [], h => absurd rfl h
  | [], _ :: _, _ => rfl
  | _ :: _, [], _ => rfl
  | a :: l, b :: m, h => by rw [allB, allB_len (by simpa using h), Bool.and_false]
theorem allB_snoc {α : Type} {f : α → α → Bool} : ∀ {l m : List α} {a b : α}, l.length = m.length → allB f (l ++ [a]) (m ++ [b]) = (allB f l m && f a b)
  | [], [], a, b, _ => by simp [allB]
  | [], _ :: _, _, _, h => by simp at h
  | _ :: _, [], _, _, h => by simp at h
  | c :: l, d :: m, a, b, h => by rw [List.cons_append, List.cons_append, allB, allB, allB_snoc (by simpa using h), Bool.and_assoc]
theorem allB_no {α : Type} {f : α → α → Bool} : ∀ {l m : List α} {k : Nat} {a b : α}, l[k]? = some a → m[k]? = some b → f a b = false → allB f l m = false
  | [], _, k, _, _, h, _, _ => by cases h
  | _ :: _, [], k, _, _, _, h, _ => by cases h
  | c :: l, d :: m, 0, a, b, h1, h2, hf => by cases h1; cases h2; rw [allB, hf, Bool.false_and]
  | c :: l, d :: m, k + 1, a, b, h1, h2, hf => by rw [allB, allB_no (k := k) h1 h2 hf, Bool.and_false]

namespace M
/-- fids rise, and names in each -/
def Rise (xs : List Nd) : Prop := RsN xs ∧ ∀ x ∈ xs, RsE x.ents
end M
theorem ret_two {a b c d : Int} (h : (a, b) = (c, d)) : Ending.returned (.tuple #[.int .i64 a, .int .i64 b]) = .returned (.tuple #[.int .i64 c, .int .i64 d]) := by cases h; rfl
end Go.Proofs.Ytjpdoblmdchmkad
/-
  LAWS OF NO PROGRAM: clear and copy on rows whose elements have several cells.
-/
namespace Go.Proofs.Ytjpdoblmdchmkad
open Go.RowKit

section
variable {P : Program} {k : Nat}
theorem zero_one {zc : Array Value} (h : ∀ u ∈ zc.toList, u.oneCell' = true) (hs : 0 < zc.size) (m : Nat) : ∀ u ∈ (Builtin.zeroCells zc m).toList, u.oneCell' = true := by
  intro u hu
  simp [Builtin.zeroCells] at hu
  obtain ⟨j, _, rfl⟩ := hu
  have hj : j % zc.size < zc.size := Nat.mod_lt _ hs
  rw [getElem!_pos zc (j % zc.size) hj]
  exact h _ (by simp)

theorem run_clear_row (w : World) (t ty e : TypeId) (i : TypeInfo) (z : Value) (ht : P.underlying t = some (.slice e)) (hi : P.info? e = some i) (hz : i.zero = some z) (hzs : z.cells.size = k) (k0 : 0 < k)
    (h1 : ∀ u ∈ z.cells.toList, u.oneCell' = true) (g off m c' : Nat) (hm : 0 < m) (cur : Array Value) (hg : w.heap[g]? = some (.cells cur e (0, 0))) (hfit : off + m * k ≤ cur.size) :
    (Builtin.clear_ #[t] ty #[.slice (some ⟨g, off, none⟩) m c']).run P w = .ok (.tuple #[]) (w.setRow g (cur.toList.take off ++ (Builtin.zeroCells z.cells m).toList ++ cur.toList.drop (off + m * k)).toArray) := by
  have hl : (Builtin.zeroCells z.cells m).toList.length = m * k := by rw [Array.length_toList, size_zeroCells, hzs]
  have hst := run_storeCells_at P g off e (Builtin.zeroCells z.cells m).toList 0 cur w hg (by rw [hl]; simpa using hfit) (zero_one h1 (by omega) m)
  rw [hl] at hst
  simp only [Nat.add_zero] at hst
  obtain ⟨m, rfl⟩ : ∃ m', m = m' + 1 := ⟨m - 1, by omega⟩
  simp [Builtin.clear_, run_underlying ht, zeroValue, typeInfo, hi, hz, hst]

theorem wpList_clear_own (w : World) {ops : Array Oper} {rest : List Oper} {o : Oper} {a : Act} {Q : Exit → Act → World → Prop} (hgd : o.guard = none) (x : Operand) (t : TypeId)
    (ho : o.op = .call { callee := .builtin .clear, args := #[x], argTypes := #[t] }) (B : Nat) (e : TypeId) (i : TypeInfo) (z : Value) (ht : P.underlying t = some (.slice e)) (hi : P.info? e = some i) (hz : i.zero = some z)
    (hzs : z.cells.size = k) (k0 : 0 < k) (h1 : ∀ u ∈ z.cells.toList, u.oneCell' = true) (g n c : Nat) (xs : List Value) (hown : w.ownsRow B e k (.slice (some ⟨g, 0, none⟩) n c) n xs)
    (off m c' q : Nat) (hx : a.eval x = .slice (some ⟨g, off, none⟩) m c') (hoff : off = q * k) (hm : 0 < m) (hq : q + m = n)
    (h : ∀ w', w'.ownsRow B e k (.slice (some ⟨g, 0, none⟩) q c) q (xs.take (q * k)) → w.grownBy w' (some g) → wpList P ops Q rest (a.put o.dst (.tuple #[])) w') : wpList P ops Q (o :: rest) a w := by
  rcases hown.2 with ⟨h', _⟩ | ⟨g', cap, cur, h', hb, hg, hnc, hcm, hcs, htake⟩
  · simp at h'
  · simp only [Value.slice.injEq, Option.some.injEq, Addr.mk.injEq, and_true, true_and] at h'
    obtain ⟨rfl, rfl⟩ := h'
    have hqm : q * k + m * k ≤ c * k := by rw [← Nat.add_mul]; exact Nat.mul_le_mul_right _ (by omega)
    have hr := run_clear_row (P := P) w t o.type e i z ht hi hz hzs k0 h1 g off m c' hm cur hg (by rw [hcs, hoff]; exact hqm)
    refine wpList_plain hgd fun K hK => ?_
    unfold Oper.wp
    simp [execOp, ho, resolve, invoke, builtin, hx, hr, Result.andThen]
    have hl : (Builtin.zeroCells z.cells m).toList.length = m * k := by rw [Array.length_toList, size_zeroCells, hzs]
    have hle : q * k ≤ cur.toList.length := by rw [Array.length_toList, hcs]; omega
    have hxs : xs.take (q * k) = cur.toList.take (q * k) := by
      rw [← htake, List.take_take]
      congr 1
      have : q * k ≤ n * k := Nat.mul_le_mul_right _ (by omega)
      omega
    refine hK _ _ (h _ ⟨?_, .inr ⟨g, c, _, rfl, hb, setRow_heap w g cur _ e _ hg, by omega, hcm, ?_, ?_⟩⟩ ⟨rfl, rfl, rfl, by simp, fun j _ hj => setRow_other w g j _ (fun e => hj (by simp [e]))⟩)
    · rw [List.length_take, hown.1]
      have : q * k ≤ n * k := Nat.mul_le_mul_right _ (by omega)
      omega
    · simp only [List.size_toArray, List.length_append, List.length_take, List.length_drop, hl, hoff, Array.length_toList]
      omega
    · rw [hxs, hoff]
      show List.take (q * k) (List.take (q * k) cur.toList ++ ((Builtin.zeroCells z.cells m).toList ++ List.drop (q * k + m * k) cur.toList)) = _
      rw [List.take_append_of_le_length (by rw [List.length_take]; omega), List.take_take, Nat.min_self]

/-- copy: as many elements as the shorter one has, into a row of one's own -/
theorem run_copy_k (w : World) (dT sT ty elem : TypeId) (g off dLen dCap : Nat) (ad : Addr) (sLen sCap : Nat) (cur : Array Value) (t : TypeId) (cs : List Value)
    (hu : P.underlying dT = some (.slice elem)) (hs : (P.info? elem).map (·.size) = some k) (hg : w.heap[g]? = some (.cells cur t (0, 0))) (hn : cs.length = Nat.min sLen dLen * k)
    (hsrc : ∀ j v, cs[j]? = some v → w.cell? (ad.add j) = some v) (hfit : off + cs.length ≤ cur.size) (h1 : ∀ v ∈ cs, v.oneCell' = true) :
    (Builtin.copy_ #[dT, sT] ty #[.slice (some ⟨g, off, none⟩) dLen dCap, .slice (some ad) sLen sCap]).run P w =
      .ok (goInt (Nat.min sLen dLen)) (w.setRow g (cur.toList.take off ++ cs ++ cur.toList.drop (off + cs.length)).toArray) := by
  have hl := run_loadCells_list (P := P) w ad cs hsrc
  have hst := run_storeCells_at P g off t cs 0 cur w hg (by simpa using hfit) h1
  cases hq : P.info? elem with
  | none => simp [hq] at hs
  | some i =>
    have hi : i.size = k := by simpa [hq] using hs
    simp [Builtin.copy_, run_underlying hu, Builtin.lenOf, Builtin.firstCells, sizeOf, typeInfo, hq, hi, ← hn, hl, hst]

/-- the same, in terms of what is owned -/
theorem run_copy_own {w : World} {B : Nat} {e : TypeId} {g n c : Nat} {L : List Value} (hown : w.ownsRow B e k (.slice (some ⟨g, 0, none⟩) n c) n L) (dT sT ty : TypeId) (hu : P.underlying dT = some (.slice e)) (hs : (P.info? e).map (·.size) = some k)
    (off q dLen dCap : Nat) (hoff : off = q * k) (hq : q + dLen ≤ n) (ad : Addr) (sLen sCap r : Nat) (hr : Nat.min sLen dLen = r) (news : List Value) (hn : news.length = r * k)
    (hsrc : ∀ j v, news[j]? = some v → w.cell? (ad.add j) = some v) (h1 : ∀ v ∈ news, v.oneCell' = true) :
    ∃ w', (Builtin.copy_ #[dT, sT] ty #[.slice (some ⟨g, off, none⟩) dLen dCap, .slice (some ad) sLen sCap]).run P w = .ok (goInt r) w' ∧ w'.ownsRow B e k (.slice (some ⟨g, 0, none⟩) n c) n (L.take off ++ (news ++ L.drop (off + news.length))) ∧ w.grownBy w' (some g) := by
  rcases hown.2 with ⟨h', _⟩ | ⟨g', cap, cur, h', hb, hg, hnc, hcm, hcs, htake⟩
  · simp at h'
  · simp only [Value.slice.injEq, Option.some.injEq, Addr.mk.injEq, and_true, true_and] at h'
    obtain ⟨rfl, rfl⟩ := h'
    have hrd : r ≤ dLen := by rw [← hr]; exact Nat.min_le_right _ _
    have hqr : q * k + r * k ≤ n * k := by rw [← Nat.add_mul]; exact Nat.mul_le_mul_right _ (by omega)
    have hnk : n * k ≤ c * k := Nat.mul_le_mul_right _ hnc
    have hrun := run_copy_k (P := P) (k := k) w dT sT ty e g off dLen dCap ad sLen sCap cur e news hu hs hg (by rw [hn, hr]) hsrc (by rw [hcs, hoff, hn]; omega) h1
    rw [hr] at hrun
    refine ⟨_, hrun, ⟨?_, .inr ⟨g, c, _, rfl, hb, setRow_heap w g cur _ e _ hg, hnc, hcm, ?_, ?_⟩⟩, ⟨rfl, rfl, rfl, by simp, fun j _ hj => setRow_other w g j _ (fun e => hj (by simp [e]))⟩⟩
    · simp only [List.length_append, List.length_take, List.length_drop, hown.1, hn, hoff]
      omega
    · simp only [List.size_toArray, List.length_append, List.length_take, List.length_drop, hn, hoff, Array.length_toList, hcs]
      omega
    · show List.take (n * k) (List.take off cur.toList ++ news ++ List.drop (off + news.length) cur.toList) = _
      rw [← htake]
      have hl1 : (List.take off cur.toList ++ news).length = off + news.length := by
        rw [List.length_append, List.length_take, Array.length_toList, hcs, hoff]; omega
      have e1 : n * k = (List.take off cur.toList ++ news).length + (n * k - (off + news.length)) := by rw [hl1, hoff, hn]; omega
      rw [List.take_take, List.drop_take]
      have e2 : min off (n * k) = off := by rw [hoff]; omega
      rw [e2]
      conv => lhs; rw [e1]
      rw [List.take_length_add_append, List.append_assoc]

theorem wpList_copy_cells {w : World} {ops : Array Oper} {rest : List Oper} {o : Oper} {a : Act} {Q : Exit → Act → World → Prop} (hgd : o.guard = none) (d s : Operand) (dT : TypeId)
    (ho : o.op = .call { callee := .builtin .copy, args := #[d, s], argTypes := #[dT, dT] }) {B : Nat} {e : TypeId} {g n c : Nat} {L : List Value} (hown : w.ownsRow B e k (.slice (some ⟨g, 0, none⟩) n c) n L) (hu : P.underlying dT = some (.slice e)) (hs : (P.info? e).map (·.size) = some k)
    (off q dLen dCap : Nat) (hd : a.eval d = .slice (some ⟨g, off, none⟩) dLen dCap) (hoff : off = q * k) (hq : q + dLen ≤ n) (ad : Addr) (sLen sCap r : Nat) (hx : a.eval s = .slice (some ad) sLen sCap) (hr : Nat.min sLen dLen = r) (news : List Value) (hn : news.length = r * k)
    (hsrc : ∀ j v, news[j]? = some v → w.cell? (ad.add j) = some v) (h1 : ∀ v ∈ news, v.oneCell' = true)
    (h : ∀ w', w'.ownsRow B e k (.slice (some ⟨g, 0, none⟩) n c) n (L.take off ++ (news ++ L.drop (off + news.length))) → w.grownBy w' (some g) → wpList P ops Q rest (a.put o.dst (goInt r)) w') : wpList P ops Q (o :: rest) a w := by
  obtain ⟨w', hrun, h2, h3⟩ := run_copy_own (P := P) hown dT dT o.type hu hs off q dLen dCap hoff hq ad sLen sCap r hr news hn hsrc h1
  refine wpList_plain hgd fun K hK => ?_
  unfold Oper.wp
  simp [execOp, ho, resolve, invoke, builtin, hd, hx, hrun, Result.andThen]
  exact hK _ _ (h w' h2 h3)
theorem step_copy_cells {w : World} {ops : Array Oper} {o : Oper} {a : Act} {K : Act → World → Prop} {Q : Exit → Act → World → Prop} {E : Prop} (hgd : o.guard = none) (d s : Operand) (dT : TypeId)
    (ho : o.op = .call { callee := .builtin .copy, args := #[d, s], argTypes := #[dT, dT] }) {B : Nat} {e : TypeId} {g n c : Nat} {L : List Value} (hown : w.ownsRow B e k (.slice (some ⟨g, 0, none⟩) n c) n L) (hu : P.underlying dT = some (.slice e)) (hs : (P.info? e).map (·.size) = some k)
    (off q dLen dCap : Nat) (hd : a.eval d = .slice (some ⟨g, off, none⟩) dLen dCap) (hoff : off = q * k) (hq : q + dLen ≤ n) (ad : Addr) (sLen sCap r : Nat) (hx : a.eval s = .slice (some ad) sLen sCap) (hr : Nat.min sLen dLen = r) (news : List Value) (hn : news.length = r * k)
    (hsrc : ∀ j v, news[j]? = some v → w.cell? (ad.add j) = some v) (h1 : ∀ v ∈ news, v.oneCell' = true)
    (h : ∀ w', w'.ownsRow B e k (.slice (some ⟨g, 0, none⟩) n c) n (L.take off ++ (news ++ L.drop (off + news.length))) → w.grownBy w' (some g) → K (a.put o.dst (goInt r)) w') :
    if Region.wanted o (yielded ops a.tmps) = true then Oper.wp P o a w K Q else E := by
  have hw : Region.wanted o (yielded ops a.tmps) = true := by simp [Region.wanted, hgd]
  rw [if_pos hw]
  obtain ⟨w', hrun, h2, h3⟩ := run_copy_own (P := P) hown dT dT o.type hu hs off q dLen dCap hoff hq ad sLen sCap r hr news hn hsrc h1
  unfold Oper.wp
  simp [execOp, ho, resolve, invoke, builtin, hd, hx, hrun, Result.andThen]
  exact h w' h2 h3

/-- append(s[:i], make(S, m)...), where that does not fit: a row of one's own -/
theorem wpList_append_zeros {w : World} {ops : Array Oper} {rest : List Oper} {o : Oper} {a : Act} {Q : Exit → Act → World → Prop} (hgd : o.guard = none) (s x : Operand) (t tn : TypeId)
    (ho : o.op = .call { callee := .builtin .append, args := #[s, x], argTypes := #[t, tn] }) {B : Nat} {e : TypeId} {g n c : Nat} {L : List Value} (hown : w.ownsRow B e k (.slice (some ⟨g, 0, none⟩) n c) n L) (i0 : TypeInfo) (z : Value) (bytes : Nat)
    (ht : P.underlying t = some (.slice e)) (htn : P.underlying tn = some (.int .i64)) (hi : P.info? e = some i0) (hz : i0.zero = some z) (hsize : i0.size = k) (hby : i0.bytes = bytes) (hzs : z.cells.size = k) (k0 : 0 < k)
    (i m : Nat) (Z : Int) (hs : a.eval s = .slice (some ⟨g, 0, none⟩) i c) (hx : a.eval x = .int .i64 Z) (hZ : Z = (m : Int)) (hin : i ≤ n) (hm : 0 < m) (hc : c < i + m) (hbytes : (i + m) * bytes ≤ 140737488355328) (h63 : i + m ≤ maxLen) (hbase : B ≤ w.heap.size)
    (h : ∀ c' w', w'.ownsRow B e k (.slice (some ⟨w.heap.size, 0, none⟩) (i + m) c') (i + m) (L.take (i * k) ++ (Builtin.zeroCells z.cells m).toList) → w.grownBy w' none → i + m ≤ c' → c' ≤ maxLen → wpList P ops Q rest (a.put o.dst (.slice (some ⟨w.heap.size, 0, none⟩) (i + m) c')) w') : wpList P ops Q (o :: rest) a w := by
  have hik : i * k ≤ n * k := Nat.mul_le_mul_right _ hin
  have hLl : (L.take (i * k)).length = i * k := by rw [List.length_take, hown.1]; omega
  have hold : (Builtin.firstCells i0.size i (.slice (some ⟨g, 0, none⟩) i c)).run P w.drew = .ok (L.take (i * k)).toArray w.drew := by
    rw [hsize]
    exact run_firstCells_some w.drew k i ⟨g, 0, none⟩ i c (L.take (i * k)) hLl (fun j v hj => by
      rw [List.getElem?_take] at hj
      split at hj
      · exact hown.cells (g := g) rfl j v hj
      · cases hj)
  have hmb : m * bytes ≤ 140737488355328 := Nat.le_trans (Nat.mul_le_mul_right _ (by omega)) hbytes
  have hr := Lib.run_append_grow_zeros w t tn o.type e i0 z .i64 .i64 ht htn hi hz (some ⟨g, 0, none⟩) i c (L.take (i * k)) hold m hm (by omega) hc (by unfold maxLen at h63; omega) (by rw [hby]; omega) (by rw [hby]; exact growslice_fits hc hbytes)
  subst hZ
  refine Lib.wpList_append_run w hgd s x t tn ho _ _ hs hx _ _ hr ?_
  refine h _ _ ⟨?_, .inr ⟨w.heap.size, _, _, rfl, hbase, heap_alloc_new w.drew _, grownCap_ge w (i + m) c e, grownCap_le_maxLen w (i + m) c e h63, ?_, ?_⟩⟩ ⟨rfl, rfl, rfl, by simp, fun j hj _ => Below.heap_alloc w.drew _ j hj⟩ (grownCap_ge w (i + m) c e) (grownCap_le_maxLen w (i + m) c e h63)
  · rw [List.length_append, hLl, Array.length_toList, size_zeroCells, hzs, Nat.add_mul]
  · simp only [Array.size_append, List.size_toArray, size_zeroCells, hzs, hLl, ← Nat.add_mul]
    have := grownCap_ge w (i + m) c e
    congr 1
    omega
  · simp only [Array.toList_append]
    have e1 : (i + m) * k = (L.take (i * k) ++ (Builtin.zeroCells z.cells m).toList).length := by rw [List.length_append, hLl, Array.length_toList, size_zeroCells, hzs, Nat.add_mul]
    rw [e1]
    exact List.take_left
/-- s[:n+1], where there is room -/
theorem own_reslice {w : World} {B : Nat} {e : TypeId} {g n c : Nat} {L : List Value} (hown : w.ownsRow B e k (.slice (some ⟨g, 0, none⟩) n c) n L) (hc : n + 1 ≤ c) : ∃ J : List Value, J.length = k ∧ w.ownsRow B e k (.slice (some ⟨g, 0, none⟩) (n + 1) c) (n + 1) (L ++ J) := by
  rcases hown.2 with ⟨h', _⟩ | ⟨g', cap, cur, h', hb, hg, hnc, hcm, hcs, htake⟩
  · simp at h'
  · simp only [Value.slice.injEq, Option.some.injEq, Addr.mk.injEq, and_true, true_and] at h'
    obtain ⟨rfl, rfl⟩ := h'
    have hck : (n + 1) * k ≤ c * k := Nat.mul_le_mul_right _ hc
    have hnk : (n + 1) * k = n * k + k := by rw [Nat.add_mul]; omega
    refine ⟨(cur.toList.drop (n * k)).take k, ?_, ?_, .inr ⟨g, c, cur, rfl, hb, hg, hc, hcm, hcs, ?_⟩⟩
    · rw [List.length_take, List.length_drop, Array.length_toList, hcs]; omega
    · rw [List.length_append, hown.1, List.length_take, List.length_drop, Array.length_toList, hcs]; omega
    · rw [← htake, hnk, List.take_add]
theorem row_sub {α : Type} {cs : α → List Value} {w : World} {b o n : Nat} {vs : List α} (h : Row k cs w (some ⟨b, o, none⟩) n vs) (i : Nat) : Row k cs w (some ⟨b, o + i * k, none⟩) (n - i) (vs.drop i) := by
  refine ⟨by rw [List.length_drop, h.1], ?_⟩
  rcases h.2 with h' | ⟨b', o', e, hlt, hc⟩
  · subst h'; exact .inl (by simp)
  · cases e
    refine .inr ⟨b, o + i * k, rfl, hlt, fun j v hv t u hu => ?_⟩
    rw [List.getElem?_drop] at hv
    have := hc (i + j) v hv t u hu
    rw [Nat.add_mul] at this
    rw [← this]
    congr 2
    omega
end
end Go.Proofs.Ytjpdoblmdchmkad
/-
  DeleteFunc, and what it calls: on a row of one's own, in place: Drop, Leave.
-/
namespace Go.Proofs.Ytjpdoblmdchmkad
open Go.RowKit

/-- where the first one is, of which p holds; else -1 -/
def IdxIs {α : Type} (p : α → Bool) (xs : List α) (r : Int) : Prop := (r = -1 ∧ ∀ x ∈ xs, p x = false) ∨ ∃ i : Nat, r = i ∧ i < xs.length ∧ (∀ k x, k < i → xs[k]? = some x → p x = false) ∧ ∀ x, xs[i]? = some x → p x = true
theorem idx_end {α : Type} {p : α → Bool} {xs : List α} {k : Nat} (hk : xs.length ≤ k) (h : ∀ j x, j < k → xs[j]? = some x → p x = false) : IdxIs p xs (-1) := by
  refine .inl ⟨rfl, fun x hx => ?_⟩
  obtain ⟨j, hj⟩ := List.getElem?_of_mem hx
  have : j < xs.length := by
    rcases Nat.lt_or_ge j xs.length with h1 | h1
    · exact h1
    · rw [List.getElem?_eq_none h1] at hj; cases hj
  exact h j x (by omega) hj

theorem leave1_any (x : ByteArray × Int) (t : ByteArray) (p : Nat) (w : World) (hp : w.cell? ⟨p, 0, none⟩ = some (.string t)) :
    Calls Try.prog 100 #[.agg #[.string x.1, .int .i64 x.2], .pointer (some ⟨p, 0, none⟩)] w fun e w' => e = .returned (.bool (decide (x.1 = t))) ∧ Below w.heap.size w w' := by
  have hpl : p < w.heap.size := World.block_lt_of_cell? w _ hp
  by_cases h : x.1 = t
  · have HH : Hid (decide (x.1 = t) = true) := decide_eq_true h
    have q : (x.1.toList == t.toList) = true := by rw [h]; exact raw_yes t
    clear h
    go_enter Try.func100, Try.ntmps100
    go_wp2
    go_ret
    exact ⟨ret_bool HH.out.symm, (Below.refl _ _).alloc (Nat.le_refl _) _⟩
  · have HH : Hid (decide (x.1 = t) = false) := decide_eq_false h
    have q : (x.1.toList == t.toList) = false := raw_no h
    clear h
    go_enter Try.func100, Try.ntmps100
    go_wp2
    go_ret
    exact ⟨ret_bool HH.out.symm, (Below.refl _ _).alloc (Nat.le_refl _) _⟩

set_option maxHeartbeats 400000 in
theorem leaveIdx_any (A : Option Addr) (n c : Nat) (vs : List (ByteArray × Int)) (t : ByteArray) (p : Nat) (w : World) (hv : Ents w A n vs) (hn : n ≤ 140737488355328) (hp : w.cell? ⟨p, 0, none⟩ = some (.string t)) :
    Calls Try.prog 115 #[.slice A n c, .func (.func 100) #[] #[.pointer (some ⟨p, 0, none⟩)]] w fun e w' => ∃ r : Int, e = .returned (.int .i64 r) ∧ IdxIs (fun x => decide (x.1 = t)) vs r ∧ Below w.heap.size w w' := by
  have hpl : p < w.heap.size := World.block_lt_of_cell? w _ hp
  go_enter Try.func115, Try.ntmps115
  go_wp2
  go_loopw [8] (fun i wr => ∃ k : Nat, k ≤ n ∧ i = .int .i64 k ∧ (∀ j x, j < k → vs[j]? = some x → decide (x.1 = t) = false) ∧ Below w.heap.size w wr) (fun i _ => n - (intOf i).toNat)
  case atStart => exact ⟨0, Nat.zero_le _, rfl, fun j x h => absurd h (Nat.not_lt_zero _), Below.refl _ _⟩
  case round =>
    obtain ⟨k, hk, rfl, hno, hb⟩ := hrel
    have HN : Hid (∀ j x, j < k → vs[j]? = some x → decide (x.1 = t) = false) := hno
    clear hno
    have hsz := hb.size
    by_cases hlt : k < n
    · have hvr := hv.below (Nat.le_refl _) hb
      have hpr : wr.cell? ⟨p, 0, none⟩ = some (.string t) := by rw [hb.cell (p := ⟨p, 0, none⟩) hpl]; exact hp
      obtain ⟨g, o, x, rfl, _, hvk, c0, c1⟩ := Ents.at hvr hlt
      have HX : Hid (vs[k]? = some x) := hvk
      clear hvk hvr
      cases hd : decide (x.1 = t)
      · go_wp2_with (go_at_call 100; refine (leave1_any x t p _ hpr).mono ?_; rintro e w1 ⟨rfl, hb1⟩; rw [hd])
        go_roundw
        case rel => exact ⟨k + 1, by omega, by go_num, fun j y hj hy => by
          rcases Nat.lt_or_ge j k with h1 | h1
          · exact HN.out j y h1 hy
          · obtain rfl : j = k := by omega
            rw [HX.out] at hy; cases hy; exact hd, hb.trans (hb1.mono hsz)⟩
        case measure => simp [intOf]; omega
      · go_wp2_with (go_at_call 100; refine (leave1_any x t p _ hpr).mono ?_; rintro e w1 ⟨rfl, hb1⟩; rw [hd])
        go_ret
        exact ⟨k, rfl, .inr ⟨k, rfl, by rw [← hv.1]; exact hlt, HN.out, fun y hy => by rw [HX.out] at hy; cases hy; exact hd⟩, hb.trans (hb1.mono hsz)⟩
    · have HL : Hid (vs.length ≤ k) := by show _ ≤ _; rw [← hv.1]; omega
      go_wp2
      go_ret
      exact ⟨-1, rfl, idx_end HL.out HN.out, hb⟩

theorem drop1_any (x : NV) (t : Int) (p : Nat) (w : World) (hp : w.cell? ⟨p, 0, none⟩ = some (.int .i64 t)) :
    Calls Try.prog 102 #[x.val, .pointer (some ⟨p, 0, none⟩)] w fun e w' => e = .returned (.bool (decide (x.fid = t))) ∧ Below w.heap.size w w' := by
  have hpl : p < w.heap.size := World.block_lt_of_cell? w _ hp
  by_cases h : x.fid = t
  · have HH : Hid (decide (x.fid = t) = true) := decide_eq_true h
    have q : (x.fid == t) = true := by simp [h]
    clear h
    go_enter Try.func102, Try.ntmps102
    go_wp2
    go_ret
    exact ⟨ret_bool HH.out.symm, (Below.refl _ _).alloc (Nat.le_refl _) _⟩
  · have HH : Hid (decide (x.fid = t) = false) := decide_eq_false h
    have q : (x.fid == t) = false := by simp [h]
    clear h
    go_enter Try.func102, Try.ntmps102
    go_wp2
    go_ret
    exact ⟨ret_bool HH.out.symm, (Below.refl _ _).alloc (Nat.le_refl _) _⟩

set_option maxHeartbeats 400000 in
theorem dropIdx_any (A : Option Addr) (n c : Nat) (vs : List NV) (t : Int) (p : Nat) (w : World) (hv : Nodes w A n vs) (hn : n ≤ 140737488355328) (hp : w.cell? ⟨p, 0, none⟩ = some (.int .i64 t)) :
    Calls Try.prog 75 #[.slice A n c, .func (.func 102) #[] #[.pointer (some ⟨p, 0, none⟩)]] w fun e w' => ∃ r : Int, e = .returned (.int .i64 r) ∧ IdxIs (fun x => decide (x.fid = t)) vs r ∧ Below w.heap.size w w' := by
  have hpl : p < w.heap.size := World.block_lt_of_cell? w _ hp
  go_enter Try.func75, Try.ntmps75
  go_wp2
  go_loopw [8] (fun i wr => ∃ k : Nat, k ≤ n ∧ i = .int .i64 k ∧ (∀ j x, j < k → vs[j]? = some x → decide (x.fid = t) = false) ∧ Below w.heap.size w wr) (fun i _ => n - (intOf i).toNat)
  case atStart => exact ⟨0, Nat.zero_le _, rfl, fun j x h => absurd h (Nat.not_lt_zero _), Below.refl _ _⟩
  case round =>
    obtain ⟨k, hk, rfl, hno, hb⟩ := hrel
    have HN : Hid (∀ j x, j < k → vs[j]? = some x → decide (x.fid = t) = false) := hno
    clear hno
    have hsz := hb.size
    by_cases hlt : k < n
    · have hvr := hv.below (Nat.le_refl _) hb
      have hpr : wr.cell? ⟨p, 0, none⟩ = some (.int .i64 t) := by rw [hb.cell (p := ⟨p, 0, none⟩) hpl]; exact hp
      obtain ⟨g, o, x, rfl, _, hvk, c0, c1, c2, c3, c4⟩ := Nodes.at hvr hlt
      have HX : Hid (vs[k]? = some x) := hvk
      clear hvk hvr
      cases hd : decide (x.fid = t)
      · go_wp2_with (go_at_call 102; refine (drop1_any x t p _ hpr).mono ?_; rintro e w1 ⟨rfl, hb1⟩; rw [hd])
        go_roundw
        case rel => exact ⟨k + 1, by omega, by go_num, fun j y hj hy => by
          rcases Nat.lt_or_ge j k with h1 | h1
          · exact HN.out j y h1 hy
          · obtain rfl : j = k := by omega
            rw [HX.out] at hy; cases hy; exact hd, hb.trans (hb1.mono hsz)⟩
        case measure => simp [intOf]; omega
      · go_wp2_with (go_at_call 102; refine (drop1_any x t p _ hpr).mono ?_; rintro e w1 ⟨rfl, hb1⟩; rw [hd])
        go_ret
        exact ⟨k, rfl, .inr ⟨k, rfl, by rw [← hv.1]; exact hlt, HN.out, fun y hy => by rw [HX.out] at hy; cases hy; exact hd⟩, hb.trans (hb1.mono hsz)⟩
    · have HL : Hid (vs.length ≤ k) := by show _ ≤ _; rw [← hv.1]; omega
      go_wp2
      go_ret
      exact ⟨-1, rfl, idx_end HL.out HN.out, hb⟩
theorem own_some {w : World} {B : Nat} {e : TypeId} {k : Nat} {A : Option Addr} {n c : Nat} {xs : List Value} (h : w.ownsRow B e k (.slice A n c) n xs) (hn : 0 < n) : ∃ g, A = some ⟨g, 0, none⟩ ∧ B ≤ g ∧ g < w.heap.size := by
  rcases h.2 with ⟨_, h0⟩ | ⟨g, cap, cur, h', hb, hg, _⟩
  · omega
  · simp only [Value.slice.injEq, true_and] at h'
    exact ⟨g, h'.1, hb, lt_of_block hg⟩
theorem below_grown {w w' : World} (h : Below w.heap.size w w') (row : Option Nat) : w.grownBy w' row := ⟨h.os, h.tape, h.output, h.size, fun k hk _ => h.block k hk⟩
section
variable {α : Type} {cs : α → List Value} {k : Nat}
theorem fm_take (hk : ∀ v, (cs v).length = k) : ∀ (vs : List α) (i : Nat), (vs.flatMap cs).take (i * k) = (vs.take i).flatMap cs
  | [], i => by simp
  | v :: vs, 0 => by simp
  | v :: vs, i + 1 => by
    rw [List.take_succ_cons, List.flatMap_cons, List.flatMap_cons, ← fm_take hk vs i]
    have e1 : (i + 1) * k = (cs v).length + i * k := by rw [hk, Nat.add_mul]; omega
    rw [e1, List.take_length_add_append]
theorem fm_drop (hk : ∀ v, (cs v).length = k) : ∀ (vs : List α) (i : Nat), (vs.flatMap cs).drop (i * k) = (vs.drop i).flatMap cs
  | [], i => by simp
  | v :: vs, 0 => by simp
  | v :: vs, i + 1 => by
    rw [List.drop_succ_cons, List.flatMap_cons, ← fm_drop hk vs i]
    have e1 : (i + 1) * k = (cs v).length + i * k := by rw [hk, Nat.add_mul]; omega
    rw [e1, List.drop_length_add_append]

/-- what DeleteFunc has done so far: i are kept, of j that were looked at -/
def Del (cs : α → List Value) (k : Nat) (e : TypeId) (p : α → Bool) (w : World) (B g n c : Nat) (xs : List α) (i j : Nat) (wr : World) : Prop :=
  ∃ us : List α, us.length = n ∧ wr.ownsRow B e k (.slice (some ⟨g, 0, none⟩) n c) n (us.flatMap cs) ∧ us.take i = (xs.take j).filter (fun x => !p x) ∧ us.drop j = xs.drop j ∧ i < j ∧ j ≤ n ∧ w.grownBy wr (some g)
theorem del_start {e : TypeId} {p : α → Bool} {w w1 : World} {B g n c : Nat} {xs : List α} {i : Nat} (hn : n = xs.length) (ho : w.ownsRow B e k (.slice (some ⟨g, 0, none⟩) n c) n (xs.flatMap cs)) (hb : Below w.heap.size w w1)
    (hi : i < xs.length) (h1 : ∀ k x, k < i → xs[k]? = some x → p x = false) (h2 : ∀ x, xs[i]? = some x → p x = true) : Del cs k e p w B g n c xs i (i + 1) w1 := by
  refine ⟨xs, hn.symm, own_below ho hb (Nat.le_refl _), ?_, rfl, by omega, by omega, below_grown hb _⟩
  rw [take_step (List.getElem?_eq_getElem hi), List.filter_append]
  have e2 : [xs[i]].filter (fun x => !p x) = [] := by simp [h2 _ (List.getElem?_eq_getElem hi)]
  rw [e2, List.append_nil]
  symm
  rw [List.filter_eq_self]
  intro x hx
  obtain ⟨j, hj⟩ := List.getElem?_of_mem hx
  rw [List.getElem?_take] at hj
  split at hj
  · simp [h1 j x ‹_› hj]
  · cases hj
theorem del_at {xs : List α} {j : Nat} {us : List α} {x : α} (hl : us.drop j = xs.drop j) (hx : us[j]? = some x) : xs[j]? = some x := by
  have := congrArg (fun l => l[0]?) hl
  simp only [List.getElem?_drop, Nat.add_zero] at this
  rw [← this]; exact hx
theorem del_drop {e : TypeId} {p : α → Bool} {w wr w1 : World} {B g n c : Nat} {xs : List α} {i j : Nat} (h : Del cs k e p w B g n c xs i j wr) (hj : j < n) (hb : Below wr.heap.size wr w1) {x : α} (hx : xs[j]? = some x) (hp : p x = true) :
    Del cs k e p w B g n c xs i (j + 1) w1 := by
  obtain ⟨us, h1, h2, h3, h4, h5, h6, h7⟩ := h
  refine ⟨us, h1, own_below h2 hb (Nat.le_refl _), ?_, ?_, by omega, hj, grown_trans h7 (below_grown hb _)⟩
  · rw [take_step hx, List.filter_append, h3]; simp [hp]
  · rw [← List.drop_drop, ← List.drop_drop, h4]
theorem del_keep {e : TypeId} {p : α → Bool} {w wr w1 w2 : World} {B g n c : Nat} {xs : List α} {i j : Nat} {us : List α} {x : α} (h1 : us.length = n) (h3 : us.take i = (xs.take j).filter (fun x => !p x)) (h4 : us.drop j = xs.drop j) (h5 : i < j) (hj : j < n)
    (h7 : w.grownBy wr (some g)) (hb : Below wr.heap.size wr w1) (hx : xs[j]? = some x) (hp : p x = false) (ho : w2.ownsRow B e k (.slice (some ⟨g, 0, none⟩) n c) n ((us.set i x).flatMap cs)) (hg : w1.grownBy w2 (some g)) :
    Del cs k e p w B g n c xs (i + 1) (j + 1) w2 := by
  refine ⟨us.set i x, by rw [List.length_set]; exact h1, ho, ?_, ?_, by omega, hj, grown_trans (grown_trans h7 (below_grown hb _)) hg⟩
  · rw [take_step hx, List.filter_append, ← h3]
    have e1 : [x].filter (fun x => !p x) = [x] := by simp [hp]
    rw [e1, List.take_add_one, List.take_set_of_le (by omega), List.getElem?_set_self (by omega)]
    rfl
  · rw [List.drop_set_of_lt (by omega), ← List.drop_drop, ← List.drop_drop, h4]
theorem del_end {p : α → Bool} {n : Nat} {xs us : List α} {i : Nat} (hn : n = xs.length) (h3 : us.take i = (xs.take n).filter (fun x => !p x)) : us.take i = xs.filter (fun x => !p x) := by
  rw [h3, hn, List.take_length]
end

/-- an entry is stored -/
abbrev put2 (w : World) (s o : Nat) (v : ByteArray × Int) : World := (w.setCell ⟨s, o, none⟩ (.string v.1)).setCell ⟨s, o + 1, none⟩ (.int .i64 v.2)
theorem set2 (L : List Value) (o : Nat) (a b : Value) (h : o + 2 ≤ L.length) : (L.set o a).set (o + 1) b = L.take o ++ ([a, b] ++ L.drop (o + 2)) := by
  apply List.ext_getElem?
  intro j
  by_cases h1 : j < o
  · rw [List.getElem?_append_left (by simp; omega), List.getElem?_take, if_pos h1, List.getElem?_set_ne (by omega), List.getElem?_set_ne (by omega)]
  · rw [List.getElem?_append_right (by simp; omega)]
    have e1 : (L.take o).length = o := by simp; omega
    rw [e1]
    by_cases h2 : j < o + 2
    · rw [List.getElem?_append_left (by simp; omega)]
      obtain ⟨i, rfl⟩ : ∃ i, j = o + i := ⟨j - o, by omega⟩
      have hi : i = 0 ∨ i = 1 := by omega
      have e2 : o + i - o = i := by omega
      rw [e2]
      rcases hi with rfl | rfl <;> simp [List.getElem?_set] <;> omega
    · rw [List.getElem?_append_right (by simp; omega), List.getElem?_drop, List.getElem?_set_ne (by omega), List.getElem?_set_ne (by omega)]
      congr 1
      simp; omega
theorem own_put2 {w : World} {B g n c : Nat} {us : List (ByteArray × Int)} (h : w.ownsRow B 81 2 (.slice (some ⟨g, 0, none⟩) n c) n (us.flatMap entCells)) (j : Nat) (hj : j < n) (v : ByteArray × Int) :
    (put2 w g (j * 2) v).ownsRow B 81 2 (.slice (some ⟨g, 0, none⟩) n c) n ((us.set j v).flatMap entCells) ∧ w.grownBy (put2 w g (j * 2) v) (some g) := by
  have hl := own_len ent_len (by decide) h
  have s0 := h.stored (j * 2) (.string v.1)
  have s1 := s0.1.stored (j * 2 + 1) (.int .i64 v.2)
  refine ⟨?_, grown_trans s0.2 s1.2⟩
  rw [fm_set ent_len us j v (by omega)]
  have := s1.1
  rw [set2 _ _ _ _ (by rw [fm_len ent_len]; omega)] at this
  exact this

theorem zc58 : (Value.cells (.agg #[.string ByteArray.empty, .int .i64 0])).size = 2 := rfl
theorem zc26 : (Value.cells (.agg #[.int .i64 0, .bool false, .slice none 0 0, .slice none 0 0, .int .i64 0])).size = 5 := rfl
theorem zo58 : ∀ u ∈ (Value.cells (.agg #[.string ByteArray.empty, .int .i64 0])).toList, u.oneCell' = true := by
  intro u hu; simp [Value.cells] at hu; rcases hu with rfl | rfl <;> rfl
theorem zo26 : ∀ u ∈ (Value.cells (.agg #[.int .i64 0, .bool false, .slice none 0 0, .slice none 0 0, .int .i64 0])).toList, u.oneCell' = true := by
  intro u hu; simp [Value.cells] at hu; rcases hu with rfl | rfl | rfl | rfl | rfl <;> rfl
/-- an entry in a block of its own -/
def Box2 (w : World) (s : Nat) (v : ByteArray × Int) : Prop := w.heap[s]? = some (.cells #[.string v.1, .int .i64 v.2] 81 (0, 0))
theorem Box2.facts {w : World} {s : Nat} {v : ByteArray × Int} (h : Box2 w s v) : w.cell? ⟨s, 0, none⟩ = some (.string v.1) ∧ w.cell? ⟨s, 1, none⟩ = some (.int .i64 v.2) ∧ (∀ o, w.frozen? ⟨s, o, none⟩ = false) ∧ s < w.heap.size := by
  unfold Box2 at h
  refine ⟨by simp [World.cell?, h], by simp [World.cell?, h], fun o => by simp [World.frozen?, h], lt_of_block h⟩
theorem Box2.below {w w' : World} {s B : Nat} {v : ByteArray × Int} (h : Box2 w s v) (hb : Below B w w') (hs : s < B) : Box2 w' s v := by
  unfold Box2; rw [hb.block s hs]; exact h
theorem Box2.new (w : World) (v : ByteArray × Int) : Box2 (w.alloc (.cells #[.string v.1, .int .i64 v.2] 81)) w.heap.size v := heap_alloc_new w _
abbrev Box5 := Box
theorem Box5.new (w : World) (v : NV) : Box5 (w.alloc (.cells #[.int .i64 v.fid, .bool v.dir, .slice v.dA v.dn v.dc, .slice v.eA v.en v.ec, .int .i64 v.ver] 41)) w.heap.size v := heap_alloc_new w _

set_option maxHeartbeats 1000000 in
theorem leaveDel_any (A : Option Addr) (B n c : Nat) (xs : List (ByteArray × Int)) (t : ByteArray) (p : Nat) (w : World) (hown : w.ownsRow B 81 2 (.slice A n c) n (xs.flatMap entCells)) (hn : n ≤ 140737488355328) (hp : w.cell? ⟨p, 0, none⟩ = some (.string t)) (hpg : (Value.slice A n c).ownBlock ≠ some p) :
    Calls Try.prog 99 #[.slice A n c, .func (.func 100) #[] #[.pointer (some ⟨p, 0, none⟩)]] w fun e w' => ∃ m : Nat, e = .returned (.slice A m c) ∧ m ≤ n ∧ w'.ownsRow B 81 2 (.slice A m c) m ((xs.filter fun x => !decide (x.1 = t)).flatMap entCells) ∧ w.grownBy w' (Value.slice A n c).ownBlock := by
  obtain ⟨i0, hi, hz, hsz, hbz⟩ := info_parts info58
  have hpl : p < w.heap.size := World.block_lt_of_cell? w _ hp
  have hln : n = xs.length := own_len ent_len (by decide) hown
  have HLN : Hid (n = xs.length) := hln
  have hrow : Ents w A n xs := Row.ofOwn ent_len (by decide) hown
  have HO : Hid (w.ownsRow B 81 2 (.slice A n c) n (xs.flatMap entCells)) := hown
  clear hln hown
  go_enter Try.func99, Try.ntmps99
  go_wp2_with (fail)
  refine (leaveIdx_any A n c xs t p _ hrow hn hp).mono ?_
  rintro e w1 ⟨r, rfl, hidx, hb1⟩
  rcases hidx with ⟨rfl, hno⟩ | ⟨i, rfl, hil, hno, hyes⟩
  · have HN : Hid (∀ x ∈ xs, decide (x.1 = t) = false) := hno
    clear hno
    go_wp2
    go_ret
    exact ⟨n, rfl, Nat.le_refl _, by rw [List.filter_eq_self.2 (fun x hx => by rw [HN.out x hx]; rfl)]; exact own_below HO.out hb1 (Nat.le_refl _), below_grown hb1 _⟩
  · obtain ⟨g, hgc, hBg, hgl⟩ := own_some HO.out (by have := HLN.out; omega)
    cases hgc
    have hpg' : p ≠ g := fun e => hpg (by rw [e]; rfl)
    have HD : Hid (Del entCells 2 81 (fun x => decide (x.1 = t)) w B g n c xs i (i + 1) w1) := del_start HLN.out HO.out hb1 hil hno hyes
    have hpw1 : w1.cell? ⟨p, 0, none⟩ = some (.string t) := by rw [hb1.cell (p := ⟨p, 0, none⟩) hpl]; exact hp
    have hin : i < n := by have := HLN.out; omega
    clear hno hyes hil hpg
    have hi1 : ((i : Int) == -1) = false := by rw [beq_eq_false_iff_ne]; omega
    go_wp2
    go_loopw [5, 6] (fun vi vj wr => ∃ a b : Nat, vi = .int .i64 a ∧ vj = .int .i64 b ∧ Del entCells 2 81 (fun x => decide (x.1 = t)) w B g n c xs a b wr) (fun _ j _ => n - (intOf j).toNat)
    case atStart => exact ⟨i, i + 1, rfl, by go_num, HD.out⟩
    case round =>
      obtain ⟨a, b, rfl, rfl, hd⟩ := hrel
      have HDR : Hid (Del entCells 2 81 (fun x => decide (x.1 = t)) w B g n c xs a b wr) := hd
      obtain ⟨us, u1, u2, u3, u4, u5, u6, u7⟩ := hd
      have HU : Hid (us.length = n ∧ us.take a = (xs.take b).filter (fun x => !decide (x.1 = t)) ∧ us.drop b = xs.drop b ∧ w.grownBy wr (some g)) := ⟨u1, u3, u4, u7⟩
      have HUO : Hid (wr.ownsRow B 81 2 (.slice (some ⟨g, 0, none⟩) n c) n (us.flatMap entCells)) := u2
      have hpr : wr.cell? ⟨p, 0, none⟩ = some (.string t) := u7.cell hp (by simpa using hpg')
      clear u1 u3 u4
      have hnc : n ≤ c := by obtain ⟨A1, c1, e1, e2, _⟩ := own_form u2; cases e1; exact e2
      have hcm : c ≤ maxLen := by obtain ⟨A1, c1, e1, _, e2⟩ := own_form u2; cases e1; exact e2
      unfold maxLen at hcm
      by_cases hlt : b < n
      · obtain ⟨x, hx, c0, c1, hfz, hgz⟩ := own_at2 u2 hlt
        have HX : Hid (us[b]? = some x ∧ xs[b]? = some x) := ⟨hx, del_at HU.out.2.2.1 hx⟩
        clear hx u2 u7
        have hwa : Below wr.heap.size wr (wr.alloc (.cells #[.string x.1, .int .i64 x.2] 81)) := (Below.refl _ _).alloc (Nat.le_refl _) _
        have hpa : (wr.alloc (.cells #[.string x.1, .int .i64 x.2] 81)).cell? ⟨p, 0, none⟩ = some (.string t) := by rw [hwa.cell (p := ⟨p, 0, none⟩) (World.block_lt_of_cell? wr _ hpr)]; exact hpr
        cases hd : decide (x.1 = t)
        · go_wp2_with (go_at_call 100; refine (leave1_any x t p _ hpa).mono ?_; rintro e w2 ⟨rfl, hb2⟩; rw [hd]; have hbx : Box2 w2 wr.heap.size x := (Box2.new wr x).below hb2 (by simp); have HB2 : Hid (Below wr.heap.size wr w2) := hwa.trans (hb2.mono (by simp)); obtain ⟨y, _, d0, d1, dfz, dgz⟩ := own_at2 (own_below HUO.out HB2.out (Nat.le_refl _)) (show a < n by omega); obtain ⟨b0, b1, bfz, bgz⟩ := hbx.facts)
          have HP := own_put2 (own_below HUO.out HB2.out (Nat.le_refl _)) a (show a < n by omega) x
          go_roundw
          case rel => exact ⟨a + 1, b + 1, by go_num, by go_num, del_keep HU.out.1 HU.out.2.1 HU.out.2.2.1 u5 hlt HU.out.2.2.2 HB2.out HX.out.2 hd HP.1 HP.2⟩
          case measure => simp [intOf]; omega
        · go_wp2_with (go_at_call 100; refine (leave1_any x t p _ hpa).mono ?_; rintro e w2 ⟨rfl, hb2⟩; rw [hd])
          go_roundw
          case rel => exact ⟨a, b + 1, rfl, by go_num, del_drop HDR.out hlt (hwa.trans (hb2.mono (by simp))) HX.out.2 hd⟩
          case measure => simp [intOf]; omega
      · clear u2 u7
        have hac : a < c := by omega
        go_wp2_with (refine wpList_clear_own _ (by rfl) (.tmp 38) 39 (by rfl) B 81 i0 (.agg #[.string ByteArray.empty, .int .i64 0]) Try.underlying39 hi hz zc58 (by decide) zo58 g n c _ HUO.out (a * 2) (n - a) (c - a) a (by rfl) rfl (by omega) (by omega) ?_; intro w2 hown2 hg2)
        go_ret
        have hbn : b = n := by omega
        subst hbn
        refine ⟨a, rfl, by omega, ?_, grown_trans HU.out.2.2.2 hg2⟩
        rw [fm_take ent_len, del_end HLN.out HU.out.2.1] at hown2
        exact hown2

set_option maxHeartbeats 1000000 in
theorem dropDel_any (A : Option Addr) (B n c : Nat) (xs : List NV) (t : Int) (p : Nat) (w : World) (hown : w.ownsRow B 41 5 (.slice A n c) n (xs.flatMap NV.cells)) (hn : n ≤ 140737488355328) (hp : w.cell? ⟨p, 0, none⟩ = some (.int .i64 t)) (hpg : (Value.slice A n c).ownBlock ≠ some p) :
    Calls Try.prog 101 #[.slice A n c, .func (.func 102) #[] #[.pointer (some ⟨p, 0, none⟩)]] w fun e w' => ∃ m : Nat, e = .returned (.slice A m c) ∧ m ≤ n ∧ w'.ownsRow B 41 5 (.slice A m c) m ((xs.filter fun x => !decide (x.fid = t)).flatMap NV.cells) ∧ w.grownBy w' (Value.slice A n c).ownBlock := by
  obtain ⟨i0, hi, hz, hsz, hbz⟩ := info_parts info26
  have hpl : p < w.heap.size := World.block_lt_of_cell? w _ hp
  have hln : n = xs.length := own_len nod_len (by decide) hown
  have HLN : Hid (n = xs.length) := hln
  have hrow : Nodes w A n xs := Row.ofOwn nod_len (by decide) hown
  have HO : Hid (w.ownsRow B 41 5 (.slice A n c) n (xs.flatMap NV.cells)) := hown
  clear hln hown
  go_enter Try.func101, Try.ntmps101
  go_wp2_with (fail)
  refine (dropIdx_any A n c xs t p _ hrow hn hp).mono ?_
  rintro e w1 ⟨r, rfl, hidx, hb1⟩
  rcases hidx with ⟨rfl, hno⟩ | ⟨i, rfl, hil, hno, hyes⟩
  · have HN : Hid (∀ x ∈ xs, decide (x.fid = t) = false) := hno
    clear hno
    go_wp2
    go_ret
    exact ⟨n, rfl, Nat.le_refl _, by rw [List.filter_eq_self.2 (fun x hx => by rw [HN.out x hx]; rfl)]; exact own_below HO.out hb1 (Nat.le_refl _), below_grown hb1 _⟩
  · obtain ⟨g, hgc, hBg, hgl⟩ := own_some HO.out (by have := HLN.out; omega)
    cases hgc
    have hpg' : p ≠ g := fun e => hpg (by rw [e]; rfl)
    have HD : Hid (Del NV.cells 5 41 (fun x => decide (x.fid = t)) w B g n c xs i (i + 1) w1) := del_start HLN.out HO.out hb1 hil hno hyes
    have hpw1 : w1.cell? ⟨p, 0, none⟩ = some (.int .i64 t) := by rw [hb1.cell (p := ⟨p, 0, none⟩) hpl]; exact hp
    have hin : i < n := by have := HLN.out; omega
    clear hno hyes hil hpg
    have hi1 : ((i : Int) == -1) = false := by rw [beq_eq_false_iff_ne]; omega
    go_wp2
    go_loopw [5, 6] (fun vi vj wr => ∃ a b : Nat, vi = .int .i64 a ∧ vj = .int .i64 b ∧ Del NV.cells 5 41 (fun x => decide (x.fid = t)) w B g n c xs a b wr) (fun _ j _ => n - (intOf j).toNat)
    case atStart => exact ⟨i, i + 1, rfl, by go_num, HD.out⟩
    case round =>
      obtain ⟨a, b, rfl, rfl, hd⟩ := hrel
      have HDR : Hid (Del NV.cells 5 41 (fun x => decide (x.fid = t)) w B g n c xs a b wr) := hd
      obtain ⟨us, u1, u2, u3, u4, u5, u6, u7⟩ := hd
      have HU : Hid (us.length = n ∧ us.take a = (xs.take b).filter (fun x => !decide (x.fid = t)) ∧ us.drop b = xs.drop b ∧ w.grownBy wr (some g)) := ⟨u1, u3, u4, u7⟩
      have HUO : Hid (wr.ownsRow B 41 5 (.slice (some ⟨g, 0, none⟩) n c) n (us.flatMap NV.cells)) := u2
      have hpr : wr.cell? ⟨p, 0, none⟩ = some (.int .i64 t) := u7.cell hp (by simpa using hpg')
      clear u1 u3 u4
      have hnc : n ≤ c := by obtain ⟨A1, c1, e1, e2, _⟩ := own_form u2; cases e1; exact e2
      have hcm : c ≤ maxLen := by obtain ⟨A1, c1, e1, _, e2⟩ := own_form u2; cases e1; exact e2
      unfold maxLen at hcm
      by_cases hlt : b < n
      · obtain ⟨x, hx, c0, c1, c2, c3, c4, hfz, hgz⟩ := own_at5 u2 hlt
        have HX : Hid (us[b]? = some x ∧ xs[b]? = some x) := ⟨hx, del_at HU.out.2.2.1 hx⟩
        clear hx u2 u7
        have hwa : Below wr.heap.size wr (wr.alloc (.cells #[.int .i64 x.fid, .bool x.dir, .slice x.dA x.dn x.dc, .slice x.eA x.en x.ec, .int .i64 x.ver] 41)) := (Below.refl _ _).alloc (Nat.le_refl _) _
        have hpa : (wr.alloc (.cells #[.int .i64 x.fid, .bool x.dir, .slice x.dA x.dn x.dc, .slice x.eA x.en x.ec, .int .i64 x.ver] 41)).cell? ⟨p, 0, none⟩ = some (.int .i64 t) := by rw [hwa.cell (p := ⟨p, 0, none⟩) (World.block_lt_of_cell? wr _ hpr)]; exact hpr
        cases hd : decide (x.fid = t)
        · go_wp2_with (go_at_call 102; refine (drop1_any x t p _ hpa).mono ?_; rintro e w2 ⟨rfl, hb2⟩; rw [hd]; have hbx : Box5 w2 wr.heap.size x := (Box5.new wr x).below hb2 (by simp); have HB2 : Hid (Below wr.heap.size wr w2) := hwa.trans (hb2.mono (by simp)); obtain ⟨y, _, d0, d1, d2, d3, d4, dfz, dgz⟩ := own_at5 (own_below HUO.out HB2.out (Nat.le_refl _)) (show a < n by omega); obtain ⟨b0, b1, b2, b3, b4, bfz, bgz⟩ := hbx.facts)
          have HP := own_put5 (own_below HUO.out HB2.out (Nat.le_refl _)) a (show a < n by omega) x
          go_roundw
          case rel => exact ⟨a + 1, b + 1, by go_num, by go_num, del_keep HU.out.1 HU.out.2.1 HU.out.2.2.1 u5 hlt HU.out.2.2.2 HB2.out HX.out.2 hd HP.1 HP.2⟩
          case measure => simp [intOf]; omega
        · go_wp2_with (go_at_call 102; refine (drop1_any x t p _ hpa).mono ?_; rintro e w2 ⟨rfl, hb2⟩; rw [hd])
          go_roundw
          case rel => exact ⟨a, b + 1, rfl, by go_num, del_drop HDR.out hlt (hwa.trans (hb2.mono (by simp))) HX.out.2 hd⟩
          case measure => simp [intOf]; omega
      · clear u2 u7
        have hac : a < c := by omega
        go_wp2_with (refine wpList_clear_own _ (by rfl) (.tmp 38) 22 (by rfl) B 41 i0 (.agg #[.int .i64 0, .bool false, .slice none 0 0, .slice none 0 0, .int .i64 0]) Try.underlying22 hi hz zc26 (by decide) zo26 g n c _ HUO.out (a * 5) (n - a) (c - a) a (by rfl) rfl (by omega) (by omega) ?_; intro w2 hown2 hg2)
        go_ret
        have hbn : b = n := by omega
        subst hbn
        refine ⟨a, rfl, by omega, ?_, grown_trans HU.out.2.2.2 hg2⟩
        rw [fm_take nod_len, del_end HLN.out HU.out.2.1] at hown2
        exact hown2
end Go.Proofs.Ytjpdoblmdchmkad
/-
  Leave and Drop.
-/
namespace Go.Proofs.Ytjpdoblmdchmkad
open Go.RowKit

theorem Box.grown {w w' : World} {s : Nat} {v : NV} {row : Option Nat} (h : Box w s v) (hg : w.grownBy w' row) (hr : some s ≠ row) : Box w' s v := by
  unfold Box; rw [hg.block s (lt_of_block h) hr]; exact h
theorem own_ge {w : World} {B : Nat} {e : TypeId} {k : Nat} {v : Value} {n : Nat} {xs : List Value} (h : w.ownsRow B e k v n xs) {s : Nat} (hs : s < B) : v.ownBlock ≠ some s := by
  intro e
  have := (h.lt s e).1
  omega
theorem grown_below2 {w w' : World} {row : Option Nat} {B : Nat} {w0 : World} (h : Below B w0 w) (hg : w.grownBy w' row) (hB : B ≤ w.heap.size) (hr : ∀ k, row = some k → B ≤ k) : Below B w0 w' := Below.grown h hg hB hr

theorem new_one (w : World) (v : Value) (t : TypeId) : (w.alloc (.cells #[v] t)).cell? ⟨w.heap.size, 0, none⟩ = some v := cell_of_one (heap_alloc_new w _)
theorem alloc_cell {w : World} {a : Addr} {v : Value} (h : w.cell? a = some v) (o : Obj) : (w.alloc o).cell? a = some v := by
  rw [World.cell?_of_block (w := w) (Below.heap_alloc w o _ (World.block_lt_of_cell? w _ h))]; exact h
theorem put5_cell {w : World} {a : Addr} {s : Nat} (h : a.block ≠ s) (o : Nat) (v : NV) : (put5 w s o v).cell? a = w.cell? a := by
  unfold put5
  rw [World.cell?_of_block (Below.heap_setCell _ _ _ _ h), World.cell?_of_block (Below.heap_setCell _ _ _ _ h), World.cell?_of_block (Below.heap_setCell _ _ _ _ h), World.cell?_of_block (Below.heap_setCell _ _ _ _ h), World.cell?_of_block (Below.heap_setCell _ _ _ _ h)]

set_option maxHeartbeats 1000000 in
theorem leave_any (v : NV) (x : M.Nd) (s : ByteArray) (w : World) (hc : Cont w v x) (hs : Small x) :
    Calls Try.prog 88 #[v.val, .string s] w fun e w' => ∃ v' : NV, e = .returned v'.val ∧ OwnN w' w.heap.size v' { x with ents := M.dropE x.ents s } ∧ Below w.heap.size w w' := by
  have hB0 : ∀ W : World, W = ((w.alloc (.cells #[.int .i64 v.fid, .bool v.dir, .slice v.dA v.dn v.dc, .slice v.eA v.en v.ec, .int .i64 v.ver] 41)).alloc (.cells #[.string s] 9)).alloc (.cells #[.int .i64 0, .bool false, .slice none 0 0, .slice none 0 0, .int .i64 0] 41) →
      Box W w.heap.size v ∧ W.cell? ⟨w.heap.size + 1, 0, none⟩ = some (.string s) ∧ Box W (w.heap.size + 2) NV.zero ∧ W.heap.size = w.heap.size + 3 ∧ Below w.heap.size w W := by
    rintro W rfl
    refine ⟨((Box.new w v).alloc _).alloc _, alloc_cell (by simp) _, ?_, by simp, (((Below.refl _ _).alloc (Nat.le_refl _) _).alloc (by simp) _).alloc (by simp; omega) _⟩
    have := Box.new0 ((w.alloc (.cells #[.int .i64 v.fid, .bool v.dir, .slice v.dA v.dn v.dc, .slice v.eA v.en v.ec, .int .i64 v.ver] 41)).alloc (.cells #[.string s] 9))
    simpa using this
  have HB0 : Hid _ := hB0
  have HC : Hid (Cont w v x ∧ Small x) := ⟨hc, hs⟩
  clear hB0 hc hs
  go_enter Try.func88, Try.ntmps88
  go_wp2_with (fail)
  obtain ⟨q0, q1, q2, q3, q4⟩ := HB0.out _ rfl
  refine (ownNode_any v x _ (HC.out.1.below (Nat.le_refl _) q4) HC.out.2).mono ?_
  rintro e w1 ⟨v1, rfl, hon, hb1⟩
  have hz1 := hb1.size
  rw [q3] at hz1 hon
  have HX1 : Hid (Box w1 w.heap.size v ∧ w1.cell? ⟨w.heap.size + 1, 0, none⟩ = some (.string s) ∧ Box w1 (w.heap.size + 2) NV.zero ∧ Below w.heap.size w w1) :=
    ⟨q0.below hb1 (by omega), by rw [hb1.cell (p := ⟨w.heap.size + 1, 0, none⟩) (by show w.heap.size + 1 < _; omega)]; exact q1, q2.below hb1 (by omega), q4.trans (hb1.mono (by omega))⟩
  clear q0 q1 q2 q3 q4 hb1 HB0
  obtain ⟨p0, p1, p2, p3, p4, pf, pz⟩ := HX1.out.1.facts
  have HO2 : Hid (OwnN (put5 w1 w.heap.size 0 v1) (w.heap.size + 3) v1 x) := ⟨hon.1, hon.2.1, hon.2.2.1, put5_own hon.2.2.2.1 (by omega) _ _, put5_own hon.2.2.2.2 (by omega) _ _⟩
  have HX2 : Hid (Box (put5 w1 w.heap.size 0 v1) w.heap.size v1 ∧ (put5 w1 w.heap.size 0 v1).cell? ⟨w.heap.size + 1, 0, none⟩ = some (.string s) ∧ Box (put5 w1 w.heap.size 0 v1) (w.heap.size + 2) NV.zero ∧ Below w.heap.size w (put5 w1 w.heap.size 0 v1)) := by
    refine ⟨put5_box HX1.out.1 v1, ?_, put5_box_other HX1.out.2.2.1 (by omega) 0 v1, put5_below HX1.out.2.2.2 (Nat.le_refl _) _ _⟩
    rw [put5_cell (by show w.heap.size + 1 ≠ _; omega)]; exact HX1.out.2.1
  have hen : v1.en ≤ 140737488355328 := by have := own_len ent_len (by decide) hon.2.2.2.2; have := HC.out.2.2; omega
  clear hon
  go_wp2_with (fail)
  refine (leaveDel_any v1.eA (w.heap.size + 3) v1.en v1.ec x.ents s (w.heap.size + 1) _ HO2.out.2.2.2.2 hen HX2.out.2.1 (own_ge HO2.out.2.2.2.2 (by omega))).mono ?_
  rintro e w3 ⟨m, rfl, hmn, hown3, hg3⟩
  have HX3 : Hid (Box w3 w.heap.size v1 ∧ Box w3 (w.heap.size + 2) NV.zero ∧ Below w.heap.size w w3 ∧ w3.ownsRow (w.heap.size + 3) 5 1 (.slice v1.dA v1.dn v1.dc) v1.dn (x.data.flatMap byteCells1)) :=
    ⟨HX2.out.1.grown hg3 (Ne.symm (own_ge HO2.out.2.2.2.2 (by omega))), HX2.out.2.2.1.grown hg3 (Ne.symm (own_ge HO2.out.2.2.2.2 (by omega))), Below.grown HX2.out.2.2.2 hg3 HX2.out.2.2.2.size (fun k hk => by have := (HO2.out.2.2.2.2.lt k hk).1; omega), own_grown HO2.out.2.2.2.1 HO2.out.2.2.2.2 (by decide) hg3⟩
  have hsz3 := hg3.size
  simp at hsz3
  clear hg3 p0 p1 p2 p3 p4 pf
  obtain ⟨p0, p1, p2, p3, p4, pf, pz3⟩ := HX3.out.1.facts
  obtain ⟨z0, z1, z2, z3, z4, zf, zz3⟩ := HX3.out.2.1.facts
  go_wp2
  have hbr := put5_below (HX3.out.2.2.1.setCell (p := ⟨w.heap.size, 3, none⟩) (Nat.le_refl _) (.slice v1.eA m v1.ec)) (s := w.heap.size + 2) (by omega) 0 ⟨v1.fid, v1.dir, v1.dA, v1.dn, v1.dc, v1.eA, m, v1.ec, v1.ver⟩
  have hod := put5_own (ownsRow_setCell_below HX3.out.2.2.2 (a := ⟨w.heap.size, 3, none⟩) (by show w.heap.size < _; omega) (.slice v1.eA m v1.ec)) (s := w.heap.size + 2) (by omega) 0 ⟨v1.fid, v1.dir, v1.dA, v1.dn, v1.dc, v1.eA, m, v1.ec, v1.ver⟩
  have hoe := put5_own (ownsRow_setCell_below hown3 (a := ⟨w.heap.size, 3, none⟩) (by show w.heap.size < _; omega) (.slice v1.eA m v1.ec)) (s := w.heap.size + 2) (by omega) 0 ⟨v1.fid, v1.dir, v1.dA, v1.dn, v1.dc, v1.eA, m, v1.ec, v1.ver⟩
  exact bodyPost_ret (v := NV.val ⟨v1.fid, v1.dir, v1.dA, v1.dn, v1.dc, v1.eA, m, v1.ec, v1.ver⟩) (by simp [results, Try.results88, go_sem, z0, z1, z2, z3, z4]) rfl ⟨⟨v1.fid, v1.dir, v1.dA, v1.dn, v1.dc, v1.eA, m, v1.ec, v1.ver⟩, rfl, ⟨HO2.out.1, HO2.out.2.1, HO2.out.2.2.1, own_mono hod (by omega), own_mono hoe (by omega)⟩, hbr⟩

/-- what is kept of two lists, pair by pair -/
theorem All2.filter {α β : Type} {R : α → β → Prop} (p : α → Bool) (q : β → Bool) : ∀ {vs : List α} {xs : List β}, All2 R vs xs → (∀ v x, R v x → p v = q x) → All2 R (vs.filter p) (xs.filter q)
  | [], [], h, _ => h
  | [], _ :: _, h, _ => by have := h.1; simp at this
  | _ :: _, [], h, _ => by have := h.1; simp at this
  | v :: vs, x :: xs, h, hpq => by
    have h0 : R v x := h.2 0 v x rfl rfl
    have ht : All2 R vs xs := ⟨by simpa using h.1, fun j a b ha hb => h.2 (j + 1) a b ha hb⟩
    have ih := All2.filter p q ht hpq
    rw [List.filter_cons, List.filter_cons, hpq v x h0]
    split
    · exact All2.cons h0 ih
    · exact ih

set_option maxHeartbeats 1000000 in
theorem drop_any (A : Option Addr) (n c : Nat) (vs : List NV) (xs : List M.Nd) (t : Int) (w : World) (ht : Tree w A n vs xs) (hn : n * 72 ≤ 140737488355328) (hs : ∀ x ∈ xs, Small x) :
    Calls Try.prog 89 #[.slice A n c, .int .i64 t] w fun e w' => ∃ (B : Option Addr) (m d : Nat) (us : List NV), e = .returned (.slice B m d) ∧ m ≤ n ∧ OwnT w' w.heap.size B m d us (M.dropN xs t) ∧ Below w.heap.size w w' := by
  have hwa : ∀ W : World, W = w.alloc (.cells #[.int .i64 t] 3) → Below w.heap.size w W ∧ W.cell? ⟨w.heap.size, 0, none⟩ = some (.int .i64 t) ∧ W.heap.size = w.heap.size + 1 := by
    rintro W rfl
    exact ⟨(Below.refl _ _).alloc (Nat.le_refl _) _, new_one _ _ _, by simp⟩
  have HW : Hid _ := hwa
  have HS : Hid (∀ x ∈ xs, Small x) := hs
  clear hwa hs
  go_enter Try.func89, Try.ntmps89
  go_wp2_with (fail)
  obtain ⟨q0, q1, q2⟩ := HW.out _ rfl
  refine (own_any A n c vs xs _ (ht.below (Nat.le_refl _) q0) hn HS.out).mono ?_
  rintro e w1 ⟨g, us, rfl, hot, hb1⟩
  rw [q2] at hot
  have hz1 := hb1.size
  rw [q2] at hz1
  have hcell : w1.cell? ⟨w.heap.size, 0, none⟩ = some (.int .i64 t) := by rw [hb1.cell (p := ⟨w.heap.size, 0, none⟩) (by show w.heap.size < _; omega)]; exact q1
  have hbw1 : Below w.heap.size w w1 := q0.trans (hb1.mono (by omega))
  clear q0 q1 q2 hb1 HW
  have HOT : Hid (OwnT w1 (w.heap.size + 1) (some ⟨g, 0, none⟩) n n us xs) := hot
  clear hot
  go_wp2_with (fail)
  refine (dropDel_any _ (w.heap.size + 1) n n us t w.heap.size _ HOT.out.1 (by omega) hcell (own_ge HOT.out.1 (by omega))).mono ?_
  rintro e w2 ⟨m, rfl, hmn, hown2, hg2⟩
  have hal : All2 (OwnN w2 (w.heap.size + 1)) (us.filter fun x => !decide (x.fid = t)) (M.dropN xs t) := All2.filter _ _ (HOT.out.2.imp fun v x h => h.grown26 HOT.out.1 hg2) (fun v x h => by rw [h.1])
  have hb2 : Below w.heap.size w w2 := Below.grown hbw1 hg2 hbw1.size (fun k hk => by have := (HOT.out.1.lt k hk).1; omega)
  clear hg2
  go_wp2
  go_ret
  exact ⟨_, m, n, _, rfl, hmn, ⟨own_mono hown2 (by omega), hal.imp fun _ _ h => h.mono (by omega)⟩, hb2⟩
end Go.Proofs.Ytjpdoblmdchmkad
