/-
  WHAT ONLY READS: Find, Entry, bytes.Equal, slices.Equal, Same, step, Walk; and the reference's SameNode, Same, Rises.
-/
import Derived.Test.YtlegjdlmcphhlabCopy
import Derived.Test.YtlegjdlmcphhlabMathb
import Derived.Laws.StructEq
namespace Go.Proofs.Ytlegjdlmcphhlab
open Go.RowKit

/-- a list of bytes as a text -/
def txt (l : List UInt8) : ByteArray := ⟨l.toArray⟩
theorem txt_inj {a b : List UInt8} : txt a = txt b ↔ a = b := by
  constructor
  · intro h
    have := congrArg (fun x : ByteArray => x.data.toList) h
    simpa [txt] using this
  · rintro rfl; rfl
theorem conv_byts {w : World} {A : Option Addr} {n c : Nat} {l : List UInt8} (h : Byts w A n l) : (convert 24 9 (.slice A n c)).run Try.prog w = .ok (.string (txt l)) w := by
  cases A with
  | none =>
    have hl : l = [] := by
      rcases h.2 with h' | ⟨b, o, h', _⟩
      · exact h'
      · cases h'
    subst hl
    rw [run_convert_bytes_string w 24 9 5 none n c Try.underlying24 Try.underlying5 Try.underlying9]
    rfl
  | some a =>
    rw [h.1]
    exact run_convert_bytes_back w 24 9 5 a c l Try.underlying24 Try.underlying5 Try.underlying9 (fun j hj => by
      rcases h.2 with h' | ⟨b, o, h', _, hc⟩
      · subst h'; simp at hj
      · cases h'
        have := hc j l[j] (List.getElem?_eq_getElem hj) 0 _ rfl
        rw [show (⟨b, o, none⟩ : Addr).add j = ⟨b, o + j, none⟩ from by simp [Addr.add]]
        simpa using this)

theorem neqEnt (x y : ByteArray × Int) (w : World) : (binOp .neq 68 (.agg #[.string x.1, .int .i64 x.2]) (.agg #[.string y.1, .int .i64 y.2])).run Try.prog w = .ok (.bool (!decide (x = y))) w := by
  have u9 := Try.underlying9
  have u3 := Try.underlying3
  have a9 := Try.isAgg9
  have a3 := Try.isAgg3
  have z9 := Try.sizeOf9
  have z3 := Try.sizeOf3
  have hS : Try.prog.underlying 68 = some (.struct (Try.prog.fieldsOf 68)) := by kernel_rfl
  have hp : Try.prog.stoodInHeld 68 = false := by kernel_rfl
  rw [run_neq_struct, show (10000 : Nat) = 9999 + 1 from rfl, run_equalIn_agg w 9999 68 _ _ hS hp]
  simp only [Program.fieldsOf, Try.underlying68]
  go_simp
  obtain ⟨x1, x2⟩ := x
  obtain ⟨y1, y2⟩ := y
  by_cases h1 : x1 = y1 <;> by_cases h2 : x2 = y2 <;> simp [h1, h2]
  exact fun e => h1 (M.toList_inj e)
theorem guardEnt (x y : Operand) (xs ys : Array Value) (w : World) : (eqGuard .neq 68 x y (.agg xs) (.agg ys)).run Try.prog w = .ok () w := run_eqGuard_agg w .neq 68 x y xs ys (by kernel_rfl)

def nd0 : M.Nd := ⟨0, false, [], [], 0⟩
theorem own0 (w : World) (B : Nat) : OwnN w B NV.zero nd0 := ⟨rfl, rfl, rfl, World.ownsRow_nil _ _ _ _, World.ownsRow_nil _ _ _ _⟩
theorem fids {w : World} {A : Option Addr} {n : Nat} {vs : List NV} {xs : List M.Nd} (h : Tree w A n vs xs) : vs.map (·.fid) = xs.map (·.fid) := h.2.map _ _ fun _ _ h => h.1
theorem find_hit {xs : List M.Nd} {t : Int} {i : Nat} {x : M.Nd} (hr : M.RsN xs) (hm : M.Mid M.ltI (xs.map (·.fid)) t i i) (h : (xs.map (·.fid))[i]? = some t) (hx : xs[i]? = some x) : M.find xs t = some x := by
  unfold M.find; rw [M.mid_find (·.fid) xs t M.ordI hr hm h]; exact hx
theorem find_miss {xs : List M.Nd} {t : Int} {i : Nat} (hr : M.RsN xs) (hm : M.Mid M.ltI (xs.map (·.fid)) t i i) (h : (xs.map (·.fid))[i]? ≠ some t) : M.find xs t = none := by unfold M.find; exact M.mid_none_find (·.fid) xs t M.ordI hr hm h

/-- what a search for a fid answers: of a list that rises, what is there -/
def Found (xs : List M.Nd) (t : Int) (x : M.Nd) (b : Bool) : Prop := (b = true → x ∈ xs ∧ x.fid = t) ∧ (b = false → x = nd0) ∧ (M.RsN xs → b = (M.find xs t).isSome ∧ x = (M.find xs t).getD nd0)
set_option maxHeartbeats 400000 in
theorem find_gen (A : Option Addr) (n c : Nat) (vs : List NV) (xs : List M.Nd) (t : Int) (w : World) (ht : Tree w A n vs xs) (hn : n * 72 ≤ 140737488355328) (hs : ∀ x ∈ xs, Small x) :
    Calls Try.prog 61 #[.slice A n c, .int .i64 t] w fun e w' => ∃ (v : NV) (x : M.Nd) (b : Bool), e = .returned (.tuple #[v.val, .bool b]) ∧ OwnN w' w.heap.size v x ∧ Found xs t x b ∧ Below w.heap.size w w' := by
  have hwa : ∀ W, W = w.alloc (.cells #[.int .i64 0, .bool false, .slice none 0 0, .slice none 0 0, .int .i64 0] 40) → Below w.heap.size w W ∧ Box W w.heap.size NV.zero ∧ W.heap.size = w.heap.size + 1 := by
    rintro W rfl
    exact ⟨(Below.refl _ _).alloc (Nat.le_refl _) _, Box.new0 w, by simp⟩
  have HW : Hid _ := hwa
  clear hwa
  have HR : Hid (∀ x ∈ xs, Small x) := hs
  clear hs
  go_enter Try.func61, Try.ntmps61
  go_wp2_with (fail)
  obtain ⟨q1, q2, q3⟩ := HW.out _ rfl
  have ht1 := ht.below (Nat.le_refl _) q1
  refine (place_any A n c vs t _ ht1.1 (by omega)).mono ?_
  rintro e w1 ⟨i, b, rfl, hin, hb, hm, hb1⟩
  have hz1 := hb1.size
  rw [q3] at hz1
  have hbw : Below w.heap.size w w1 := q1.trans (hb1.mono (by omega))
  have hx1 := q2.below hb1 (by omega)
  obtain ⟨z0, z1, z2, z3, z4, zf, zz⟩ := hx1.facts
  have HX1 : Hid (Box w1 w.heap.size NV.zero) := hx1
  have ht2 := ht1.below (Nat.le_refl _) hb1
  rw [fids ht] at hb hm
  have HM : Hid (M.Mid M.ltI (xs.map (·.fid)) t i i) := hm
  clear hm q1 q2 q3 ht1 hb1 hx1
  cases b
  · have HF : Hid (Found xs t nd0 false) := ⟨(by simp), (fun _ => rfl), fun hr => by rw [find_miss hr HM.out (of_decide_eq_false hb.symm)]; exact ⟨rfl, rfl⟩⟩
    clear hb
    go_wp2
    have hbr := put5_below hbw (s := w.heap.size) (Nat.le_refl _) 0 NV.zero
    exact bodyPost_ret (v := .tuple #[NV.zero.val, .bool false]) (by simp [results, Try.results61, go_sem, z0, z1, z2, z3, z4, NV.zero]) rfl ⟨NV.zero, nd0, false, rfl, own0 _ _, HF.out, hbr⟩
  · have hk := of_decide_eq_true hb.symm
    clear hb
    have hil : i < n := by
      rw [ht.1.1, ht.2.1]
      rcases Nat.lt_or_ge i (xs.map (·.fid)).length with h1 | h1
      · simpa using h1
      · rw [List.getElem?_eq_none h1] at hk; cases hk
    obtain ⟨g, o, v, rfl, hgl, hvk, c0, c1, c2, c3, c4⟩ := ht2.1.at hil
    obtain ⟨x, hx, hcx⟩ := ht2.2.at hvk
    have HF : Hid (Found xs t x true) := ⟨fun _ => ⟨List.mem_of_getElem? hx, by rw [M.at_key (f := fun x : M.Nd => x.fid) hx] at hk; exact Option.some.inj hk⟩, (by simp), fun hr => by rw [find_hit hr HM.out hk hx]; exact ⟨rfl, rfl⟩⟩
    have HC : Hid (Cont w1 v x ∧ Small x) := ⟨hcx, HR.out x (List.mem_of_getElem? hx)⟩
    clear hcx hx hvk hk
    go_wp2_with (go_at_call 73; refine (ownNode_any v x _ HC.out.1 HC.out.2).mono ?_; rintro e w2 ⟨v2, rfl, hon, hb2⟩; have HX2 : Hid (Box w2 w.heap.size NV.zero) := (HX1.out.below hb2 zz); clear z0 z1 z2 z3 z4 zf; obtain ⟨z0, z1, z2, z3, z4, zf, zz2⟩ := HX2.out.facts)
    have hbr := put5_below (hbw.trans (hb2.mono (by omega))) (s := w.heap.size) (Nat.le_refl _) 0 v2
    have hon2 : OwnN (put5 w2 w.heap.size 0 v2) w1.heap.size v2 x := ⟨hon.1, hon.2.1, hon.2.2.1, put5_own hon.2.2.2.1 zz _ _, put5_own hon.2.2.2.2 zz _ _⟩
    exact bodyPost_ret (v := .tuple #[v2.val, .bool true]) (by simp [results, Try.results61, go_sem, z0, z1, z2, z3, z4]) rfl ⟨v2, x, true, rfl, hon2.mono (by omega), HF.out, hbr⟩

theorem find_any (A : Option Addr) (n c : Nat) (vs : List NV) (xs : List M.Nd) (t : Int) (w : World) (ht : Tree w A n vs xs) (hr : M.RsN xs) (hn : n * 72 ≤ 140737488355328) (hs : ∀ x ∈ xs, Small x) :
    Calls Try.prog 61 #[.slice A n c, .int .i64 t] w fun e w' => ∃ v : NV, e = .returned (.tuple #[v.val, .bool (M.find xs t).isSome]) ∧ OwnN w' w.heap.size v ((M.find xs t).getD nd0) ∧ Below w.heap.size w w' := by
  refine (find_gen A n c vs xs t w ht hn hs).mono ?_
  rintro e w1 ⟨v, x, b, rfl, ho, hf, hb⟩
  obtain ⟨rfl, rfl⟩ := hf.2.2 hr
  exact ⟨v, rfl, ho, hb⟩

theorem look_hit {es : List (ByteArray × Int)} {t : ByteArray} {i : Nat} {x : ByteArray × Int} (hr : M.RsE es) (hm : M.Mid M.ltB (es.map (·.1)) t i i) (h : (es.map (·.1))[i]? = some t) (hx : es[i]? = some x) : M.look es t = some x := by
  unfold M.look; rw [M.mid_find (·.1) es t M.ordB hr hm h]; exact hx
theorem look_miss {es : List (ByteArray × Int)} {t : ByteArray} {i : Nat} (hr : M.RsE es) (hm : M.Mid M.ltB (es.map (·.1)) t i i) (h : (es.map (·.1))[i]? ≠ some t) : M.look es t = none := by unfold M.look; exact M.mid_none_find (·.1) es t M.ordB hr hm h

set_option maxHeartbeats 400000 in
theorem entry_any (v : NV) (x : M.Nd) (s : ByteArray) (w : World) (hc : Cont w v x) (hs : Small x) :
    Calls Try.prog 74 #[v.val, .string s] w fun e w' => ∃ (f : Int) (b : Bool), e = .returned (.tuple #[.int .i64 f, .bool b]) ∧ (M.RsE x.ents → f = ((M.look x.ents s).map (·.2)).getD 0 ∧ b = (M.look x.ents s).isSome) ∧ Below w.heap.size w w' := by
  have hwa : Below w.heap.size w (w.alloc (.cells #[.int .i64 v.fid, .bool v.dir, .slice v.dA v.dn v.dc, .slice v.eA v.en v.ec, .int .i64 v.ver] 40)) := (Below.refl _ _).alloc (Nat.le_refl _) _
  have hbx := Box.new w v
  have he : Ents w v.eA v.en x.ents := hc.2.2.2.2
  have hen := he.1
  have hs2 := hs.2
  rw [← hen] at hs2
  clear hen
  have HB : Hid (Box (w.alloc (.cells #[.int .i64 v.fid, .bool v.dir, .slice v.dA v.dn v.dc, .slice v.eA v.en v.ec, .int .i64 v.ver] 40)) w.heap.size v) := hbx
  clear hc hs hbx
  go_enter Try.func74, Try.ntmps74
  go_wp2_with (fail)
  refine (spot_any v.eA v.en v.ec x.ents s _ (he.below (Nat.le_refl _) hwa) (by omega)).mono ?_
  rintro e w1 ⟨i, b, rfl, hin, hb, hm, hb1⟩
  have hz1 := hb1.size
  have hbw : Below w.heap.size w w1 := hwa.trans (hb1.mono (by simp))
  have hx1 := HB.out.below hb1 (by simp)
  obtain ⟨z0, z1, z2, z3, z4, zf, zz⟩ := hx1.facts
  have he1 := he.below (Nat.le_refl _) hbw
  have HM : Hid (M.Mid M.ltB (x.ents.map (·.1)) s i i) := hm
  clear hm hb1 hx1 hz1 hwa
  cases b
  · have hk := of_decide_eq_false hb.symm
    have HK : Hid ((x.ents.map (·.1))[i]? ≠ some s) := hk
    clear hb hk
    go_wp2
    go_ret2
    exact ⟨0, false, rfl, fun hr => by rw [look_miss hr HM.out HK.out]; exact ⟨rfl, rfl⟩, hbw⟩
  · have hk := of_decide_eq_true hb.symm
    have HK : Hid ((x.ents.map (·.1))[i]? = some s) := hk
    have hil : i < v.en := by
      rw [he.1]
      rcases Nat.lt_or_ge i (x.ents.map (·.1)).length with h1 | h1
      · simpa using h1
      · rw [List.getElem?_eq_none h1] at hk; cases hk
    clear hb hk
    obtain ⟨g, o, y, hA, hgl, hvk, c0, c1⟩ := Ents.at he1 hil
    have HY : Hid (x.ents[i]? = some y) := hvk
    rw [hA] at z3
    clear hvk
    go_wp2
    go_ret2
    exact ⟨y.2, true, rfl, fun hr => by rw [look_hit hr HM.out HK.out HY.out]; exact ⟨rfl, rfl⟩, hbw⟩

theorem take_step {α : Type} {xs : List α} {k : Nat} {x : α} (h : xs[k]? = some x) : xs.take (k + 1) = xs.take k ++ [x] := by
  rw [List.take_add_one, h]; rfl
theorem ne_of_at {α : Type} {xs ys : List α} {k : Nat} {x y : α} (hx : xs[k]? = some x) (hy : ys[k]? = some y) (h : x ≠ y) : xs ≠ ys := by
  intro e; subst e; rw [hx] at hy; exact h (Option.some.inj hy)

end Go.Proofs.Ytlegjdlmcphhlab
