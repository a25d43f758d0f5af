/-
  THE REFERENCE's Entry.
-/
import Derived.Test.YtkdpdgbacladhaaRefb
namespace Go.Proofs.Ytkdpdgbacladhaa
open Go.RowKit

theorem look_none {es : List (ByteArray × Int)} {s : ByteArray} {k : Nat} (h : ∀ e ∈ es.take k, e.1 ≠ s) (hk : es.length ≤ k) : M.look es s = none := by
  rw [List.take_of_length_le hk] at h
  unfold M.look
  rw [List.find?_eq_none]
  intro e he
  simpa using h e he
theorem look_some {es : List (ByteArray × Int)} {s : ByteArray} {k : Nat} {a : ByteArray × Int} (h : ∀ e ∈ es.take k, e.1 ≠ s) (ha : es[k]? = some a) (hs : a.1 = s) : M.look es s = some a := by
  unfold M.look
  obtain ⟨hi, hx⟩ := List.getElem?_eq_some_iff.1 ha
  rw [List.find?_eq_some_iff_getElem]
  refine ⟨by simpa using hs, k, hi, hx, fun j hj => ?_⟩
  have := h es[j] (List.mem_take_iff_getElem.2 ⟨j, by omega, rfl⟩)
  simpa using this

set_option maxHeartbeats 2000000 in
theorem refEntry_any (v : NV) (x : M.Nd) (s : ByteArray) (w : World) (hc : Cont w v x) (hs : Small x) :
    Calls Try.prog 25 #[v.val, .string s] w fun e w' => e = .returned (.tuple #[.int .i64 (((M.look x.ents s).map (·.2)).getD 0), .bool (M.look x.ents s).isSome]) ∧ Below w.heap.size w w' := by
  have hwa : Below w.heap.size w (w.alloc (.cells #[.int .i64 v.fid, .bool v.dir, .slice v.dA v.dn v.dc, .slice v.eA v.en v.ec, .int .i64 v.ver] 26)) := (Below.refl _ _).alloc (Nat.le_refl _) _
  have HB : Hid (Box (w.alloc (.cells #[.int .i64 v.fid, .bool v.dir, .slice v.dA v.dn v.dc, .slice v.eA v.en v.ec, .int .i64 v.ver] 26)) w.heap.size v) := Box.new w v
  have HC : Hid (Cont w v x ∧ Small x) := ⟨hc, hs⟩
  have hen : v.en ≤ 140737488355328 := by have := hc.2.2.2.2.1; have := hs.2; omega
  have HL : Hid (v.en = x.ents.length) := hc.2.2.2.2.1
  clear hc hs
  go_enter Try.func25, Try.ntmps25
  go_wp2
  go_loopw [11] (fun i wr => ∃ k : Nat, k ≤ v.en ∧ i = .int .i64 k ∧ Hid (∀ e ∈ x.ents.take k, e.1 ≠ s) ∧ Box wr w.heap.size v ∧ Below w.heap.size w wr) (fun i _ => v.en - (intOf i).toNat)
  case atStart => exact ⟨0, Nat.zero_le _, rfl, (by intro e he; simp at he), HB.out, hwa⟩
  case round =>
    obtain ⟨k, hk, rfl, HE, hbx, hb⟩ := hrel
    have HBX : Hid (Box wr w.heap.size v) := hbx
    obtain ⟨p0, p1, p2, p3, p4, pf, pz⟩ := hbx.facts
    clear hbx p0 p1 p2 p4
    have hsz := hb.size
    by_cases hlt : k < v.en
    · obtain ⟨g, o, ⟨nm, fd⟩, ha, _, hak, a0, a1⟩ := Ents.at (HC.out.1.2.2.2.2.below (Nat.le_refl _) hb) hlt
      have HA : Hid (x.ents[k]? = some (nm, fd)) := hak
      dsimp only at a0 a1
      have hkn : (k : Int) < (v.en : Int) := by omega
      have hk0 : (0 : Int) ≤ (k : Int) := by omega
      have hba : Below wr.heap.size wr (wr.alloc (.cells #[.string nm, .int .i64 fd] 72)) := (Below.refl _ _).alloc (Nat.le_refl _) _
      have HR : Hid (Box (wr.alloc (.cells #[.string nm, .int .i64 fd] 72)) w.heap.size v ∧ Below w.heap.size w (wr.alloc (.cells #[.string nm, .int .i64 fd] 72))) := ⟨HBX.out.alloc _, hb.trans (hba.mono hsz)⟩
      clear hak hba p3
      by_cases hse : nm = s
      · have q : (nm.toList == s.toList) = true := by rw [raw_eq]; exact decide_eq_true hse
        have HSE : Hid (nm = s) := hse
        clear hse
        go_wp2
        go_ret2
        rw [look_some HE.out HA.out HSE.out]
        exact ⟨rfl, HR.out.2⟩
      · have q : (nm.toList == s.toList) = false := by rw [raw_eq]; exact decide_eq_false hse
        have HSE : Hid (nm ≠ s) := hse
        clear hse
        go_wp2
        go_roundw
        case rel => exact ⟨k + 1, by omega, by go_num, by intro e he; rw [take_step HA.out] at he; rcases List.mem_append.1 he with h1 | h1; exact HE.out e h1; rw [List.mem_singleton.1 h1]; exact HSE.out, HR.out.1, HR.out.2⟩
        case measure => simp [intOf]; omega
    · have HN : Hid (x.ents.length ≤ k) := by have := HL.out; show _ ≤ _; omega
      go_wp2
      go_ret2
      rw [look_none HE.out HN.out]
      exact ⟨rfl, hb⟩
end Go.Proofs.Ytkdpdgbacladhaa
