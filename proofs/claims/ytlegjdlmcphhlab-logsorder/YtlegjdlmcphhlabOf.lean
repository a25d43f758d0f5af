/-
  TREES AS MAPS: the reference's Of.
-/
import Derived.Test.YtlegjdlmcphhlabMaps
namespace Go.Proofs.Ytlegjdlmcphhlab
open Go.RowKit
open Go.ChangeMaps (setBlock)

/-- the map's function tells what the tree has -/
def Agree (w : World) (f : Int → Option Value) (xs : List M.Nd) : Prop :=
  ∀ k, (f k = none ∧ M.find xs k = none) ∨ ∃ (v : NV) (x : M.Nd), f k = some v.val ∧ M.find xs k = some x ∧ Cont w v x
theorem Agree.below {B : Nat} {w w' : World} {f : Int → Option Value} {xs : List M.Nd} (h : Agree w f xs) (hB : w.heap.size ≤ B) (hb : Below B w w') : Agree w' f xs := fun k =>
  (h k).imp id fun ⟨v, x, h1, h2, h3⟩ => ⟨v, x, h1, h2, h3.below hB hb⟩
theorem agree_nil (w : World) : Agree w (fun _ => none) [] := fun _ => .inl ⟨rfl, rfl⟩
def TMap (w : World) (b : Nat) (xs : List M.Nd) : Prop := ∃ f, IMap w b f ∧ Agree w f xs
theorem TMap.below {B : Nat} {w w' : World} {b : Nat} {xs : List M.Nd} (h : TMap w b xs) (hB : w.heap.size ≤ B) (hb : Below B w w') : TMap w' b xs := by
  obtain ⟨f, h1, h2⟩ := h
  exact ⟨f, h1.below hB hb, h2.below hB hb⟩
theorem find_fid {xs : List M.Nd} {k : Int} {x : M.Nd} (h : M.find xs k = some x) : x.fid = k := by
  unfold M.find at h
  have := List.find?_some h
  simpa using this
theorem find_snoc {xs : List M.Nd} {x : M.Nd} (hr : M.RsN (xs ++ [x])) (k : Int) : M.find (xs ++ [x]) k = if k = x.fid then some x else M.find xs k := by
  have hno : M.find xs x.fid = none := by
    unfold M.find
    rw [List.find?_eq_none]
    intro y hy
    have hp : M.Rs M.ltI ((xs ++ [x]).map (·.fid)) := hr
    unfold M.Rs at hp
    rw [List.map_append, List.pairwise_append] at hp
    have := hp.2.2 y.fid (List.mem_map.2 ⟨y, hy, rfl⟩) x.fid (by simp)
    simp [M.ltI] at this
    simp
    omega
  unfold M.find at hno ⊢
  rw [List.find?_append]
  by_cases hk : k = x.fid
  · subst hk
    rw [hno, if_pos rfl]
    simp
  · rw [if_neg hk]
    have : ([x].find? fun x => decide (x.fid = k)) = none := by simp [Ne.symm hk]
    rw [this]
    simp
theorem agree_upd {w : World} {f : Int → Option Value} {xs ys : List M.Nd} {v : NV} {x : M.Nd} (h : Agree w f xs) (hc : Cont w v x) (hf : ∀ k, M.find ys k = if k = x.fid then some x else M.find xs k) : Agree w (updF f v.fid v.val) ys := by
  intro k
  rw [hf k]
  unfold updF
  rw [hc.1]
  by_cases hk : k = x.fid
  · rw [if_pos hk, if_pos hk]; exact .inr ⟨v, x, rfl, rfl, hc⟩
  · rw [if_neg hk, if_neg hk]; exact h k

/-- so far -/
def OfInv (w : World) (b : Nat) (xs : List M.Nd) (wr : World) : Prop := (∃ f, IMap wr b f ∧ Agree w f xs) ∧ Below w.heap.size w wr
theorem of_step {w : World} {b : Nat} {xs ys : List M.Nd} {v : NV} {x : M.Nd} {wr : World} (h : OfInv w b xs wr) (hwb : w.heap.size ≤ b) (hc : Cont w v x) (hf : ∀ k, M.find ys k = if k = x.fid then some x else M.find xs k) :
    ∃ o : Obj, (Instr.mapUpdate 35 (.map (some b)) (.int .i64 v.fid) v.val).run Try.prog wr = .ok () (setBlock wr b o) ∧ OfInv w b ys (setBlock wr b o) := by
  obtain ⟨⟨f, hi, ha⟩, hb⟩ := h
  obtain ⟨o, hrun, him⟩ := run_update_map 35 40 Try.underlying35 hi v.fid v.val
  exact ⟨o, hrun, ⟨_, him, agree_upd ha hc hf⟩, setBlock_below hb hwb o⟩
theorem OfInv.alloc {w : World} {b : Nat} {xs : List M.Nd} {wr : World} (h : OfInv w b xs wr) (o : Obj) : OfInv w b xs (wr.alloc o) := by
  obtain ⟨⟨f, hi, ha⟩, hb⟩ := h
  exact ⟨⟨f, hi.below (Nat.le_refl _) ((Below.refl _ _).alloc (Nat.le_refl _) o), ha⟩, hb.alloc hb.size o⟩
theorem OfInv.tmap {w : World} {b : Nat} {xs : List M.Nd} {wr : World} (h : OfInv w b xs wr) : TMap wr b xs := by
  obtain ⟨⟨f, hi, ha⟩, hb⟩ := h
  exact ⟨f, hi, ha.below (Nat.le_refl _) hb⟩
theorem rs_takeN {xs : List M.Nd} (k : Nat) (h : M.RsN xs) : M.RsN (xs.take k) := M.rs_sub h ((List.take_sublist k xs).map _)

set_option maxHeartbeats 2000000 in
theorem of_any (A : Option Addr) (n c : Nat) (vs : List NV) (xs : List M.Nd) (w : World) (ht : Tree w A n vs xs) (hr : M.RsN xs) (hn : n * 72 ≤ 140737488355328) :
    Calls Try.prog 14 #[.slice A n c] w fun e w' => ∃ b, e = .returned (.map (some b)) ∧ TMap w' b xs ∧ Below w.heap.size w w' := by
  have HT : Hid (Tree w A n vs xs ∧ M.RsN xs) := ⟨ht, hr⟩
  have HL : Hid (n = xs.length) := by show n = _; rw [ht.1.1, ht.2.1]
  have hmm := @run_makeMap Try.prog
  have H0 : Hid (OfInv w w.heap.size [] (w.alloc (.map #[] 0))) := ⟨⟨_, IMap.new w, agree_nil w⟩, (Below.refl _ _).alloc (Nat.le_refl _) _⟩
  clear ht hr
  go_enter Try.func14, Try.ntmps14
  go_wp2
  go_loopw [9] (fun i wr => ∃ k : Nat, k ≤ n ∧ i = .int .i64 k ∧ OfInv w w.heap.size (xs.take k) wr) (fun i _ => n - (intOf i).toNat)
  case atStart => exact ⟨0, Nat.zero_le _, rfl, H0.out⟩
  case round =>
    obtain ⟨k, hk, rfl, hinv⟩ := hrel
    have HI : Hid (OfInv w w.heap.size (xs.take k) wr) := hinv
    have hb := hinv.2
    clear hinv
    by_cases hlt : k < n
    · have hxr := HT.out.1.below (Nat.le_refl _) hb
      obtain ⟨b, o, v, hA, _, hvk, a0, a1, a2, a3, a4⟩ := hxr.1.at hlt
      obtain ⟨x, hxk, hcx⟩ := HT.out.1.2.at hvk
      have HX : Hid (Cont w v x ∧ xs[k]? = some x) := ⟨hcx, hxk⟩
      have HF : Hid (∀ q, M.find (xs.take (k + 1)) q = if q = x.fid then some x else M.find (xs.take k) q) := by
        intro q
        have h1 := rs_takeN (k + 1) HT.out.2
        rw [take_step hxk] at h1 ⊢
        exact find_snoc h1 q
      obtain ⟨ob, hrun, hinv2⟩ := of_step (HI.out.alloc (.cells #[.int .i64 v.fid, .bool v.dir, .slice v.dA v.dn v.dc, .slice v.eA v.en v.ec, .int .i64 v.ver] 40)) (Nat.le_refl _) hcx HF.out
      have HI2 : Hid (OfInv w w.heap.size (xs.take (k + 1)) (setBlock (wr.alloc (.cells #[.int .i64 v.fid, .bool v.dir, .slice v.dA v.dn v.dc, .slice v.eA v.en v.ec, .int .i64 v.ver] 40)) w.heap.size ob)) := hinv2
      have hkn : (k : Int) < (n : Int) := by omega
      have hk0 : (0 : Int) ≤ (k : Int) := by omega
      subst hA
      clear hxr hvk hxk hcx hinv2
      go_wp2
      go_roundw
      case rel => exact ⟨k + 1, by omega, by go_num, HI2.out⟩
      case measure => simp [intOf]; omega
    · have HN : Hid (xs.take k = xs) := by have := HL.out; show _ = _; exact List.take_of_length_le (by omega)
      go_wp2
      go_ret
      have h1 := HI.out
      rw [HN.out] at h1
      exact ⟨_, rfl, h1.tmap, hb⟩
end Go.Proofs.Ytlegjdlmcphhlab
