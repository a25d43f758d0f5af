/-
  COPIES: ownNode, Own.
-/
import Derived.Test.YtlegjdlmcphhlabOwn
namespace Go.Proofs.Ytlegjdlmcphhlab
open Go.RowKit

set_option maxHeartbeats 400000 in
theorem ownNode_any (v : NV) (x : M.Nd) (w : World) (hc : Cont w v x) (hs : Small x) :
    Calls Try.prog 73 #[v.val] w fun e w' => ∃ v' : NV, e = .returned v'.val ∧ OwnN w' w.heap.size v' x ∧ Below w.heap.size w w' := by
  obtain ⟨i5, hi5, hz5, hs5, hb5⟩ := info_parts info5
  obtain ⟨i58, hi58, hz58, hs58, hb58⟩ := info_parts info58
  obtain ⟨f1, f2, f3, hd, he⟩ := hc
  have hdn := hd.1
  have hen := he.1
  obtain ⟨s1, s2⟩ := hs
  rw [← hdn] at s1
  rw [← hen] at s2
  have HF : Hid (v.fid = x.fid ∧ v.dir = x.dir ∧ v.ver = x.ver) := ⟨f1, f2, f3⟩
  have HD : Hid (Byts w v.dA v.dn x.data) := hd
  have HE : Hid (Ents w v.eA v.en x.ents) := he
  clear f1 f2 f3 hd he hdn hen
  go_enter Try.func73, Try.ntmps73
  have hB0 : ∀ W : World, W = (w.alloc (.cells #[.int .i64 v.fid, .bool v.dir, .slice v.dA v.dn v.dc, .slice v.eA v.en v.ec, .int .i64 v.ver] 40)).alloc (.cells #[.int .i64 0, .bool false, .slice none 0 0, .slice none 0 0, .int .i64 0] 40) → Box W w.heap.size v ∧ Box W (w.heap.size + 1) NV.zero ∧ W.heap.size = w.heap.size + 2 ∧ Below w.heap.size w W := by
    rintro W rfl
    exact ⟨(Box.new w v).alloc _, by have := Box.new0 (w.alloc (.cells #[.int .i64 v.fid, .bool v.dir, .slice v.dA v.dn v.dc, .slice v.eA v.en v.ec, .int .i64 v.ver] 40)); simpa using this, by simp, ((Below.refl _ _).alloc (Nat.le_refl _) _).alloc (by simp) _⟩
  have HB0 : Hid _ := hB0
  clear hB0
  go_wp2_with (first
    | (at_builtin; refine wpList_append_row _ (by rfl) (.const (.slice none 0 0)) (.tmp 4) 24 (by rfl) (w.heap.size + 2) 5 i5 (.int .u8 0) 1 Try.underlying24 hi5 hz5 hs5 hb5 rfl (by decide) _ 0 [] rfl (World.ownsRow_nil _ _ _ _) v.dA v.dn v.dc x.data rfl (HD.out.below (Nat.le_refl _) (((Below.refl _ _).alloc (Nat.le_refl _) _).alloc (by simp) _)) byt_len byt_one (by unfold maxLen; omega) (by omega) (by simp) ?_; intro v1 w1 hown1 hg1; rw [Nat.zero_add, List.nil_append] at hown1; obtain ⟨A1, c1, rfl, hA1, hA2⟩ := own_form hown1; have hb1 := grown_below hg1; clear hg1; obtain ⟨q0, q1, q2, q3⟩ := HB0.out _ rfl; have hbw1 : Below w.heap.size w w1 := q3.trans (hb1.mono (by omega)); have HX1 : Hid (Box w1 w.heap.size v ∧ Box w1 (w.heap.size + 1) NV.zero) := ⟨q0.below hb1 (by omega), q1.below hb1 (by omega)⟩; have hz1 := hb1.size; rw [q2] at hz1; clear hb1 q0 q1 q2 q3; obtain ⟨p0, p1, p2, p3, p4, pf, pz⟩ := HX1.out.1.facts)
    | (at_builtin; refine wpList_append_row _ (by rfl) (.const (.slice none 0 0)) (.tmp 8) 38 (by rfl) (w.heap.size + 2) 68 i58 (.agg #[.string ByteArray.empty, .int .i64 0]) 24 Try.underlying38 hi58 hz58 hs58 hb58 rfl (by decide) _ 0 [] rfl (World.ownsRow_nil _ _ _ _) v.eA v.en v.ec x.ents rfl (HE.out.below (Nat.le_refl _) (hbw1.setCell (Nat.le_refl _) _)) ent_len ent_one (by unfold maxLen; omega) (by omega) (by simp; omega) ?_; intro v2 w2 hown2 hg2; rw [Nat.zero_add, List.nil_append] at hown2; obtain ⟨A2, c2, rfl, hA3, hA4⟩ := own_form hown2; have hb2 := grown_below hg2; clear hg2; have hown3 := own_below (ownsRow_setCell_below hown1 (a := ⟨w.heap.size, 2, none⟩) (by show w.heap.size < _; omega) (.slice A1 v.dn c1)) hb2 (Nat.le_refl _); have hbw2 : Below w.heap.size w w2 := (hbw1.setCell (p := ⟨w.heap.size, 2, none⟩) (Nat.le_refl _) (.slice A1 v.dn c1)).trans (hb2.mono (by simp; omega)); have HX2 : Hid (Box w2 w.heap.size ⟨v.fid, v.dir, A1, v.dn, c1, v.eA, v.en, v.ec, v.ver⟩ ∧ Box w2 (w.heap.size + 1) NV.zero) := ⟨(HX1.out.1.set2 A1 v.dn c1).below hb2 (by simp; omega), (HX1.out.2.setOther (a := ⟨w.heap.size, 2, none⟩) (by show _ ≠ w.heap.size; omega) _).below hb2 (by simp; omega)⟩; clear hb2 p0 p1 p2 p3 p4 pf pz hown1 hbw1; obtain ⟨p0, p1, p2, p3, p4, pf, pz⟩ := HX2.out.1.facts; obtain ⟨z0, z1, z2, z3, z4, zf, zz⟩ := HX2.out.2.facts))
  have hbr := put5_below (hbw2.setCell (p := ⟨w.heap.size, 3, none⟩) (Nat.le_refl _) (.slice A2 v.en c2)) (s := w.heap.size + 1) (by omega) 0 ⟨v.fid, v.dir, A1, v.dn, c1, A2, v.en, c2, v.ver⟩
  have hod := put5_own (ownsRow_setCell_below hown3 (a := ⟨w.heap.size, 3, none⟩) (by show w.heap.size < _; omega) (.slice A2 v.en c2)) (s := w.heap.size + 1) (by omega) 0 ⟨v.fid, v.dir, A1, v.dn, c1, A2, v.en, c2, v.ver⟩
  have hoe := put5_own (ownsRow_setCell_below hown2 (a := ⟨w.heap.size, 3, none⟩) (by show w.heap.size < _; omega) (.slice A2 v.en c2)) (s := w.heap.size + 1) (by omega) 0 ⟨v.fid, v.dir, A1, v.dn, c1, A2, v.en, c2, v.ver⟩
  exact bodyPost_ret (v := NV.val ⟨v.fid, v.dir, A1, v.dn, c1, A2, v.en, c2, v.ver⟩) (by simp [results, Try.results73, go_sem, z0, z1, z2, z3, z4]) rfl ⟨⟨v.fid, v.dir, A1, v.dn, c1, A2, v.en, c2, v.ver⟩, rfl, ⟨HF.out.1, HF.out.2.1, HF.out.2.2, own_mono hod (by omega), own_mono hoe (by omega)⟩, hbr⟩

/-- so far: the first k nodes are copied -/
def Owning (w : World) (n g k : Nat) (xs : List M.Nd) (wr : World) : Prop :=
  ∃ us : List NV, us.length = k ∧ wr.ownsRow w.heap.size 40 5 (.slice (some ⟨g, 0, none⟩) n n) n ((us ++ List.replicate (n - k) NV.zero).flatMap NV.cells) ∧ All2 (OwnN wr w.heap.size) us (xs.take k) ∧ Below w.heap.size w wr
theorem owning_step {w : World} {n g k : Nat} {xs : List M.Nd} {wr wa w1 : World} {v : NV} {x : M.Nd} (h : Owning w n g k xs wr) (hk : k < n) (hx : xs[k]? = some x) (ha : Below wr.heap.size wr wa) (hb : Below wa.heap.size wa w1) (hv : OwnN w1 w.heap.size v x) :
    Owning w n g (k + 1) xs (put5 w1 g (k * 5) v) := by
  obtain ⟨us, hl, ho, ha2, hbw⟩ := h
  have hb1 : Below wr.heap.size wr w1 := ha.trans (hb.mono ha.size)
  have ho1 := own_below ho hb1 (Nat.le_refl _)
  obtain ⟨hp, hg⟩ := own_put5 ho1 k hk v
  have hg2 : w1.grownBy (put5 w1 g (k * 5) v) (Value.ownBlock (.slice (some ⟨g, 0, none⟩) n n)) := hg
  refine ⟨us ++ [v], by simp [hl], ?_, ?_, ?_⟩
  · have e : (us ++ List.replicate (n - k) NV.zero).set k v = us ++ [v] ++ List.replicate (n - (k + 1)) NV.zero := by
      have : n - k = (n - (k + 1)) + 1 := by omega
      rw [List.set_append_right _ _ (by omega), hl, Nat.sub_self, this, List.replicate_succ]
      simp
    rw [e] at hp
    exact hp
  · have e : xs.take (k + 1) = xs.take k ++ [x] := by rw [List.take_add_one, hx]; rfl
    rw [e]
    exact All2.append (ha2.imp fun v x h => (h.below (Nat.le_refl _) hb1).grown26 ho1 hg2) (All2.one (hv.grown26 ho1 hg2))
  · exact put5_below (hbw.trans (hb1.mono hbw.size)) (by have := (ho.lt g rfl).1; exact this) _ _

set_option maxHeartbeats 400000 in
theorem own_any (A : Option Addr) (n c : Nat) (vs : List NV) (xs : List M.Nd) (w : World) (ht : Tree w A n vs xs) (hn : n * 72 ≤ 140737488355328) (hs : ∀ x ∈ xs, Small x) :
    Calls Try.prog 55 #[.slice A n c] w fun e w' => ∃ (g : Nat) (us : List NV), e = .returned (.slice (some ⟨g, 0, none⟩) n n) ∧ OwnT w' w.heap.size (some ⟨g, 0, none⟩) n n us xs ∧ Below w.heap.size w w' := by
  obtain ⟨i26, hi26, hz26, hs26, hb26⟩ := info_parts info26
  have HS : Hid (∀ x ∈ xs, Small x) := hs
  clear hs
  have hb26' : i26.bytes * n ≤ 281474976710656 := by rw [hb26]; omega
  go_enter Try.func55, Try.ntmps55
  go_wp2_with (at_make; refine wpList_make_full _ (by rfl) (.tmp 7) (.tmp 7) 22 (by rfl) w.heap.size 40 i26 (.agg #[.int .i64 0, .bool false, .slice none 0 0, .slice none 0 0, .int .i64 0]) 5 Try.underlying22 hi26 hz26 hs26 .i64 .i64 _ _ n rfl rfl rfl rfl hb26' (by unfold maxLen; omega) (Nat.le_refl _) ?_; intro w1 hown hg1; have hb1 := grown_below hg1; clear hg1; rw [made5] at hown)
  have H0 : Hid (Owning w n w.heap.size 0 xs w1) := ⟨[], rfl, by simpa using hown, All2.nil, hb1⟩
  clear hown
  go_loopw [11] (fun i wr => ∃ k : Nat, k ≤ n ∧ i = .int .i64 k ∧ Owning w n w.heap.size k xs wr) (fun i _ => n - (intOf i).toNat)
  case atStart => exact ⟨0, Nat.zero_le _, rfl, H0.out⟩
  case round =>
    obtain ⟨k, hk, rfl, ho⟩ := hrel
    have HO : Hid (Owning w n w.heap.size k xs wr) := ho
    obtain ⟨us, hul, hor, hal, hbw⟩ := ho
    by_cases hlt : k < n
    · have htr := ht.below (Nat.le_refl _) hbw
      obtain ⟨b, o, v, rfl, hbl, hvk, c0, c1, c2, c3, c4⟩ := htr.1.at hlt
      obtain ⟨x, hx, hcx⟩ := htr.2.at hvk
      have HC : Hid (Cont wr v x ∧ xs[k]? = some x ∧ Small x) := ⟨hcx, hx, HS.out x (List.mem_of_getElem? hx)⟩
      have hfz : ∀ j, wr.frozen? ⟨w.heap.size, j, none⟩ = false := fun j => hor.frozenAt j
      have hwa : Below wr.heap.size wr (wr.alloc (.cells #[.int .i64 v.fid, .bool v.dir, .slice v.dA v.dn v.dc, .slice v.eA v.en v.ec, .int .i64 v.ver] 40)) := (Below.refl _ _).alloc (Nat.le_refl _) _
      have HW : Hid (wr.ownsRow w.heap.size 40 5 (.slice (some ⟨w.heap.size, 0, none⟩) n n) n ((us ++ List.replicate (n - k) NV.zero).flatMap NV.cells)) := hor
      have hsz := hbw.size
      clear hcx hx hvk htr hal hor hul
      go_wp2_with (go_at_call 73; refine (ownNode_any v x _ (HC.out.1.below (Nat.le_refl _) hwa) HC.out.2.2).mono ?_; rintro e w2 ⟨v2, rfl, hon, hb2⟩; obtain ⟨v3, _, q0, q1, q2, q3, q4, qf, qz⟩ := own_at5 (own_below HW.out (hwa.trans (hb2.mono (by simp))) (Nat.le_refl _)) hlt; have HR : Hid (Owning w n w.heap.size (k + 1) xs (put5 w2 w.heap.size (k * 5) v2)) := owning_step HO.out hlt HC.out.2.1 hwa hb2 (hon.mono (by simp; omega)))
      go_roundw
      case rel => exact ⟨k + 1, by omega, by go_num, HR.out⟩
      case measure => simp [intOf]; omega
    · have HQ : Hid (k = n) := by show k = n; omega
      clear hal hor hul
      go_wp2
      go_ret
      obtain ⟨us, hul, hor, hal, hbw⟩ := HO.out
      have e := HQ.out
      subst e
      rw [Nat.sub_self, List.replicate_zero, List.append_nil] at hor
      rw [List.take_of_length_le (by rw [← ht.2.1, ← ht.1.1]; omega)] at hal
      exact ⟨_, us, rfl, ⟨hor, hal⟩, hbw⟩
end Go.Proofs.Ytlegjdlmcphhlab
