/- TEXTS LAID TOGETHER: Ksi, Ksj, Krx, Kla, Klb, Klc -/
import Derived.Test.YtjpdoblmdchmkaePart8
import Derived.Test.YtjpdoblmdchmkaePart5
import Derived.Test.YtjpdoblmdchmkaePart4
import Derived.Test.YtjpdoblmdchmkaePart7
/-
  SORTING NODES: the whole.
-/
namespace Go.Proofs.Ytjpdoblmdchmkae
open Go.RowKit

/-- each block of s rises -/
def Blk (s : Nat) (L : List NV) : Prop := ∀ i j u v, i ≤ j → i / s = j / s → L[i]? = some u → L[j]? = some v → u.fid ≤ v.fid
theorem blk_nil (s : Nat) : Blk s [] := fun i j u v _ _ h _ => by cases h
theorem blk_app {s k : Nat} {D Z : List NV} (hs : 0 < s) (hd : Blk s D) (hk : D.length = s * k) (hz : Up Z) : Blk s (D ++ Z) := by
  intro i j u v hij he hu hv
  have hjl : j < D.length + Z.length := by
    have := (List.getElem?_eq_some_iff.1 hv).1
    rwa [List.length_append] at this
  by_cases hj : j < D.length
  · rw [List.getElem?_append_left (by omega)] at hu
    rw [List.getElem?_append_left hj] at hv
    exact hd i j u v hij he hu hv
  · have h1 : k ≤ j / s := (Nat.le_div_iff_mul_le hs).2 (by rw [Nat.mul_comm]; omega)
    have hi : D.length ≤ i := by
      rw [hk]
      have := (Nat.le_div_iff_mul_le hs).1 (show k ≤ i / s by omega)
      rw [Nat.mul_comm] at this
      exact this
    rw [List.getElem?_append_right hi] at hu
    rw [List.getElem?_append_right (by omega)] at hv
    rcases Nat.lt_or_ge (i - D.length) (j - D.length) with h | h
    · obtain ⟨a1, a2⟩ := List.getElem?_eq_some_iff.1 hu
      obtain ⟨b1, b2⟩ := List.getElem?_eq_some_iff.1 hv
      have := List.pairwise_iff_getElem.1 hz _ _ a1 b1 h
      rw [a2, b2] at this
      exact this
    · have e : i - D.length = j - D.length := by omega
      rw [e, hv] at hu
      cases hu
      exact Int.le_refl _
theorem blk_up {s : Nat} {L : List NV} (h : Blk s L) (hl : L.length ≤ s) : Up L := by
  refine List.pairwise_iff_getElem.2 fun i j hi hj hij => ?_
  exact h i j _ _ (Nat.le_of_lt hij) (by rw [Nat.div_eq_of_lt (by omega), Nat.div_eq_of_lt (by omega)]) (List.getElem?_eq_getElem hi) (List.getElem?_eq_getElem hj)
theorem blk_take {s : Nat} {L : List NV} (h : Blk s L) : Up (L.take s) := by
  refine blk_up (s := s) (fun i j u v hij he hu hv => ?_) (by rw [List.length_take]; omega)
  rw [List.getElem?_take] at hu hv
  split at hu
  · split at hv
    · exact h i j u v hij he hu hv
    · cases hv
  · cases hu
theorem blk_drop {s : Nat} {L : List NV} (hs : 0 < s) (h : Blk s L) : Blk s (L.drop s) := by
  intro i j u v hij he hu hv
  rw [List.getElem?_drop] at hu hv
  refine h (s + i) (s + j) u v (by omega) ?_ hu hv
  rw [Nat.add_div_left _ hs, Nat.add_div_left _ hs, he]
set_option maxRecDepth 8000 in
set_option maxHeartbeats 8000000 in
theorem stableSort_any (w0 : World) (B g n c : Nat) (us : List NV) (w : World) (hs : SW w0 B g n c us w) (hn : n ≤ 140737488355328) :
    Calls Try.prog 35 #[.slice (some ⟨g, 0, none⟩) n c, .int .i64 (n : Int), .func (.func 27) #[] #[]] w fun e w' => e = .returned (.tuple #[]) ∧ ∃ vs, vs.Perm us ∧ Up vs ∧ SW w0 B g n c vs w' := by
  have HS : Hid (SW w0 B g n c us w ∧ n = us.length) := ⟨hs, hs.len⟩
  have H0 : Hid (Blk 20 []) := blk_nil 20
  clear hs
  go_enter Try.func35, Try.ntmps35
  go_wp2_with (fail)
  go_loopw [7, 8] (fun av bv W => ∃ (k : Nat) (D T : List NV), av = .int .i64 ((20 * k : Nat) : Int) ∧ bv = .int .i64 ((20 * k + 20 : Nat) : Int) ∧ 20 * k ≤ n ∧ Hid (D.length = 20 * k ∧ Blk 20 D ∧ (D ++ T).Perm us ∧ SW w0 B g n c (D ++ T) W)) (fun av _ _ => n - (intOf av).toNat)
  case atStart => exact ⟨0, [], us, by go_num, by go_num, by omega, rfl, H0.out, List.Perm.refl _, HS.out.1⟩
  case round =>
    obtain ⟨k, D, T, rfl, rfl, hkn, HK⟩ := hrel
    rename World => wk
    have HTL : Hid (20 * k + T.length = n) := by
      have h1 := HK.out.2.2.2.len
      rw [List.length_append, HK.out.1] at h1
      exact h1.symm
    by_cases hle : 20 * k + 20 ≤ n
    · have hlei : ((20 * k + 20 : Nat) : Int) ≤ (n : Int) := by omega
      have HT : Hid ((T.take 20).length = 20 ∧ D ++ T.take 20 ++ T.drop 20 = D ++ T) := by
        have h1 := HTL.out
        refine ⟨by rw [List.length_take]; omega, by rw [List.append_assoc, List.take_append_drop]⟩
      go_wp2_with (fail)
      have hcall := insSort_any w0 B g n c D (T.take 20) (T.drop 20) wk (by rw [HT.out.2]; exact HK.out.2.2.2) hn
      rw [HK.out.1, HT.out.1] at hcall
      refine hcall.mono ?_
      rintro e w1 ⟨rfl, S', hp, hu, hsw⟩
      have HR : Hid ((D ++ S').length = 20 * (k + 1) ∧ Blk 20 (D ++ S') ∧ ((D ++ S') ++ T.drop 20).Perm us ∧ SW w0 B g n c ((D ++ S') ++ T.drop 20) w1) := by
        have hl := hp.length_eq
        rw [HT.out.1] at hl
        refine ⟨by rw [List.length_append, HK.out.1, hl]; omega, blk_app (k := k) (by decide) HK.out.2.1 HK.out.1 hu, ?_, hsw⟩
        refine List.Perm.trans ?_ HK.out.2.2.1
        rw [← HT.out.2]
        exact List.Perm.append_right _ (List.Perm.append_left D hp)
      clear hcall hp hu hsw
      go_wp2_with (fail)
      go_roundw
      case rel => exact ⟨k + 1, D ++ S', T.drop 20, by go_num, by go_num, by omega, HR⟩
      case measure => simp [intOf]; omega
    · have hlei : ¬ ((20 * k + 20 : Nat) : Int) ≤ (n : Int) := by omega
      go_wp2_with (fail)
      have hcall := insSort_any w0 B g n c D T [] wk (by rw [List.append_nil]; exact HK.out.2.2.2) hn
      rw [HK.out.1, HTL.out] at hcall
      refine hcall.mono ?_
      rintro e w1 ⟨rfl, S', hp, hu, hsw⟩
      have HR : Hid (Blk 20 (D ++ S') ∧ (D ++ S').Perm us ∧ SW w0 B g n c (D ++ S') w1) := by
        have hl := hp.length_eq
        have h2 := HTL.out
        rw [List.append_nil] at hsw
        exact ⟨blk_app (k := k) (by decide) HK.out.2.1 HK.out.1 hu, (List.Perm.append_left D hp).trans HK.out.2.2.1, hsw⟩
      clear hcall hp hu hsw
      go_wp2_with (fail)
      go_loopw [6] (fun sv W => ∃ (s : Nat) (vs : List NV), sv = .int .i64 (s : Int) ∧ 0 < s ∧ (s < n + n ∨ s = 20) ∧ Hid (Blk s vs ∧ vs.Perm us ∧ SW w0 B g n c vs W)) (fun sv _ => n - (intOf sv).toNat)
      case atStart => exact ⟨20, D ++ S', rfl, by omega, .inr rfl, HR⟩
      case round =>
        obtain ⟨s, vs, rfl, hs0, hsn, HV⟩ := hrel
        rename World => ws
        have HVL : Hid (n = vs.length) := HV.out.2.2.len
        by_cases hlt : s < n
        · have hlti : (s : Int) < (n : Int) := by omega
          obtain ⟨s2, hs2⟩ : ∃ s2, 2 * s = s2 := ⟨_, rfl⟩
          have HS2 : Hid (2 * s = s2) := hs2
          have h2s : 2 * (s : Int) = (s2 : Int) := by omega
          have h2s' : (s : Int) * 2 = (s2 : Int) := by omega
          have hs2n : s2 < n + n := by omega
          have HB0 : Hid (Blk s2 [] ∧ vs.Perm us) := ⟨blk_nil _, HV.out.2.1⟩
          clear hs2
          go_wp2_with (fail)
          go_loopw [7, 8] (fun av bv W => ∃ (a : Nat) (D T : List NV), av = .int .i64 (a : Int) ∧ bv = .int .i64 ((a + s2 : Nat) : Int) ∧ a ≤ n ∧ Hid ((∃ k, a = s2 * k) ∧ D.length = a ∧ Blk s2 D ∧ Blk s T ∧ (D ++ T).Perm us ∧ SW w0 B g n c (D ++ T) W)) (fun av _ _ => n - (intOf av).toNat)
          case atStart => exact ⟨0, [], vs, rfl, by go_num, Nat.zero_le _, ⟨0, rfl⟩, rfl, HB0.out.1, HV.out.1, HV.out.2.1, HV.out.2.2⟩
          case round =>
            obtain ⟨a, D, T, rfl, rfl, han, HK⟩ := hrel
            rename World => wk
            have HTL : Hid (a + T.length = n) := by
              have h1 := HK.out.2.2.2.2.2.len
              rw [List.length_append, HK.out.2.1] at h1
              exact h1.symm
            obtain ⟨as_, has⟩ : ∃ q, a + s = q := ⟨_, rfl⟩
            have HAS : Hid (a + s = as_) := has
            have sas : (a : Int) + (s : Int) = (as_ : Int) := by omega
            have hasn : as_ ≤ n + n := by omega
            clear has
            by_cases hle : a + s2 ≤ n
            · have hlei : ((a + s2 : Nat) : Int) ≤ (n : Int) := by omega
              have hall : D ++ (T.take s ++ ((T.drop s).take s ++ (T.drop s).drop s)) = D ++ T := by rw [List.take_append_drop, List.take_append_drop]
              have HL : Hid ((T.take s).length = s ∧ ((T.drop s).take s).length = s) := by
                have h1 := HTL.out
                have h2 := HS2.out
                refine ⟨by rw [List.length_take]; omega, by rw [List.length_take, List.length_drop]; omega⟩
              have HALL : Hid (D ++ (T.take s ++ ((T.drop s).take s ++ (T.drop s).drop s)) = D ++ T) := hall
              clear hall
              go_wp2_with (fail)
              refine (symMerge_any (s + s) w0 B g n c a as_ (a + s2) D (T.take s) ((T.drop s).take s) ((T.drop s).drop s) wk (by rw [HL.out.1, HL.out.2]; exact Nat.le_refl _) (by rw [HALL.out]; exact HK.out.2.2.2.2.2) HK.out.2.1.symm (by rw [HL.out.1, HK.out.2.1]; exact HAS.out.symm) (by rw [HL.out.1, HL.out.2, HK.out.2.1]; have := HS2.out; omega) (by rw [HL.out.1]; exact hs0) (by rw [HL.out.2]; exact hs0) (blk_take HK.out.2.2.2.1) (blk_take (blk_drop hs0 HK.out.2.2.2.1)) hn).mono ?_
              rintro e w1 ⟨rfl, Z, hp, hu, hsw⟩
              have HR : Hid ((∃ k, a + s2 = s2 * k) ∧ (D ++ Z).length = a + s2 ∧ Blk s2 (D ++ Z) ∧ Blk s ((T.drop s).drop s) ∧ ((D ++ Z) ++ (T.drop s).drop s).Perm us ∧ SW w0 B g n c ((D ++ Z) ++ (T.drop s).drop s) w1) := by
                have hl := hp.length_eq
                rw [List.length_append, HL.out.1, HL.out.2] at hl
                obtain ⟨k, hk⟩ := HK.out.1
                have h2 := HS2.out
                refine ⟨⟨k + 1, by rw [Nat.mul_add, Nat.mul_one, ← hk]⟩, by rw [List.length_append, HK.out.2.1, hl]; omega, blk_app (k := k) (by omega) HK.out.2.2.1 (by rw [HK.out.2.1]; exact hk) hu, blk_drop hs0 (blk_drop hs0 HK.out.2.2.2.1), ?_, by rw [List.append_assoc]; exact hsw⟩
                refine List.Perm.trans ?_ HK.out.2.2.2.2.1
                rw [← HALL.out, List.append_assoc, ← List.append_assoc (T.take s)]
                exact List.Perm.append_left D (List.Perm.append_right _ hp)
              clear hp hu hsw
              have has2 : a + s2 + s2 ≤ n + n + n := by omega
              go_wp2_with (fail)
              go_roundw
              case rel => exact ⟨a + s2, D ++ Z, (T.drop s).drop s, rfl, by go_num, by omega, HR⟩
              case measure => simp [intOf]; have := HS2.out; omega
            · have hlei : ¬ ((a + s2 : Nat) : Int) ≤ (n : Int) := by omega
              by_cases hmn : as_ < n
              · have hmi : (as_ : Int) < (n : Int) := by omega
                have HL : Hid ((T.take s).length = s ∧ a + s + (T.drop s).length = n ∧ 0 < (T.drop s).length) := by
                  have h1 := HTL.out
                  have h2 := HAS.out
                  rw [List.length_take, List.length_drop]
                  show _ ∧ _
                  omega
                go_wp2_with (fail)
                refine (symMerge_any (T.length) w0 B g n c a as_ n D (T.take s) (T.drop s) [] wk (by rw [← List.length_append, List.take_append_drop]; exact Nat.le_refl _) (by rw [List.append_nil, List.take_append_drop]; exact HK.out.2.2.2.2.2) HK.out.2.1.symm (by rw [HL.out.1, HK.out.2.1]; exact HAS.out.symm) (by rw [HL.out.1, HK.out.2.1]; exact HL.out.2.1.symm) (by rw [HL.out.1]; exact hs0) HL.out.2.2 (blk_take HK.out.2.2.2.1) (blk_up (s := s) (blk_drop hs0 HK.out.2.2.2.1) (by have := HL.out; have := HS2.out; omega)) hn).mono ?_
                rintro e w1 ⟨rfl, Z, hp, hu, hsw⟩
                have HR : Hid (Blk s2 (D ++ Z) ∧ (D ++ Z).Perm us ∧ SW w0 B g n c (D ++ Z) w1) := by
                  rw [List.take_append_drop] at hp
                  have hl := hp.length_eq
                  have h1 := HTL.out
                  obtain ⟨k, hk⟩ := HK.out.1
                  have h2 := HS2.out
                  rw [List.append_nil] at hsw
                  exact ⟨blk_app (k := k) (by omega) HK.out.2.2.1 (by rw [HK.out.2.1]; exact hk) hu, (List.Perm.append_left D hp).trans HK.out.2.2.2.2.1, hsw⟩
                clear hp hu hsw
                go_wp2_with (fail)
                go_roundw
                case rel => exact ⟨s2, D ++ Z, rfl, by have := HS2.out; omega, .inl hs2n, HR⟩
                case measure => simp [intOf]; have := HS2.out; omega
              · have hmi : ¬ (as_ : Int) < (n : Int) := by omega
                have HR : Hid (Blk s2 (D ++ T) ∧ (D ++ T).Perm us ∧ SW w0 B g n c (D ++ T) wk) := by
                  obtain ⟨k, hk⟩ := HK.out.1
                  have h1 := HTL.out
                  have h2 := HS2.out
                  have h3 := HAS.out
                  exact ⟨blk_app (k := k) (by omega) HK.out.2.2.1 (by rw [HK.out.2.1]; exact hk) (blk_up (s := s) HK.out.2.2.2.1 (by omega)), HK.out.2.2.2.2.1, HK.out.2.2.2.2.2⟩
                go_wp2_with (fail)
                go_roundw
                case rel => exact ⟨s2, D ++ T, rfl, by have := HS2.out; omega, .inl hs2n, HR⟩
                case measure => simp [intOf]; have := HS2.out; omega
        · have HE : Hid (∃ vs, vs.Perm us ∧ Up vs ∧ SW w0 B g n c vs ws) := ⟨vs, HV.out.2.1, blk_up HV.out.1 (by rw [← HVL.out]; omega), HV.out.2.2⟩
          have hlti : ¬ (s : Int) < (n : Int) := by omega
          go_wp2_with (fail)
          go_end0
          exact ⟨rfl, HE.out⟩
theorem stable_any (w0 : World) (B g n c : Nat) (us : List NV) (w : World) (hs : SW w0 B g n c us w) (hn : n ≤ 140737488355328) :
    Calls Try.prog 26 #[.slice (some ⟨g, 0, none⟩) n c, .func (.func 27) #[] #[]] w fun e w' => e = .returned (.tuple #[]) ∧ ∃ vs, vs.Perm us ∧ Up vs ∧ SW w0 B g n c vs w' := by
  have HS : Hid (SW w0 B g n c us w) := hs
  clear hs
  go_enter Try.func26, Try.ntmps26
  go_wp2_with (fail)
  refine (stableSort_any w0 B g n c us w HS.out hn).mono ?_
  rintro e w1 ⟨rfl, h⟩
  have HR : Hid (∃ vs, vs.Perm us ∧ Up vs ∧ SW w0 B g n c vs w1) := h
  clear h
  go_wp2_with (fail)
  go_end0
  exact ⟨rfl, HR.out⟩
end Go.Proofs.Ytjpdoblmdchmkae
/-
  PACKAGE cache: Tree.
-/
namespace Go.Proofs.Ytjpdoblmdchmkae
open Go.RowKit

theorem perm_of_map {α β : Type} (f : α → β) : ∀ {l₁ l₂ : List β}, l₁.Perm l₂ → ∀ l : List α, l.map f = l₂ → ∃ l' : List α, l'.Perm l ∧ l'.map f = l₁
  | _, _, .nil, l, h => ⟨l, List.Perm.refl _, h⟩
  | _, _, .cons x h, l, e => by
    cases l with
    | nil => cases e
    | cons a l =>
      rw [List.map_cons, List.cons.injEq] at e
      obtain ⟨l', p, q⟩ := perm_of_map f h l e.2
      exact ⟨a :: l', p.cons a, by rw [List.map_cons, q, e.1]⟩
  | _, _, .swap x y l2, l, e => by
    cases l with
    | nil => cases e
    | cons a l =>
      cases l with
      | nil => cases e
      | cons b l =>
        rw [List.map_cons, List.map_cons, List.cons.injEq, List.cons.injEq] at e
        exact ⟨b :: a :: l, List.Perm.swap a b l, by rw [List.map_cons, List.map_cons, e.1, e.2.1, e.2.2]⟩
  | _, _, .trans h1 h2, l, e => by
    obtain ⟨m, p, q⟩ := perm_of_map f h2 l e
    obtain ⟨m', p', q'⟩ := perm_of_map f h1 m q
    exact ⟨m', p'.trans p, q'⟩
/-- the nodes change their places: so does what they are -/
theorem all2_perm {R : NV → M.Nd → Prop} {vs vs' : List NV} {xs : List M.Nd} (h : All2 R vs xs) (hp : vs'.Perm vs) : ∃ xs', xs'.Perm xs ∧ All2 R vs' xs' := by
  have h1 : (vs.zip xs).map Prod.fst = vs := List.map_fst_zip (by rw [h.1]; exact Nat.le_refl _)
  have h2 : (vs.zip xs).map Prod.snd = xs := List.map_snd_zip (by rw [h.1]; exact Nat.le_refl _)
  obtain ⟨ps, p, q⟩ := perm_of_map Prod.fst hp _ h1
  have hall : ∀ x ∈ ps, R x.1 x.2 := by
    intro x hx
    obtain ⟨j, hj⟩ := List.getElem?_of_mem (p.mem_iff.1 hx)
    rw [List.getElem?_zip_eq_some] at hj
    exact h.2 j _ _ hj.1 hj.2
  refine ⟨ps.map Prod.snd, ?_, ?_⟩
  · have := p.map Prod.snd
    rw [h2] at this
    exact this
  · rw [← q]
    refine ⟨by simp, fun j v x hv hx => ?_⟩
    rw [List.getElem?_map] at hv hx
    cases hq : ps[j]? with
    | none => rw [hq] at hv; cases hv
    | some z =>
      rw [hq] at hv hx
      cases hv; cases hx
      exact hall z (List.mem_of_getElem? hq)
/-- so far: the first k nodes are laid -/
def Laying (w : World) (n k : Nat) (vs : List KV) (W : World) : Prop :=
  W.ownsRow w.heap.size 34 5 (.slice (some ⟨w.heap.size, 0, none⟩) n n) n ((((vs.map KV.n).take k) ++ List.replicate (n - k) NV.zero).flatMap NV.cells) ∧ Below w.heap.size w W
theorem laying_step {w W W' : World} {n k : Nat} {vs : List KV} {v : KV} (h : Laying w n k vs W) (hk : k < n) (hv : vs[k]? = some v) (hb : Below W.heap.size W W') : Laying w n (k + 1) vs (put5 W' w.heap.size (k * 5) v.n) := by
  obtain ⟨h1, h2⟩ := own_put5 (own_below h.1 hb (Nat.le_refl _)) k hk v.n
  have hm : (vs.map KV.n)[k]? = some v.n := by rw [List.getElem?_map, hv]; rfl
  have hl : ((vs.map KV.n).take k).length = k := by
    have := (List.getElem?_eq_some_iff.1 hm).1
    rw [List.length_take]; omega
  have e : ((vs.map KV.n).take k ++ List.replicate (n - k) NV.zero).set k v.n = (vs.map KV.n).take (k + 1) ++ List.replicate (n - (k + 1)) NV.zero := by
    have : n - k = (n - (k + 1)) + 1 := by omega
    rw [List.set_append_right _ _ (by omega), hl, Nat.sub_self, this, List.replicate_succ, take_step hm]
    simp
  rw [e] at h1
  exact ⟨h1, put5_below (h.2.trans (hb.mono h.2.size)) (Nat.le_refl _) _ _⟩
set_option maxRecDepth 8000 in
set_option maxHeartbeats 4000000 in
theorem tree_kept (A : Option Addr) (n c : Nat) (vs : List KV) (xs : List M.Kp) (w : World) (ht : TreeC w A n vs xs) (hs : ∀ x ∈ xs, Small x.node) (hn : n * 96 ≤ 140737488355328) :
    Calls Try.prog 14 #[.slice A n c] w fun e w' => ∃ (B : Option Addr) (d : Nat) (us : List NV) (ys : List M.Nd), e = .returned (.slice B n d) ∧ OwnT w' w.heap.size B n d us ys ∧ Below w.heap.size w w' ∧ ys.Perm (xs.map (·.node)) ∧ ys.Pairwise fun x y => x.fid ≤ y.fid := by
  obtain ⟨i26, hi26, hz26, hs26, hb26⟩ := info_parts info26
  have HT : Hid (TreeC w A n vs xs ∧ (∀ x ∈ xs, Small x.node) ∧ n = vs.length) := ⟨ht, hs, ht.1.1⟩
  have hb26' : i26.bytes * n ≤ 281474976710656 := by rw [hb26]; omega
  have hn2 : n ≤ 140737488355328 := by omega
  have hn3 : n * 72 ≤ 140737488355328 := by omega
  clear ht hs
  go_enter Try.func14, Try.ntmps14
  go_wp2_with (at_make; refine wpList_make_full _ (by rfl) (.tmp 7) (.tmp 7) 23 (by rfl) w.heap.size 34 i26 (.agg #[.int .i64 0, .bool false, .slice none 0 0, .slice none 0 0, .int .i64 0]) 5 Try.underlying23 hi26 hz26 hs26 .i64 .i64 _ _ n rfl rfl rfl rfl hb26' (by unfold maxLen; omega) (Nat.le_refl _) ?_; intro w1 hown hg1; have hb1 := grown_below hg1; clear hg1; rw [made5] at hown)
  have H0 : Hid (Laying w n 0 vs w1) := ⟨by simpa using hown, hb1⟩
  clear hown hb1
  go_loopw [11] (fun i wr => ∃ k : Nat, k ≤ n ∧ i = .int .i64 k ∧ Hid (Laying w n k vs wr)) (fun i _ => n - (intOf i).toNat)
  case atStart => exact ⟨0, Nat.zero_le _, rfl, H0⟩
  case round =>
    obtain ⟨k, hk, rfl, HO⟩ := hrel
    rename World => wr
    by_cases hlt : k < n
    · have htr := HT.out.1.below (Nat.le_refl _) HO.out.2
      obtain ⟨b, o, v, rfl, hbl, hvk, c0, c1, c2, c3, c4, c5, c6, c7⟩ := htr.1.at hlt
      have HV : Hid (vs[k]? = some v) := hvk
      have HWA : Hid _ := boxK_one wr v
      have hsz := HO.out.2.size
      clear htr hvk hbl
      obtain ⟨w2, hw2⟩ : ∃ W, W = wr.alloc (.cells #[.int .i64 v.n.fid, .bool v.n.dir, .slice v.n.dA v.n.dn v.n.dc, .slice v.n.eA v.n.en v.n.ec, .int .i64 v.n.ver, .bool v.dirty, .int .i64 v.worth, .int .i64 v.last] 36) := ⟨_, rfl⟩
      go_upto_region 5 with (fail)
      rw [← hw2]
      obtain ⟨q1, q2, q3⟩ := HWA.out _ hw2
      have H2 : Hid (Below wr.heap.size wr w2) := q1
      obtain ⟨z0, z1, z2, z3, z4, z5, z6, z7, zf, zz⟩ := q2.facts
      obtain ⟨v3, _, y0, y1, y2, y3, y4, yf, yz⟩ := own_at5 (own_below HO.out.1 q1 (Nat.le_refl _)) hlt
      have HR : Hid (Laying w n (k + 1) vs (put5 w2 w.heap.size (k * 5) v.n)) := laying_step HO.out hlt HV.out q1
      clear q1 q2 q3 hw2 HWA c0 c1 c2 c3 c4 c5 c6 c7
      go_wp2_with (fail)
      go_roundw
      case rel => exact ⟨k + 1, by omega, by go_num, HR⟩
      case measure => simp [intOf]; omega
    · have HQ : Hid (SW wr w.heap.size w.heap.size n n (vs.map KV.n) wr ∧ Below w.heap.size w wr) := by
        have h := HO.out
        have hkn : k = n := by omega
        subst hkn
        have h1 := h.1
        rw [Nat.sub_self, List.replicate_zero, List.append_nil, List.take_of_length_le (by rw [List.length_map]; exact Nat.le_of_eq HT.out.2.2.symm)] at h1
        exact ⟨SW.start h1, h.2⟩
      clear HO
      go_wp2_with (fail)
      refine (stable_any wr w.heap.size w.heap.size n n (vs.map KV.n) wr HQ.out.1 hn2).mono ?_
      rintro e w2 ⟨rfl, us, hp, hu, hsw⟩
      have HBW : Hid (Below w.heap.size w w2) := Below.grown HQ.out.2 hsw.2 HQ.out.2.size (fun g hg => by cases hg; exact Nat.le_refl _)
      have hall : All2 (Cont w2) (vs.map KV.n) (xs.map (·.node)) := by
        refine ⟨by rw [List.length_map, List.length_map, HT.out.1.2.1], fun j v x hv hx => ?_⟩
        rw [List.getElem?_map] at hv hx
        cases hq : vs[j]? with
        | none => rw [hq] at hv; cases hv
        | some kv =>
          obtain ⟨kx, hkx, hc⟩ := HT.out.1.2.at hq
          rw [hq] at hv
          rw [hkx] at hx
          cases hv; cases hx
          exact hc.1.below (Nat.le_refl _) HBW.out
      obtain ⟨ys, yp, ya⟩ := all2_perm hall hp
      have HY : Hid (ys.Perm (xs.map (·.node)) ∧ (ys.Pairwise fun x y => x.fid ≤ y.fid) ∧ (∀ y ∈ ys, Small y) ∧ Tree w2 (some ⟨w.heap.size, 0, none⟩) n us ys) := by
        refine ⟨yp, ?_, fun y hy => ?_, ⟨Row.ofOwn nod_len (by decide) hsw.1, ya⟩⟩
        · refine List.pairwise_iff_getElem.2 fun i j hi hj hij => ?_
          have hi' : i < us.length := by rw [ya.1]; exact hi
          have hj' : j < us.length := by rw [ya.1]; exact hj
          have h1 := ya.2 i _ _ (List.getElem?_eq_getElem hi') (List.getElem?_eq_getElem hi)
          have h2 := ya.2 j _ _ (List.getElem?_eq_getElem hj') (List.getElem?_eq_getElem hj)
          have h3 := List.pairwise_iff_getElem.1 hu i j hi' hj' hij
          rw [h1.1, h2.1] at h3
          exact h3
        · obtain ⟨x, hx, rfl⟩ := List.mem_map.1 (yp.mem_iff.1 hy)
          exact HT.out.2.1 x hx
      clear hp hu hsw hall yp ya
      go_wp2_with (fail)
      refine (own_any (some ⟨w.heap.size, 0, none⟩) n n us ys w2 HY.out.2.2.2 hn3 HY.out.2.2.1).mono ?_
      rintro e w3 ⟨g, us2, rfl, ho, hb3⟩
      have HR : Hid (OwnT w3 w.heap.size (some ⟨g, 0, none⟩) n n us2 ys ∧ Below w.heap.size w w3) := ⟨ho.mono HBW.out.size, HBW.out.trans (hb3.mono HBW.out.size)⟩
      clear ho hb3
      go_wp2_with (fail)
      go_ret
      exact ⟨_, n, us2, ys, rfl, HR.out.1, HR.out.2, HY.out.1, HY.out.2.1⟩
end Go.Proofs.Ytjpdoblmdchmkae
/-
  THE REFERENCE's caches: Kept, as a tree.
-/
namespace Go.Proofs.Ytjpdoblmdchmkae
open Go.RowKit
open Go.ChangeMaps (setBlock)
variable [Inhabited BaseN]

end Go.Proofs.Ytjpdoblmdchmkae
/-
  CHAPTER 8's LAWS: no two of one fid; what answers nothing.
-/
namespace Go.Proofs.Ytjpdoblmdchmkae
open Go.RowKit
open Go.ChangeMaps (setBlock)

def hadC (H : List Int) : Int → Option Value := fun q => if q ∈ H then some (.bool true) else none
theorem info4C : (Try.prog.info? 4).map (fun i => (i.zero, i.size, i.bytes)) = some (some (.bool false), 1, 1) := by kernel_rfl
theorem zeroB8 (w : World) : (zeroValue 4).run Try.prog w = .ok (.bool false) w := by
  obtain ⟨i, hi, hz, hs, hb⟩ := info_parts info4C
  simp [zeroValue, typeInfo, hi, hz]
theorem hadC_ask {w : World} {b : Nat} {H : List Int} (h : IMap w b (hadC H)) (q : Int) : (Instr.lookup 47 (.map (some b)) (.int .i64 q) false).run Try.prog w = .ok (.bool (decide (q ∈ H))) w := by
  rw [run_lookup_map 47 4 Try.underlying47 (zeroB8 w) h q false]
  have e : (hadC H q).getD (.bool false) = .bool (decide (q ∈ H)) := by
    unfold hadC
    by_cases h : q ∈ H
    · rw [if_pos h, decide_eq_true h]; rfl
    · rw [if_neg h, decide_eq_false h]; rfl
  rw [← e]
  rfl
theorem hadC_add {w : World} {b : Nat} {H : List Int} (h : IMap w b (hadC H)) (q : Int) : ∃ o : Obj, (Instr.mapUpdate 47 (.map (some b)) (.int .i64 q) (.bool true)).run Try.prog w = .ok () (setBlock w b o) ∧ IMap (setBlock w b o) b (hadC (H ++ [q])) := by
  obtain ⟨o, h1, h2⟩ := run_update_map 47 4 Try.underlying47 h q (.bool true)
  have e : updF (hadC H) q (.bool true) = hadC (H ++ [q]) := by
    funext t
    unfold updF hadC
    by_cases h : t = q
    · subst h; simp
    · simp [h]
  rw [e] at h2
  exact ⟨o, h1, h2⟩
theorem hadC_new (w : World) : IMap (w.alloc (.map #[] 0)) w.heap.size (hadC []) := by
  have h : (fun _ => none : Int → Option Value) = hadC [] := by funext q; simp [hadC]
  rw [← h]
  exact IMap.new w
def M.fidsK (xs : List M.Kp) : List Int := xs.map fun x => x.node.fid
/-- no two are of one fid -/
def M.unlikeS (xs : List M.Kp) : Bool := decide (M.fidsK xs).Nodup
set_option maxHeartbeats 2000000 in
theorem unlike_any (A : Option Addr) (n c : Nat) (vs : List KV) (xs : List M.Kp) (w : World) (ht : TreeC w A n vs xs) (hn : n ≤ 140737488355328) :
    Calls Try.prog 5 #[.slice A n c] w fun e w' => e = .returned (.bool (M.unlikeS xs)) ∧ Below w.heap.size w w' := by
  have HT : Hid (TreeC w A n vs xs) := ht
  have HL : Hid (n = xs.length) := ht.len
  have hmm := @run_makeMap Try.prog
  have H0 : Hid (IMap (w.alloc (.map #[] 0)) w.heap.size (hadC []) ∧ Below w.heap.size w (w.alloc (.map #[] 0))) := ⟨hadC_new w, (Below.refl _ _).alloc (Nat.le_refl _) _⟩
  clear ht
  go_enter Try.func5, Try.ntmps5
  go_wp2
  go_loopw [9] (fun i wr => ∃ k : Nat, k ≤ n ∧ i = .int .i64 k ∧ Hid (IMap wr w.heap.size (hadC (M.fidsK (xs.take k))) ∧ (M.fidsK (xs.take k)).Nodup ∧ Below w.heap.size w wr)) (fun i _ => n - (intOf i).toNat)
  case atStart => exact ⟨0, Nat.zero_le _, rfl, H0.out.1, List.nodup_nil, H0.out.2⟩
  case round =>
    obtain ⟨k, hk, rfl, HI⟩ := hrel
    rename World => wr
    by_cases hlt : k < n
    · have htr := HT.out.below (Nat.le_refl _) HI.out.2.2
      obtain ⟨b, o, v, rfl, hbl, hvk, c0, c1, c2, c3, c4, c5, c6, c7⟩ := htr.1.at hlt
      obtain ⟨x, hx, hcx⟩ := htr.2.at hvk
      have HX : Hid (xs[k]? = some x ∧ v.n.fid = x.node.fid ∧ M.fidsK (xs.take (k + 1)) = M.fidsK (xs.take k) ++ [x.node.fid]) := ⟨hx, hcx.1.1, by unfold M.fidsK; rw [take_step hx, List.map_append]; rfl⟩
      have HWA : Hid _ := boxK_one wr v
      clear htr hvk hx hcx
      obtain ⟨w2, hw2⟩ : ∃ W, W = wr.alloc (.cells #[.int .i64 v.n.fid, .bool v.n.dir, .slice v.n.dA v.n.dn v.n.dc, .slice v.n.eA v.n.en v.n.ec, .int .i64 v.n.ver, .bool v.dirty, .int .i64 v.worth, .int .i64 v.last] 36) := ⟨_, rfl⟩
      go_upto_region 5 with (fail)
      rw [← hw2]
      obtain ⟨q1, q2, q3⟩ := HWA.out _ hw2
      have him : IMap w2 w.heap.size (hadC (M.fidsK (xs.take k))) := HI.out.1.below (Nat.le_refl _) q1
      have hask := hadC_ask him v.n.fid
      have H2 : Hid (Below w.heap.size w w2) := HI.out.2.2.trans (q1.mono HI.out.2.2.size)
      obtain ⟨z0, z1, z2, z3, z4, z5, z6, z7, zf, zz⟩ := q2.facts
      obtain ⟨ob, hup, him2⟩ := hadC_add him v.n.fid
      have HM2 : Hid (IMap (setBlock w2 w.heap.size ob) w.heap.size (hadC (M.fidsK (xs.take k) ++ [v.n.fid])) ∧ Below w.heap.size w (setBlock w2 w.heap.size ob)) := ⟨him2, setBlock_below H2.out (Nat.le_refl _) ob⟩
      have hne : wr.heap.size ≠ w.heap.size := by
        have := HI.out.1.lt
        omega
      have HB3 : Hid (BoxK (setBlock w2 w.heap.size ob) wr.heap.size v) := by
        show BoxK _ _ _
        unfold BoxK
        rw [setBlock_other hne]
        exact q2
      clear q1 q2 q3 hw2 HWA him him2 c0 c1 c2 c3 c4 c5 c6 c7
      by_cases hin : v.n.fid ∈ M.fidsK (xs.take k)
      · have HR : Hid (M.unlikeS xs = false) := by
          show _ = _
          unfold M.unlikeS
          refine decide_eq_false fun hnd => ?_
          have h1 : (M.fidsK (xs.take (k + 1))).Nodup := by
            refine List.Sublist.nodup ?_ hnd
            exact (List.take_sublist _ _).map _
          rw [HX.out.2.2] at h1
          have h2 := (List.nodup_append.1 h1).2.2
          rw [HX.out.2.1] at hin
          exact h2 _ hin _ (by simp) rfl
        rw [decide_eq_true hin] at hask
        clear hin
        go_wp2_with (fail)
        go_ret
        exact ⟨ret_bool HR.out.symm, H2.out⟩
      · have HN : Hid (IMap (setBlock w2 w.heap.size ob) w.heap.size (hadC (M.fidsK (xs.take (k + 1)))) ∧ (M.fidsK (xs.take (k + 1))).Nodup ∧ Below w.heap.size w (setBlock w2 w.heap.size ob)) := by
          rw [HX.out.2.2, ← HX.out.2.1]
          refine ⟨HM2.out.1, ?_, HM2.out.2⟩
          rw [List.nodup_append]
          refine ⟨HI.out.2.1, List.nodup_cons.2 ⟨by simp, List.nodup_nil⟩, fun a ha b hb => ?_⟩
          rw [List.mem_singleton.1 hb]
          rintro rfl
          exact hin ha
        rw [decide_eq_false hin] at hask
        clear hin
        go_wp2_with (fail)
        go_roundw
        case rel => exact ⟨k + 1, by omega, by go_num, HN⟩
        case measure => simp [intOf]; omega
    · have HR : Hid (M.unlikeS xs = true) := by
        show _ = _
        unfold M.unlikeS
        refine decide_eq_true ?_
        have h := HI.out.2.1
        rw [List.take_of_length_le (by rw [← HL.out]; omega)] at h
        exact h
      have HB : Hid (Below w.heap.size w wr) := HI.out.2.2
      clear HI
      go_wp2_with (fail)
      go_ret
      exact ⟨ret_bool HR.out.symm, HB.out⟩
end Go.Proofs.Ytjpdoblmdchmkae
/-
  CHAPTER 8's LAWS: alive.
-/
namespace Go.Proofs.Ytjpdoblmdchmkae
open Go.RowKit

def k8a : M.Kp := ⟨⟨4, false, [], [], 2⟩, true, 0, 0⟩
def k8b : M.Kp := ⟨⟨5, false, [], [], 0⟩, false, 3, 0⟩
def v8a : KV := ⟨⟨4, false, none, 0, 0, none, 0, 0, 2⟩, true, 0, 0⟩
def v8b : KV := ⟨⟨5, false, none, 0, 0, none, 0, 0, 0⟩, false, 3, 0⟩
theorem row_nil {α : Type} {k : Nat} {cs : α → List Value} (w : World) : Row k cs w none 0 [] := ⟨rfl, .inl rfl⟩
theorem cont8a (w : World) : ContC w v8a k8a := ⟨⟨rfl, rfl, rfl, row_nil w, row_nil w⟩, rfl, rfl, rfl⟩
theorem cont8b (w : World) : ContC w v8b k8b := ⟨⟨rfl, rfl, rfl, row_nil w, row_nil w⟩, rfl, rfl, rfl⟩
theorem keep8a : M.keepS [] 3 k8a = (0, [k8a]) := M.keepC_some (by rfl) (M.shrink_end (by decide))
theorem keep8b : M.keepS [k8a] 3 k8b = (0, [k8a, k8b]) := M.keepC_some (by rfl) (M.shrink_end (by decide))
def k8c : M.Kp := ⟨⟨5, false, [], [], 0⟩, false, 3, 9⟩
theorem use8 : M.useS [k8a, k8b] 5 9 = [k8a, k8c] := by rfl
theorem has8 : M.hasK [k8a, k8b] 5 = true := by rfl
theorem worst8 : idxW (M.worstS [k8a, k8b] 2) = 1 := by rfl
theorem clean8 : ([k8a, k8b].filter fun x => !x.dirty).length = 1 := by rfl
theorem fresh8 : ([k8a, k8b].filter (M.stayB [])).length = 1 := by rfl
theorem small8 : ∀ x ∈ [k8a, k8b], Small x.node := by
  intro x hx
  simp at hx
  rcases hx with rfl | rfl
  · exact ⟨by decide, by decide⟩
  · exact ⟨by decide, by decide⟩
set_option maxRecDepth 8000 in
set_option maxHeartbeats 8000000 in
theorem alive8_any (w : World) : Calls Try.prog 4 #[] w fun e w' => e = .returned (.bool true) ∧ Below w.heap.size w w' := by
  go_enter Try.func4, Try.ntmps4
  go_wp2_with (fail)
  refine (keep_kept none 0 0 3 [] [] v8a k8a w ⟨row_nil w, All2.nil⟩ (by intro x hx; cases hx) (cont8a w) (small8 k8a (by simp)) (by decide)).mono ?_
  rintro e w1 ⟨A1, n1, c1, us1, rfl, ho1, hb1⟩
  rw [keep8a] at ho1
  rw [keep8a]
  have H1 : Hid (OwnC w1 w.heap.size A1 n1 c1 us1 [k8a] ∧ Below w.heap.size w w1) := ⟨ho1, hb1⟩
  obtain rfl : n1 = 1 := ho1.len
  clear ho1 hb1
  go_wp2_with (fail)
  refine (keep_kept A1 1 c1 3 us1 [k8a] v8b k8b w1 H1.out.1.tree (fun x hx => small8 x (by simp at hx; simp [hx])) (cont8b w1) (small8 k8b (by simp)) (by decide)).mono ?_
  rintro e w2 ⟨A2, n2, c2, us2, rfl, ho2, hb2⟩
  rw [keep8b] at ho2
  rw [keep8b]
  have H2 : Hid (OwnC w2 w1.heap.size A2 n2 c2 us2 [k8a, k8b] ∧ Below w.heap.size w w2) := ⟨ho2, H1.out.2.trans (hb2.mono H1.out.2.size)⟩
  obtain rfl : n2 = 2 := ho2.len
  clear ho2 hb2
  go_wp2_with (fail)
  refine (use_kept A2 2 c2 us2 [k8a, k8b] 5 9 w2 H2.out.1.tree small8 (by decide)).mono ?_
  rintro e w3 ⟨A3, c3, us3, rfl, ho3, hb3⟩
  rw [use8] at ho3
  have H3 : Hid (OwnC w3 w2.heap.size A3 2 c3 us3 [k8a, k8c] ∧ OwnC w3 w1.heap.size A2 2 c2 us2 [k8a, k8b] ∧ Below w.heap.size w w3) := ⟨ho3, H2.out.1.below (Nat.le_refl _) hb3, H2.out.2.trans (hb3.mono H2.out.2.size)⟩
  clear ho3 hb3
  go_wp2_with (fail)
  refine (has_kept A2 2 c2 us2 [k8a, k8b] 5 w3 H3.out.2.1.tree (by decide)).mono ?_
  rintro e w4 ⟨rfl, hb⟩
  rw [has8]
  have H4 : Hid (OwnC w4 w2.heap.size A3 2 c3 us3 [k8a, k8c] ∧ OwnC w4 w1.heap.size A2 2 c2 us2 [k8a, k8b] ∧ Below w.heap.size w w4) := ⟨H3.out.1.below (Nat.le_refl _) hb, H3.out.2.1.below (Nat.le_refl _) hb, H3.out.2.2.trans (hb.mono H3.out.2.2.size)⟩
  clear hb
  go_wp2_with (fail)
  refine (worst_kept A2 2 c2 us2 [k8a, k8b] w4 H4.out.2.1.tree (by decide)).mono ?_
  rintro e w5 ⟨rfl, hb⟩
  rw [show idxW (M.worstS [k8a, k8b] [k8a, k8b].length) = 1 from worst8]
  have H5 : Hid (OwnC w5 w2.heap.size A3 2 c3 us3 [k8a, k8c] ∧ OwnC w5 w1.heap.size A2 2 c2 us2 [k8a, k8b] ∧ Below w.heap.size w w5) := ⟨H4.out.1.below (Nat.le_refl _) hb, H4.out.2.1.below (Nat.le_refl _) hb, H4.out.2.2.trans (hb.mono H4.out.2.2.size)⟩
  clear hb
  obtain ⟨g3, o3, u, rfl, hgl, hu, c0, c1', c2', c3', c4, c5, c6, c7⟩ := H5.out.1.tree.1.at (j := 1) (by decide)
  have hul : u.last = 9 := by
    have := (H5.out.1.tree.2.2 1 u k8c hu rfl).2.2.2
    exact this
  rw [hul] at c7
  clear hul hu hgl
  go_wp2_with (fail)
  refine (cleanL_kept A2 2 c2 us2 [k8a, k8b] w5 H5.out.2.1.tree small8 (by decide)).mono ?_
  rintro e w6 ⟨B6, m6, d6, us6, rfl, ho, hb⟩
  obtain rfl : m6 = 1 := by rw [ho.len]; exact clean8
  have H6 : Hid (OwnC w6 w1.heap.size A2 2 c2 us2 [k8a, k8b] ∧ Below w.heap.size w w6) := ⟨H5.out.2.1.below (Nat.le_refl _) hb, H5.out.2.2.trans (hb.mono H5.out.2.2.size)⟩
  clear hb ho c0 c1' c2' c3' c4 c5 c6 c7
  go_wp2_with (fail)
  refine (freshL_kept A2 2 c2 us2 [k8a, k8b] none 0 0 [] [] w6 H6.out.1.tree small8 (by decide) ⟨row_nil w6, All2.nil⟩ (by decide)).mono ?_
  rintro e w7 ⟨B7, m7, d7, us7, rfl, ho, hb⟩
  obtain rfl : m7 = 1 := by rw [ho.len]; exact fresh8
  have H7 : Hid (OwnC w7 w1.heap.size A2 2 c2 us2 [k8a, k8b] ∧ Below w.heap.size w w7) := ⟨H6.out.1.below (Nat.le_refl _) hb, H6.out.2.trans (hb.mono H6.out.2.size)⟩
  clear hb ho
  go_wp2_with (fail)
  refine (tree_kept A2 2 c2 us2 [k8a, k8b] w7 H7.out.1.tree small8 (by decide)).mono ?_
  rintro e w8 ⟨B8, d8, us8, ys8, rfl, _, hb, _⟩
  have H8 : Hid (OwnC w8 w1.heap.size A2 2 c2 us2 [k8a, k8b] ∧ Below w.heap.size w w8) := ⟨H7.out.1.below (Nat.le_refl _) hb, H7.out.2.trans (hb.mono H7.out.2.size)⟩
  clear hb
  go_wp2_with (fail)
  refine (ownL_kept A2 2 c2 us2 [k8a, k8b] w8 H8.out.1.tree small8 (by decide)).mono ?_
  rintro e w9 ⟨B9, d9, us9, rfl, _, hb⟩
  have H9 : Hid (Below w.heap.size w w9) := H8.out.2.trans (hb.mono H8.out.2.size)
  clear hb
  go_wp2_with (fail)
  go_ret
  exact ⟨rfl, H9.out⟩
end Go.Proofs.Ytjpdoblmdchmkae
/-
  THE LAW CacheFresh, walked.
-/
namespace Go.Proofs.Ytjpdoblmdchmkae
open Go.RowKit

namespace M
theorem find_any (ts : List Nd) (hr : RsN ts) (f v : Int) : ts.any (verB f v) = match find ts f with
  | none => false
  | some y => decide (y.ver = v) := by
  cases hf : find ts f with
  | none =>
    refine List.any_eq_false.2 fun y hy hb => ?_
    unfold verB at hb
    rw [Bool.and_eq_true, decide_eq_true_eq] at hb
    have := List.find?_eq_none.1 hf y hy
    simp [hb.1] at this
  | some y =>
    have hy := List.mem_of_find?_eq_some hf
    have hyf : y.fid = f := by have := List.find?_some hf; simpa using this
    show ts.any (verB f v) = decide (y.ver = v)
    by_cases hv : y.ver = v
    · rw [decide_eq_true hv]
      exact List.any_eq_true.2 ⟨y, hy, by unfold verB; simp [hyf, hv]⟩
    · rw [decide_eq_false hv]
      refine List.any_eq_false.2 fun z hz hb => ?_
      unfold verB at hb
      rw [Bool.and_eq_true, decide_eq_true_eq, decide_eq_true_eq] at hb
      obtain ⟨i, hi⟩ := List.getElem?_of_mem hz
      have h1 := find_self hr hi
      rw [hb.1, hf] at h1
      cases h1
      exact hv hb.2
theorem unlike_inj {xs : List Kp} (h : unlikeS xs = true) {x y : Kp} (hx : x ∈ xs) (hy : y ∈ xs) (e : x.node.fid = y.node.fid) : x = y := by
  unfold unlikeS at h
  have hn := of_decide_eq_true h
  unfold fidsK at hn
  obtain ⟨i, hi⟩ := List.getElem?_of_mem hx
  obtain ⟨j, hj⟩ := List.getElem?_of_mem hy
  have h1 : (xs.map fun x => x.node.fid)[i]? = some x.node.fid := by rw [List.getElem?_map, hi]; rfl
  have h2 : (xs.map fun x => x.node.fid)[j]? = some x.node.fid := by rw [List.getElem?_map, hj, e]; rfl
  obtain ⟨a1, a2⟩ := List.getElem?_eq_some_iff.1 h1
  obtain ⟨b1, b2⟩ := List.getElem?_eq_some_iff.1 h2
  have := (List.getElem_inj (h₀ := a1) (h₁ := b1) hn).1 (a2.trans b2.symm)
  subst this
  rw [hi] at hj
  exact Option.some.inj hj
theorem has_filter {xs : List Kp} (h : unlikeS xs = true) (p : Kp → Bool) {x : Kp} (hx : x ∈ xs) : hasK (xs.filter p) x.node.fid = p x := by
  unfold hasK
  cases hp : p x with
  | true => exact List.any_eq_true.2 ⟨x, List.mem_filter.2 ⟨hx, hp⟩, by simp⟩
  | false =>
    refine List.any_eq_false.2 fun y hy hb => ?_
    obtain ⟨hy1, hy2⟩ := List.mem_filter.1 hy
    have := unlike_inj h hy1 hx (by simpa using hb)
    rw [this, hp] at hy2
    cases hy2
end M
def VFA (sa : Nat) (AX : Option Addr) (mX : Nat) (cX : Nat) (v : KV) (hv : Bool) : Nat → Value → World → Prop
  | 0 => IsW (.slice AX mX cX)
  | 1 => IsW (.pointer (some ⟨sa, 0, none⟩))
  | 2 => IsW (.pointer (some ⟨sa, 0, none⟩))
  | 3 => IsW (.int .i64 (v.n.fid))
  | 4 => IsW (.bool (hv))
  | 5 => IsW (.pointer (some ⟨sa, 0 + 5, none⟩))
  | 6 => IsW (.bool true)
  | 7 => IsW (.bool true)
  | 8 => IsW (undef)
  | 9 => IsW (undef)
  | 10 => IsW (undef)
  | 11 => IsW (undef)
  | 12 => IsW (undef)
  | 13 => IsW (undef)
  | 14 => IsW (undef)
  | 15 => IsW (undef)
  | 16 => IsW (undef)
  | 17 => IsW (.bool true)
  | 18 => IsW (.bool (hv != true))
  | _ => fun _ _ => True
theorem VFA_stays (sa : Nat) (AX : Option Addr) (mX : Nat) (cX : Nat) (v : KV) (hv : Bool) : ∀ i, Stays (VFA sa AX mX cX v hv i) := by
  intro i v W W' hb h
  match i, h with
  | 0, h => exact h
  | 1, h => exact h
  | 2, h => exact h
  | 3, h => exact h
  | 4, h => exact h
  | 5, h => exact h
  | 6, h => exact h
  | 7, h => exact h
  | 8, h => exact h
  | 9, h => exact h
  | 10, h => exact h
  | 11, h => exact h
  | 12, h => exact h
  | 13, h => exact h
  | 14, h => exact h
  | 15, h => exact h
  | 16, h => exact h
  | 17, h => exact h
  | 18, h => exact h
  | k + 19, h => trivial
def VFB (sa : Nat) (AX : Option Addr) (mX : Nat) (cX : Nat) (v : KV) (hv : Bool) : Nat → Value → World → Prop
  | 0 => IsW (.slice AX mX cX)
  | 1 => IsW (.pointer (some ⟨sa, 0, none⟩))
  | 2 => IsW (.pointer (some ⟨sa, 0, none⟩))
  | 3 => IsW (.int .i64 (v.n.fid))
  | 4 => IsW (.bool (hv))
  | 5 => IsW (.pointer (some ⟨sa, 0 + 5, none⟩))
  | 6 => IsW (.bool false)
  | 7 => IsW (.bool false)
  | 8 => IsW (.bool false)
  | 9 => IsW (.bool false)
  | 10 => IsW (undef)
  | 11 => IsW (undef)
  | 12 => IsW (undef)
  | 13 => IsW (undef)
  | 14 => IsW (undef)
  | 15 => IsW (undef)
  | 16 => IsW (.bool false)
  | 17 => IsW (.bool false)
  | 18 => IsW (.bool (hv != false))
  | _ => fun _ _ => True
theorem VFB_stays (sa : Nat) (AX : Option Addr) (mX : Nat) (cX : Nat) (v : KV) (hv : Bool) : ∀ i, Stays (VFB sa AX mX cX v hv i) := by
  intro i v W W' hb h
  match i, h with
  | 0, h => exact h
  | 1, h => exact h
  | 2, h => exact h
  | 3, h => exact h
  | 4, h => exact h
  | 5, h => exact h
  | 6, h => exact h
  | 7, h => exact h
  | 8, h => exact h
  | 9, h => exact h
  | 10, h => exact h
  | 11, h => exact h
  | 12, h => exact h
  | 13, h => exact h
  | 14, h => exact h
  | 15, h => exact h
  | 16, h => exact h
  | 17, h => exact h
  | 18, h => exact h
  | k + 19, h => trivial
def VFC (sa : Nat) (sb : Nat) (AX : Option Addr) (mX : Nat) (cX : Nat) (v : KV) (y : NV) (hv : Bool) (q : Bool) : Nat → Value → World → Prop
  | 0 => IsW (.slice AX mX cX)
  | 1 => IsW (.pointer (some ⟨sa, 0, none⟩))
  | 2 => IsW (.pointer (some ⟨sa, 0, none⟩))
  | 3 => IsW (.int .i64 (v.n.fid))
  | 4 => IsW (.bool (hv))
  | 5 => IsW (.pointer (some ⟨sa, 0 + 5, none⟩))
  | 6 => IsW (.bool false)
  | 7 => IsW (.bool false)
  | 8 => IsW (.bool true)
  | 9 => IsW (.bool true)
  | 10 => IsW (.pointer (some ⟨sb, 0 + 4, none⟩))
  | 11 => IsW (.int .i64 (y.ver))
  | 12 => IsW (.pointer (some ⟨sa, 0, none⟩))
  | 13 => IsW (.pointer (some ⟨sa, 0 + 4, none⟩))
  | 14 => IsW (.int .i64 (v.n.ver))
  | 15 => IsW (.bool (q))
  | 16 => IsW (.bool (q))
  | 17 => IsW (.bool (q))
  | 18 => IsW (.bool (hv != q))
  | _ => fun _ _ => True
theorem VFC_stays (sa : Nat) (sb : Nat) (AX : Option Addr) (mX : Nat) (cX : Nat) (v : KV) (y : NV) (hv : Bool) (q : Bool) : ∀ i, Stays (VFC sa sb AX mX cX v y hv q i) := by
  intro i v W W' hb h
  match i, h with
  | 0, h => exact h
  | 1, h => exact h
  | 2, h => exact h
  | 3, h => exact h
  | 4, h => exact h
  | 5, h => exact h
  | 6, h => exact h
  | 7, h => exact h
  | 8, h => exact h
  | 9, h => exact h
  | 10, h => exact h
  | 11, h => exact h
  | 12, h => exact h
  | 13, h => exact h
  | 14, h => exact h
  | 15, h => exact h
  | 16, h => exact h
  | 17, h => exact h
  | 18, h => exact h
  | k + 19, h => trivial
set_option maxRecDepth 8000 in
set_option maxHeartbeats 8000000 in
theorem fresh_law_any (A : Option Addr) (n c : Nat) (vs : List KV) (xs : List M.Kp) (AT : Option Addr) (nt ct : Nat) (ut : List NV) (ts : List M.Nd) (w : World) (ht : TreeC w A n vs xs) (hs : ∀ x ∈ xs, Small x.node) (hn : (n + 1) * 96 ≤ 140737488355328) (htt : Tree w AT nt ut ts) (hst : ∀ x ∈ ts, Small x) (hnt : nt * 72 ≤ 140737488355328) :
    Calls Try.prog 3 #[.slice A n c, .slice AT nt ct] w fun e w' => e = .returned (.bool true) ∧ Below w.heap.size w w' := by
  have HT : Hid (TreeC w A n vs xs ∧ (∀ x ∈ xs, Small x.node) ∧ Tree w AT nt ut ts ∧ (∀ x ∈ ts, Small x)) := ⟨ht, hs, htt, hst⟩
  have HL : Hid (n = xs.length) := ht.len
  have hn2 : n ≤ 140737488355328 := by omega
  have hnt2 : nt ≤ 140737488355328 := by omega
  clear ht hs htt hst
  go_enter Try.func3, Try.ntmps3
  go_wp2_with (fail)
  refine (alive8_any w).mono ?_
  rintro e w1 ⟨rfl, hb⟩
  have H1 : Hid (Below w.heap.size w w1) := hb
  clear hb
  go_wp2_with (fail)
  refine (unlike_any A n c vs xs w1 (HT.out.1.below (Nat.le_refl _) H1.out) hn2).mono ?_
  rintro e w2 ⟨rfl, hb⟩
  have H2 : Hid (Below w.heap.size w w2) := H1.out.trans (hb.mono H1.out.size)
  clear hb
  obtain ⟨ul, hul⟩ : ∃ ul, M.unlikeS xs = ul := ⟨_, rfl⟩
  have HUL : Hid (M.unlikeS xs = ul) := hul
  rw [hul]
  clear hul
  cases ul
  case' false =>
    go_wp2_with (fail)
    go_ret
    exact ⟨rfl, H2.out⟩
  go_wp2_with (fail)
  refine (rises_any AT nt ct ut ts w2 (HT.out.2.2.1.below (Nat.le_refl _) H2.out) hnt HT.out.2.2.2).mono ?_
  rintro e w3 ⟨rfl, hb⟩
  have H3 : Hid (Below w.heap.size w w3) := H2.out.trans (hb.mono H2.out.size)
  clear hb
  obtain ⟨rb, hrb⟩ : ∃ rb, riseB ts = rb := ⟨_, rfl⟩
  have HRB : Hid (riseB ts = rb) := hrb
  rw [hrb]
  clear hrb
  cases rb
  case' false =>
    go_wp2_with (fail)
    go_ret
    exact ⟨rfl, H3.out⟩
  have HR : Hid (M.RsN ts) := (riseB_iff.1 HRB.out).1
  go_wp2_with (fail)
  refine (freshL_kept A n c vs xs AT nt ct ut ts w3 (HT.out.1.below (Nat.le_refl _) H3.out) HT.out.2.1 hn (HT.out.2.2.1.below (Nat.le_refl _) H3.out) hnt2).mono ?_
  rintro e w4 ⟨AX, mX, cX, usX, rfl, ho, hb⟩
  have H4 : Hid (OwnC w4 w3.heap.size AX mX cX usX (xs.filter (M.stayB ts)) ∧ Below w.heap.size w w4) := ⟨ho, H3.out.trans (hb.mono H3.out.size)⟩
  have hmX : mX ≤ n := by
    rw [ho.len, HL.out]
    exact List.length_filter_le _ _
  clear ho hb
  go_wp2_with (fail)
  refine (of_any AT nt ct ut ts w4 (HT.out.2.2.1.below (Nat.le_refl _) H4.out.2) HR.out hnt).mono ?_
  rintro e w5 ⟨bm, rfl, htm, hb⟩
  have H5 : Hid (TreeC w5 AX mX usX (xs.filter (M.stayB ts)) ∧ TMap w5 bm ts ∧ Below w.heap.size w w5) := ⟨(H4.out.1.below (Nat.le_refl _) hb).tree, htm, H4.out.2.trans (hb.mono H4.out.2.size)⟩
  clear htm hb
  go_wp2_with (fail)
  go_loopw [28] (fun i W => ∃ k : Nat, k ≤ n ∧ i = .int .i64 k ∧ Below w5.heap.size w5 W) (fun i _ => n - (intOf i).toNat)
  case atStart => exact ⟨0, Nat.zero_le _, rfl, Below.refl _ _⟩
  case round =>
    obtain ⟨k, hk, rfl, hbk⟩ := hrel
    rename World => wr
    have HBR : Hid (Below w5.heap.size w5 wr ∧ Below w.heap.size w wr) := ⟨hbk, H5.out.2.2.trans (hbk.mono H5.out.2.2.size)⟩
    by_cases hlt : k < n
    · have htr := HT.out.1.below (Nat.le_refl _) HBR.out.2
      obtain ⟨g, o, v, rfl, hgl, hvk, c0, c1, c2, c3, c4, c5, c6, c7⟩ := htr.1.at hlt
      obtain ⟨x, hx, hcx⟩ := htr.2.at hvk
      have HX : Hid (x ∈ xs ∧ v.n.fid = x.node.fid ∧ v.dirty = x.dirty ∧ v.n.ver = x.node.ver) := ⟨List.mem_of_getElem? hx, hcx.1.1, hcx.2.1, hcx.1.2.2.1⟩
      have HWA : Hid _ := boxK_one wr v
      clear htr hvk hx hcx hgl hbk
      go_upto_region 10 with (fail)
      obtain ⟨w6, hw6⟩ : ∃ W, W = wr.alloc (.cells #[.int .i64 v.n.fid, .bool v.n.dir, .slice v.n.dA v.n.dn v.n.dc, .slice v.n.eA v.n.en v.n.ec, .int .i64 v.n.ver, .bool v.dirty, .int .i64 v.worth, .int .i64 v.last] 36) := ⟨_, rfl⟩
      have H6 : Hid (Below w5.heap.size w5 w6 ∧ BoxK w6 wr.heap.size v ∧ wr.heap.size < w6.heap.size) := by
        obtain ⟨q1, q2, q3⟩ := HWA.out _ hw6
        exact ⟨HBR.out.1.trans (q1.mono HBR.out.1.size), q2, by rw [q3]; exact Nat.lt_succ_self _⟩
      rw [← hw6]
      clear hw6 HWA c0 c1 c2 c3 c4 c5 c6 c7
      obtain ⟨z0, z1, z2, z3, z4, z5, z6, z7, zf, zz⟩ := H6.out.2.1.facts
      go_cut [9, 10] from 33 to 39 (fun u t W => ∃ (y : NV) (bb : Bool), u = .pointer (some ⟨w6.heap.size, 0, none⟩) ∧ t = .bool bb ∧ Hid (Box W w6.heap.size y ∧ M.stayB ts x = (v.dirty || (bb && decide (y.ver = v.n.ver))) ∧ Below w5.heap.size w5 W ∧ BoxK W wr.heap.size v))
      case first =>
        have HBX : Hid (∀ y : NV, ∀ W, W = w6.alloc (.cells #[.int .i64 y.fid, .bool y.dir, .slice y.dA y.dn y.dc, .slice y.eA y.en y.ec, .int .i64 y.ver] 34) → Box W w6.heap.size y ∧ (Below w5.heap.size w5 W ∧ BoxK W wr.heap.size v)) := by
          rintro y W rfl
          exact ⟨Box.new w6 y, H6.out.1.alloc H6.out.1.size _, H6.out.2.1.alloc _⟩
        rcases IMap.ask (H5.out.2.1.below (Nat.le_refl _) H6.out.1) v.n.fid with ⟨hno, hl⟩ | ⟨y, z, hyes, hcy, hl⟩
        · have hl2 := hl true
          simp only [if_true] at hl2
          have HS : Hid (M.stayB ts x = (v.dirty || (false && decide (NV.zero.ver = v.n.ver)))) := by
            show _ = _
            unfold M.stayB
            rw [M.find_any ts HR.out, ← HX.out.2.1, hno, HX.out.2.2.1]; rfl
          have HY : Hid _ := HBX.out NV.zero
          clear hno hl
          go_wp2_with (fail)
          go_meet
          case rel => exact ⟨NV.zero, false, rfl, rfl, (HY.out _ rfl).1, HS.out, (HY.out _ rfl).2⟩
        · have hl2 := hl true
          simp only [if_true] at hl2
          have HS : Hid (M.stayB ts x = (v.dirty || (true && decide (y.ver = v.n.ver)))) := by
            show _ = _
            unfold M.stayB
            rw [M.find_any ts HR.out, ← HX.out.2.1, hyes, HX.out.2.2.1, hcy.2.2.1, HX.out.2.2.2]; rfl
          have HY : Hid _ := HBX.out y
          clear hyes hl hcy
          go_wp2_with (fail)
          go_meet
          case rel => exact ⟨y, true, rfl, rfl, (HY.out _ rfl).1, HS.out, (HY.out _ rfl).2⟩
      obtain ⟨y, bb, rfl, rfl, H7⟩ := hcut
      rename World => w7
      obtain ⟨sA, hsA⟩ : ∃ q, wr.heap.size = q := ⟨_, rfl⟩
      obtain ⟨sB, hsB⟩ : ∃ q, w6.heap.size = q := ⟨_, rfl⟩
      rw [hsA, hsB] at H7
      rw [hsA, hsB]
      clear hsA hsB z0 z1 z2 z3 z4 z5 z6 z7 zf zz H6
      obtain ⟨hv, hhv⟩ : ∃ hv, M.hasK (xs.filter (M.stayB ts)) x.node.fid = hv := ⟨_, rfl⟩
      have HHV : Hid (hv = (v.dirty || (bb && decide (y.ver = v.n.ver)))) := by
        show _ = _
        rw [← hhv, M.has_filter HUL.out (M.stayB ts) HX.out.1, H7.out.2.1]
      have HHK : Hid (M.hasK (xs.filter (M.stayB ts)) x.node.fid = hv) := hhv
      have HBW : Hid (Below w5.heap.size w5 w7) := H7.out.2.2.1
      clear hhv
      go_upto_region 11 with (fail)
      go_cut [58] from 40 to 58 (fun t W => t = .bool false ∧ Below w5.heap.size w5 W)
      case first =>
        have HVA : ∀ W, Below w7.drew.heap.size w7.drew W → KeptAt W sA 0 v := fun W hb => keptAt_box (H7.out.2.2.2.below ((Below.refl _ _).drew.trans hb) (lt_of_block H7.out.2.2.2))
        have HVB : ∀ W, Below w7.drew.heap.size w7.drew W → Box W sB y := fun W hb => H7.out.1.below ((Below.refl _ _).drew.trans hb) (lt_of_block H7.out.1)
        have HHAS : ∀ W, Below w7.drew.heap.size w7.drew W → Calls Try.prog 9 #[.slice AX mX cX, .int .i64 v.n.fid] W fun e w'' => ∃ r, e = .returned r ∧ (Below W.heap.size W w'' ∧ r = .bool hv) := fun W hb => by
          have hbW := H7.out.2.2.1.trans (((Below.refl _ _).drew.trans hb).mono H7.out.2.2.1.size)
          refine (has_kept AX mX cX usX (xs.filter (M.stayB ts)) v.n.fid W (H5.out.1.below (Nat.le_refl _) hbW) (by omega)).mono ?_
          rintro e w'' ⟨rfl, hb2⟩
          exact ⟨_, rfl, hb2, by rw [HX.out.2.1, HHK.out]⟩
        obtain ⟨db, hdb⟩ : ∃ b, v.dirty = b := ⟨_, rfl⟩
        have rb0 : v.dirty = db := hdb
        have HDB : Hid (hv = (db || (bb && decide (y.ver = v.n.ver)))) := by show _ = _; rw [HHV.out, hdb]
        clear hdb
        cases db
        · cases bb
          · have HE : Hid ((hv != false) = false) := by show _ = _; rw [HDB.out]; rfl
            refine wp_region_vals (VFB sA AX mX cX v hv) (by kernel_rfl) (by kernel_rfl) (VFB_stays sA AX mX cX v hv) ?_ ?_
            · intro j hj
              match j, hj with
              | 0, _ =>
                refine StepAt.by rfl fun a' W hf hb hd => ?_
                exact .inl ⟨want_none, does_move ((hf.keeps 5 (by kernel_rfl)).trans rfl) ⟨Below.refl _ _, rfl⟩⟩
              | 1, _ =>
                refine StepAt.by rfl fun a' W hf hb hd => ?_
                exact .inl ⟨want_none, does_run (run_fieldK0 ((hf.keeps 8 (by kernel_rfl)).trans rfl)) ⟨Below.refl _ _, rfl⟩⟩
              | 2, _ =>
                refine StepAt.by rfl fun a' W hf hb hd => ?_
                exact .inl ⟨want_none, does_run (run_fieldN0 (hd 1 (by kernel_rfl))) ⟨Below.refl _ _, rfl⟩⟩
              | 3, _ =>
                refine StepAt.by rfl fun a' W hf hb hd => ?_
                exact .inl ⟨want_none, does_run (run_load3 (hd 2 (by kernel_rfl)) ((HVA W hb) 0 _ rfl)) ⟨Below.refl _ _, rfl⟩⟩
              | 4, _ =>
                refine StepAt.by rfl fun a' W hf hb hd => ?_
                refine .inl ⟨want_none, ?_⟩
                exact does_call2 (enters_of Try.func9 (by kernel_rfl) (by kernel_rfl)) (hd 0 (by kernel_rfl)) (hd 3 (by kernel_rfl)) (HHAS W hb)
              | 5, _ =>
                refine StepAt.by rfl fun a' W hf hb hd => ?_
                exact .inl ⟨want_none, does_run (run_fieldK1 ((hf.keeps 8 (by kernel_rfl)).trans rfl)) ⟨Below.refl _ _, rfl⟩⟩
              | 6, _ =>
                refine StepAt.by rfl fun a' W hf hb hd => ?_
                exact .inl ⟨want_none, does_run (run_load4 (hd 5 (by kernel_rfl)) ((HVA W hb) 5 _ rfl)) ⟨Below.refl _ _, by show Value.bool _ = _; rw [rb0]⟩⟩
              | 7, _ =>
                refine StepAt.by rfl fun a' W hf hb hd => ?_
                exact .inl ⟨want_none, does_move (hd 6 (by kernel_rfl)) ⟨Below.refl _ _, rfl⟩⟩
              | 8, _ =>
                refine StepAt.by rfl fun a' W hf hb hd => ?_
                exact .inl ⟨want_some (k := 7) (t := 47) rfl (hd 7 (by kernel_rfl)), does_move ((hf.keeps 10 (by kernel_rfl)).trans rfl) ⟨Below.refl _ _, rfl⟩⟩
              | 9, _ =>
                refine StepAt.by rfl fun a' W hf hb hd => ?_
                exact .inl ⟨want_some (k := 7) (t := 47) rfl (hd 7 (by kernel_rfl)), does_move (hd 8 (by kernel_rfl)) ⟨Below.refl _ _, rfl⟩⟩
              | 10, _ =>
                refine StepAt.by rfl fun a' W hf hb hd => ?_
                exact .inr ⟨want_some (k := 9) (t := 49) rfl (hd 9 (by kernel_rfl)), rfl⟩
              | 11, _ =>
                refine StepAt.by rfl fun a' W hf hb hd => ?_
                exact .inr ⟨want_some (k := 9) (t := 49) rfl (hd 9 (by kernel_rfl)), rfl⟩
              | 12, _ =>
                refine StepAt.by rfl fun a' W hf hb hd => ?_
                exact .inr ⟨want_some (k := 9) (t := 49) rfl (hd 9 (by kernel_rfl)), rfl⟩
              | 13, _ =>
                refine StepAt.by rfl fun a' W hf hb hd => ?_
                exact .inr ⟨want_some (k := 9) (t := 49) rfl (hd 9 (by kernel_rfl)), rfl⟩
              | 14, _ =>
                refine StepAt.by rfl fun a' W hf hb hd => ?_
                exact .inr ⟨want_some (k := 9) (t := 49) rfl (hd 9 (by kernel_rfl)), rfl⟩
              | 15, _ =>
                refine StepAt.by rfl fun a' W hf hb hd => ?_
                exact .inr ⟨want_some (k := 9) (t := 49) rfl (hd 9 (by kernel_rfl)), rfl⟩
              | 16, _ =>
                refine StepAt.by rfl fun a' W hf hb hd => ?_
                exact .inl ⟨want_some (k := 7) (t := 47) rfl (hd 7 (by kernel_rfl)), does_pick (b := false) (hd 9 (by kernel_rfl)) rfl ⟨Below.refl _ _, rfl⟩⟩
              | 17, _ =>
                refine StepAt.by rfl fun a' W hf hb hd => ?_
                exact .inl ⟨want_none, does_pick (b := false) (hd 7 (by kernel_rfl)) (hd 16 (by kernel_rfl)) ⟨Below.refl _ _, rfl⟩⟩
              | 18, _ =>
                refine StepAt.by rfl fun a' W hf hb hd => ?_
                refine .inl ⟨want_none, ?_⟩
                exact does_neqB (hd 4 (by kernel_rfl)) (hd 17 (by kernel_rfl)) ⟨Below.refl _ _, rfl⟩
              | k + 19, hi => exact absurd hi (Nat.not_lt.2 (Nat.le_add_left _ _))
            · intro a' W hf hb hw
              have hlast : a'.eval (.tmp 58) = .bool (hv != false) := hw 18 (by decide)
              have hl := hf.lit (fun t => decide (40 ≤ t) && decide (t ≤ 58)) (by kernel_rfl)
              simp only [overL, Nat.reduceAdd, Nat.reduceLeDiff, decide_true, decide_false, Bool.and_true, Bool.and_false] at hl
              rw [hl]
              clear hl
              go_wp2_with (fail)
              go_meet
              case rel => exact ⟨hlast.trans (congrArg Value.bool HE.out), (HBW.out.trans (hb.mono HBW.out.size))⟩
          · obtain ⟨q, hq⟩ : ∃ q, ((y.ver : Int) == v.n.ver) = q := ⟨_, rfl⟩
            have rb1 : ((y.ver : Int) == (v.n.ver : Int)) = q := hq
            have HE : Hid ((hv != q) = false) := by
              show _ = _
              rw [HDB.out, ← hq]
              by_cases h : y.ver = v.n.ver
              · simp [h]
              · simp [h]
            clear hq
            refine wp_region_vals (VFC sA sB AX mX cX v y hv q) (by kernel_rfl) (by kernel_rfl) (VFC_stays sA sB AX mX cX v y hv q) ?_ ?_
            · intro j hj
              match j, hj with
              | 0, _ =>
                refine StepAt.by rfl fun a' W hf hb hd => ?_
                exact .inl ⟨want_none, does_move ((hf.keeps 5 (by kernel_rfl)).trans rfl) ⟨Below.refl _ _, rfl⟩⟩
              | 1, _ =>
                refine StepAt.by rfl fun a' W hf hb hd => ?_
                exact .inl ⟨want_none, does_run (run_fieldK0 ((hf.keeps 8 (by kernel_rfl)).trans rfl)) ⟨Below.refl _ _, rfl⟩⟩
              | 2, _ =>
                refine StepAt.by rfl fun a' W hf hb hd => ?_
                exact .inl ⟨want_none, does_run (run_fieldN0 (hd 1 (by kernel_rfl))) ⟨Below.refl _ _, rfl⟩⟩
              | 3, _ =>
                refine StepAt.by rfl fun a' W hf hb hd => ?_
                exact .inl ⟨want_none, does_run (run_load3 (hd 2 (by kernel_rfl)) ((HVA W hb) 0 _ rfl)) ⟨Below.refl _ _, rfl⟩⟩
              | 4, _ =>
                refine StepAt.by rfl fun a' W hf hb hd => ?_
                refine .inl ⟨want_none, ?_⟩
                exact does_call2 (enters_of Try.func9 (by kernel_rfl) (by kernel_rfl)) (hd 0 (by kernel_rfl)) (hd 3 (by kernel_rfl)) (HHAS W hb)
              | 5, _ =>
                refine StepAt.by rfl fun a' W hf hb hd => ?_
                exact .inl ⟨want_none, does_run (run_fieldK1 ((hf.keeps 8 (by kernel_rfl)).trans rfl)) ⟨Below.refl _ _, rfl⟩⟩
              | 6, _ =>
                refine StepAt.by rfl fun a' W hf hb hd => ?_
                exact .inl ⟨want_none, does_run (run_load4 (hd 5 (by kernel_rfl)) ((HVA W hb) 5 _ rfl)) ⟨Below.refl _ _, by show Value.bool _ = _; rw [rb0]⟩⟩
              | 7, _ =>
                refine StepAt.by rfl fun a' W hf hb hd => ?_
                exact .inl ⟨want_none, does_move (hd 6 (by kernel_rfl)) ⟨Below.refl _ _, rfl⟩⟩
              | 8, _ =>
                refine StepAt.by rfl fun a' W hf hb hd => ?_
                exact .inl ⟨want_some (k := 7) (t := 47) rfl (hd 7 (by kernel_rfl)), does_move ((hf.keeps 10 (by kernel_rfl)).trans rfl) ⟨Below.refl _ _, rfl⟩⟩
              | 9, _ =>
                refine StepAt.by rfl fun a' W hf hb hd => ?_
                exact .inl ⟨want_some (k := 7) (t := 47) rfl (hd 7 (by kernel_rfl)), does_move (hd 8 (by kernel_rfl)) ⟨Below.refl _ _, rfl⟩⟩
              | 10, _ =>
                refine StepAt.by rfl fun a' W hf hb hd => ?_
                exact .inl ⟨want_some (k := 9) (t := 49) rfl (hd 9 (by kernel_rfl)), does_run (run_fieldN4 ((hf.keeps 9 (by kernel_rfl)).trans rfl)) ⟨Below.refl _ _, rfl⟩⟩
              | 11, _ =>
                refine StepAt.by rfl fun a' W hf hb hd => ?_
                exact .inl ⟨want_some (k := 9) (t := 49) rfl (hd 9 (by kernel_rfl)), does_run (run_load3 (hd 10 (by kernel_rfl)) (Box.facts (HVB W hb)).2.2.2.2.1) ⟨Below.refl _ _, rfl⟩⟩
              | 12, _ =>
                refine StepAt.by rfl fun a' W hf hb hd => ?_
                exact .inl ⟨want_some (k := 9) (t := 49) rfl (hd 9 (by kernel_rfl)), does_run (run_fieldK0 ((hf.keeps 8 (by kernel_rfl)).trans rfl)) ⟨Below.refl _ _, rfl⟩⟩
              | 13, _ =>
                refine StepAt.by rfl fun a' W hf hb hd => ?_
                exact .inl ⟨want_some (k := 9) (t := 49) rfl (hd 9 (by kernel_rfl)), does_run (run_fieldN4 (hd 12 (by kernel_rfl))) ⟨Below.refl _ _, rfl⟩⟩
              | 14, _ =>
                refine StepAt.by rfl fun a' W hf hb hd => ?_
                exact .inl ⟨want_some (k := 9) (t := 49) rfl (hd 9 (by kernel_rfl)), does_run (run_load3 (hd 13 (by kernel_rfl)) ((HVA W hb) 4 _ rfl)) ⟨Below.refl _ _, rfl⟩⟩
              | 15, _ =>
                refine StepAt.by rfl fun a' W hf hb hd => ?_
                refine .inl ⟨want_some (k := 9) (t := 49) rfl (hd 9 (by kernel_rfl)), ?_⟩
                exact does_run (run_eqI (hd 11 (by kernel_rfl)) (hd 14 (by kernel_rfl))) ⟨Below.refl _ _, by show Value.bool _ = _; rw [rb1]⟩
              | 16, _ =>
                refine StepAt.by rfl fun a' W hf hb hd => ?_
                exact .inl ⟨want_some (k := 7) (t := 47) rfl (hd 7 (by kernel_rfl)), does_pick (b := true) (hd 9 (by kernel_rfl)) (hd 15 (by kernel_rfl)) ⟨Below.refl _ _, rfl⟩⟩
              | 17, _ =>
                refine StepAt.by rfl fun a' W hf hb hd => ?_
                exact .inl ⟨want_none, does_pick (b := false) (hd 7 (by kernel_rfl)) (hd 16 (by kernel_rfl)) ⟨Below.refl _ _, rfl⟩⟩
              | 18, _ =>
                refine StepAt.by rfl fun a' W hf hb hd => ?_
                refine .inl ⟨want_none, ?_⟩
                exact does_neqB (hd 4 (by kernel_rfl)) (hd 17 (by kernel_rfl)) ⟨Below.refl _ _, rfl⟩
              | k + 19, hi => exact absurd hi (Nat.not_lt.2 (Nat.le_add_left _ _))
            · intro a' W hf hb hw
              have hlast : a'.eval (.tmp 58) = .bool (hv != q) := hw 18 (by decide)
              have hl := hf.lit (fun t => decide (40 ≤ t) && decide (t ≤ 58)) (by kernel_rfl)
              simp only [overL, Nat.reduceAdd, Nat.reduceLeDiff, decide_true, decide_false, Bool.and_true, Bool.and_false] at hl
              rw [hl]
              clear hl
              go_wp2_with (fail)
              go_meet
              case rel => exact ⟨hlast.trans (congrArg Value.bool HE.out), (HBW.out.trans (hb.mono HBW.out.size))⟩
        · have HE : Hid ((hv != true) = false) := by show _ = _; rw [HDB.out]; rfl
          refine wp_region_vals (VFA sA AX mX cX v hv) (by kernel_rfl) (by kernel_rfl) (VFA_stays sA AX mX cX v hv) ?_ ?_
          · intro j hj
            match j, hj with
            | 0, _ =>
              refine StepAt.by rfl fun a' W hf hb hd => ?_
              exact .inl ⟨want_none, does_move ((hf.keeps 5 (by kernel_rfl)).trans rfl) ⟨Below.refl _ _, rfl⟩⟩
            | 1, _ =>
              refine StepAt.by rfl fun a' W hf hb hd => ?_
              exact .inl ⟨want_none, does_run (run_fieldK0 ((hf.keeps 8 (by kernel_rfl)).trans rfl)) ⟨Below.refl _ _, rfl⟩⟩
            | 2, _ =>
              refine StepAt.by rfl fun a' W hf hb hd => ?_
              exact .inl ⟨want_none, does_run (run_fieldN0 (hd 1 (by kernel_rfl))) ⟨Below.refl _ _, rfl⟩⟩
            | 3, _ =>
              refine StepAt.by rfl fun a' W hf hb hd => ?_
              exact .inl ⟨want_none, does_run (run_load3 (hd 2 (by kernel_rfl)) ((HVA W hb) 0 _ rfl)) ⟨Below.refl _ _, rfl⟩⟩
            | 4, _ =>
              refine StepAt.by rfl fun a' W hf hb hd => ?_
              refine .inl ⟨want_none, ?_⟩
              exact does_call2 (enters_of Try.func9 (by kernel_rfl) (by kernel_rfl)) (hd 0 (by kernel_rfl)) (hd 3 (by kernel_rfl)) (HHAS W hb)
            | 5, _ =>
              refine StepAt.by rfl fun a' W hf hb hd => ?_
              exact .inl ⟨want_none, does_run (run_fieldK1 ((hf.keeps 8 (by kernel_rfl)).trans rfl)) ⟨Below.refl _ _, rfl⟩⟩
            | 6, _ =>
              refine StepAt.by rfl fun a' W hf hb hd => ?_
              exact .inl ⟨want_none, does_run (run_load4 (hd 5 (by kernel_rfl)) ((HVA W hb) 5 _ rfl)) ⟨Below.refl _ _, by show Value.bool _ = _; rw [rb0]⟩⟩
            | 7, _ =>
              refine StepAt.by rfl fun a' W hf hb hd => ?_
              exact .inl ⟨want_none, does_move (hd 6 (by kernel_rfl)) ⟨Below.refl _ _, rfl⟩⟩
            | 8, _ =>
              refine StepAt.by rfl fun a' W hf hb hd => ?_
              exact .inr ⟨want_some (k := 7) (t := 47) rfl (hd 7 (by kernel_rfl)), rfl⟩
            | 9, _ =>
              refine StepAt.by rfl fun a' W hf hb hd => ?_
              exact .inr ⟨want_some (k := 7) (t := 47) rfl (hd 7 (by kernel_rfl)), rfl⟩
            | 10, _ =>
              refine StepAt.by rfl fun a' W hf hb hd => ?_
              exact .inr ⟨want_undef (k := 9) (t := 49) rfl (hd 9 (by kernel_rfl)), rfl⟩
            | 11, _ =>
              refine StepAt.by rfl fun a' W hf hb hd => ?_
              exact .inr ⟨want_undef (k := 9) (t := 49) rfl (hd 9 (by kernel_rfl)), rfl⟩
            | 12, _ =>
              refine StepAt.by rfl fun a' W hf hb hd => ?_
              exact .inr ⟨want_undef (k := 9) (t := 49) rfl (hd 9 (by kernel_rfl)), rfl⟩
            | 13, _ =>
              refine StepAt.by rfl fun a' W hf hb hd => ?_
              exact .inr ⟨want_undef (k := 9) (t := 49) rfl (hd 9 (by kernel_rfl)), rfl⟩
            | 14, _ =>
              refine StepAt.by rfl fun a' W hf hb hd => ?_
              exact .inr ⟨want_undef (k := 9) (t := 49) rfl (hd 9 (by kernel_rfl)), rfl⟩
            | 15, _ =>
              refine StepAt.by rfl fun a' W hf hb hd => ?_
              exact .inr ⟨want_undef (k := 9) (t := 49) rfl (hd 9 (by kernel_rfl)), rfl⟩
            | 16, _ =>
              refine StepAt.by rfl fun a' W hf hb hd => ?_
              exact .inr ⟨want_some (k := 7) (t := 47) rfl (hd 7 (by kernel_rfl)), rfl⟩
            | 17, _ =>
              refine StepAt.by rfl fun a' W hf hb hd => ?_
              exact .inl ⟨want_none, does_pick (b := true) (hd 7 (by kernel_rfl)) rfl ⟨Below.refl _ _, rfl⟩⟩
            | 18, _ =>
              refine StepAt.by rfl fun a' W hf hb hd => ?_
              refine .inl ⟨want_none, ?_⟩
              exact does_neqB (hd 4 (by kernel_rfl)) (hd 17 (by kernel_rfl)) ⟨Below.refl _ _, rfl⟩
            | k + 19, hi => exact absurd hi (Nat.not_lt.2 (Nat.le_add_left _ _))
          · intro a' W hf hb hw
            have hlast : a'.eval (.tmp 58) = .bool (hv != true) := hw 18 (by decide)
            have hl := hf.lit (fun t => decide (40 ≤ t) && decide (t ≤ 58)) (by kernel_rfl)
            simp only [overL, Nat.reduceAdd, Nat.reduceLeDiff, decide_true, decide_false, Bool.and_true, Bool.and_false] at hl
            rw [hl]
            clear hl
            go_wp2_with (fail)
            go_meet
            case rel => exact ⟨hlast.trans (congrArg Value.bool HE.out), (HBW.out.trans (hb.mono HBW.out.size))⟩
      obtain ⟨rfl, hbw⟩ := hcut
      rename World => w8
      have H8 : Hid (Below w5.heap.size w5 w8) := hbw
      clear hbw
      go_wp2_with (fail)
      go_roundw
      case rel => exact ⟨k + 1, by omega, by go_num, H8.out⟩
      case measure => simp [intOf]; omega
    · have hle : (mX : Int) ≤ (n : Int) := by omega
      go_wp2_with (fail)
      go_ret
      exact ⟨rfl, HBR.out.2⟩
end Go.Proofs.Ytjpdoblmdchmkae
