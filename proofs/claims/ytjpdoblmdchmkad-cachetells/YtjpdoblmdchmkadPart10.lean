/- TEXTS LAID TOGETHER: Ksi, Ksj, Krx, Kla, Klb, Klc, Kld -/
import Derived.Test.YtjpdoblmdchmkadPart9
import Derived.Test.YtjpdoblmdchmkadPart6
import Derived.Test.YtjpdoblmdchmkadPart5
import Derived.Test.YtjpdoblmdchmkadPart8
import Derived.Test.YtjpdoblmdchmkadPart7
/-
  SORTING NODES: the whole.
-/
namespace Go.Proofs.Ytjpdoblmdchmkad
open Go.RowKit

/-- each block of s rises -/
def Blk (s : Nat) (L : List NV) : Prop := ∀ i j u v, i ≤ j → i / s = j / s → L[i]? = some u → L[j]? = some v → u.fid ≤ v.fid
theorem blk_nil (s : Nat) : Blk s [] := fun i j u v _ _ h _ => by cases h
theorem blk_app {s k : Nat} {D Z : List NV} (hs : 0 < s) (hd : Blk s D) (hk : D.length = s * k) (hz : Up Z) : Blk s (D ++ Z) := by
  intro i j u v hij he hu hv
  have hjl : j < D.length + Z.length := by
    have := (List.getElem?_eq_some_iff.1 hv).1
    rwa [List.length_append] at this
  by_cases hj : j < D.length
  · rw [List.getElem?_append_left (by omega)] at hu
    rw [List.getElem?_append_left hj] at hv
    exact hd i j u v hij he hu hv
  · have h1 : k ≤ j / s := (Nat.le_div_iff_mul_le hs).2 (by rw [Nat.mul_comm]; omega)
    have hi : D.length ≤ i := by
      rw [hk]
      have := (Nat.le_div_iff_mul_le hs).1 (show k ≤ i / s by omega)
      rw [Nat.mul_comm] at this
      exact this
    rw [List.getElem?_append_right hi] at hu
    rw [List.getElem?_append_right (by omega)] at hv
    rcases Nat.lt_or_ge (i - D.length) (j - D.length) with h | h
    · obtain ⟨a1, a2⟩ := List.getElem?_eq_some_iff.1 hu
      obtain ⟨b1, b2⟩ := List.getElem?_eq_some_iff.1 hv
      have := List.pairwise_iff_getElem.1 hz _ _ a1 b1 h
      rw [a2, b2] at this
      exact this
    · have e : i - D.length = j - D.length := by omega
      rw [e, hv] at hu
      cases hu
      exact Int.le_refl _
theorem blk_up {s : Nat} {L : List NV} (h : Blk s L) (hl : L.length ≤ s) : Up L := by
  refine List.pairwise_iff_getElem.2 fun i j hi hj hij => ?_
  exact h i j _ _ (Nat.le_of_lt hij) (by rw [Nat.div_eq_of_lt (by omega), Nat.div_eq_of_lt (by omega)]) (List.getElem?_eq_getElem hi) (List.getElem?_eq_getElem hj)
theorem blk_take {s : Nat} {L : List NV} (h : Blk s L) : Up (L.take s) := by
  refine blk_up (s := s) (fun i j u v hij he hu hv => ?_) (by rw [List.length_take]; omega)
  rw [List.getElem?_take] at hu hv
  split at hu
  · split at hv
    · exact h i j u v hij he hu hv
    · cases hv
  · cases hu
theorem blk_drop {s : Nat} {L : List NV} (hs : 0 < s) (h : Blk s L) : Blk s (L.drop s) := by
  intro i j u v hij he hu hv
  rw [List.getElem?_drop] at hu hv
  refine h (s + i) (s + j) u v (by omega) ?_ hu hv
  rw [Nat.add_div_left _ hs, Nat.add_div_left _ hs, he]
set_option maxRecDepth 8000 in
set_option maxHeartbeats 8000000 in
theorem stableSort_any (w0 : World) (B g n c : Nat) (us : List NV) (w : World) (hs : SW w0 B g n c us w) (hn : n ≤ 140737488355328) :
    Calls Try.prog 72 #[.slice (some ⟨g, 0, none⟩) n c, .int .i64 (n : Int), .func (.func 53) #[] #[]] w fun e w' => e = .returned (.tuple #[]) ∧ ∃ vs, vs.Perm us ∧ Up vs ∧ SW w0 B g n c vs w' := by
  have HS : Hid (SW w0 B g n c us w ∧ n = us.length) := ⟨hs, hs.len⟩
  have H0 : Hid (Blk 20 []) := blk_nil 20
  clear hs
  go_enter Try.func72, Try.ntmps72
  go_wp2_with (fail)
  go_loopw [7, 8] (fun av bv W => ∃ (k : Nat) (D T : List NV), av = .int .i64 ((20 * k : Nat) : Int) ∧ bv = .int .i64 ((20 * k + 20 : Nat) : Int) ∧ 20 * k ≤ n ∧ Hid (D.length = 20 * k ∧ Blk 20 D ∧ (D ++ T).Perm us ∧ SW w0 B g n c (D ++ T) W)) (fun av _ _ => n - (intOf av).toNat)
  case atStart => exact ⟨0, [], us, by go_num, by go_num, by omega, rfl, H0.out, List.Perm.refl _, HS.out.1⟩
  case round =>
    obtain ⟨k, D, T, rfl, rfl, hkn, HK⟩ := hrel
    rename World => wk
    have HTL : Hid (20 * k + T.length = n) := by
      have h1 := HK.out.2.2.2.len
      rw [List.length_append, HK.out.1] at h1
      exact h1.symm
    by_cases hle : 20 * k + 20 ≤ n
    · have hlei : ((20 * k + 20 : Nat) : Int) ≤ (n : Int) := by omega
      have HT : Hid ((T.take 20).length = 20 ∧ D ++ T.take 20 ++ T.drop 20 = D ++ T) := by
        have h1 := HTL.out
        refine ⟨by rw [List.length_take]; omega, by rw [List.append_assoc, List.take_append_drop]⟩
      go_wp2_with (fail)
      have hcall := insSort_any w0 B g n c D (T.take 20) (T.drop 20) wk (by rw [HT.out.2]; exact HK.out.2.2.2) hn
      rw [HK.out.1, HT.out.1] at hcall
      refine hcall.mono ?_
      rintro e w1 ⟨rfl, S', hp, hu, hsw⟩
      have HR : Hid ((D ++ S').length = 20 * (k + 1) ∧ Blk 20 (D ++ S') ∧ ((D ++ S') ++ T.drop 20).Perm us ∧ SW w0 B g n c ((D ++ S') ++ T.drop 20) w1) := by
        have hl := hp.length_eq
        rw [HT.out.1] at hl
        refine ⟨by rw [List.length_append, HK.out.1, hl]; omega, blk_app (k := k) (by decide) HK.out.2.1 HK.out.1 hu, ?_, hsw⟩
        refine List.Perm.trans ?_ HK.out.2.2.1
        rw [← HT.out.2]
        exact List.Perm.append_right _ (List.Perm.append_left D hp)
      clear hcall hp hu hsw
      go_wp2_with (fail)
      go_roundw
      case rel => exact ⟨k + 1, D ++ S', T.drop 20, by go_num, by go_num, by omega, HR⟩
      case measure => simp [intOf]; omega
    · have hlei : ¬ ((20 * k + 20 : Nat) : Int) ≤ (n : Int) := by omega
      go_wp2_with (fail)
      have hcall := insSort_any w0 B g n c D T [] wk (by rw [List.append_nil]; exact HK.out.2.2.2) hn
      rw [HK.out.1, HTL.out] at hcall
      refine hcall.mono ?_
      rintro e w1 ⟨rfl, S', hp, hu, hsw⟩
      have HR : Hid (Blk 20 (D ++ S') ∧ (D ++ S').Perm us ∧ SW w0 B g n c (D ++ S') w1) := by
        have hl := hp.length_eq
        have h2 := HTL.out
        rw [List.append_nil] at hsw
        exact ⟨blk_app (k := k) (by decide) HK.out.2.1 HK.out.1 hu, (List.Perm.append_left D hp).trans HK.out.2.2.1, hsw⟩
      clear hcall hp hu hsw
      go_wp2_with (fail)
      go_loopw [6] (fun sv W => ∃ (s : Nat) (vs : List NV), sv = .int .i64 (s : Int) ∧ 0 < s ∧ (s < n + n ∨ s = 20) ∧ Hid (Blk s vs ∧ vs.Perm us ∧ SW w0 B g n c vs W)) (fun sv _ => n - (intOf sv).toNat)
      case atStart => exact ⟨20, D ++ S', rfl, by omega, .inr rfl, HR⟩
      case round =>
        obtain ⟨s, vs, rfl, hs0, hsn, HV⟩ := hrel
        rename World => ws
        have HVL : Hid (n = vs.length) := HV.out.2.2.len
        by_cases hlt : s < n
        · have hlti : (s : Int) < (n : Int) := by omega
          obtain ⟨s2, hs2⟩ : ∃ s2, 2 * s = s2 := ⟨_, rfl⟩
          have HS2 : Hid (2 * s = s2) := hs2
          have h2s : 2 * (s : Int) = (s2 : Int) := by omega
          have h2s' : (s : Int) * 2 = (s2 : Int) := by omega
          have hs2n : s2 < n + n := by omega
          have HB0 : Hid (Blk s2 [] ∧ vs.Perm us) := ⟨blk_nil _, HV.out.2.1⟩
          clear hs2
          go_wp2_with (fail)
          go_loopw [7, 8] (fun av bv W => ∃ (a : Nat) (D T : List NV), av = .int .i64 (a : Int) ∧ bv = .int .i64 ((a + s2 : Nat) : Int) ∧ a ≤ n ∧ Hid ((∃ k, a = s2 * k) ∧ D.length = a ∧ Blk s2 D ∧ Blk s T ∧ (D ++ T).Perm us ∧ SW w0 B g n c (D ++ T) W)) (fun av _ _ => n - (intOf av).toNat)
          case atStart => exact ⟨0, [], vs, rfl, by go_num, Nat.zero_le _, ⟨0, rfl⟩, rfl, HB0.out.1, HV.out.1, HV.out.2.1, HV.out.2.2⟩
          case round =>
            obtain ⟨a, D, T, rfl, rfl, han, HK⟩ := hrel
            rename World => wk
            have HTL : Hid (a + T.length = n) := by
              have h1 := HK.out.2.2.2.2.2.len
              rw [List.length_append, HK.out.2.1] at h1
              exact h1.symm
            obtain ⟨as_, has⟩ : ∃ q, a + s = q := ⟨_, rfl⟩
            have HAS : Hid (a + s = as_) := has
            have sas : (a : Int) + (s : Int) = (as_ : Int) := by omega
            have hasn : as_ ≤ n + n := by omega
            clear has
            by_cases hle : a + s2 ≤ n
            · have hlei : ((a + s2 : Nat) : Int) ≤ (n : Int) := by omega
              have hall : D ++ (T.take s ++ ((T.drop s).take s ++ (T.drop s).drop s)) = D ++ T := by rw [List.take_append_drop, List.take_append_drop]
              have HL : Hid ((T.take s).length = s ∧ ((T.drop s).take s).length = s) := by
                have h1 := HTL.out
                have h2 := HS2.out
                refine ⟨by rw [List.length_take]; omega, by rw [List.length_take, List.length_drop]; omega⟩
              have HALL : Hid (D ++ (T.take s ++ ((T.drop s).take s ++ (T.drop s).drop s)) = D ++ T) := hall
              clear hall
              go_wp2_with (fail)
              refine (symMerge_any (s + s) w0 B g n c a as_ (a + s2) D (T.take s) ((T.drop s).take s) ((T.drop s).drop s) wk (by rw [HL.out.1, HL.out.2]; exact Nat.le_refl _) (by rw [HALL.out]; exact HK.out.2.2.2.2.2) HK.out.2.1.symm (by rw [HL.out.1, HK.out.2.1]; exact HAS.out.symm) (by rw [HL.out.1, HL.out.2, HK.out.2.1]; have := HS2.out; omega) (by rw [HL.out.1]; exact hs0) (by rw [HL.out.2]; exact hs0) (blk_take HK.out.2.2.2.1) (blk_take (blk_drop hs0 HK.out.2.2.2.1)) hn).mono ?_
              rintro e w1 ⟨rfl, Z, hp, hu, hsw⟩
              have HR : Hid ((∃ k, a + s2 = s2 * k) ∧ (D ++ Z).length = a + s2 ∧ Blk s2 (D ++ Z) ∧ Blk s ((T.drop s).drop s) ∧ ((D ++ Z) ++ (T.drop s).drop s).Perm us ∧ SW w0 B g n c ((D ++ Z) ++ (T.drop s).drop s) w1) := by
                have hl := hp.length_eq
                rw [List.length_append, HL.out.1, HL.out.2] at hl
                obtain ⟨k, hk⟩ := HK.out.1
                have h2 := HS2.out
                refine ⟨⟨k + 1, by rw [Nat.mul_add, Nat.mul_one, ← hk]⟩, by rw [List.length_append, HK.out.2.1, hl]; omega, blk_app (k := k) (by omega) HK.out.2.2.1 (by rw [HK.out.2.1]; exact hk) hu, blk_drop hs0 (blk_drop hs0 HK.out.2.2.2.1), ?_, by rw [List.append_assoc]; exact hsw⟩
                refine List.Perm.trans ?_ HK.out.2.2.2.2.1
                rw [← HALL.out, List.append_assoc, ← List.append_assoc (T.take s)]
                exact List.Perm.append_left D (List.Perm.append_right _ hp)
              clear hp hu hsw
              have has2 : a + s2 + s2 ≤ n + n + n := by omega
              go_wp2_with (fail)
              go_roundw
              case rel => exact ⟨a + s2, D ++ Z, (T.drop s).drop s, rfl, by go_num, by omega, HR⟩
              case measure => simp [intOf]; have := HS2.out; omega
            · have hlei : ¬ ((a + s2 : Nat) : Int) ≤ (n : Int) := by omega
              by_cases hmn : as_ < n
              · have hmi : (as_ : Int) < (n : Int) := by omega
                have HL : Hid ((T.take s).length = s ∧ a + s + (T.drop s).length = n ∧ 0 < (T.drop s).length) := by
                  have h1 := HTL.out
                  have h2 := HAS.out
                  rw [List.length_take, List.length_drop]
                  show _ ∧ _
                  omega
                go_wp2_with (fail)
                refine (symMerge_any (T.length) w0 B g n c a as_ n D (T.take s) (T.drop s) [] wk (by rw [← List.length_append, List.take_append_drop]; exact Nat.le_refl _) (by rw [List.append_nil, List.take_append_drop]; exact HK.out.2.2.2.2.2) HK.out.2.1.symm (by rw [HL.out.1, HK.out.2.1]; exact HAS.out.symm) (by rw [HL.out.1, HK.out.2.1]; exact HL.out.2.1.symm) (by rw [HL.out.1]; exact hs0) HL.out.2.2 (blk_take HK.out.2.2.2.1) (blk_up (s := s) (blk_drop hs0 HK.out.2.2.2.1) (by have := HL.out; have := HS2.out; omega)) hn).mono ?_
                rintro e w1 ⟨rfl, Z, hp, hu, hsw⟩
                have HR : Hid (Blk s2 (D ++ Z) ∧ (D ++ Z).Perm us ∧ SW w0 B g n c (D ++ Z) w1) := by
                  rw [List.take_append_drop] at hp
                  have hl := hp.length_eq
                  have h1 := HTL.out
                  obtain ⟨k, hk⟩ := HK.out.1
                  have h2 := HS2.out
                  rw [List.append_nil] at hsw
                  exact ⟨blk_app (k := k) (by omega) HK.out.2.2.1 (by rw [HK.out.2.1]; exact hk) hu, (List.Perm.append_left D hp).trans HK.out.2.2.2.2.1, hsw⟩
                clear hp hu hsw
                go_wp2_with (fail)
                go_roundw
                case rel => exact ⟨s2, D ++ Z, rfl, by have := HS2.out; omega, .inl hs2n, HR⟩
                case measure => simp [intOf]; have := HS2.out; omega
              · have hmi : ¬ (as_ : Int) < (n : Int) := by omega
                have HR : Hid (Blk s2 (D ++ T) ∧ (D ++ T).Perm us ∧ SW w0 B g n c (D ++ T) wk) := by
                  obtain ⟨k, hk⟩ := HK.out.1
                  have h1 := HTL.out
                  have h2 := HS2.out
                  have h3 := HAS.out
                  exact ⟨blk_app (k := k) (by omega) HK.out.2.2.1 (by rw [HK.out.2.1]; exact hk) (blk_up (s := s) HK.out.2.2.2.1 (by omega)), HK.out.2.2.2.2.1, HK.out.2.2.2.2.2⟩
                go_wp2_with (fail)
                go_roundw
                case rel => exact ⟨s2, D ++ T, rfl, by have := HS2.out; omega, .inl hs2n, HR⟩
                case measure => simp [intOf]; have := HS2.out; omega
        · have HE : Hid (∃ vs, vs.Perm us ∧ Up vs ∧ SW w0 B g n c vs ws) := ⟨vs, HV.out.2.1, blk_up HV.out.1 (by rw [← HVL.out]; omega), HV.out.2.2⟩
          have hlti : ¬ (s : Int) < (n : Int) := by omega
          go_wp2_with (fail)
          go_end0
          exact ⟨rfl, HE.out⟩
theorem stable_any (w0 : World) (B g n c : Nat) (us : List NV) (w : World) (hs : SW w0 B g n c us w) (hn : n ≤ 140737488355328) :
    Calls Try.prog 52 #[.slice (some ⟨g, 0, none⟩) n c, .func (.func 53) #[] #[]] w fun e w' => e = .returned (.tuple #[]) ∧ ∃ vs, vs.Perm us ∧ Up vs ∧ SW w0 B g n c vs w' := by
  have HS : Hid (SW w0 B g n c us w) := hs
  clear hs
  go_enter Try.func52, Try.ntmps52
  go_wp2_with (fail)
  refine (stableSort_any w0 B g n c us w HS.out hn).mono ?_
  rintro e w1 ⟨rfl, h⟩
  have HR : Hid (∃ vs, vs.Perm us ∧ Up vs ∧ SW w0 B g n c vs w1) := h
  clear h
  go_wp2_with (fail)
  go_end0
  exact ⟨rfl, HR.out⟩
end Go.Proofs.Ytjpdoblmdchmkad
/-
  PACKAGE cache: Tree.
-/
namespace Go.Proofs.Ytjpdoblmdchmkad
open Go.RowKit

theorem perm_of_map {α β : Type} (f : α → β) : ∀ {l₁ l₂ : List β}, l₁.Perm l₂ → ∀ l : List α, l.map f = l₂ → ∃ l' : List α, l'.Perm l ∧ l'.map f = l₁
  | _, _, .nil, l, h => ⟨l, List.Perm.refl _, h⟩
  | _, _, .cons x h, l, e => by
    cases l with
    | nil => cases e
    | cons a l =>
      rw [List.map_cons, List.cons.injEq] at e
      obtain ⟨l', p, q⟩ := perm_of_map f h l e.2
      exact ⟨a :: l', p.cons a, by rw [List.map_cons, q, e.1]⟩
  | _, _, .swap x y l2, l, e => by
    cases l with
    | nil => cases e
    | cons a l =>
      cases l with
      | nil => cases e
      | cons b l =>
        rw [List.map_cons, List.map_cons, List.cons.injEq, List.cons.injEq] at e
        exact ⟨b :: a :: l, List.Perm.swap a b l, by rw [List.map_cons, List.map_cons, e.1, e.2.1, e.2.2]⟩
  | _, _, .trans h1 h2, l, e => by
    obtain ⟨m, p, q⟩ := perm_of_map f h2 l e
    obtain ⟨m', p', q'⟩ := perm_of_map f h1 m q
    exact ⟨m', p'.trans p, q'⟩
/-- the nodes change their places: so does what they are -/
theorem all2_perm {R : NV → M.Nd → Prop} {vs vs' : List NV} {xs : List M.Nd} (h : All2 R vs xs) (hp : vs'.Perm vs) : ∃ xs', xs'.Perm xs ∧ All2 R vs' xs' := by
  have h1 : (vs.zip xs).map Prod.fst = vs := List.map_fst_zip (by rw [h.1]; exact Nat.le_refl _)
  have h2 : (vs.zip xs).map Prod.snd = xs := List.map_snd_zip (by rw [h.1]; exact Nat.le_refl _)
  obtain ⟨ps, p, q⟩ := perm_of_map Prod.fst hp _ h1
  have hall : ∀ x ∈ ps, R x.1 x.2 := by
    intro x hx
    obtain ⟨j, hj⟩ := List.getElem?_of_mem (p.mem_iff.1 hx)
    rw [List.getElem?_zip_eq_some] at hj
    exact h.2 j _ _ hj.1 hj.2
  refine ⟨ps.map Prod.snd, ?_, ?_⟩
  · have := p.map Prod.snd
    rw [h2] at this
    exact this
  · rw [← q]
    refine ⟨by simp, fun j v x hv hx => ?_⟩
    rw [List.getElem?_map] at hv hx
    cases hq : ps[j]? with
    | none => rw [hq] at hv; cases hv
    | some z =>
      rw [hq] at hv hx
      cases hv; cases hx
      exact hall z (List.mem_of_getElem? hq)
/-- so far: the first k nodes are laid -/
def Laying (w : World) (n k : Nat) (vs : List KV) (W : World) : Prop :=
  W.ownsRow w.heap.size 41 5 (.slice (some ⟨w.heap.size, 0, none⟩) n n) n ((((vs.map KV.n).take k) ++ List.replicate (n - k) NV.zero).flatMap NV.cells) ∧ Below w.heap.size w W
theorem laying_step {w W W' : World} {n k : Nat} {vs : List KV} {v : KV} (h : Laying w n k vs W) (hk : k < n) (hv : vs[k]? = some v) (hb : Below W.heap.size W W') : Laying w n (k + 1) vs (put5 W' w.heap.size (k * 5) v.n) := by
  obtain ⟨h1, h2⟩ := own_put5 (own_below h.1 hb (Nat.le_refl _)) k hk v.n
  have hm : (vs.map KV.n)[k]? = some v.n := by rw [List.getElem?_map, hv]; rfl
  have hl : ((vs.map KV.n).take k).length = k := by
    have := (List.getElem?_eq_some_iff.1 hm).1
    rw [List.length_take]; omega
  have e : ((vs.map KV.n).take k ++ List.replicate (n - k) NV.zero).set k v.n = (vs.map KV.n).take (k + 1) ++ List.replicate (n - (k + 1)) NV.zero := by
    have : n - k = (n - (k + 1)) + 1 := by omega
    rw [List.set_append_right _ _ (by omega), hl, Nat.sub_self, this, List.replicate_succ, take_step hm]
    simp
  rw [e] at h1
  exact ⟨h1, put5_below (h.2.trans (hb.mono h.2.size)) (Nat.le_refl _) _ _⟩
set_option maxRecDepth 8000 in
set_option maxHeartbeats 4000000 in
theorem tree_kept (A : Option Addr) (n c : Nat) (vs : List KV) (xs : List M.Kp) (w : World) (ht : TreeC w A n vs xs) (hs : ∀ x ∈ xs, Small x.node) (hn : n * 96 ≤ 140737488355328) :
    Calls Try.prog 25 #[.slice A n c] w fun e w' => ∃ (B : Option Addr) (d : Nat) (us : List NV) (ys : List M.Nd), e = .returned (.slice B n d) ∧ OwnT w' w.heap.size B n d us ys ∧ Below w.heap.size w w' ∧ ys.Perm (xs.map (·.node)) ∧ ys.Pairwise fun x y => x.fid ≤ y.fid := by
  obtain ⟨i26, hi26, hz26, hs26, hb26⟩ := info_parts info26
  have HT : Hid (TreeC w A n vs xs ∧ (∀ x ∈ xs, Small x.node) ∧ n = vs.length) := ⟨ht, hs, ht.1.1⟩
  have hb26' : i26.bytes * n ≤ 281474976710656 := by rw [hb26]; omega
  have hn2 : n ≤ 140737488355328 := by omega
  have hn3 : n * 72 ≤ 140737488355328 := by omega
  clear ht hs
  go_enter Try.func25, Try.ntmps25
  go_wp2_with (at_make; refine wpList_make_full _ (by rfl) (.tmp 7) (.tmp 7) 22 (by rfl) w.heap.size 41 i26 (.agg #[.int .i64 0, .bool false, .slice none 0 0, .slice none 0 0, .int .i64 0]) 5 Try.underlying22 hi26 hz26 hs26 .i64 .i64 _ _ n rfl rfl rfl rfl hb26' (by unfold maxLen; omega) (Nat.le_refl _) ?_; intro w1 hown hg1; have hb1 := grown_below hg1; clear hg1; rw [made5] at hown)
  have H0 : Hid (Laying w n 0 vs w1) := ⟨by simpa using hown, hb1⟩
  clear hown hb1
  go_loopw [11] (fun i wr => ∃ k : Nat, k ≤ n ∧ i = .int .i64 k ∧ Hid (Laying w n k vs wr)) (fun i _ => n - (intOf i).toNat)
  case atStart => exact ⟨0, Nat.zero_le _, rfl, H0⟩
  case round =>
    obtain ⟨k, hk, rfl, HO⟩ := hrel
    rename World => wr
    by_cases hlt : k < n
    · have htr := HT.out.1.below (Nat.le_refl _) HO.out.2
      obtain ⟨b, o, v, rfl, hbl, hvk, c0, c1, c2, c3, c4, c5, c6, c7⟩ := htr.1.at hlt
      have HV : Hid (vs[k]? = some v) := hvk
      have HWA : Hid _ := boxK_one wr v
      have hsz := HO.out.2.size
      clear htr hvk hbl
      obtain ⟨w2, hw2⟩ : ∃ W, W = wr.alloc (.cells #[.int .i64 v.n.fid, .bool v.n.dir, .slice v.n.dA v.n.dn v.n.dc, .slice v.n.eA v.n.en v.n.ec, .int .i64 v.n.ver, .bool v.dirty, .int .i64 v.worth, .int .i64 v.last] 63) := ⟨_, rfl⟩
      go_upto_region 5 with (fail)
      rw [← hw2]
      obtain ⟨q1, q2, q3⟩ := HWA.out _ hw2
      have H2 : Hid (Below wr.heap.size wr w2) := q1
      obtain ⟨z0, z1, z2, z3, z4, z5, z6, z7, zf, zz⟩ := q2.facts
      obtain ⟨v3, _, y0, y1, y2, y3, y4, yf, yz⟩ := own_at5 (own_below HO.out.1 q1 (Nat.le_refl _)) hlt
      have HR : Hid (Laying w n (k + 1) vs (put5 w2 w.heap.size (k * 5) v.n)) := laying_step HO.out hlt HV.out q1
      clear q1 q2 q3 hw2 HWA c0 c1 c2 c3 c4 c5 c6 c7
      go_wp2_with (fail)
      go_roundw
      case rel => exact ⟨k + 1, by omega, by go_num, HR⟩
      case measure => simp [intOf]; omega
    · have HQ : Hid (SW wr w.heap.size w.heap.size n n (vs.map KV.n) wr ∧ Below w.heap.size w wr) := by
        have h := HO.out
        have hkn : k = n := by omega
        subst hkn
        have h1 := h.1
        rw [Nat.sub_self, List.replicate_zero, List.append_nil, List.take_of_length_le (by rw [List.length_map]; exact Nat.le_of_eq HT.out.2.2.symm)] at h1
        exact ⟨SW.start h1, h.2⟩
      clear HO
      go_wp2_with (fail)
      refine (stable_any wr w.heap.size w.heap.size n n (vs.map KV.n) wr HQ.out.1 hn2).mono ?_
      rintro e w2 ⟨rfl, us, hp, hu, hsw⟩
      have HBW : Hid (Below w.heap.size w w2) := Below.grown HQ.out.2 hsw.2 HQ.out.2.size (fun g hg => by cases hg; exact Nat.le_refl _)
      have hall : All2 (Cont w2) (vs.map KV.n) (xs.map (·.node)) := by
        refine ⟨by rw [List.length_map, List.length_map, HT.out.1.2.1], fun j v x hv hx => ?_⟩
        rw [List.getElem?_map] at hv hx
        cases hq : vs[j]? with
        | none => rw [hq] at hv; cases hv
        | some kv =>
          obtain ⟨kx, hkx, hc⟩ := HT.out.1.2.at hq
          rw [hq] at hv
          rw [hkx] at hx
          cases hv; cases hx
          exact hc.1.below (Nat.le_refl _) HBW.out
      obtain ⟨ys, yp, ya⟩ := all2_perm hall hp
      have HY : Hid (ys.Perm (xs.map (·.node)) ∧ (ys.Pairwise fun x y => x.fid ≤ y.fid) ∧ (∀ y ∈ ys, Small y) ∧ Tree w2 (some ⟨w.heap.size, 0, none⟩) n us ys) := by
        refine ⟨yp, ?_, fun y hy => ?_, ⟨Row.ofOwn nod_len (by decide) hsw.1, ya⟩⟩
        · refine List.pairwise_iff_getElem.2 fun i j hi hj hij => ?_
          have hi' : i < us.length := by rw [ya.1]; exact hi
          have hj' : j < us.length := by rw [ya.1]; exact hj
          have h1 := ya.2 i _ _ (List.getElem?_eq_getElem hi') (List.getElem?_eq_getElem hi)
          have h2 := ya.2 j _ _ (List.getElem?_eq_getElem hj') (List.getElem?_eq_getElem hj)
          have h3 := List.pairwise_iff_getElem.1 hu i j hi' hj' hij
          rw [h1.1, h2.1] at h3
          exact h3
        · obtain ⟨x, hx, rfl⟩ := List.mem_map.1 (yp.mem_iff.1 hy)
          exact HT.out.2.1 x hx
      clear hp hu hsw hall yp ya
      go_wp2_with (fail)
      refine (own_any (some ⟨w.heap.size, 0, none⟩) n n us ys w2 HY.out.2.2.2 hn3 HY.out.2.2.1).mono ?_
      rintro e w3 ⟨g, us2, rfl, ho, hb3⟩
      have HR : Hid (OwnT w3 w.heap.size (some ⟨g, 0, none⟩) n n us2 ys ∧ Below w.heap.size w w3) := ⟨ho.mono HBW.out.size, HBW.out.trans (hb3.mono HBW.out.size)⟩
      clear ho hb3
      go_wp2_with (fail)
      go_ret
      exact ⟨_, n, us2, ys, rfl, HR.out.1, HR.out.2, HY.out.1, HY.out.2.1⟩
end Go.Proofs.Ytjpdoblmdchmkad
/-
  THE REFERENCE's caches: Kept, as a tree.
-/
namespace Go.Proofs.Ytjpdoblmdchmkad
open Go.RowKit
open Go.ChangeMaps (setBlock)
variable [Inhabited BaseN]

set_option maxHeartbeats 2000000 in
theorem refKept_any (A : Option Addr) (n c : Nat) (vs : List KV) (xs : List M.Kp) (w : World) (ht : KeptK w A n vs xs) (hn : n ≤ 140737488355328) :
    Calls Try.prog 26 #[.slice A n c] w fun e w' => ∃ b, e = .returned (.map (some b)) ∧ TMapK w' b (M.keptT xs) ∧ Below w.heap.size w w' := by
  have HT : Hid (KeptK w A n vs xs) := ht
  have HL : Hid (n = xs.length) := ht.len
  have hmm := @run_makeMap Try.prog
  have H0 : Hid (OfInvK w w.heap.size [] (w.alloc (.map #[] 0))) := ⟨⟨_, IMap.new w, agreeK_nil w⟩, (Below.refl _ _).alloc (Nat.le_refl _) _⟩
  clear ht
  go_enter Try.func26, Try.ntmps26
  go_wp2
  go_loopw [9] (fun i wr => ∃ k : Nat, k ≤ n ∧ i = .int .i64 k ∧ Hid (OfInvK w w.heap.size (M.keptT (xs.take k)) wr)) (fun i _ => n - (intOf i).toNat)
  case atStart => exact ⟨0, Nat.zero_le _, rfl, by rw [List.take_zero]; exact H0.out⟩
  case round =>
    obtain ⟨k, hk, rfl, HI⟩ := hrel
    rename World => wr
    have hb := HI.out.2
    by_cases hlt : k < n
    · have hxr := HT.out.below (Nat.le_refl _) hb
      obtain ⟨b, o, v, hA, _, hvk, a0, a1, a2, a3, a4, a5, a6, a7⟩ := hxr.1.at hlt
      obtain ⟨x, hxk, hcx⟩ := HT.out.2.2.at hvk
      have HF : Hid (M.keptT (xs.take (k + 1)) = M.putN (M.keptT (xs.take k)) x.node) := by show _ = _; rw [take_step hxk, M.keptT_snoc]
      obtain ⟨ob, hrun, hinv2⟩ := of_stepK (ys := M.putN (M.keptT (xs.take k)) x.node) (HI.out.alloc (.cells #[.int .i64 v.n.fid, .bool v.n.dir, .slice v.n.dA v.n.dn v.n.dc, .slice v.n.eA v.n.en v.n.ec, .int .i64 v.n.ver, .bool v.dirty, .int .i64 v.worth, .int .i64 v.last] 63)) (Nat.le_refl _) hcx.1 (fun q => M.findN_if _ _ q)
      rw [← HF.out] at hinv2
      have HI2 : Hid (OfInvK w w.heap.size (M.keptT (xs.take (k + 1))) (setBlock (wr.alloc (.cells #[.int .i64 v.n.fid, .bool v.n.dir, .slice v.n.dA v.n.dn v.n.dc, .slice v.n.eA v.n.en v.n.ec, .int .i64 v.n.ver, .bool v.dirty, .int .i64 v.worth, .int .i64 v.last] 63)) w.heap.size ob)) := hinv2
      have hkn : (k : Int) < (n : Int) := by omega
      have hk0 : (0 : Int) ≤ (k : Int) := by omega
      subst hA
      clear hxr hvk hxk hcx hinv2
      go_wp2
      go_roundw
      case rel => exact ⟨k + 1, by omega, by go_num, HI2⟩
      case measure => simp [intOf]; omega
    · have HN : Hid (xs.take k = xs) := by have := HL.out; show _ = _; exact List.take_of_length_le (by omega)
      go_wp2
      go_ret
      have h1 := HI.out
      rw [HN.out] at h1
      exact ⟨_, rfl, h1.tmap, hb⟩
end Go.Proofs.Ytjpdoblmdchmkad
/-
  CHAPTER 8's LAWS: no two of one fid; what answers nothing.
-/
namespace Go.Proofs.Ytjpdoblmdchmkad
open Go.RowKit
open Go.ChangeMaps (setBlock)

def hadC (H : List Int) : Int → Option Value := fun q => if q ∈ H then some (.bool true) else none
theorem info4C : (Try.prog.info? 4).map (fun i => (i.zero, i.size, i.bytes)) = some (some (.bool false), 1, 1) := by kernel_rfl
theorem zeroB8 (w : World) : (zeroValue 4).run Try.prog w = .ok (.bool false) w := by
  obtain ⟨i, hi, hz, hs, hb⟩ := info_parts info4C
  simp [zeroValue, typeInfo, hi, hz]
theorem hadC_ask {w : World} {b : Nat} {H : List Int} (h : IMap w b (hadC H)) (q : Int) : (Instr.lookup 33 (.map (some b)) (.int .i64 q) false).run Try.prog w = .ok (.bool (decide (q ∈ H))) w := by
  rw [run_lookup_map 33 4 Try.underlying33 (zeroB8 w) h q false]
  have e : (hadC H q).getD (.bool false) = .bool (decide (q ∈ H)) := by
    unfold hadC
    by_cases h : q ∈ H
    · rw [if_pos h, decide_eq_true h]; rfl
    · rw [if_neg h, decide_eq_false h]; rfl
  rw [← e]
  rfl
theorem hadC_add {w : World} {b : Nat} {H : List Int} (h : IMap w b (hadC H)) (q : Int) : ∃ o : Obj, (Instr.mapUpdate 33 (.map (some b)) (.int .i64 q) (.bool true)).run Try.prog w = .ok () (setBlock w b o) ∧ IMap (setBlock w b o) b (hadC (H ++ [q])) := by
  obtain ⟨o, h1, h2⟩ := run_update_map 33 4 Try.underlying33 h q (.bool true)
  have e : updF (hadC H) q (.bool true) = hadC (H ++ [q]) := by
    funext t
    unfold updF hadC
    by_cases h : t = q
    · subst h; simp
    · simp [h]
  rw [e] at h2
  exact ⟨o, h1, h2⟩
theorem hadC_new (w : World) : IMap (w.alloc (.map #[] 0)) w.heap.size (hadC []) := by
  have h : (fun _ => none : Int → Option Value) = hadC [] := by funext q; simp [hadC]
  rw [← h]
  exact IMap.new w
def M.fidsK (xs : List M.Kp) : List Int := xs.map fun x => x.node.fid
/-- no two are of one fid -/
def M.unlikeS (xs : List M.Kp) : Bool := decide (M.fidsK xs).Nodup
set_option maxHeartbeats 2000000 in
theorem unlike_any (A : Option Addr) (n c : Nat) (vs : List KV) (xs : List M.Kp) (w : World) (ht : TreeC w A n vs xs) (hn : n ≤ 140737488355328) :
    Calls Try.prog 20 #[.slice A n c] w fun e w' => e = .returned (.bool (M.unlikeS xs)) ∧ Below w.heap.size w w' := by
  have HT : Hid (TreeC w A n vs xs) := ht
  have HL : Hid (n = xs.length) := ht.len
  have hmm := @run_makeMap Try.prog
  have H0 : Hid (IMap (w.alloc (.map #[] 0)) w.heap.size (hadC []) ∧ Below w.heap.size w (w.alloc (.map #[] 0))) := ⟨hadC_new w, (Below.refl _ _).alloc (Nat.le_refl _) _⟩
  clear ht
  go_enter Try.func20, Try.ntmps20
  go_wp2
  go_loopw [9] (fun i wr => ∃ k : Nat, k ≤ n ∧ i = .int .i64 k ∧ Hid (IMap wr w.heap.size (hadC (M.fidsK (xs.take k))) ∧ (M.fidsK (xs.take k)).Nodup ∧ Below w.heap.size w wr)) (fun i _ => n - (intOf i).toNat)
  case atStart => exact ⟨0, Nat.zero_le _, rfl, H0.out.1, List.nodup_nil, H0.out.2⟩
  case round =>
    obtain ⟨k, hk, rfl, HI⟩ := hrel
    rename World => wr
    by_cases hlt : k < n
    · have htr := HT.out.below (Nat.le_refl _) HI.out.2.2
      obtain ⟨b, o, v, rfl, hbl, hvk, c0, c1, c2, c3, c4, c5, c6, c7⟩ := htr.1.at hlt
      obtain ⟨x, hx, hcx⟩ := htr.2.at hvk
      have HX : Hid (xs[k]? = some x ∧ v.n.fid = x.node.fid ∧ M.fidsK (xs.take (k + 1)) = M.fidsK (xs.take k) ++ [x.node.fid]) := ⟨hx, hcx.1.1, by unfold M.fidsK; rw [take_step hx, List.map_append]; rfl⟩
      have HWA : Hid _ := boxK_one wr v
      clear htr hvk hx hcx
      obtain ⟨w2, hw2⟩ : ∃ W, W = wr.alloc (.cells #[.int .i64 v.n.fid, .bool v.n.dir, .slice v.n.dA v.n.dn v.n.dc, .slice v.n.eA v.n.en v.n.ec, .int .i64 v.n.ver, .bool v.dirty, .int .i64 v.worth, .int .i64 v.last] 63) := ⟨_, rfl⟩
      go_upto_region 5 with (fail)
      rw [← hw2]
      obtain ⟨q1, q2, q3⟩ := HWA.out _ hw2
      have him : IMap w2 w.heap.size (hadC (M.fidsK (xs.take k))) := HI.out.1.below (Nat.le_refl _) q1
      have hask := hadC_ask him v.n.fid
      have H2 : Hid (Below w.heap.size w w2) := HI.out.2.2.trans (q1.mono HI.out.2.2.size)
      obtain ⟨z0, z1, z2, z3, z4, z5, z6, z7, zf, zz⟩ := q2.facts
      obtain ⟨ob, hup, him2⟩ := hadC_add him v.n.fid
      have HM2 : Hid (IMap (setBlock w2 w.heap.size ob) w.heap.size (hadC (M.fidsK (xs.take k) ++ [v.n.fid])) ∧ Below w.heap.size w (setBlock w2 w.heap.size ob)) := ⟨him2, setBlock_below H2.out (Nat.le_refl _) ob⟩
      have hne : wr.heap.size ≠ w.heap.size := by
        have := HI.out.1.lt
        omega
      have HB3 : Hid (BoxK (setBlock w2 w.heap.size ob) wr.heap.size v) := by
        show BoxK _ _ _
        unfold BoxK
        rw [setBlock_other hne]
        exact q2
      clear q1 q2 q3 hw2 HWA him him2 c0 c1 c2 c3 c4 c5 c6 c7
      by_cases hin : v.n.fid ∈ M.fidsK (xs.take k)
      · have HR : Hid (M.unlikeS xs = false) := by
          show _ = _
          unfold M.unlikeS
          refine decide_eq_false fun hnd => ?_
          have h1 : (M.fidsK (xs.take (k + 1))).Nodup := by
            refine List.Sublist.nodup ?_ hnd
            exact (List.take_sublist _ _).map _
          rw [HX.out.2.2] at h1
          have h2 := (List.nodup_append.1 h1).2.2
          rw [HX.out.2.1] at hin
          exact h2 _ hin _ (by simp) rfl
        rw [decide_eq_true hin] at hask
        clear hin
        go_wp2_with (fail)
        go_ret
        exact ⟨ret_bool HR.out.symm, H2.out⟩
      · have HN : Hid (IMap (setBlock w2 w.heap.size ob) w.heap.size (hadC (M.fidsK (xs.take (k + 1)))) ∧ (M.fidsK (xs.take (k + 1))).Nodup ∧ Below w.heap.size w (setBlock w2 w.heap.size ob)) := by
          rw [HX.out.2.2, ← HX.out.2.1]
          refine ⟨HM2.out.1, ?_, HM2.out.2⟩
          rw [List.nodup_append]
          refine ⟨HI.out.2.1, List.nodup_cons.2 ⟨by simp, List.nodup_nil⟩, fun a ha b hb => ?_⟩
          rw [List.mem_singleton.1 hb]
          rintro rfl
          exact hin ha
        rw [decide_eq_false hin] at hask
        clear hin
        go_wp2_with (fail)
        go_roundw
        case rel => exact ⟨k + 1, by omega, by go_num, HN⟩
        case measure => simp [intOf]; omega
    · have HR : Hid (M.unlikeS xs = true) := by
        show _ = _
        unfold M.unlikeS
        refine decide_eq_true ?_
        have h := HI.out.2.1
        rw [List.take_of_length_le (by rw [← HL.out]; omega)] at h
        exact h
      have HB : Hid (Below w.heap.size w wr) := HI.out.2.2
      clear HI
      go_wp2_with (fail)
      go_ret
      exact ⟨ret_bool HR.out.symm, HB.out⟩
end Go.Proofs.Ytjpdoblmdchmkad
/-
  CHAPTER 8's LAWS: alive.
-/
namespace Go.Proofs.Ytjpdoblmdchmkad
open Go.RowKit

def k8a : M.Kp := ⟨⟨4, false, [], [], 2⟩, true, 0, 0⟩
def k8b : M.Kp := ⟨⟨5, false, [], [], 0⟩, false, 3, 0⟩
def v8a : KV := ⟨⟨4, false, none, 0, 0, none, 0, 0, 2⟩, true, 0, 0⟩
def v8b : KV := ⟨⟨5, false, none, 0, 0, none, 0, 0, 0⟩, false, 3, 0⟩
theorem row_nil {α : Type} {k : Nat} {cs : α → List Value} (w : World) : Row k cs w none 0 [] := ⟨rfl, .inl rfl⟩
theorem cont8a (w : World) : ContC w v8a k8a := ⟨⟨rfl, rfl, rfl, row_nil w, row_nil w⟩, rfl, rfl, rfl⟩
theorem cont8b (w : World) : ContC w v8b k8b := ⟨⟨rfl, rfl, rfl, row_nil w, row_nil w⟩, rfl, rfl, rfl⟩
theorem keep8a : M.keepS [] 3 k8a = (0, [k8a]) := M.keepC_some (by rfl) (M.shrink_end (by decide))
theorem keep8b : M.keepS [k8a] 3 k8b = (0, [k8a, k8b]) := M.keepC_some (by rfl) (M.shrink_end (by decide))
def k8c : M.Kp := ⟨⟨5, false, [], [], 0⟩, false, 3, 9⟩
theorem use8 : M.useS [k8a, k8b] 5 9 = [k8a, k8c] := by rfl
theorem has8 : M.hasK [k8a, k8b] 5 = true := by rfl
theorem worst8 : idxW (M.worstS [k8a, k8b] 2) = 1 := by rfl
theorem clean8 : ([k8a, k8b].filter fun x => !x.dirty).length = 1 := by rfl
theorem fresh8 : ([k8a, k8b].filter (M.stayB [])).length = 1 := by rfl
theorem small8 : ∀ x ∈ [k8a, k8b], Small x.node := by
  intro x hx
  simp at hx
  rcases hx with rfl | rfl
  · exact ⟨by decide, by decide⟩
  · exact ⟨by decide, by decide⟩
set_option maxRecDepth 8000 in
set_option maxHeartbeats 8000000 in
theorem alive8_any (w : World) : Calls Try.prog 35 #[] w fun e w' => e = .returned (.bool true) ∧ Below w.heap.size w w' := by
  go_enter Try.func35, Try.ntmps35
  go_wp2_with (fail)
  refine (keep_kept none 0 0 3 [] [] v8a k8a w ⟨row_nil w, All2.nil⟩ (by intro x hx; cases hx) (cont8a w) (small8 k8a (by simp)) (by decide)).mono ?_
  rintro e w1 ⟨A1, n1, c1, us1, rfl, ho1, hb1⟩
  rw [keep8a] at ho1
  rw [keep8a]
  have H1 : Hid (OwnC w1 w.heap.size A1 n1 c1 us1 [k8a] ∧ Below w.heap.size w w1) := ⟨ho1, hb1⟩
  obtain rfl : n1 = 1 := ho1.len
  clear ho1 hb1
  go_wp2_with (fail)
  refine (keep_kept A1 1 c1 3 us1 [k8a] v8b k8b w1 H1.out.1.tree (fun x hx => small8 x (by simp at hx; simp [hx])) (cont8b w1) (small8 k8b (by simp)) (by decide)).mono ?_
  rintro e w2 ⟨A2, n2, c2, us2, rfl, ho2, hb2⟩
  rw [keep8b] at ho2
  rw [keep8b]
  have H2 : Hid (OwnC w2 w1.heap.size A2 n2 c2 us2 [k8a, k8b] ∧ Below w.heap.size w w2) := ⟨ho2, H1.out.2.trans (hb2.mono H1.out.2.size)⟩
  obtain rfl : n2 = 2 := ho2.len
  clear ho2 hb2
  go_wp2_with (fail)
  refine (use_kept A2 2 c2 us2 [k8a, k8b] 5 9 w2 H2.out.1.tree small8 (by decide)).mono ?_
  rintro e w3 ⟨A3, c3, us3, rfl, ho3, hb3⟩
  rw [use8] at ho3
  have H3 : Hid (OwnC w3 w2.heap.size A3 2 c3 us3 [k8a, k8c] ∧ OwnC w3 w1.heap.size A2 2 c2 us2 [k8a, k8b] ∧ Below w.heap.size w w3) := ⟨ho3, H2.out.1.below (Nat.le_refl _) hb3, H2.out.2.trans (hb3.mono H2.out.2.size)⟩
  clear ho3 hb3
  go_wp2_with (fail)
  refine (has_kept A2 2 c2 us2 [k8a, k8b] 5 w3 H3.out.2.1.tree (by decide)).mono ?_
  rintro e w4 ⟨rfl, hb⟩
  rw [has8]
  have H4 : Hid (OwnC w4 w2.heap.size A3 2 c3 us3 [k8a, k8c] ∧ OwnC w4 w1.heap.size A2 2 c2 us2 [k8a, k8b] ∧ Below w.heap.size w w4) := ⟨H3.out.1.below (Nat.le_refl _) hb, H3.out.2.1.below (Nat.le_refl _) hb, H3.out.2.2.trans (hb.mono H3.out.2.2.size)⟩
  clear hb
  go_wp2_with (fail)
  refine (worst_kept A2 2 c2 us2 [k8a, k8b] w4 H4.out.2.1.tree (by decide)).mono ?_
  rintro e w5 ⟨rfl, hb⟩
  rw [show idxW (M.worstS [k8a, k8b] [k8a, k8b].length) = 1 from worst8]
  have H5 : Hid (OwnC w5 w2.heap.size A3 2 c3 us3 [k8a, k8c] ∧ OwnC w5 w1.heap.size A2 2 c2 us2 [k8a, k8b] ∧ Below w.heap.size w w5) := ⟨H4.out.1.below (Nat.le_refl _) hb, H4.out.2.1.below (Nat.le_refl _) hb, H4.out.2.2.trans (hb.mono H4.out.2.2.size)⟩
  clear hb
  obtain ⟨g3, o3, u, rfl, hgl, hu, c0, c1', c2', c3', c4, c5, c6, c7⟩ := H5.out.1.tree.1.at (j := 1) (by decide)
  have hul : u.last = 9 := by
    have := (H5.out.1.tree.2.2 1 u k8c hu rfl).2.2.2
    exact this
  rw [hul] at c7
  clear hul hu hgl
  go_wp2_with (fail)
  refine (cleanL_kept A2 2 c2 us2 [k8a, k8b] w5 H5.out.2.1.tree small8 (by decide)).mono ?_
  rintro e w6 ⟨B6, m6, d6, us6, rfl, ho, hb⟩
  obtain rfl : m6 = 1 := by rw [ho.len]; exact clean8
  have H6 : Hid (OwnC w6 w1.heap.size A2 2 c2 us2 [k8a, k8b] ∧ Below w.heap.size w w6) := ⟨H5.out.2.1.below (Nat.le_refl _) hb, H5.out.2.2.trans (hb.mono H5.out.2.2.size)⟩
  clear hb ho c0 c1' c2' c3' c4 c5 c6 c7
  go_wp2_with (fail)
  refine (freshL_kept A2 2 c2 us2 [k8a, k8b] none 0 0 [] [] w6 H6.out.1.tree small8 (by decide) ⟨row_nil w6, All2.nil⟩ (by decide)).mono ?_
  rintro e w7 ⟨B7, m7, d7, us7, rfl, ho, hb⟩
  obtain rfl : m7 = 1 := by rw [ho.len]; exact fresh8
  have H7 : Hid (OwnC w7 w1.heap.size A2 2 c2 us2 [k8a, k8b] ∧ Below w.heap.size w w7) := ⟨H6.out.1.below (Nat.le_refl _) hb, H6.out.2.trans (hb.mono H6.out.2.size)⟩
  clear hb ho
  go_wp2_with (fail)
  refine (tree_kept A2 2 c2 us2 [k8a, k8b] w7 H7.out.1.tree small8 (by decide)).mono ?_
  rintro e w8 ⟨B8, d8, us8, ys8, rfl, _, hb, _⟩
  have H8 : Hid (OwnC w8 w1.heap.size A2 2 c2 us2 [k8a, k8b] ∧ Below w.heap.size w w8) := ⟨H7.out.1.below (Nat.le_refl _) hb, H7.out.2.trans (hb.mono H7.out.2.size)⟩
  clear hb
  go_wp2_with (fail)
  refine (ownL_kept A2 2 c2 us2 [k8a, k8b] w8 H8.out.1.tree small8 (by decide)).mono ?_
  rintro e w9 ⟨B9, d9, us9, rfl, _, hb⟩
  have H9 : Hid (Below w.heap.size w w9) := H8.out.2.trans (hb.mono H8.out.2.size)
  clear hb
  go_wp2_with (fail)
  go_ret
  exact ⟨rfl, H9.out⟩
end Go.Proofs.Ytjpdoblmdchmkad
/-
  THE LAW CacheFresh, walked.
-/
namespace Go.Proofs.Ytjpdoblmdchmkad
open Go.RowKit

namespace M
theorem find_any (ts : List Nd) (hr : RsN ts) (f v : Int) : ts.any (verB f v) = match find ts f with
  | none => false
  | some y => decide (y.ver = v) := by
  cases hf : find ts f with
  | none =>
    refine List.any_eq_false.2 fun y hy hb => ?_
    unfold verB at hb
    rw [Bool.and_eq_true, decide_eq_true_eq] at hb
    have := List.find?_eq_none.1 hf y hy
    simp [hb.1] at this
  | some y =>
    have hy := List.mem_of_find?_eq_some hf
    have hyf : y.fid = f := by have := List.find?_some hf; simpa using this
    show ts.any (verB f v) = decide (y.ver = v)
    by_cases hv : y.ver = v
    · rw [decide_eq_true hv]
      exact List.any_eq_true.2 ⟨y, hy, by unfold verB; simp [hyf, hv]⟩
    · rw [decide_eq_false hv]
      refine List.any_eq_false.2 fun z hz hb => ?_
      unfold verB at hb
      rw [Bool.and_eq_true, decide_eq_true_eq, decide_eq_true_eq] at hb
      obtain ⟨i, hi⟩ := List.getElem?_of_mem hz
      have h1 := find_self hr hi
      rw [hb.1, hf] at h1
      cases h1
      exact hv hb.2
theorem unlike_inj {xs : List Kp} (h : unlikeS xs = true) {x y : Kp} (hx : x ∈ xs) (hy : y ∈ xs) (e : x.node.fid = y.node.fid) : x = y := by
  unfold unlikeS at h
  have hn := of_decide_eq_true h
  unfold fidsK at hn
  obtain ⟨i, hi⟩ := List.getElem?_of_mem hx
  obtain ⟨j, hj⟩ := List.getElem?_of_mem hy
  have h1 : (xs.map fun x => x.node.fid)[i]? = some x.node.fid := by rw [List.getElem?_map, hi]; rfl
  have h2 : (xs.map fun x => x.node.fid)[j]? = some x.node.fid := by rw [List.getElem?_map, hj, e]; rfl
  obtain ⟨a1, a2⟩ := List.getElem?_eq_some_iff.1 h1
  obtain ⟨b1, b2⟩ := List.getElem?_eq_some_iff.1 h2
  have := (List.getElem_inj (h₀ := a1) (h₁ := b1) hn).1 (a2.trans b2.symm)
  subst this
  rw [hi] at hj
  exact Option.some.inj hj
theorem has_filter {xs : List Kp} (h : unlikeS xs = true) (p : Kp → Bool) {x : Kp} (hx : x ∈ xs) : hasK (xs.filter p) x.node.fid = p x := by
  unfold hasK
  cases hp : p x with
  | true => exact List.any_eq_true.2 ⟨x, List.mem_filter.2 ⟨hx, hp⟩, by simp⟩
  | false =>
    refine List.any_eq_false.2 fun y hy hb => ?_
    obtain ⟨hy1, hy2⟩ := List.mem_filter.1 hy
    have := unlike_inj h hy1 hx (by simpa using hb)
    rw [this, hp] at hy2
    cases hy2
end M
def VFA (sa : Nat) (AX : Option Addr) (mX : Nat) (cX : Nat) (v : KV) (hv : Bool) : Nat → Value → World → Prop
  | 0 => IsW (.slice AX mX cX)
  | 1 => IsW (.pointer (some ⟨sa, 0, none⟩))
  | 2 => IsW (.pointer (some ⟨sa, 0, none⟩))
  | 3 => IsW (.int .i64 (v.n.fid))
  | 4 => IsW (.bool (hv))
  | 5 => IsW (.pointer (some ⟨sa, 0 + 5, none⟩))
  | 6 => IsW (.bool true)
  | 7 => IsW (.bool true)
  | 8 => IsW (undef)
  | 9 => IsW (undef)
  | 10 => IsW (undef)
  | 11 => IsW (undef)
  | 12 => IsW (undef)
  | 13 => IsW (undef)
  | 14 => IsW (undef)
  | 15 => IsW (undef)
  | 16 => IsW (undef)
  | 17 => IsW (.bool true)
  | 18 => IsW (.bool (hv != true))
  | _ => fun _ _ => True
theorem VFA_stays (sa : Nat) (AX : Option Addr) (mX : Nat) (cX : Nat) (v : KV) (hv : Bool) : ∀ i, Stays (VFA sa AX mX cX v hv i) := by
  intro i v W W' hb h
  match i, h with
  | 0, h => exact h
  | 1, h => exact h
  | 2, h => exact h
  | 3, h => exact h
  | 4, h => exact h
  | 5, h => exact h
  | 6, h => exact h
  | 7, h => exact h
  | 8, h => exact h
  | 9, h => exact h
  | 10, h => exact h
  | 11, h => exact h
  | 12, h => exact h
  | 13, h => exact h
  | 14, h => exact h
  | 15, h => exact h
  | 16, h => exact h
  | 17, h => exact h
  | 18, h => exact h
  | k + 19, h => trivial
def VFB (sa : Nat) (AX : Option Addr) (mX : Nat) (cX : Nat) (v : KV) (hv : Bool) : Nat → Value → World → Prop
  | 0 => IsW (.slice AX mX cX)
  | 1 => IsW (.pointer (some ⟨sa, 0, none⟩))
  | 2 => IsW (.pointer (some ⟨sa, 0, none⟩))
  | 3 => IsW (.int .i64 (v.n.fid))
  | 4 => IsW (.bool (hv))
  | 5 => IsW (.pointer (some ⟨sa, 0 + 5, none⟩))
  | 6 => IsW (.bool false)
  | 7 => IsW (.bool false)
  | 8 => IsW (.bool false)
  | 9 => IsW (.bool false)
  | 10 => IsW (undef)
  | 11 => IsW (undef)
  | 12 => IsW (undef)
  | 13 => IsW (undef)
  | 14 => IsW (undef)
  | 15 => IsW (undef)
  | 16 => IsW (.bool false)
  | 17 => IsW (.bool false)
  | 18 => IsW (.bool (hv != false))
  | _ => fun _ _ => True
theorem VFB_stays (sa : Nat) (AX : Option Addr) (mX : Nat) (cX : Nat) (v : KV) (hv : Bool) : ∀ i, Stays (VFB sa AX mX cX v hv i) := by
  intro i v W W' hb h
  match i, h with
  | 0, h => exact h
  | 1, h => exact h
  | 2, h => exact h
  | 3, h => exact h
  | 4, h => exact h
  | 5, h => exact h
  | 6, h => exact h
  | 7, h => exact h
  | 8, h => exact h
  | 9, h => exact h
  | 10, h => exact h
  | 11, h => exact h
  | 12, h => exact h
  | 13, h => exact h
  | 14, h => exact h
  | 15, h => exact h
  | 16, h => exact h
  | 17, h => exact h
  | 18, h => exact h
  | k + 19, h => trivial
def VFC (sa : Nat) (sb : Nat) (AX : Option Addr) (mX : Nat) (cX : Nat) (v : KV) (y : NV) (hv : Bool) (q : Bool) : Nat → Value → World → Prop
  | 0 => IsW (.slice AX mX cX)
  | 1 => IsW (.pointer (some ⟨sa, 0, none⟩))
  | 2 => IsW (.pointer (some ⟨sa, 0, none⟩))
  | 3 => IsW (.int .i64 (v.n.fid))
  | 4 => IsW (.bool (hv))
  | 5 => IsW (.pointer (some ⟨sa, 0 + 5, none⟩))
  | 6 => IsW (.bool false)
  | 7 => IsW (.bool false)
  | 8 => IsW (.bool true)
  | 9 => IsW (.bool true)
  | 10 => IsW (.pointer (some ⟨sb, 0 + 4, none⟩))
  | 11 => IsW (.int .i64 (y.ver))
  | 12 => IsW (.pointer (some ⟨sa, 0, none⟩))
  | 13 => IsW (.pointer (some ⟨sa, 0 + 4, none⟩))
  | 14 => IsW (.int .i64 (v.n.ver))
  | 15 => IsW (.bool (q))
  | 16 => IsW (.bool (q))
  | 17 => IsW (.bool (q))
  | 18 => IsW (.bool (hv != q))
  | _ => fun _ _ => True
theorem VFC_stays (sa : Nat) (sb : Nat) (AX : Option Addr) (mX : Nat) (cX : Nat) (v : KV) (y : NV) (hv : Bool) (q : Bool) : ∀ i, Stays (VFC sa sb AX mX cX v y hv q i) := by
  intro i v W W' hb h
  match i, h with
  | 0, h => exact h
  | 1, h => exact h
  | 2, h => exact h
  | 3, h => exact h
  | 4, h => exact h
  | 5, h => exact h
  | 6, h => exact h
  | 7, h => exact h
  | 8, h => exact h
  | 9, h => exact h
  | 10, h => exact h
  | 11, h => exact h
  | 12, h => exact h
  | 13, h => exact h
  | 14, h => exact h
  | 15, h => exact h
  | 16, h => exact h
  | 17, h => exact h
  | 18, h => exact h
  | k + 19, h => trivial
end Go.Proofs.Ytjpdoblmdchmkad
/-
  THE LAW CacheKeeps, walked.
-/
namespace Go.Proofs.Ytjpdoblmdchmkad
open Go.RowKit

namespace M
theorem worst_none {xs : List Kp} : ∀ {k : Nat}, worstS xs k = none → ∀ y ∈ xs.take k, freeK y = false
  | 0, _, y, hy => by simp at hy
  | k + 1, h, y, hy => by
    cases hx : xs[k]? with
    | none =>
      unfold worstS at h
      rw [hx] at h
      have e : xs.take (k + 1) = xs.take k := by
        have := List.getElem?_eq_none_iff.1 hx
        rw [List.take_of_length_le (by omega), List.take_of_length_le this]
      rw [e] at hy
      exact worst_none h y hy
    | some x =>
      rw [worst_step hx] at h
      split at h
      · cases h
      · rename_i hc
        rw [h] at hc
        have hf : freeK x = false := by
          cases hq : freeK x with
          | false => rfl
          | true => rw [hq] at hc; exact absurd rfl hc
        rw [take_step hx] at hy
        rcases List.mem_append.1 hy with hy | hy
        · exact worst_none h y hy
        · rw [List.mem_singleton.1 hy]; exact hf
theorem worse_worth {x y : Kp} (h : worseS x y = true) : x.worth ≤ y.worth := by
  unfold worseS at h
  split at h
  · omega
  · have := of_decide_eq_true h
    omega
theorem worse_not {x y : Kp} (h : worseS x y = false) : y.worth ≤ x.worth := by
  unfold worseS at h
  split at h
  · omega
  · have := of_decide_eq_false h
    omega
theorem worst_min {xs : List Kp} : ∀ {k i : Nat}, worstS xs k = some i → ∃ y, xs[i]? = some y ∧ freeK y = true ∧ ∀ z ∈ xs.take k, freeK z = true → y.worth ≤ z.worth
  | 0, i, h => by cases h
  | k + 1, i, h => by
    cases hx : xs[k]? with
    | none =>
      unfold worstS at h
      rw [hx] at h
      have e : xs.take (k + 1) = xs.take k := by
        have := List.getElem?_eq_none_iff.1 hx
        rw [List.take_of_length_le (by omega), List.take_of_length_le this]
      rw [e]
      exact worst_min h
    | some x =>
      rw [worst_step hx] at h
      rw [take_step hx]
      split at h
      · rename_i hc
        cases h
        rw [Bool.and_eq_true] at hc
        refine ⟨x, hx, hc.1, fun z hz hf => ?_⟩
        rcases List.mem_append.1 hz with hz | hz
        · cases hw : worstS xs k with
          | none =>
            have := worst_none hw z hz
            rw [hf] at this; cases this
          | some j =>
            obtain ⟨o, ho, _, hm⟩ := worst_min hw
            have h1 := hm z hz hf
            have h2 := hc.2
            rw [hw, aheadC_some ho] at h2
            have := worse_worth h2
            omega
        · rw [List.mem_singleton.1 hz]; exact Int.le_refl _
      · rename_i hc
        obtain ⟨y, hy, hf, hm⟩ := worst_min h
        refine ⟨y, hy, hf, fun z hz hzf => ?_⟩
        rcases List.mem_append.1 hz with hz | hz
        · exact hm z hz hzf
        · have e := List.mem_singleton.1 hz
          subst e
          rw [h, aheadC_some hy, hzf] at hc
          refine worse_not ?_
          cases hq : worseS z y with
          | false => rfl
          | true => rw [hq] at hc; exact absurd rfl hc
/-- what is asked of what Keep answers -/
structure Keeps (xs : List Kp) (room : Int) (k : Kp) (zs : List Kp) : Prop where
  len : (zs.length : Int) ≤ room
  has : hasK zs k.node.fid = true
  went : ∀ y ∈ xs, hasK zs y.node.fid = false → y.dirty = false ∧ y.node.fid ≠ 0 ∧ ∀ z ∈ zs, z.node.fid ≠ k.node.fid → z.dirty = false → z.node.fid ≠ 0 → y.worth ≤ z.worth
theorem has_mem {xs : List Kp} {y : Kp} (h : y ∈ xs) : hasK xs y.node.fid = true := List.any_eq_true.2 ⟨y, h, by simp⟩
theorem rep_len : ∀ (xs : List Kp) (k : Kp), (repK xs k).length = xs.length
  | [], _ => rfl
  | x :: xs, k => by
    rw [repK]
    split
    · rfl
    · rw [List.length_cons, rep_len xs k, List.length_cons]
theorem rep_fids : ∀ (xs : List Kp) (k : Kp), (repK xs k).map (fun x => x.node.fid) = xs.map fun x => x.node.fid
  | [], _ => rfl
  | x :: xs, k => by
    rw [repK]
    split
    · rename_i h
      rw [List.map_cons, List.map_cons]
      congr 1
      exact h.symm
    · rw [List.map_cons, rep_fids xs k, List.map_cons]
theorem has_fids {xs ys : List Kp} (h : ys.map (fun x => x.node.fid) = xs.map fun x => x.node.fid) (f : Int) : hasK ys f = hasK xs f := by
  have e : ∀ l : List Kp, hasK l f = (l.map fun x => x.node.fid).any fun q => decide (q = f) := fun l => by unfold hasK; rw [List.any_map]; rfl
  rw [e, e, h]
theorem shrink_len : ∀ (n : Nat) (xs : List Kp), xs.length ≤ n → ∀ room zs, shrinkS xs room = some zs → zs.length ≤ xs.length
  | n, xs, hn, room, zs, h => by
    by_cases hr : room ≤ (xs.length : Int)
    · cases hw : worstS xs xs.length with
      | none => rw [shrink_none hr hw] at h; cases h
      | some i =>
        rw [shrink_some hr hw] at h
        have hi := (worst_lt xs _ _ hw).2
        cases n with
        | zero => omega
        | succ n =>
          have := shrink_len n (xs.eraseIdx i) (by rw [List.length_eraseIdx_of_lt hi]; omega) room zs h
          rw [List.length_eraseIdx_of_lt hi] at this
          omega
    · rw [shrink_end hr] at h
      cases h
      exact Nat.le_refl _
theorem keep_len (xs : List Kp) (room : Int) (k : Kp) : (keepS xs room k).2.length ≤ xs.length + 1 := by
  unfold keepS
  split
  · rw [rep_len]; omega
  · split
    · simp
    · rename_i ys h
      have := shrink_len xs.length xs (Nat.le_refl _) room ys h
      rw [List.length_append]
      simp
      omega
theorem keeps_ok {xs : List Kp} {room : Int} {k : Kp} (hl : (xs.length : Int) ≤ room) : (keepS xs room k = (5, []) ∧ ∀ y ∈ xs, freeK y = false) ∨ ∃ zs, keepS xs room k = (0, zs) ∧ Keeps xs room k zs := by
  cases hh : hasK xs k.node.fid with
  | true =>
    refine .inr ⟨_, keepC_there hh, ⟨by rw [rep_len]; exact hl, by rw [has_fids (rep_fids xs k)]; exact hh, fun y hy hn => ?_⟩⟩
    rw [has_fids (rep_fids xs k), has_mem hy] at hn
    cases hn
  | false =>
    by_cases hr : room ≤ (xs.length : Int)
    · cases hw : worstS xs xs.length with
      | none =>
        refine .inl ⟨keepC_none hh (shrink_none hr hw), fun y hy => ?_⟩
        have := worst_none hw y
        rw [List.take_length] at this
        exact this hy
      | some i =>
        obtain ⟨o, ho, hf, hm⟩ := worst_min hw
        rw [List.take_length] at hm
        have hi := (worst_lt xs _ _ hw).2
        have hle : (xs.eraseIdx i).length + 1 = xs.length := by rw [List.length_eraseIdx_of_lt hi]; omega
        have hs : shrinkS xs room = some (xs.eraseIdx i) := by
          rw [shrink_some hr hw, shrink_end (by omega)]
        refine .inr ⟨_, keepC_some hh hs, ⟨by rw [List.length_append]; simp; omega, has_mem (by simp), fun y hy hn => ?_⟩⟩
        have hyo : y = o := by
          obtain ⟨j, hj⟩ := List.getElem?_of_mem hy
          by_cases hji : j = i
          · rw [hji, ho] at hj; exact (Option.some.inj hj).symm
          · have : y ∈ xs.eraseIdx i := by
              rw [List.mem_eraseIdx_iff_getElem?]
              exact ⟨j, hji, hj⟩
            have h2 := has_mem (List.mem_append_left [k] this)
            rw [hn] at h2
            cases h2
        subst hyo
        unfold freeK at hf
        rw [Bool.and_eq_true, Bool.not_eq_true', Bool.not_eq_true', decide_eq_false_iff_not] at hf
        refine ⟨hf.1, hf.2, fun z hz h1 h2 h3 => ?_⟩
        rcases List.mem_append.1 hz with hz | hz
        · refine hm z (List.mem_of_mem_eraseIdx hz) ?_
          unfold freeK
          simp [h2, h3]
        · rw [List.mem_singleton.1 hz] at h1
          exact absurd rfl h1
    · refine .inr ⟨_, keepC_some hh (shrink_end hr), ⟨by rw [List.length_append]; simp; omega, has_mem (by simp), fun y hy hn => ?_⟩⟩
      have h2 := has_mem (List.mem_append_left [k] hy)
      rw [hn] at h2
      cases h2
end M
set_option maxRecDepth 8000 in
set_option maxHeartbeats 8000000 in
theorem keeps_law_any (A : Option Addr) (n c : Nat) (room : Int) (vs : List KV) (xs : List M.Kp) (kv : KV) (kx : M.Kp) (w : World) (ht : TreeC w A n vs xs) (hs : ∀ x ∈ xs, Small x.node) (hkx : ContC w kv kx) (hks : Small kx.node) (hn : (n + 2) * 96 ≤ 140737488355328) :
    Calls Try.prog 7 #[.slice A n c, .int .i64 room, kv.val] w fun e w' => e = .returned (.bool true) ∧ Below w.heap.size w w' := by
  have HT : Hid (TreeC w A n vs xs ∧ (∀ x ∈ xs, Small x.node) ∧ ContC w kv kx ∧ Small kx.node ∧ kv.n.fid = kx.node.fid) := ⟨ht, hs, hkx, hks, hkx.1.1⟩
  have HL : Hid (n = xs.length) := ht.len
  have hn2 : n ≤ 140737488355328 := by omega
  have HW : Hid _ := boxK_one w kv
  clear ht hs hkx hks
  go_enter Try.func7, Try.ntmps7
  go_wp2_with (fail)
  obtain ⟨w0, hw0⟩ : ∃ W, W = w.alloc (.cells #[.int .i64 kv.n.fid, .bool kv.n.dir, .slice kv.n.dA kv.n.dn kv.n.dc, .slice kv.n.eA kv.n.en kv.n.ec, .int .i64 kv.n.ver, .bool kv.dirty, .int .i64 kv.worth, .int .i64 kv.last] 63) := ⟨_, rfl⟩
  have H0 : Hid (Below w.heap.size w w0 ∧ BoxK w0 w.heap.size kv ∧ w.heap.size < w0.heap.size) := by
    obtain ⟨q1, q2, q3⟩ := HW.out _ hw0
    exact ⟨q1, q2, by rw [q3]; exact Nat.lt_succ_self _⟩
  rw [← hw0]
  clear hw0 HW
  refine (alive8_any w0).mono ?_
  rintro e w1 ⟨rfl, hb⟩
  have H1 : Hid (Below w.heap.size w w1 ∧ BoxK w1 w.heap.size kv) := ⟨H0.out.1.trans (hb.mono H0.out.1.size), H0.out.2.1.below hb H0.out.2.2⟩
  clear hb
  go_wp2_with (fail)
  refine (unlike_any A n c vs xs w1 (HT.out.1.below (Nat.le_refl _) H1.out.1) hn2).mono ?_
  rintro e w2 ⟨rfl, hb⟩
  have H2 : Hid (Below w.heap.size w w2 ∧ BoxK w2 w.heap.size kv) := ⟨H1.out.1.trans (hb.mono H1.out.1.size), H1.out.2.below hb (lt_of_block H1.out.2)⟩
  clear hb
  obtain ⟨ul, hul⟩ : ∃ ul, M.unlikeS xs = ul := ⟨_, rfl⟩
  have HUL : Hid (M.unlikeS xs = ul) := hul
  rw [hul]
  clear hul
  cases ul
  case' false =>
    go_wp2_with (fail)
    go_ret
    exact ⟨rfl, H2.out.1⟩
  by_cases hroom : room < (n : Int)
  case' pos =>
    go_wp2_with (fail)
    go_ret
    exact ⟨rfl, H2.out.1⟩
  obtain ⟨k0, k1, k2, k3, k4, k5, k6, k7, kf, kz⟩ := H2.out.2.facts
  go_wp2_with (fail)
  refine (keep_kept A n c room vs xs kv kx w2 (HT.out.1.below (Nat.le_refl _) H2.out.1) HT.out.2.1 (HT.out.2.2.1.below (Nat.le_refl _) H2.out.1) HT.out.2.2.2.1 hn).mono ?_
  rintro e w3 ⟨B, m, d, us, rfl, ho, hb⟩
  have H3 : Hid (OwnC w3 w2.heap.size B m d us (M.keepS xs room kx).2 ∧ Below w.heap.size w w3 ∧ BoxK w3 w.heap.size kv) := ⟨ho, H2.out.1.trans (hb.mono H2.out.1.size), H2.out.2.below hb (lt_of_block H2.out.2)⟩
  clear ho hb k0 k1 k2 k3 k4 k5 k6 k7 kf kz
  rcases M.keeps_ok (k := kx) (show (xs.length : Int) ≤ room by rw [← HL.out]; omega) with ⟨hks, hno⟩ | ⟨zs, hks, hok⟩
  · have HNO : Hid (∀ y ∈ xs, M.freeK y = false) := hno
    have hm0 : m = 0 := by
      have := H3.out.1.len
      rw [hks] at this
      exact this
    rw [hks]
    clear hno hks
    go_wp2_with (fail)
    go_loopw [37] (fun i W => ∃ k : Nat, k ≤ n ∧ i = .int .i64 k ∧ Below w3.heap.size w3 W) (fun i _ => n - (intOf i).toNat)
    case atStart => exact ⟨0, Nat.zero_le _, rfl, Below.refl _ _⟩
    case round =>
      obtain ⟨k, hk, rfl, hbk⟩ := hrel
      rename World => wr
      have HBR : Hid (Below w3.heap.size w3 wr ∧ Below w.heap.size w wr) := ⟨hbk, H3.out.2.1.trans (hbk.mono H3.out.2.1.size)⟩
      clear hbk
      by_cases hlt : k < n
      · have htr := HT.out.1.below (Nat.le_refl _) HBR.out.2
        obtain ⟨g, o, v, rfl, hgl, hvk, c0, c1, c2, c3, c4, c5, c6, c7⟩ := htr.1.at hlt
        obtain ⟨x, hx, hcx⟩ := htr.2.at hvk
        have hfr : M.freeK x = false := HNO.out x (List.mem_of_getElem? hx)
        unfold M.freeK at hfr
        rw [← hcx.2.1, ← hcx.1.1] at hfr
        have HF : Hid ((!v.dirty && !decide (v.n.fid = 0)) = false) := hfr
        have HWA : Hid _ := boxK_one wr v
        clear htr hvk hx hcx hgl hfr
        obtain ⟨w6, hw6⟩ : ∃ W, W = wr.alloc (.cells #[.int .i64 v.n.fid, .bool v.n.dir, .slice v.n.dA v.n.dn v.n.dc, .slice v.n.eA v.n.en v.n.ec, .int .i64 v.n.ver, .bool v.dirty, .int .i64 v.worth, .int .i64 v.last] 63) := ⟨_, rfl⟩
        go_upto_region 10 with (fail)
        rw [← hw6]
        obtain ⟨q1, q2, q3⟩ := HWA.out _ hw6
        have H6 : Hid (Below w3.heap.size w3 w6) := HBR.out.1.trans (q1.mono HBR.out.1.size)
        obtain ⟨z0, z1, z2, z3, z4, z5, z6, z7, zf, zz⟩ := q2.facts
        clear q1 q2 q3 hw6 HWA c0 c1 c2 c3 c4 c5 c6 c7
        obtain ⟨db, hdb⟩ : ∃ b, v.dirty = b := ⟨_, rfl⟩
        rw [hdb] at z5
        have HDB : Hid ((!db && !decide (v.n.fid = 0)) = false) := by show _ = _; rw [← hdb]; exact HF.out
        clear hdb
        cases db
        · have hz : (v.n.fid != 0) = false := by have := HDB.out; simpa using this
          go_wp2_with (fail)
          go_roundw
          case rel => exact ⟨k + 1, by omega, by go_num, H6.out⟩
          case measure => simp [intOf]; omega
        · go_wp2_with (fail)
          go_roundw
          case rel => exact ⟨k + 1, by omega, by go_num, H6.out⟩
          case measure => simp [intOf]; omega
      · subst hm0
        go_wp2_with (fail)
        go_ret
        exact ⟨rfl, HBR.out.2⟩
  · have HOK : Hid (M.Keeps xs room kx zs) := hok
    have HZ : Hid (OwnC w3 w2.heap.size B m d us zs ∧ Below w.heap.size w w3 ∧ BoxK w3 w.heap.size kv) := by
      have h := H3.out
      rw [hks] at h
      exact h
    have hmr : ¬ room < (m : Int) := by
      have h1 := HOK.out.len
      have h2 := HZ.out.1.len
      omega
    have hm2 : m ≤ 140737488355328 := by
      have h1 := HZ.out.1.len
      have h2 : zs.length ≤ n + 1 := by
        have h3 := M.keep_len xs room kx
        rw [hks] at h3
        rw [HL.out]; exact h3
      omega
    rw [hks]
    clear hks hok H3
    obtain ⟨k0, k1, k2, k3, k4, k5, k6, k7, kf, kz⟩ := HZ.out.2.2.facts
    go_wp2_with (fail)
    refine (has_kept B m d us zs kv.n.fid w3 HZ.out.1.tree hm2).mono ?_
    rintro e w4 ⟨rfl, hb⟩
    have H4 : Hid (TreeC w4 B m us zs ∧ Below w.heap.size w w4 ∧ BoxK w4 w.heap.size kv) := ⟨HZ.out.1.tree.below (Nat.le_refl _) hb, HZ.out.2.1.trans (hb.mono HZ.out.2.1.size), HZ.out.2.2.below hb (lt_of_block HZ.out.2.2)⟩
    rw [HT.out.2.2.2.2, HOK.out.has]
    clear hb k0 k1 k2 k3 k4 k5 k6 k7 kf kz
    go_wp2_with (fail)
    go_loopw [68] (fun i W => ∃ k : Nat, k ≤ n ∧ i = .int .i64 k ∧ Below w4.heap.size w4 W) (fun i _ => n - (intOf i).toNat)
    case atStart => exact ⟨0, Nat.zero_le _, rfl, Below.refl _ _⟩
    case round =>
      obtain ⟨k, hk, rfl, hbk⟩ := hrel
      rename World => wr
      have HBR : Hid (Below w4.heap.size w4 wr ∧ Below w.heap.size w wr) := ⟨hbk, H4.out.2.1.trans (hbk.mono H4.out.2.1.size)⟩
      clear hbk
      by_cases hlt : k < n
      · have htr := HT.out.1.below (Nat.le_refl _) HBR.out.2
        obtain ⟨g, o, v, rfl, hgl, hvk, c0, c1, c2, c3, c4, c5, c6, c7⟩ := htr.1.at hlt
        obtain ⟨x, hx, hcx⟩ := htr.2.at hvk
        have HX : Hid (x ∈ xs ∧ v.n.fid = x.node.fid ∧ v.dirty = x.dirty ∧ v.worth = x.worth) := ⟨List.mem_of_getElem? hx, hcx.1.1, hcx.2.1, hcx.2.2.1⟩
        have HWA : Hid _ := boxK_one wr v
        clear htr hvk hx hcx hgl
        obtain ⟨w6, hw6⟩ : ∃ W, W = wr.alloc (.cells #[.int .i64 v.n.fid, .bool v.n.dir, .slice v.n.dA v.n.dn v.n.dc, .slice v.n.eA v.n.en v.n.ec, .int .i64 v.n.ver, .bool v.dirty, .int .i64 v.worth, .int .i64 v.last] 63) := ⟨_, rfl⟩
        go_upto_region 19 with (fail)
        rw [← hw6]
        obtain ⟨q1, q2, q3⟩ := HWA.out _ hw6
        have H6 : Hid (Below w4.heap.size w4 w6 ∧ BoxK w6 wr.heap.size v) := ⟨HBR.out.1.trans (q1.mono HBR.out.1.size), q2⟩
        obtain ⟨z0, z1, z2, z3, z4, z5, z6, z7, zf, zz⟩ := q2.facts
        clear q1 q2 q3 hw6 HWA c0 c1 c2 c3 c4 c5 c6 c7
        go_wp2_with (fail)
        refine (has_kept B m d us zs v.n.fid w6 (H4.out.1.below (Nat.le_refl _) H6.out.1) hm2).mono ?_
        rintro e w7 ⟨rfl, hb⟩
        have H7 : Hid (Below w4.heap.size w4 w7 ∧ BoxK w7 wr.heap.size v) := ⟨H6.out.1.trans (hb.mono H6.out.1.size), H6.out.2.below hb (lt_of_block H6.out.2)⟩
        clear hb z0 z1 z2 z3 z4 z5 z6 z7 zf zz
        obtain ⟨hh, hhh⟩ : ∃ hh, M.hasK zs v.n.fid = hh := ⟨_, rfl⟩
        have HHH : Hid (M.hasK zs x.node.fid = hh) := by show _ = _; rw [← hhh, HX.out.2.1]
        rw [hhh]
        clear hhh
        cases hh
        · obtain ⟨wd, wf, wm⟩ := HOK.out.went x HX.out.1 HHH.out
          have HWM : Hid (∀ z ∈ zs, z.node.fid ≠ kx.node.fid → z.dirty = false → z.node.fid ≠ 0 → x.worth ≤ z.worth) := wm
          obtain ⟨z0, z1, z2, z3, z4, z5, z6, z7, zf, zz⟩ := H7.out.2.facts
          rw [HX.out.2.2.1, wd] at z5
          have hzf : (v.n.fid == 0) = false := by rw [HX.out.2.1]; simpa using wf
          clear wd wf wm
          go_wp2_with (fail)
          go_loopw [87] (fun i W => ∃ j : Nat, j ≤ m ∧ i = .int .i64 j ∧ Below w7.heap.size w7 W) (fun i _ => m - (intOf i).toNat)
          case atStart => exact ⟨0, Nat.zero_le _, rfl, Below.refl _ _⟩
          case round =>
            obtain ⟨j, hj, rfl, hbj⟩ := hrel
            rename World => wj
            have HBJ : Hid (Below w7.heap.size w7 wj ∧ Below w4.heap.size w4 wj ∧ Below w.heap.size w wj ∧ BoxK wj wr.heap.size v) := by
              have h1 := H7.out.1.trans (hbj.mono H7.out.1.size)
              exact ⟨hbj, h1, H4.out.2.1.trans (h1.mono H4.out.2.1.size), H7.out.2.below hbj (lt_of_block H7.out.2)⟩
            clear hbj
            by_cases hltj : j < m
            · have htz := H4.out.1.below (Nat.le_refl _) HBJ.out.2.1
              obtain ⟨g2, o2, u, hB, hgl, huk, c0, c1, c2, c3, c4, c5, c6, c7⟩ := htz.1.at hltj
              obtain ⟨z, hz, hcz⟩ := htz.2.at huk
              have HZZ : Hid (z ∈ zs ∧ u.n.fid = z.node.fid ∧ u.dirty = z.dirty ∧ u.worth = z.worth) := ⟨List.mem_of_getElem? hz, hcz.1.1, hcz.2.1, hcz.2.2.1⟩
              have HWA : Hid _ := boxK_one wj u
              clear htz huk hz hcz hgl
              subst hB
              obtain ⟨w8, hw8⟩ : ∃ W, W = wj.alloc (.cells #[.int .i64 u.n.fid, .bool u.n.dir, .slice u.n.dA u.n.dn u.n.dc, .slice u.n.eA u.n.en u.n.ec, .int .i64 u.n.ver, .bool u.dirty, .int .i64 u.worth, .int .i64 u.last] 63) := ⟨_, rfl⟩
              go_upto_region 25 with (fail)
              rw [← hw8]
              obtain ⟨q1, q2, q3⟩ := HWA.out _ hw8
              have H8 : Hid (Below w7.heap.size w7 w8) := HBJ.out.1.trans (q1.mono HBJ.out.1.size)
              obtain ⟨y0, y1, y2, y3, y4, y5, y6, y7, yf, yz⟩ := q2.facts
              obtain ⟨p0, p1, p2, p3, p4, p5, p6, p7, pf, pz⟩ := (HBJ.out.2.2.2.below q1 (lt_of_block HBJ.out.2.2.2)).facts
              obtain ⟨k0, k1, k2, k3, k4, k5, k6, k7, kf, kz⟩ := ((H4.out.2.2.below HBJ.out.2.1 (lt_of_block H4.out.2.2)).below q1 (lt_of_block (H4.out.2.2.below HBJ.out.2.1 (lt_of_block H4.out.2.2)))).facts
              clear q1 q2 q3 hw8 HWA c0 c1 c2 c3 c4 c5 c6 c7 z0 z1 z2 z3 z4 z5 z6 z7 zf zz
              rw [HT.out.2.2.2.2] at k0
              by_cases e1 : u.n.fid = kx.node.fid
              · have f1 : (u.n.fid != kx.node.fid) = false := by simp [e1]
                clear e1
                go_wp2_with (fail)
                go_roundw
                case rel => exact ⟨j + 1, by omega, by go_num, H8.out⟩
                case measure => simp [intOf]; omega
              · have f1 : (u.n.fid != kx.node.fid) = true := by simp [e1]
                obtain ⟨db, hdb⟩ : ∃ b, u.dirty = b := ⟨_, rfl⟩
                rw [hdb] at y5
                cases db
                · by_cases e2 : u.n.fid = 0
                  · have f2 : (u.n.fid != 0) = false := by simp [e2]
                    clear e1 e2 hdb
                    go_wp2_with (fail)
                    go_roundw
                    case rel => exact ⟨j + 1, by omega, by go_num, H8.out⟩
                    case measure => simp [intOf]; omega
                  · have f2 : (u.n.fid != 0) = true := by simp [e2]
                    have f3 : ¬ u.worth < v.worth := by
                      have h1 := HWM.out z HZZ.out.1 (by rw [← HZZ.out.2.1]; exact e1) (by rw [← HZZ.out.2.2.1]; exact hdb) (by rw [← HZZ.out.2.1]; exact e2)
                      rw [HZZ.out.2.2.2, HX.out.2.2.2]
                      omega
                    clear e1 e2 hdb
                    go_wp2_with (fail)
                    go_roundw
                    case rel => exact ⟨j + 1, by omega, by go_num, H8.out⟩
                    case measure => simp [intOf]; omega
                · clear e1 hdb
                  go_wp2_with (fail)
                  go_roundw
                  case rel => exact ⟨j + 1, by omega, by go_num, H8.out⟩
                  case measure => simp [intOf]; omega
            · go_wp2_with (fail)
              go_roundw
              case rel => exact ⟨k + 1, by omega, by go_num, HBJ.out.2.1⟩
              case measure => simp [intOf]; omega
        · go_wp2_with (fail)
          go_roundw
          case rel => exact ⟨k + 1, by omega, by go_num, H7.out.1⟩
          case measure => simp [intOf]; omega
      · go_wp2_with (fail)
        go_ret
        exact ⟨rfl, HBR.out.2⟩
end Go.Proofs.Ytjpdoblmdchmkad
