/-
  PLAIN MATHEMATICS of chapter 5: numbers, names and bytes as words; records as lines, logs as texts; what is written is read, in one way alone.
-/
import Derived.Test.YtckfodpkckmkbacDoorWlib
import Derived.Lib.SplitLaws
import Derived.Lib.Join
import Derived.Lib.AtoiAll
import Derived.Lib.ItoaLen
import Derived.Lib.IndexMore
import Derived.Lib.IndexBytes
namespace Go.Proofs.YtckfodpkckmkbacDoor
namespace M
open Go
/-- what lies between the bytes c -/
def cutL (c : UInt8) : List UInt8 → List (List UInt8)
  | [] => [[]]
  | b :: r => if b = c then [] :: cutL c r else
    match cutL c r with
    | [] => [[b]]
    | x :: t => (b :: x) :: t

theorem cutL_ne (c : UInt8) : ∀ l, cutL c l ≠ []
  | [] => by simp [cutL]
  | b :: r => by
    unfold cutL
    split
    · simp
    · split <;> simp

theorem cutL_hit (c : UInt8) (r : List UInt8) : cutL c (c :: r) = [] :: cutL c r := by simp [cutL]
theorem cutL_miss (c b : UInt8) (r x : List UInt8) (t : List (List UInt8)) (h : b ≠ c) (e : cutL c r = x :: t) : cutL c (b :: r) = (b :: x) :: t := by
  simp [cutL, h, e]

theorem cutL_len (c : UInt8) : ∀ (l x : List UInt8), x ∈ cutL c l → x.length ≤ l.length
  | [], x, h => by simp [cutL] at h; simp [h]
  | b :: r, x, h => by
    obtain ⟨y, t, e⟩ := List.exists_cons_of_ne_nil (cutL_ne c r)
    by_cases hb : b = c
    · subst hb
      rw [cutL_hit] at h
      rcases List.mem_cons.1 h with h | h
      · subst h; simp
      · have := cutL_len b r x h; simp only [List.length_cons]; omega
    · rw [cutL_miss c b r y t hb e] at h
      rcases List.mem_cons.1 h with h | h
      · have := cutL_len c r y (by rw [e]; simp)
        subst h; simp only [List.length_cons]; omega
      · have := cutL_len c r x (by rw [e]; simp [h]); simp only [List.length_cons]; omega

/-- strings.Split at one byte is it -/
theorem splitK_cut (c : UInt8) : ∀ s, Lib.splitK [c] 0 (Lib.count s [c]) s = cutL c s
  | [] => by rw [Lib.count_miss (by simp [Lib.index])]; rfl
  | b :: l => by
    have ih := splitK_cut c l
    by_cases h : b = c
    · subst h
      have hix : Lib.index (b :: l) [b] = 0 := by rw [Lib.index]; simp [List.isPrefixOf]
      rw [Lib.count_cons_eq, Nat.add_comm, Lib.splitK, hix, cutL_hit, ← ih]
      simp
    · have hp : ([c] : List UInt8).isPrefixOf (b :: l) = false := by simp [List.isPrefixOf, Ne.symm h]
      have hix : Lib.index (b :: l) [c] = if Lib.index l [c] == -1 then -1 else Lib.index l [c] + 1 := by rw [Lib.index, hp]; simp
      rw [Lib.count_cons_ne b c l h]
      by_cases hm : Lib.index l [c] = -1
      · rw [Lib.count_miss hm] at ih ⊢
        rw [cutL_miss c b l l [] h (by rw [← ih]; rfl)]; rfl
      · have hge := Lib.index_ge l [c]
        obtain ⟨j, hj⟩ : ∃ j : Nat, Lib.index l [c] = j := ⟨(Lib.index l [c]).toNat, by omega⟩
        have hix' : Lib.index (b :: l) [c] = ((j + 1 : Nat) : Int) := by rw [hix, if_neg (fun e => hm (beq_iff_eq.1 e)), hj]; omega
        rw [Lib.count_hit (by simp) hj, Nat.add_comm] at ih ⊢
        have n1 : ¬ (((j + 1 : Nat) : Int) == -1) = true := fun e => by have := beq_iff_eq.1 e; omega
        have n2 : ¬ ((j : Int) == -1) = true := fun e => by have := beq_iff_eq.1 e; omega
        rw [Lib.splitK, hj, if_neg n2] at ih
        rw [Lib.splitK, hix', if_neg n1]
        rw [cutL_miss c b l _ _ h ih.symm]
        simp

theorem splitB_cut (c : UInt8) (s : ByteArray) : (Lib.splitB ⟨#[c]⟩ 0 (Lib.countB s ⟨#[c]⟩) s).map (·.data.toList) = cutL c s.data.toList := by
  rw [Lib.splitB_data, ← splitK_cut]

theorem cutL_append (c : UInt8) (y : List UInt8) : ∀ x : List UInt8, c ∉ x → cutL c (x ++ c :: y) = x :: cutL c y
  | [], _ => by rw [List.nil_append, cutL_hit]
  | a :: x, h => by
    rw [List.cons_append, cutL_miss c a _ x (cutL c y) (fun e => h (by simp [e])) (cutL_append c y x (fun e => h (by simp [e])))]
theorem cutL_whole (c : UInt8) : ∀ x : List UInt8, c ∉ x → cutL c x = [x]
  | [], _ => rfl
  | a :: x, h => by
    rw [cutL_miss c a _ x [] (fun e => h (by simp [e])) (cutL_whole c x (fun e => h (by simp [e])))]

/-- parted, and joined -/
theorem join_cut (c : UInt8) : ∀ s, Lib.join (cutL c s) [c] = s
  | [] => by simp [cutL, Lib.join_one]
  | b :: l => by
    have ih := join_cut c l
    obtain ⟨x, t, e⟩ := List.exists_cons_of_ne_nil (cutL_ne c l)
    rw [e, Lib.join_cons] at ih
    by_cases h : b = c
    · subst h; rw [cutL_hit, e, Lib.join_cons, Lib.joinTail]; simp [Lib.joinTail] at ih ⊢; exact ih
    · rw [cutL_miss c b l x t h e, Lib.join_cons, List.cons_append, ih]
/-- joined, and parted -/
theorem cut_join (c : UInt8) : ∀ (r : List (List UInt8)) (x : List UInt8), c ∉ x → (∀ y ∈ r, c ∉ y) → cutL c (Lib.join (x :: r) [c]) = x :: r
  | [], x, h, _ => by rw [Lib.join_one]; exact cutL_whole c x h
  | y :: r, x, h, hr => by
    have ih := cut_join c r y (hr y (by simp)) (fun z hz => hr z (by simp [hz]))
    rw [Lib.join_cons] at ih ⊢
    have : x ++ Lib.joinTail [c] (y :: r) = x ++ c :: (y ++ Lib.joinTail [c] r) := by simp [Lib.joinTail]
    rw [this, cutL_append c _ x h, ih]


/-! numbers -/
theorem pu_snoc : ∀ (l : List UInt8) (acc v : Nat) (d : UInt8), Lib.parseUint10 acc l = .ok v → 48 ≤ d.toNat → d.toNat ≤ 57 → v < 1844674407370955162 → v * 10 + (d.toNat - 48) < 18446744073709551616 →
    Lib.parseUint10 acc (l ++ [d]) = .ok (v * 10 + (d.toNat - 48))
  | [], acc, v, d, h, h1, h2, h3, h4 => by
    simp only [Lib.parseUint10] at h
    injection h with h
    subst h
    simp only [List.nil_append, Lib.parseUint10]
    rw [if_pos ⟨h1, h2⟩, if_neg (by omega), if_neg (by omega)]
  | c :: r, acc, v, d, h, h1, h2, h3, h4 => by
    simp only [Lib.parseUint10] at h
    rw [List.cons_append]
    simp only [Lib.parseUint10]
    split at h
    · rename_i hc
      split at h
      · cases h
      · rename_i h5
        split at h
        · cases h
        · rename_i h6
          rw [if_pos hc, if_neg h5, if_neg h6]
          exact pu_snoc r _ v d h h1 h2 h3 h4
    · cases h
theorem dig_ofNat {k : Nat} (h : k < 10) : (UInt8.ofNat (48 + k)).toNat = 48 + k := by
  rw [UInt8.toNat_ofNat']; omega
theorem pu_dec (u : Nat) (h : u < 18446744073709551616) : Lib.parseUint10 0 (Lib.decDigits u) = .ok u := by
  induction u using Nat.strongRecOn with
  | ind u ih =>
    by_cases h1 : u < 10
    · rw [Lib.decDigits_one h1]
      simp only [Lib.parseUint10]
      rw [dig_ofNat h1, if_pos (by omega), if_neg (by omega), if_neg (by omega)]
      congr 1; omega
    · rw [Lib.decDigits, dif_neg h1]
      have hd := dig_ofNat (k := u % 10) (by omega)
      rw [pu_snoc _ 0 (u / 10) _ (ih (u / 10) (by omega) (by omega)) (by omega) (by omega) (by omega) (by omega), hd]
      congr 1; omega
theorem dec_sign (u : Nat) : ∀ c ∈ Lib.decDigits u, 48 ≤ c.toNat ∧ c.toNat ≤ 57 := by
  induction u using Nat.strongRecOn with
  | ind u ih =>
    by_cases h1 : u < 10
    · rw [Lib.decDigits_one h1]
      intro c hc
      rw [List.mem_singleton.1 hc, dig_ofNat h1]; omega
    · rw [Lib.decDigits, dif_neg h1]
      intro c hc
      rcases List.mem_append.1 hc with h | h
      · exact ih (u / 10) (by omega) c h
      · rw [List.mem_singleton.1 h, dig_ofNat (by omega)]; omega
theorem dec_ne (u : Nat) : Lib.decDigits u ≠ [] := by
  rw [Lib.decDigits]; split <;> simp
theorem atoi_itoa (n : Int) (h0 : -9223372036854775808 ≤ n) (h1 : n ≤ 9223372036854775807) : Lib.atoiAll (Lib.itoa n) = .ok n := by
  unfold Lib.itoa
  by_cases hn : n < 0
  · rw [if_pos hn]
    have hp : Lib.parseMag (Lib.decDigits n.natAbs) = .ok n.natAbs := by
      unfold Lib.parseMag; rw [if_neg (dec_ne _), pu_dec _ (by omega)]
    simp only [Lib.atoiAll]
    have e45 : (45 : UInt8).toNat = 45 := rfl
    rw [e45]
    simp only [or_true, if_true, hp, not_true, false_and, if_false, true_and]
    rw [if_neg (by omega)]
    congr 1; omega
  · rw [if_neg hn]
    have hp : Lib.parseMag (Lib.decDigits n.toNat) = .ok n.toNat := by
      unfold Lib.parseMag; rw [if_neg (dec_ne _), pu_dec _ (by omega)]
    obtain ⟨c, r, e⟩ := List.exists_cons_of_ne_nil (dec_ne n.toNat)
    have hc := dec_sign n.toNat c (by rw [e]; simp)
    rw [e] at hp ⊢
    simp only [Lib.atoiAll]
    have n1 : ¬ (c.toNat = 43 ∨ c.toNat = 45) := by omega
    have n2 : ¬ c.toNat = 45 := by omega
    rw [if_neg n1, hp]
    simp only [n2, not_false_eq_true, true_and, false_and, if_false]
    rw [if_neg (by omega)]
    congr 1; omega
theorem itoa_sign (n : Int) : ∀ c ∈ Lib.itoa n, c = 45 ∨ (48 ≤ c.toNat ∧ c.toNat ≤ 57) := by
  unfold Lib.itoa
  split
  · intro c hc
    rcases List.mem_cons.1 hc with h | h
    · exact .inl h
    · exact .inr (dec_sign _ c h)
  · intro c hc
    exact .inr (dec_sign _ c hc)
def itB (n : Int) : ByteArray := ⟨(Lib.itoa n).toArray⟩
/-- the number that a word is -/
def numS (s : ByteArray) : Option Int :=
  match Lib.atoiAll s.data.toList with
  | .ok v => if Lib.itoa v = s.data.toList then some v else none
  | _ => none
def Fit (n : Int) : Prop := -9223372036854775808 ≤ n ∧ n ≤ 9223372036854775807
theorem num_it {n : Int} (h : Fit n) : numS (itB n) = some n := by
  unfold numS itB
  simp only [atoi_itoa n h.1 h.2]
  simp
theorem ba_ext {a b : ByteArray} (h : a.data.toList = b.data.toList) : a = b := by
  cases a; cases b
  exact congrArg ByteArray.mk (Array.toList_inj.1 h)
theorem it_num {s : ByteArray} {n : Int} (h : numS s = some n) : itB n = s := by
  unfold numS at h
  split at h
  · split at h
    · rename_i e
      cases h
      exact ba_ext (by simpa [itB] using e)
    · cases h
  · cases h

/-! bytes -/
def hexD : List UInt8 := [48, 49, 50, 51, 52, 53, 54, 55, 56, 57, 97, 98, 99, 100, 101, 102]
def digS (c : UInt8) : Int := Lib.indexByte hexD c
def hexS (b : UInt8) : List UInt8 := [hexD.getD (b.toNat / 16) 0, hexD.getD (b.toNat % 16) 0]
def unhex : List UInt8 → Option (List UInt8)
  | [] => some []
  | [_] => none
  | a :: b :: r => if digS a < 0 ∨ digS b < 0 then none else (unhex r).map (UInt8.ofNat (16 * (digS a).toNat + (digS b).toNat) :: ·)
theorem dig_all : ∀ n : Fin 256, digS (UInt8.ofNat n) < 16 ∧ -1 ≤ digS (UInt8.ofNat n) ∧ (0 ≤ digS (UInt8.ofNat n) → hexD.getD (digS (UInt8.ofNat n)).toNat 0 = UInt8.ofNat n) := by decide +kernel
theorem dig_hex : ∀ n : Fin 16, digS (hexD.getD n 0) = n := by decide +kernel
theorem u8_fin (c : UInt8) : ∃ n : Fin 256, c = UInt8.ofNat n := ⟨⟨c.toNat, c.toNat_lt⟩, by simp⟩
theorem dig_lt (c : UInt8) : digS c < 16 ∧ -1 ≤ digS c ∧ (0 ≤ digS c → hexD.getD (digS c).toNat 0 = c) := by
  obtain ⟨n, rfl⟩ := u8_fin c
  exact dig_all n
theorem dig_of {k : Nat} (h : k < 16) : digS (hexD.getD k 0) = (k : Int) := dig_hex ⟨k, h⟩
theorem unhex_hex : ∀ l : List UInt8, unhex (l.flatMap hexS) = some l
  | [] => rfl
  | b :: l => by
    have hb := b.toNat_lt
    have e : (b :: l).flatMap hexS = hexD.getD (b.toNat / 16) 0 :: hexD.getD (b.toNat % 16) 0 :: l.flatMap hexS := rfl
    rw [e, unhex, dig_of (by omega), dig_of (by omega), if_neg (by omega), unhex_hex l]
    simp only [Option.map_some, Int.toNat_natCast, Option.some.injEq, List.cons.injEq, and_true]
    rw [show 16 * (b.toNat / 16) + b.toNat % 16 = b.toNat by omega]
    simp
theorem hex_unhex : ∀ (s l : List UInt8), unhex s = some l → l.flatMap hexS = s
  | [], l, h => by simp [unhex] at h; subst h; rfl
  | [_], l, h => by simp [unhex] at h
  | a :: b :: r, l, h => by
    rw [unhex] at h
    have ha := dig_lt a
    have hb := dig_lt b
    by_cases hd : digS a < 0 ∨ digS b < 0
    · rw [if_pos hd] at h; cases h
    · rw [if_neg hd] at h
      cases hu : unhex r with
      | none => rw [hu] at h; cases h
      | some m =>
        rw [hu] at h
        simp only [Option.map_some, Option.some.injEq] at h
        subst h
        have ih := hex_unhex r m hu
        have et : (UInt8.ofNat (16 * (digS a).toNat + (digS b).toNat)).toNat = 16 * (digS a).toNat + (digS b).toNat := by
          rw [UInt8.toNat_ofNat']; omega
        rw [List.flatMap_cons, ih]
        unfold hexS
        rw [et, show (16 * (digS a).toNat + (digS b).toNat) / 16 = (digS a).toNat by omega, show (16 * (digS a).toNat + (digS b).toNat) % 16 = (digS b).toNat by omega, ha.2.2 (by omega), hb.2.2 (by omega)]
        rfl
def datB (l : List UInt8) : ByteArray := if l = [] then ⟨#[45]⟩ else ⟨(l.flatMap hexS).toArray⟩
def datS (s : ByteArray) : Option (List UInt8) := if s.data.toList = [45] then some [] else if s.data.toList = [] then none else unhex s.data.toList
theorem hex_ne {l : List UInt8} (h : l ≠ []) : l.flatMap hexS ≠ [] ∧ l.flatMap hexS ≠ [45] := by
  cases l with
  | nil => exact absurd rfl h
  | cons b r =>
    have e : (b :: r).flatMap hexS = hexD.getD (b.toNat / 16) 0 :: hexD.getD (b.toNat % 16) 0 :: r.flatMap hexS := rfl
    rw [e]; simp
theorem dat_read (l : List UInt8) : datS (datB l) = some l := by
  unfold datS datB
  by_cases h : l = []
  · subst h; simp
  · have := hex_ne h
    rw [if_neg h]
    simp only
    rw [if_neg this.2, if_neg this.1, unhex_hex]
theorem dat_write {s : ByteArray} {l : List UInt8} (h : datS s = some l) : datB l = s := by
  unfold datS at h
  unfold datB
  split at h
  · rename_i e
    cases h
    rw [if_pos rfl]
    exact ba_ext e.symm
  · split at h
    · cases h
    · rename_i h1 h2
      have e := hex_unhex _ _ h
      have hl : l ≠ [] := by intro e2; subst e2; exact h2 e.symm
      rw [if_neg hl]
      exact ba_ext e
theorem hex_sign : ∀ n : Fin 16, signB (hexD.getD n 0) = true := by decide +kernel

/-! lines -/
def wordB (k : Int) : ByteArray := if k = 1 then ⟨#[109, 97, 107, 101]⟩ else if k = 2 then ⟨#[100, 105, 114]⟩ else if k = 3 then ⟨#[115, 116, 111, 114, 101]⟩ else if k = 4 then ⟨#[114, 101, 109, 111, 118, 101]⟩ else if k = 5 then ⟨#[114, 101, 110, 97, 109, 101]⟩ else ⟨#[]⟩
def kindS (s : ByteArray) : Int := if wordB 1 = s then 1 else if wordB 2 = s then 2 else if wordB 3 = s then 3 else if wordB 4 = s then 4 else if wordB 5 = s then 5 else 0
theorem kind_word {k : Int} (h : wordB k ≠ ⟨#[]⟩) : kindS (wordB k) = k ∧ 1 ≤ k ∧ k ≤ 5 := by
  by_cases h1 : k = 1
  · subst h1; decide +kernel
  by_cases h2 : k = 2
  · subst h2; decide +kernel
  by_cases h3 : k = 3
  · subst h3; decide +kernel
  by_cases h4 : k = 4
  · subst h4; decide +kernel
  by_cases h5 : k = 5
  · subst h5; decide +kernel
  · exact absurd (by unfold wordB; rw [if_neg h1, if_neg h2, if_neg h3, if_neg h4, if_neg h5]) h
theorem word_kind {s : ByteArray} (h : kindS s ≠ 0) : wordB (kindS s) = s ∧ 1 ≤ kindS s ∧ kindS s ≤ 5 := by
  unfold kindS at h ⊢
  split
  · rename_i e; exact ⟨e, by decide⟩
  · split
    · rename_i e; exact ⟨e, by decide⟩
    · split
      · rename_i e; exact ⟨e, by decide⟩
      · split
        · rename_i e; exact ⟨e, by decide⟩
        · split
          · rename_i e; exact ⟨e, by decide⟩
          · rename_i a b c d e; simp [a, b, c, d, e] at h
theorem word_ne {k : Int} (h : 1 ≤ k) (h2 : k ≤ 5) : wordB k ≠ ⟨#[]⟩ := by
  have : k = 1 ∨ k = 2 ∨ k = 3 ∨ k = 4 ∨ k = 5 := by omega
  rcases this with rfl | rfl | rfl | rfl | rfl <;> decide
def lineS (r : Rec) : List ByteArray := itB r.id :: itB r.ver :: itB r.act.fid ::
  (if r.act.kind = 3 then [datB r.act.data] else itB r.act.dir :: r.act.name :: (if r.act.kind = 5 then [itB r.act.to, r.act.toName] else []))
def namedB (r : Rec) : Bool := decide (r.act.kind = 3) || (nameB r.act.name.data.toList && (!decide (r.act.kind = 5) || nameB r.act.toName.data.toList))
def joinB (l : List ByteArray) : ByteArray := ⟨(Lib.join (l.map (·.data.toList)) [32]).toArray⟩
def printS (r : Rec) : Int × ByteArray := if wordB r.act.kind = ⟨#[]⟩ then (1, ⟨#[]⟩) else if namedB r then (0, joinB (wordB r.act.kind :: lineS r)) else (7, ⟨#[]⟩)
/-- what is still to be read, whether all was so written, and all names were names -/
structure PS where
  rest : List ByteArray
  ok : Bool
  named : Bool
def PS.word (p : PS) : ByteArray := p.rest.headD ⟨#[]⟩
def PS.past (p : PS) : PS := ⟨p.rest.tail, p.ok && !p.rest.isEmpty, p.named⟩
def PS.num (p : PS) : PS := { p.past with ok := p.past.ok && (numS p.word).isSome }
def PS.nam (p : PS) : PS := { p.past with named := p.past.named && nameB p.word.data.toList }
def PS.dat (p : PS) : PS := { p.past with ok := p.past.ok && (datS p.word).isSome }
def PS.int (p : PS) : Int := (numS p.word).getD 0
def PS.bytes (p : PS) : List UInt8 := (datS p.word).getD []
def empt : ByteArray := ⟨#[]⟩
def fieldsS (p : PS) (k : Int) : Rec × PS :=
  if k = 3 then (⟨⟨k, p.num.num.int, 0, empt, 0, empt, p.num.num.num.bytes⟩, p.num.int, p.int⟩, p.num.num.num.dat)
  else if k = 5 then (⟨⟨k, p.num.num.int, p.num.num.num.int, p.num.num.num.num.word, p.num.num.num.num.nam.int, p.num.num.num.num.nam.num.word, []⟩, p.num.int, p.int⟩, p.num.num.num.num.nam.num.nam)
  else (⟨⟨k, p.num.num.int, p.num.num.num.int, p.num.num.num.num.word, 0, empt, []⟩, p.num.int, p.int⟩, p.num.num.num.num.nam)
def rec0 : Rec := ⟨⟨0, 0, 0, empt, 0, empt, []⟩, 0, 0⟩
def cutB (s : ByteArray) : List ByteArray := Lib.splitB ⟨#[32]⟩ 0 (Lib.countB s ⟨#[32]⟩) s
def parseS (s : ByteArray) : Int × Rec :=
  if kindS ((cutB s).headD empt) = 0 then (1, rec0)
  else if ((fieldsS ⟨(cutB s).tail, true, true⟩ (kindS ((cutB s).headD empt))).2.ok && (fieldsS ⟨(cutB s).tail, true, true⟩ (kindS ((cutB s).headD empt))).2.rest.isEmpty) = false then (2, rec0)
  else if (fieldsS ⟨(cutB s).tail, true, true⟩ (kindS ((cutB s).headD empt))).2.named = false then (7, rec0)
  else (0, (fieldsS ⟨(cutB s).tail, true, true⟩ (kindS ((cutB s).headD empt))).1)
end M
end Go.Proofs.YtckfodpkckmkbacDoor
