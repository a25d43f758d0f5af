/-
  PLAIN MATHEMATICS of chapter 2: the order of texts, what a search by halves keeps, nodes, and what becomes of lists of them.
-/
import GoSem.Op.String
import Derived.Laws.Strings
namespace Go.Proofs.Ytlegjdlmcphhlab
namespace M

/-- an order by a test -/
structure Ordr {K : Type} (lt : K → K → Bool) : Prop where
  irr : ∀ a, lt a a = false
  tra : ∀ a b c, lt a b = true → lt b c = true → lt a c = true
  tri : ∀ a b, lt a b = false → lt b a = false → a = b

theorem bl_irr : ∀ x : List UInt8, Op.bytesLess x x = false
  | [] => rfl
  | a :: x => by simp [Op.bytesLess, bl_irr x, UInt8.lt_irrefl]
theorem bl_tra : ∀ x y z : List UInt8, Op.bytesLess x y = true → Op.bytesLess y z = true → Op.bytesLess x z = true
  | x, [], z, h, _ => by cases x <;> simp [Op.bytesLess] at h
  | x, b :: y, [], _, h => by simp [Op.bytesLess] at h
  | [], b :: y, c :: z, _, _ => rfl
  | a :: x, b :: y, c :: z, h1, h2 => by
    simp only [Op.bytesLess, Bool.or_eq_true, decide_eq_true_eq, Bool.and_eq_true, beq_iff_eq] at h1 h2 ⊢
    rcases h1 with h1 | ⟨rfl, h1⟩ <;> rcases h2 with h2 | ⟨rfl, h2⟩
    · exact .inl (UInt8.lt_trans h1 h2)
    · exact .inl h1
    · exact .inl h2
    · exact .inr ⟨rfl, bl_tra x y z h1 h2⟩
theorem bl_tri : ∀ x y : List UInt8, Op.bytesLess x y = false → Op.bytesLess y x = false → x = y
  | [], [], _, _ => rfl
  | [], b :: y, h, _ => by simp [Op.bytesLess] at h
  | a :: x, [], _, h => by simp [Op.bytesLess] at h
  | a :: x, b :: y, h1, h2 => by
    simp only [Op.bytesLess, Bool.or_eq_false_iff, decide_eq_false_iff_not, Bool.and_eq_false_iff, beq_eq_false_iff_ne] at h1 h2
    have e : a = b := by
      apply UInt8.toNat_inj.1
      have := h1.1; have := h2.1
      simp only [UInt8.lt_iff_toNat_lt] at *
      omega
    subst e
    rcases h1.2 with h | h
    · exact absurd rfl h
    · rcases h2.2 with h' | h'
      · exact absurd rfl h'
      · rw [bl_tri x y h h']

def ltB (a b : ByteArray) : Bool := Op.bytesLess a.toList b.toList
theorem toList_inj {a b : ByteArray} (h : a.toList = b.toList) : a = b := by
  rw [ByteArray.toList_eq, ByteArray.toList_eq] at h
  cases a; cases b
  exact congrArg ByteArray.mk (Array.toList_inj.1 h)
theorem ordB : Ordr ltB := ⟨fun _ => bl_irr _, fun _ _ _ => bl_tra _ _ _, fun _ _ h1 h2 => toList_inj (bl_tri _ _ h1 h2)⟩
def ltI (a b : Int) : Bool := decide (a < b)
theorem ordI : Ordr ltI := ⟨fun a => by simp [ltI], fun a b c => by simp [ltI]; omega, fun a b => by simp [ltI]; omega⟩

section
variable {K : Type} (lt : K → K → Bool)
/-- they rise -/
def Rs (l : List K) : Prop := l.Pairwise fun a b => lt a b = true
/-- what a search by halves keeps -/
def Mid (ks : List K) (t : K) (i j : Nat) : Prop :=
  i ≤ j ∧ j ≤ ks.length ∧ (Rs lt ks → (∀ k x, k < i → ks[k]? = some x → lt x t = true) ∧ (∀ k x, j ≤ k → ks[k]? = some x → lt x t = false))
theorem mid_start (ks : List K) (t : K) : Mid lt ks t 0 ks.length :=
  ⟨Nat.zero_le _, Nat.le_refl _, fun _ => ⟨fun k x h => absurd h (Nat.not_lt_zero _), fun k x h hx => by rw [List.getElem?_eq_none h] at hx; cases hx⟩⟩
variable {lt}
theorem rs_at {ks : List K} (h : Rs lt ks) {i j : Nat} {x y : K} (hij : i < j) (hx : ks[i]? = some x) (hy : ks[j]? = some y) : lt x y = true := by
  obtain ⟨hi, rfl⟩ := List.getElem?_eq_some_iff.1 hx
  obtain ⟨hj, rfl⟩ := List.getElem?_eq_some_iff.1 hy
  exact List.pairwise_iff_getElem.1 h i j hi hj hij
theorem mid_up (o : Ordr lt) {ks : List K} {t : K} {i j h : Nat} (m : Mid lt ks t i j) (hj : h < j) {x : K} (hx : ks[h]? = some x) (hlt : lt x t = true) : Mid lt ks t (h + 1) j := by
  refine ⟨hj, m.2.1, fun r => ⟨fun k y hk hy => ?_, (m.2.2 r).2⟩⟩
  rcases Nat.lt_or_ge k h with h1 | h1
  · exact o.tra _ _ _ (rs_at r h1 hy hx) hlt
  · obtain rfl : k = h := by omega
    rw [hx] at hy; cases hy; exact hlt
theorem mid_down (o : Ordr lt) {ks : List K} {t : K} {i j h : Nat} (m : Mid lt ks t i j) (hi : i ≤ h) (hj : h < j) {x : K} (hx : ks[h]? = some x) (hlt : lt x t = false) : Mid lt ks t i h := by
  refine ⟨hi, by have := m.2.1; omega, fun r => ⟨(m.2.2 r).1, fun k y hk hy => ?_⟩⟩
  rcases Nat.eq_or_lt_of_le hk with rfl | h1
  · rw [hx] at hy; cases hy; exact hlt
  · cases e : lt y t
    · rfl
    · rw [o.tra _ _ _ (rs_at r h1 hx hy) e] at hlt; cases hlt
end

/-- a node, as the document has it -/
structure Nd where
  fid : Int
  dir : Bool
  data : List UInt8
  ents : List (ByteArray × Int)
  ver : Int

/-- how two numbers, two texts compare -/
def cmpI (a b : Int) : Int := if a < b then -1 else if b < a then 1 else 0
def cmpB (a b : ByteArray) : Int := if ltB a b then -1 else if ltB b a then 1 else 0
theorem cmpI_lt {a b : Int} (h : ltI a b = true) : cmpI a b = -1 := by simp [ltI] at h; simp [cmpI, h]
theorem cmpI_ge {a b : Int} (h : ltI a b = false) : 0 ≤ cmpI a b := by simp [ltI] at h; unfold cmpI; rw [if_neg (by omega)]; split <;> omega
theorem cmpI_eq (a b : Int) : (cmpI a b == 0) = decide (a = b) := by
  unfold cmpI
  rcases Int.lt_trichotomy a b with h | h | h
  · rw [if_pos h]; simp; omega
  · subst h; simp
  · rw [if_neg (by omega), if_pos h]; simp; omega
theorem cmpB_lt {a b : ByteArray} (h : ltB a b = true) : cmpB a b = -1 := by simp [cmpB, h]
theorem cmpB_ge {a b : ByteArray} (h : ltB a b = false) : 0 ≤ cmpB a b := by unfold cmpB; rw [h]; simp; split <;> omega
theorem cmpB_eq (a b : ByteArray) : (cmpB a b == 0) = decide (a = b) := by
  unfold cmpB
  cases h1 : ltB a b
  · cases h2 : ltB b a
    · simp [ordB.tri a b h1 h2]
    · have : a ≠ b := by intro e; subst e; rw [ordB.irr] at h2; cases h2
      simp [this]
  · have : a ≠ b := by intro e; subst e; rw [ordB.irr] at h1; cases h1
    simp [this]
end M
end Go.Proofs.Ytlegjdlmcphhlab
