/-
  THE REFERENCE's SameAct, of an act and its copy.
-/
import Derived.Test.YtlegjdlmcphhlabActg
namespace Go.Proofs.Ytlegjdlmcphhlab
open Go.RowKit

theorem two_boxesA (w : World) (a b : AV) (W : World) (hW : W = (w.alloc (.cells #[.int .i64 a.kind, .int .i64 a.fid, .int .i64 a.dir, .string a.name, .int .i64 a.to, .string a.toName, .slice a.dA a.dn a.dc] 26)).alloc (.cells #[.int .i64 b.kind, .int .i64 b.fid, .int .i64 b.dir, .string b.name, .int .i64 b.to, .string b.toName, .slice b.dA b.dn b.dc] 26)) : Below w.heap.size w W := by
  subst hW
  exact ((Below.refl _ _).alloc (Nat.le_refl _) _).alloc (by simp) _
set_option maxRecDepth 4000 in
set_option maxHeartbeats 2000000 in
theorem sameAct_any (a b : AV) (x : M.Act) (w : World) (ha : ContA w a x) (hb : ContA w b x) :
    Calls Try.prog 25 #[a.val, b.val] w fun e w' => e = .returned (.bool true) ∧ Below w.heap.size w w' := by
  obtain ⟨k1, f1, d1, n1, t1, m1, A1, l1, c1⟩ := a
  obtain ⟨k2, f2, d2, n2, t2, m2, A2, l2, c2⟩ := b
  obtain ⟨rfl, rfl, rfl, rfl, rfl, rfl, hb1⟩ := ha
  obtain ⟨e1, e2, e3, e4, e5, e6, hb2⟩ := hb
  simp only at e1 e2 e3 e4 e5 e6 hb1 hb2
  subst e1 e2 e3 e4 e5 e6
  have HW : Hid _ := two_boxesA w ⟨x.kind, x.fid, x.dir, x.name, x.to, x.toName, A1, l1, c1⟩ ⟨x.kind, x.fid, x.dir, x.name, x.to, x.toName, A2, l2, c2⟩
  have hwb := two_boxesA w ⟨x.kind, x.fid, x.dir, x.name, x.to, x.toName, A1, l1, c1⟩ ⟨x.kind, x.fid, x.dir, x.name, x.to, x.toName, A2, l2, c2⟩ _ rfl
  have q1 := conv_byts (c := c1) (hb1.below (Nat.le_refl _) hwb)
  have q2 := conv_byts (c := c2) (hb2.below (Nat.le_refl _) hwb)
  simp only at q1 q2
  have y1 := raw_yes x.name
  have y2 := raw_yes x.toName
  have y3 := raw_yes (txt x.data)
  clear hb1 hb2 hwb
  go_enter Try.func25, Try.ntmps25
  go_wp2
  go_ret
  exact ⟨ret_bool (by simp), HW.out _ rfl⟩
end Go.Proofs.Ytlegjdlmcphhlab
