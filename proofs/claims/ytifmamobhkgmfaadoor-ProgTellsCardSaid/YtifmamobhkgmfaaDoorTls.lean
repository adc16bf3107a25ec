/- What the law that tells needs of the document's own answers, for every instruction. Conditions: each theorem's own premises. -/
import Derived.Test.YtifmamobhkgmfaaDoorRwC
import Derived.Test.YtifmamobhkgmfaaDoorPsr
import Derived.Test.YtifmamobhkgmfaaDoorNmr
namespace Go.Proofs.YtifmamobhkgmfaaDoor
open Go.RowKit
set_option linter.unusedVariables false

theorem reads_out (e : In) (w : World) (hn : e.n ≤ 4611686018427387904) (hR : Hid (RdC w e.A e.n e.cs)) (hm : mayB 100 16 e = false) : Calls Tryd.prog 18 #[vI e] w (ListR (readL e) w) := by
  have HH := Lib.hid hm
  have HL : Hid (readL e = []) := if_neg (by rw [hm]; exact Bool.false_ne_true)
  clear hm
  obtain ⟨op, a, b, c, A, n, cap, d, cs⟩ := e
  have HB0 := Lib.hid (two_box w (.cells #[.int .i64 op, .int .i64 a, .int .i64 b, .int .i64 c, .slice A n cap, .bool d] 36) (.cells #[.bool false, .bool false, .bool false, .bool false, .bool false, .bool false, .bool false, .bool false] 54))
  go_enter Tryd.func18, Tryd.ntmps18
  go_wp2_with fail
  refine (one_no (e := ⟨op, a, b, c, A, n, cap, d, cs⟩) HH.out _ hn (hR.out.later HB0.out)).mono ?_
  rintro e w1 ⟨rfl, hb⟩
  have HB1 := Lib.hid (HB0.out.trans (hb.mono HB0.out.size))
  clear hb
  go_wp2_with fail
  go_ret
  rw [HL.out]
  exact ListR.none w w1 HB1.out
theorem reads_all (e : In) (w : World) (hn : e.n ≤ 4611686018427387904) (hR : Hid (RdC w e.A e.n e.cs)) : Calls Tryd.prog 18 #[vI e] w (ListR (readL e) w) := by
  cases hm : mayB 100 16 e with
  | false => exact reads_out e w hn hR hm
  | true =>
    have ho := may_op hm
    obtain ⟨op, a, b, c, A, n, cap, d, cs⟩ := e
    simp only at ho
    obtain ⟨k, rfl⟩ := Int.eq_ofNat_of_zero_le (show 0 ≤ op by omega)
    exact reads_ref k (by omega) (by omega) a b c A n cap d cs w hn hR
theorem writes_out (e : In) (w : World) (hn : e.n ≤ 4611686018427387904) (hR : Hid (RdC w e.A e.n e.cs)) (hm : mayB 100 16 e = false) : Calls Tryd.prog 20 #[vI e] w (ListR (writeL e) w) := by
  have HH := Lib.hid hm
  have HL : Hid (writeL e = []) := if_neg (by rw [hm]; exact Bool.false_ne_true)
  clear hm
  obtain ⟨op, a, b, c, A, n, cap, d, cs⟩ := e
  have HB0 := Lib.hid (two_box w (.cells #[.int .i64 op, .int .i64 a, .int .i64 b, .int .i64 c, .slice A n cap, .bool d] 36) (.cells #[.bool false, .bool false, .bool false, .bool false, .bool false, .bool false, .bool false, .bool false] 54))
  go_enter Tryd.func20, Tryd.ntmps20
  go_wp2_with fail
  refine (one_no (e := ⟨op, a, b, c, A, n, cap, d, cs⟩) HH.out _ hn (hR.out.later HB0.out)).mono ?_
  rintro e w1 ⟨rfl, hb⟩
  have HB1 := Lib.hid (HB0.out.trans (hb.mono HB0.out.size))
  clear hb
  go_wp2_with fail
  go_ret
  rw [HL.out]
  exact ListR.none w w1 HB1.out
theorem writes_all (e : In) (w : World) (hn : e.n ≤ 4611686018427387904) (hR : Hid (RdC w e.A e.n e.cs)) : Calls Tryd.prog 20 #[vI e] w (ListR (writeL e) w) := by
  cases hm : mayB 100 16 e with
  | false => exact writes_out e w hn hR hm
  | true =>
    have ho := may_op hm
    obtain ⟨op, a, b, c, A, n, cap, d, cs⟩ := e
    simp only at ho
    obtain ⟨k, rfl⟩ := Int.eq_ofNat_of_zero_le (show 0 ≤ op by omega)
    exact writes_ref k (by omega) (by omega) a b c A n cap d cs w hn hR

/-- A list of integers comes back, in new memory. -/
def UseR (xs : List Int) (N : Nat) (w : World) (e : Ending) (w' : World) : Prop := Below w.heap.size w w' ∧ ∃ A c, e = .returned (.slice A N c) ∧ RdN w' A N xs
theorem ListR.use {xs : List Int} {w : World} {e : Ending} {w' : World} (h : ListR xs w e w') : UseR xs xs.length w e w' := by
  obtain ⟨hb, A, c, _, _, he, hr⟩ := h
  exact ⟨hb, A, c, he, hr⟩
structure TlS (W w : World) (A : Option Addr) (n : Nat) (l : List Pr) : Prop where
  bel : Below W.heap.size W w
  ft : FT w
  rd : RdP w A n l
theorem TlS.later {W w w' : World} {A : Option Addr} {n : Nat} {l : List Pr} (h : TlS W w A n l) (hb : Below w.heap.size w w') : TlS W w' A n l :=
  ⟨h.bel.trans (hb.mono h.bel.size), h.ft.later hb, h.rd.later hb⟩
end Go.Proofs.YtifmamobhkgmfaaDoor
