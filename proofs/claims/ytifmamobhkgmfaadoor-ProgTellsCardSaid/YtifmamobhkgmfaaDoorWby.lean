/- What writtenBy answers, operation by operation. Conditions: each theorem's own premises. -/
import Derived.Test.YtifmamobhkgmfaaDoorRis
namespace Go.Proofs.YtifmamobhkgmfaaDoor
open Go.RowKit
set_option linter.unusedVariables false

theorem wb1 (x : Nat) (hx : x < 8) (y : Int) (z : Int) (A : Option Addr) (n cap : Nat) (d : Bool) (cs : List Ca) (w : World) : Calls Tryd.prog 30 #[vI ⟨1, x, y, z, A, n, cap, d, cs⟩] w (RegR (2 ^ x) w) := by
  have HB := Lib.hid (below_al w (.cells #[.int .i64 1, .int .i64 x, .int .i64 y, .int .i64 z, .slice A n cap, .bool d] 36))
  have Hx := Lib.hid hx
  clear hx
  go_enter Tryd.func30, Tryd.ntmps30
  go_wp2_with fail
  refine (with_zero x Hx.out _).mono ?_
  rintro e w1 ⟨rfl, rfl⟩
  go_wp2_with fail
  go_ret
  exact ⟨rfl, HB.out⟩
theorem wb2 (x : Nat) (hx : x < 8) (y : Int) (z : Int) (A : Option Addr) (n cap : Nat) (d : Bool) (cs : List Ca) (w : World) : Calls Tryd.prog 30 #[vI ⟨2, x, y, z, A, n, cap, d, cs⟩] w (RegR (2 ^ x) w) := by
  have HB := Lib.hid (below_al w (.cells #[.int .i64 2, .int .i64 x, .int .i64 y, .int .i64 z, .slice A n cap, .bool d] 36))
  have Hx := Lib.hid hx
  clear hx
  go_enter Tryd.func30, Tryd.ntmps30
  go_wp2_with fail
  refine (with_zero x Hx.out _).mono ?_
  rintro e w1 ⟨rfl, rfl⟩
  go_wp2_with fail
  go_ret
  exact ⟨rfl, HB.out⟩
theorem wb3 (x : Nat) (hx : x < 8) (y : Int) (z : Int) (A : Option Addr) (n cap : Nat) (d : Bool) (cs : List Ca) (w : World) : Calls Tryd.prog 30 #[vI ⟨3, x, y, z, A, n, cap, d, cs⟩] w (RegR (2 ^ x) w) := by
  have HB := Lib.hid (below_al w (.cells #[.int .i64 3, .int .i64 x, .int .i64 y, .int .i64 z, .slice A n cap, .bool d] 36))
  have Hx := Lib.hid hx
  clear hx
  go_enter Tryd.func30, Tryd.ntmps30
  go_wp2_with fail
  refine (with_zero x Hx.out _).mono ?_
  rintro e w1 ⟨rfl, rfl⟩
  go_wp2_with fail
  go_ret
  exact ⟨rfl, HB.out⟩
theorem wb4 (x : Int) (y : Int) (z : Int) (A : Option Addr) (n cap : Nat) (d : Bool) (cs : List Ca) (w : World) : Calls Tryd.prog 30 #[vI ⟨4, x, y, z, A, n, cap, d, cs⟩] w (RegR (0) w) := by
  have HB := Lib.hid (below_al w (.cells #[.int .i64 4, .int .i64 x, .int .i64 y, .int .i64 z, .slice A n cap, .bool d] 36))
  go_enter Tryd.func30, Tryd.ntmps30
  go_wp2
  go_ret
  exact ⟨rfl, HB.out⟩
theorem wb5 (x : Int) (y : Int) (z : Int) (A : Option Addr) (n cap : Nat) (d : Bool) (cs : List Ca) (w : World) : Calls Tryd.prog 30 #[vI ⟨5, x, y, z, A, n, cap, d, cs⟩] w (RegR (0) w) := by
  have HB := Lib.hid (below_al w (.cells #[.int .i64 5, .int .i64 x, .int .i64 y, .int .i64 z, .slice A n cap, .bool d] 36))
  go_enter Tryd.func30, Tryd.ntmps30
  go_wp2
  go_ret
  exact ⟨rfl, HB.out⟩
theorem wb6 (x : Int) (y : Int) (z : Int) (A : Option Addr) (n cap : Nat) (d : Bool) (cs : List Ca) (w : World) : Calls Tryd.prog 30 #[vI ⟨6, x, y, z, A, n, cap, d, cs⟩] w (RegR (0) w) := by
  have HB := Lib.hid (below_al w (.cells #[.int .i64 6, .int .i64 x, .int .i64 y, .int .i64 z, .slice A n cap, .bool d] 36))
  go_enter Tryd.func30, Tryd.ntmps30
  go_wp2
  go_ret
  exact ⟨rfl, HB.out⟩
theorem wb7 (x : Int) (y : Int) (z : Int) (A : Option Addr) (n cap : Nat) (d : Bool) (cs : List Ca) (w : World) : Calls Tryd.prog 30 #[vI ⟨7, x, y, z, A, n, cap, d, cs⟩] w (RegR (0) w) := by
  have HB := Lib.hid (below_al w (.cells #[.int .i64 7, .int .i64 x, .int .i64 y, .int .i64 z, .slice A n cap, .bool d] 36))
  go_enter Tryd.func30, Tryd.ntmps30
  go_wp2
  go_ret
  exact ⟨rfl, HB.out⟩
theorem wb8 (x : Nat) (hx : x < 8) (y : Int) (z : Int) (A : Option Addr) (n cap : Nat) (d : Bool) (cs : List Ca) (w : World) : Calls Tryd.prog 30 #[vI ⟨8, x, y, z, A, n, cap, d, cs⟩] w (RegR (2 ^ x) w) := by
  have HB := Lib.hid (below_al w (.cells #[.int .i64 8, .int .i64 x, .int .i64 y, .int .i64 z, .slice A n cap, .bool d] 36))
  have Hx := Lib.hid hx
  clear hx
  go_enter Tryd.func30, Tryd.ntmps30
  go_wp2_with fail
  refine (with_zero x Hx.out _).mono ?_
  rintro e w1 ⟨rfl, rfl⟩
  go_wp2_with fail
  go_ret
  exact ⟨rfl, HB.out⟩
theorem wb9 (x : Nat) (hx : x < 8) (y : Int) (z : Int) (A : Option Addr) (n cap : Nat) (d : Bool) (cs : List Ca) (w : World) : Calls Tryd.prog 30 #[vI ⟨9, x, y, z, A, n, cap, d, cs⟩] w (RegR (2 ^ x) w) := by
  have HB := Lib.hid (below_al w (.cells #[.int .i64 9, .int .i64 x, .int .i64 y, .int .i64 z, .slice A n cap, .bool d] 36))
  have Hx := Lib.hid hx
  clear hx
  go_enter Tryd.func30, Tryd.ntmps30
  go_wp2_with fail
  refine (with_zero x Hx.out _).mono ?_
  rintro e w1 ⟨rfl, rfl⟩
  go_wp2_with fail
  go_ret
  exact ⟨rfl, HB.out⟩
theorem wb10 (x : Int) (y : Int) (z : Int) (A : Option Addr) (n cap : Nat) (d : Bool) (cs : List Ca) (w : World) : Calls Tryd.prog 30 #[vI ⟨10, x, y, z, A, n, cap, d, cs⟩] w (RegR (0) w) := by
  have HB := Lib.hid (below_al w (.cells #[.int .i64 10, .int .i64 x, .int .i64 y, .int .i64 z, .slice A n cap, .bool d] 36))
  go_enter Tryd.func30, Tryd.ntmps30
  go_wp2
  go_ret
  exact ⟨rfl, HB.out⟩
theorem wb11 (x : Int) (y : Nat) (hy : y < 8) (z : Nat) (hz : z < 8) (A : Option Addr) (n cap : Nat) (d : Bool) (cs : List Ca) (w : World) : Calls Tryd.prog 30 #[vI ⟨11, x, y, z, A, n, cap, d, cs⟩] w (RegR (2 ^ z ||| 2 ^ y) w) := by
  have HB := Lib.hid (below_al w (.cells #[.int .i64 11, .int .i64 x, .int .i64 y, .int .i64 z, .slice A n cap, .bool d] 36))
  have Hy := Lib.hid hy
  have Hz := Lib.hid hz
  clear hy hz
  go_enter Tryd.func30, Tryd.ntmps30
  go_wp2_with fail
  refine (with_zero z Hz.out _).mono ?_
  rintro e w1 ⟨rfl, rfl⟩
  go_wp2_with fail
  refine (with_any _ y (pow8 z Hz.out).2 Hy.out _).mono ?_
  rintro e w1 ⟨rfl, rfl⟩
  go_wp2_with fail
  go_ret
  exact ⟨rfl, HB.out⟩
theorem wb12 (x : Int) (y : Int) (z : Int) (A : Option Addr) (n cap : Nat) (d : Bool) (cs : List Ca) (w : World) : Calls Tryd.prog 30 #[vI ⟨12, x, y, z, A, n, cap, d, cs⟩] w (RegR (0) w) := by
  have HB := Lib.hid (below_al w (.cells #[.int .i64 12, .int .i64 x, .int .i64 y, .int .i64 z, .slice A n cap, .bool d] 36))
  go_enter Tryd.func30, Tryd.ntmps30
  go_wp2
  go_ret
  exact ⟨rfl, HB.out⟩
theorem wb13 (x : Int) (y : Nat) (hy : y < 8) (z : Int) (A : Option Addr) (n cap : Nat) (d : Bool) (cs : List Ca) (w : World) : Calls Tryd.prog 30 #[vI ⟨13, x, y, z, A, n, cap, d, cs⟩] w (RegR (2 ^ y) w) := by
  have HB := Lib.hid (below_al w (.cells #[.int .i64 13, .int .i64 x, .int .i64 y, .int .i64 z, .slice A n cap, .bool d] 36))
  have Hy := Lib.hid hy
  clear hy
  go_enter Tryd.func30, Tryd.ntmps30
  go_wp2_with fail
  refine (with_zero y Hy.out _).mono ?_
  rintro e w1 ⟨rfl, rfl⟩
  go_wp2_with fail
  go_ret
  exact ⟨rfl, HB.out⟩
theorem wb14 (x : Int) (y : Nat) (hy : y < 8) (z : Int) (A : Option Addr) (n cap : Nat) (d : Bool) (cs : List Ca) (w : World) : Calls Tryd.prog 30 #[vI ⟨14, x, y, z, A, n, cap, d, cs⟩] w (RegR (2 ^ y) w) := by
  have HB := Lib.hid (below_al w (.cells #[.int .i64 14, .int .i64 x, .int .i64 y, .int .i64 z, .slice A n cap, .bool d] 36))
  have Hy := Lib.hid hy
  clear hy
  go_enter Tryd.func30, Tryd.ntmps30
  go_wp2_with fail
  refine (with_zero y Hy.out _).mono ?_
  rintro e w1 ⟨rfl, rfl⟩
  go_wp2_with fail
  go_ret
  exact ⟨rfl, HB.out⟩
theorem wb15 (x : Nat) (hx : x < 8) (y : Nat) (hy : y < 8) (z : Nat) (hz : z < 8) (A : Option Addr) (n cap : Nat) (d : Bool) (cs : List Ca) (w : World) : Calls Tryd.prog 30 #[vI ⟨15, x, y, z, A, n, cap, d, cs⟩] w (RegR (2 ^ x ||| 2 ^ z ||| 2 ^ y) w) := by
  have HB := Lib.hid (below_al w (.cells #[.int .i64 15, .int .i64 x, .int .i64 y, .int .i64 z, .slice A n cap, .bool d] 36))
  have Hx := Lib.hid hx
  have Hy := Lib.hid hy
  have Hz := Lib.hid hz
  clear hx hy hz
  go_enter Tryd.func30, Tryd.ntmps30
  go_wp2_with fail
  refine (with_zero x Hx.out _).mono ?_
  rintro e w1 ⟨rfl, rfl⟩
  go_wp2_with fail
  refine (with_any _ z (pow8 x Hx.out).2 Hz.out _).mono ?_
  rintro e w1 ⟨rfl, rfl⟩
  go_wp2_with fail
  refine (with_any _ y (or8 (pow8 x Hx.out).2 (pow8 z Hz.out).2) Hy.out _).mono ?_
  rintro e w1 ⟨rfl, rfl⟩
  go_wp2_with fail
  go_ret
  exact ⟨rfl, HB.out⟩
theorem wb16 (x : Nat) (hx : x < 8) (y : Int) (z : Int) (A : Option Addr) (n cap : Nat) (d : Bool) (cs : List Ca) (w : World) : Calls Tryd.prog 30 #[vI ⟨16, x, y, z, A, n, cap, d, cs⟩] w (RegR (2 ^ x) w) := by
  have HB := Lib.hid (below_al w (.cells #[.int .i64 16, .int .i64 x, .int .i64 y, .int .i64 z, .slice A n cap, .bool d] 36))
  have Hx := Lib.hid hx
  clear hx
  go_enter Tryd.func30, Tryd.ntmps30
  go_wp2_with fail
  refine (with_zero x Hx.out _).mono ?_
  rintro e w1 ⟨rfl, rfl⟩
  go_wp2_with fail
  go_ret
  exact ⟨rfl, HB.out⟩
theorem wb17 (x : Nat) (hx : x < 8) (y : Int) (z : Nat) (hz : z < 8) (A : Option Addr) (n cap : Nat) (d : Bool) (cs : List Ca) (w : World) : Calls Tryd.prog 30 #[vI ⟨17, x, y, z, A, n, cap, d, cs⟩] w (RegR (2 ^ z ||| 2 ^ x) w) := by
  have HB := Lib.hid (below_al w (.cells #[.int .i64 17, .int .i64 x, .int .i64 y, .int .i64 z, .slice A n cap, .bool d] 36))
  have Hx := Lib.hid hx
  have Hz := Lib.hid hz
  clear hx hz
  go_enter Tryd.func30, Tryd.ntmps30
  go_wp2_with fail
  refine (with_zero z Hz.out _).mono ?_
  rintro e w1 ⟨rfl, rfl⟩
  go_wp2_with fail
  refine (with_any _ x (pow8 z Hz.out).2 Hx.out _).mono ?_
  rintro e w1 ⟨rfl, rfl⟩
  go_wp2_with fail
  go_ret
  exact ⟨rfl, HB.out⟩
theorem wb18 (x : Nat) (hx : x < 8) (y : Int) (z : Nat) (hz : z < 8) (A : Option Addr) (n cap : Nat) (d : Bool) (cs : List Ca) (w : World) : Calls Tryd.prog 30 #[vI ⟨18, x, y, z, A, n, cap, d, cs⟩] w (RegR (2 ^ z ||| 2 ^ x) w) := by
  have HB := Lib.hid (below_al w (.cells #[.int .i64 18, .int .i64 x, .int .i64 y, .int .i64 z, .slice A n cap, .bool d] 36))
  have Hx := Lib.hid hx
  have Hz := Lib.hid hz
  clear hx hz
  go_enter Tryd.func30, Tryd.ntmps30
  go_wp2_with fail
  refine (with_zero z Hz.out _).mono ?_
  rintro e w1 ⟨rfl, rfl⟩
  go_wp2_with fail
  refine (with_any _ x (pow8 z Hz.out).2 Hx.out _).mono ?_
  rintro e w1 ⟨rfl, rfl⟩
  go_wp2_with fail
  go_ret
  exact ⟨rfl, HB.out⟩
theorem wb19 (x : Nat) (hx : x < 8) (y : Int) (z : Int) (A : Option Addr) (n cap : Nat) (d : Bool) (cs : List Ca) (w : World) : Calls Tryd.prog 30 #[vI ⟨19, x, y, z, A, n, cap, d, cs⟩] w (RegR (2 ^ x) w) := by
  have HB := Lib.hid (below_al w (.cells #[.int .i64 19, .int .i64 x, .int .i64 y, .int .i64 z, .slice A n cap, .bool d] 36))
  have Hx := Lib.hid hx
  clear hx
  go_enter Tryd.func30, Tryd.ntmps30
  go_wp2_with fail
  refine (with_zero x Hx.out _).mono ?_
  rintro e w1 ⟨rfl, rfl⟩
  go_wp2_with fail
  go_ret
  exact ⟨rfl, HB.out⟩
theorem wb20 (x : Int) (y : Nat) (hy : y < 8) (z : Int) (A : Option Addr) (n cap : Nat) (d : Bool) (cs : List Ca) (w : World) : Calls Tryd.prog 30 #[vI ⟨20, x, y, z, A, n, cap, d, cs⟩] w (RegR (2 ^ y) w) := by
  have HB := Lib.hid (below_al w (.cells #[.int .i64 20, .int .i64 x, .int .i64 y, .int .i64 z, .slice A n cap, .bool d] 36))
  have Hy := Lib.hid hy
  clear hy
  go_enter Tryd.func30, Tryd.ntmps30
  go_wp2_with fail
  refine (with_zero y Hy.out _).mono ?_
  rintro e w1 ⟨rfl, rfl⟩
  go_wp2_with fail
  go_ret
  exact ⟨rfl, HB.out⟩
theorem wb21 (x : Int) (y : Int) (z : Nat) (hz : z < 8) (A : Option Addr) (n cap : Nat) (d : Bool) (cs : List Ca) (w : World) : Calls Tryd.prog 30 #[vI ⟨21, x, y, z, A, n, cap, d, cs⟩] w (RegR (2 ^ z) w) := by
  have HB := Lib.hid (below_al w (.cells #[.int .i64 21, .int .i64 x, .int .i64 y, .int .i64 z, .slice A n cap, .bool d] 36))
  have Hz := Lib.hid hz
  clear hz
  go_enter Tryd.func30, Tryd.ntmps30
  go_wp2_with fail
  refine (with_zero z Hz.out _).mono ?_
  rintro e w1 ⟨rfl, rfl⟩
  go_wp2_with fail
  go_ret
  exact ⟨rfl, HB.out⟩
theorem wb22 (x : Nat) (hx : x < 8) (y : Int) (z : Int) (A : Option Addr) (n cap : Nat) (d : Bool) (cs : List Ca) (w : World) : Calls Tryd.prog 30 #[vI ⟨22, x, y, z, A, n, cap, d, cs⟩] w (RegR (2 ^ x) w) := by
  have HB := Lib.hid (below_al w (.cells #[.int .i64 22, .int .i64 x, .int .i64 y, .int .i64 z, .slice A n cap, .bool d] 36))
  have Hx := Lib.hid hx
  clear hx
  go_enter Tryd.func30, Tryd.ntmps30
  go_wp2_with fail
  refine (with_zero x Hx.out _).mono ?_
  rintro e w1 ⟨rfl, rfl⟩
  go_wp2_with fail
  go_ret
  exact ⟨rfl, HB.out⟩
theorem wb23 (x : Nat) (hx : x < 8) (y : Int) (z : Int) (A : Option Addr) (n cap : Nat) (d : Bool) (cs : List Ca) (w : World) : Calls Tryd.prog 30 #[vI ⟨23, x, y, z, A, n, cap, d, cs⟩] w (RegR (2 ^ x) w) := by
  have HB := Lib.hid (below_al w (.cells #[.int .i64 23, .int .i64 x, .int .i64 y, .int .i64 z, .slice A n cap, .bool d] 36))
  have Hx := Lib.hid hx
  clear hx
  go_enter Tryd.func30, Tryd.ntmps30
  go_wp2_with fail
  refine (with_zero x Hx.out _).mono ?_
  rintro e w1 ⟨rfl, rfl⟩
  go_wp2_with fail
  go_ret
  exact ⟨rfl, HB.out⟩
theorem wb24 (x : Nat) (hx : x < 8) (y : Int) (z : Int) (A : Option Addr) (n cap : Nat) (d : Bool) (cs : List Ca) (w : World) : Calls Tryd.prog 30 #[vI ⟨24, x, y, z, A, n, cap, d, cs⟩] w (RegR (2 ^ x) w) := by
  have HB := Lib.hid (below_al w (.cells #[.int .i64 24, .int .i64 x, .int .i64 y, .int .i64 z, .slice A n cap, .bool d] 36))
  have Hx := Lib.hid hx
  clear hx
  go_enter Tryd.func30, Tryd.ntmps30
  go_wp2_with fail
  refine (with_zero x Hx.out _).mono ?_
  rintro e w1 ⟨rfl, rfl⟩
  go_wp2_with fail
  go_ret
  exact ⟨rfl, HB.out⟩
theorem wb25 (x : Nat) (hx : x < 8) (y : Int) (z : Int) (A : Option Addr) (n cap : Nat) (d : Bool) (cs : List Ca) (w : World) : Calls Tryd.prog 30 #[vI ⟨25, x, y, z, A, n, cap, d, cs⟩] w (RegR (2 ^ x) w) := by
  have HB := Lib.hid (below_al w (.cells #[.int .i64 25, .int .i64 x, .int .i64 y, .int .i64 z, .slice A n cap, .bool d] 36))
  have Hx := Lib.hid hx
  clear hx
  go_enter Tryd.func30, Tryd.ntmps30
  go_wp2_with fail
  refine (with_zero x Hx.out _).mono ?_
  rintro e w1 ⟨rfl, rfl⟩
  go_wp2_with fail
  go_ret
  exact ⟨rfl, HB.out⟩
theorem wb26 (x : Int) (y : Int) (z : Int) (A : Option Addr) (n cap : Nat) (d : Bool) (cs : List Ca) (w : World) : Calls Tryd.prog 30 #[vI ⟨26, x, y, z, A, n, cap, d, cs⟩] w (RegR (0) w) := by
  have HB := Lib.hid (below_al w (.cells #[.int .i64 26, .int .i64 x, .int .i64 y, .int .i64 z, .slice A n cap, .bool d] 36))
  go_enter Tryd.func30, Tryd.ntmps30
  go_wp2
  go_ret
  exact ⟨rfl, HB.out⟩
theorem wb27 (x : Int) (y : Nat) (hy : y < 8) (z : Int) (A : Option Addr) (n cap : Nat) (d : Bool) (cs : List Ca) (w : World) : Calls Tryd.prog 30 #[vI ⟨27, x, y, z, A, n, cap, d, cs⟩] w (RegR (2 ^ y) w) := by
  have HB := Lib.hid (below_al w (.cells #[.int .i64 27, .int .i64 x, .int .i64 y, .int .i64 z, .slice A n cap, .bool d] 36))
  have Hy := Lib.hid hy
  clear hy
  go_enter Tryd.func30, Tryd.ntmps30
  go_wp2_with fail
  refine (with_zero y Hy.out _).mono ?_
  rintro e w1 ⟨rfl, rfl⟩
  go_wp2_with fail
  go_ret
  exact ⟨rfl, HB.out⟩
theorem wb28 (x : Int) (y : Nat) (hy : y < 8) (z : Int) (A : Option Addr) (n cap : Nat) (d : Bool) (cs : List Ca) (w : World) : Calls Tryd.prog 30 #[vI ⟨28, x, y, z, A, n, cap, d, cs⟩] w (RegR (2 ^ y) w) := by
  have HB := Lib.hid (below_al w (.cells #[.int .i64 28, .int .i64 x, .int .i64 y, .int .i64 z, .slice A n cap, .bool d] 36))
  have Hy := Lib.hid hy
  clear hy
  go_enter Tryd.func30, Tryd.ntmps30
  go_wp2_with fail
  refine (with_zero y Hy.out _).mono ?_
  rintro e w1 ⟨rfl, rfl⟩
  go_wp2_with fail
  go_ret
  exact ⟨rfl, HB.out⟩
theorem wb29 (x : Int) (y : Nat) (hy : y < 8) (z : Int) (A : Option Addr) (n cap : Nat) (d : Bool) (cs : List Ca) (w : World) : Calls Tryd.prog 30 #[vI ⟨29, x, y, z, A, n, cap, d, cs⟩] w (RegR (2 ^ y) w) := by
  have HB := Lib.hid (below_al w (.cells #[.int .i64 29, .int .i64 x, .int .i64 y, .int .i64 z, .slice A n cap, .bool d] 36))
  have Hy := Lib.hid hy
  clear hy
  go_enter Tryd.func30, Tryd.ntmps30
  go_wp2_with fail
  refine (with_zero y Hy.out _).mono ?_
  rintro e w1 ⟨rfl, rfl⟩
  go_wp2_with fail
  go_ret
  exact ⟨rfl, HB.out⟩
theorem wb30 (x : Int) (y : Nat) (hy : y < 8) (z : Nat) (hz : z < 8) (A : Option Addr) (n cap : Nat) (d : Bool) (cs : List Ca) (w : World) : Calls Tryd.prog 30 #[vI ⟨30, x, y, z, A, n, cap, d, cs⟩] w (RegR (2 ^ z ||| 2 ^ y) w) := by
  have HB := Lib.hid (below_al w (.cells #[.int .i64 30, .int .i64 x, .int .i64 y, .int .i64 z, .slice A n cap, .bool d] 36))
  have Hy := Lib.hid hy
  have Hz := Lib.hid hz
  clear hy hz
  go_enter Tryd.func30, Tryd.ntmps30
  go_wp2_with fail
  refine (with_zero z Hz.out _).mono ?_
  rintro e w1 ⟨rfl, rfl⟩
  go_wp2_with fail
  refine (with_any _ y (pow8 z Hz.out).2 Hy.out _).mono ?_
  rintro e w1 ⟨rfl, rfl⟩
  go_wp2_with fail
  go_ret
  exact ⟨rfl, HB.out⟩
theorem wb31 (x : Nat) (hx : x < 8) (y : Int) (z : Int) (A : Option Addr) (n cap : Nat) (d : Bool) (cs : List Ca) (w : World) : Calls Tryd.prog 30 #[vI ⟨31, x, y, z, A, n, cap, d, cs⟩] w (RegR (2 ^ x) w) := by
  have HB := Lib.hid (below_al w (.cells #[.int .i64 31, .int .i64 x, .int .i64 y, .int .i64 z, .slice A n cap, .bool d] 36))
  have Hx := Lib.hid hx
  clear hx
  go_enter Tryd.func30, Tryd.ntmps30
  go_wp2_with fail
  refine (with_zero x Hx.out _).mono ?_
  rintro e w1 ⟨rfl, rfl⟩
  go_wp2_with fail
  go_ret
  exact ⟨rfl, HB.out⟩
theorem wb32 (x : Int) (y : Nat) (hy : y < 8) (z : Int) (A : Option Addr) (n cap : Nat) (d : Bool) (cs : List Ca) (w : World) : Calls Tryd.prog 30 #[vI ⟨32, x, y, z, A, n, cap, d, cs⟩] w (RegR (2 ^ y) w) := by
  have HB := Lib.hid (below_al w (.cells #[.int .i64 32, .int .i64 x, .int .i64 y, .int .i64 z, .slice A n cap, .bool d] 36))
  have Hy := Lib.hid hy
  clear hy
  go_enter Tryd.func30, Tryd.ntmps30
  go_wp2_with fail
  refine (with_zero y Hy.out _).mono ?_
  rintro e w1 ⟨rfl, rfl⟩
  go_wp2_with fail
  go_ret
  exact ⟨rfl, HB.out⟩
end Go.Proofs.YtifmamobhkgmfaaDoor
