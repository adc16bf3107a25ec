/- What readBy answers, operation by operation. Conditions: each theorem's own premises. -/
import Derived.Test.YtifmamobhkgmfaaDoorRis
namespace Go.Proofs.YtifmamobhkgmfaaDoor
open Go.RowKit
set_option linter.unusedVariables false

theorem rb1 (x : Int) (y : Int) (z : Int) (A : Option Addr) (n cap : Nat) (d : Bool) (cs : List Ca) (w : World) : Calls Tryd.prog 27 #[vI ⟨1, x, y, z, A, n, cap, d, cs⟩] w (RegR (0) w) := by
  have HB := Lib.hid (below_al w (.cells #[.int .i64 1, .int .i64 x, .int .i64 y, .int .i64 z, .slice A n cap, .bool d] 36))
  go_enter Tryd.func27, Tryd.ntmps27
  go_wp2
  go_ret
  exact ⟨rfl, HB.out⟩
theorem rb2 (x : Int) (y : Nat) (hy : y < 8) (z : Int) (A : Option Addr) (n cap : Nat) (d : Bool) (cs : List Ca) (w : World) : Calls Tryd.prog 27 #[vI ⟨2, x, y, z, A, n, cap, d, cs⟩] w (RegR (2 ^ y) w) := by
  have HB := Lib.hid (below_al w (.cells #[.int .i64 2, .int .i64 x, .int .i64 y, .int .i64 z, .slice A n cap, .bool d] 36))
  have Hy := Lib.hid hy
  clear hy
  go_enter Tryd.func27, Tryd.ntmps27
  go_wp2_with fail
  refine (with_zero y Hy.out _).mono ?_
  rintro e w1 ⟨rfl, rfl⟩
  go_wp2_with fail
  go_ret
  exact ⟨rfl, HB.out⟩
theorem rb3 (x : Nat) (hx : x < 8) (y : Int) (z : Int) (A : Option Addr) (n cap : Nat) (d : Bool) (cs : List Ca) (w : World) : Calls Tryd.prog 27 #[vI ⟨3, x, y, z, A, n, cap, d, cs⟩] w (RegR (2 ^ x) w) := by
  have HB := Lib.hid (below_al w (.cells #[.int .i64 3, .int .i64 x, .int .i64 y, .int .i64 z, .slice A n cap, .bool d] 36))
  have Hx := Lib.hid hx
  clear hx
  go_enter Tryd.func27, Tryd.ntmps27
  go_wp2_with fail
  refine (with_zero x Hx.out _).mono ?_
  rintro e w1 ⟨rfl, rfl⟩
  go_wp2_with fail
  go_ret
  exact ⟨rfl, HB.out⟩
theorem rb4 (x : Int) (y : Int) (z : Int) (A : Option Addr) (n cap : Nat) (d : Bool) (cs : List Ca) (w : World) : Calls Tryd.prog 27 #[vI ⟨4, x, y, z, A, n, cap, d, cs⟩] w (RegR (0) w) := by
  have HB := Lib.hid (below_al w (.cells #[.int .i64 4, .int .i64 x, .int .i64 y, .int .i64 z, .slice A n cap, .bool d] 36))
  go_enter Tryd.func27, Tryd.ntmps27
  go_wp2
  go_ret
  exact ⟨rfl, HB.out⟩
theorem rb5 (x : Nat) (hx : x < 8) (y : Int) (z : Int) (A : Option Addr) (n cap : Nat) (d : Bool) (cs : List Ca) (w : World) : Calls Tryd.prog 27 #[vI ⟨5, x, y, z, A, n, cap, d, cs⟩] w (RegR (2 ^ x) w) := by
  have HB := Lib.hid (below_al w (.cells #[.int .i64 5, .int .i64 x, .int .i64 y, .int .i64 z, .slice A n cap, .bool d] 36))
  have Hx := Lib.hid hx
  clear hx
  go_enter Tryd.func27, Tryd.ntmps27
  go_wp2_with fail
  refine (with_zero x Hx.out _).mono ?_
  rintro e w1 ⟨rfl, rfl⟩
  go_wp2_with fail
  go_ret
  exact ⟨rfl, HB.out⟩
theorem rb6 (x : Nat) (hx : x < 8) (y : Int) (z : Int) (A : Option Addr) (n cap : Nat) (d : Bool) (cs : List Ca) (w : World) : Calls Tryd.prog 27 #[vI ⟨6, x, y, z, A, n, cap, d, cs⟩] w (RegR (2 ^ x) w) := by
  have HB := Lib.hid (below_al w (.cells #[.int .i64 6, .int .i64 x, .int .i64 y, .int .i64 z, .slice A n cap, .bool d] 36))
  have Hx := Lib.hid hx
  clear hx
  go_enter Tryd.func27, Tryd.ntmps27
  go_wp2_with fail
  refine (with_zero x Hx.out _).mono ?_
  rintro e w1 ⟨rfl, rfl⟩
  go_wp2_with fail
  go_ret
  exact ⟨rfl, HB.out⟩
theorem rb7 (x : Int) (y : Int) (z : Int) (A : Option Addr) (n cap : Nat) (d : Bool) (cs : List Ca) (w : World) : Calls Tryd.prog 27 #[vI ⟨7, x, y, z, A, n, cap, d, cs⟩] w (RegR (0) w) := by
  have HB := Lib.hid (below_al w (.cells #[.int .i64 7, .int .i64 x, .int .i64 y, .int .i64 z, .slice A n cap, .bool d] 36))
  go_enter Tryd.func27, Tryd.ntmps27
  go_wp2
  go_ret
  exact ⟨rfl, HB.out⟩
theorem rb8 (x : Int) (y : Int) (z : Int) (A : Option Addr) (n cap : Nat) (d : Bool) (cs : List Ca) (w : World) : Calls Tryd.prog 27 #[vI ⟨8, x, y, z, A, n, cap, d, cs⟩] w (RegR (0) w) := by
  have HB := Lib.hid (below_al w (.cells #[.int .i64 8, .int .i64 x, .int .i64 y, .int .i64 z, .slice A n cap, .bool d] 36))
  go_enter Tryd.func27, Tryd.ntmps27
  go_wp2
  go_ret
  exact ⟨rfl, HB.out⟩
theorem rb9 (x : Int) (y : Int) (z : Int) (A : Option Addr) (n cap : Nat) (d : Bool) (cs : List Ca) (w : World) : Calls Tryd.prog 27 #[vI ⟨9, x, y, z, A, n, cap, d, cs⟩] w (RegR (0) w) := by
  have HB := Lib.hid (below_al w (.cells #[.int .i64 9, .int .i64 x, .int .i64 y, .int .i64 z, .slice A n cap, .bool d] 36))
  go_enter Tryd.func27, Tryd.ntmps27
  go_wp2
  go_ret
  exact ⟨rfl, HB.out⟩
theorem rb10 (x : Nat) (hx : x < 8) (y : Nat) (hy : y < 8) (z : Int) (A : Option Addr) (n cap : Nat) (d : Bool) (cs : List Ca) (w : World) : Calls Tryd.prog 27 #[vI ⟨10, x, y, z, A, n, cap, d, cs⟩] w (RegR (2 ^ y ||| 2 ^ x) w) := by
  have HB := Lib.hid (below_al w (.cells #[.int .i64 10, .int .i64 x, .int .i64 y, .int .i64 z, .slice A n cap, .bool d] 36))
  have Hx := Lib.hid hx
  have Hy := Lib.hid hy
  clear hx hy
  go_enter Tryd.func27, Tryd.ntmps27
  go_wp2_with fail
  refine (with_zero y Hy.out _).mono ?_
  rintro e w1 ⟨rfl, rfl⟩
  go_wp2_with fail
  refine (with_any _ x (pow8 y Hy.out).2 Hx.out _).mono ?_
  rintro e w1 ⟨rfl, rfl⟩
  go_wp2_with fail
  go_ret
  exact ⟨rfl, HB.out⟩
theorem rb11 (x : Nat) (hx : x < 8) (y : Int) (z : Int) (A : Option Addr) (n cap : Nat) (d : Bool) (cs : List Ca) (w : World) : Calls Tryd.prog 27 #[vI ⟨11, x, y, z, A, n, cap, d, cs⟩] w (RegR (2 ^ x) w) := by
  have HB := Lib.hid (below_al w (.cells #[.int .i64 11, .int .i64 x, .int .i64 y, .int .i64 z, .slice A n cap, .bool d] 36))
  have Hx := Lib.hid hx
  clear hx
  go_enter Tryd.func27, Tryd.ntmps27
  go_wp2_with fail
  refine (with_zero x Hx.out _).mono ?_
  rintro e w1 ⟨rfl, rfl⟩
  go_wp2_with fail
  go_ret
  exact ⟨rfl, HB.out⟩
theorem rb12 (x : Nat) (hx : x < 8) (y : Int) (z : Int) (A : Option Addr) (n cap : Nat) (d : Bool) (cs : List Ca) (w : World) : Calls Tryd.prog 27 #[vI ⟨12, x, y, z, A, n, cap, d, cs⟩] w (RegR (2 ^ x) w) := by
  have HB := Lib.hid (below_al w (.cells #[.int .i64 12, .int .i64 x, .int .i64 y, .int .i64 z, .slice A n cap, .bool d] 36))
  have Hx := Lib.hid hx
  clear hx
  go_enter Tryd.func27, Tryd.ntmps27
  go_wp2_with fail
  refine (with_zero x Hx.out _).mono ?_
  rintro e w1 ⟨rfl, rfl⟩
  go_wp2_with fail
  go_ret
  exact ⟨rfl, HB.out⟩
theorem rb13 (x : Nat) (hx : x < 8) (y : Int) (z : Int) (A : Option Addr) (n cap : Nat) (d : Bool) (cs : List Ca) (w : World) : Calls Tryd.prog 27 #[vI ⟨13, x, y, z, A, n, cap, d, cs⟩] w (RegR (2 ^ x) w) := by
  have HB := Lib.hid (below_al w (.cells #[.int .i64 13, .int .i64 x, .int .i64 y, .int .i64 z, .slice A n cap, .bool d] 36))
  have Hx := Lib.hid hx
  clear hx
  go_enter Tryd.func27, Tryd.ntmps27
  go_wp2_with fail
  refine (with_zero x Hx.out _).mono ?_
  rintro e w1 ⟨rfl, rfl⟩
  go_wp2_with fail
  go_ret
  exact ⟨rfl, HB.out⟩
theorem rb14 (x : Nat) (hx : x < 8) (y : Int) (z : Int) (A : Option Addr) (n cap : Nat) (d : Bool) (cs : List Ca) (w : World) : Calls Tryd.prog 27 #[vI ⟨14, x, y, z, A, n, cap, d, cs⟩] w (RegR (2 ^ x) w) := by
  have HB := Lib.hid (below_al w (.cells #[.int .i64 14, .int .i64 x, .int .i64 y, .int .i64 z, .slice A n cap, .bool d] 36))
  have Hx := Lib.hid hx
  clear hx
  go_enter Tryd.func27, Tryd.ntmps27
  go_wp2_with fail
  refine (with_zero x Hx.out _).mono ?_
  rintro e w1 ⟨rfl, rfl⟩
  go_wp2_with fail
  go_ret
  exact ⟨rfl, HB.out⟩
theorem rb15 (x y z : Int) (A : Option Addr) (n cap : Nat) (d : Bool) (cs : List Ca) (w : World) (hn : n ≤ 16) (hR : Hid (RdC w A n cs)) (hA : Hid (cs.all caB = true)) : Calls Tryd.prog 27 #[vI ⟨15, x, y, z, A, n, cap, d, cs⟩] w (RegR (casM cs) w) := by
  have HB := Lib.hid (below_al w (.cells #[.int .i64 15, .int .i64 x, .int .i64 y, .int .i64 z, .slice A n cap, .bool d] 36))
  have HK := Lib.hid (readCases_any A n cap cs _ hn (hR.out.later HB.out) hA)
  go_enter Tryd.func27, Tryd.ntmps27
  go_wp2_with fail
  refine HK.out.mono ?_
  rintro e w1 ⟨rfl, hb⟩
  have HB1 := Lib.hid (HB.out.trans (hb.mono HB.out.size))
  clear hb
  go_wp2_with fail
  go_ret
  exact ⟨rfl, HB1.out⟩
theorem rb16 (x : Int) (y : Int) (z : Int) (A : Option Addr) (n cap : Nat) (d : Bool) (cs : List Ca) (w : World) : Calls Tryd.prog 27 #[vI ⟨16, x, y, z, A, n, cap, d, cs⟩] w (RegR (0) w) := by
  have HB := Lib.hid (below_al w (.cells #[.int .i64 16, .int .i64 x, .int .i64 y, .int .i64 z, .slice A n cap, .bool d] 36))
  go_enter Tryd.func27, Tryd.ntmps27
  go_wp2
  go_ret
  exact ⟨rfl, HB.out⟩
theorem rb17 (x : Int) (y : Nat) (hy : y < 8) (z : Int) (A : Option Addr) (n cap : Nat) (d : Bool) (cs : List Ca) (w : World) : Calls Tryd.prog 27 #[vI ⟨17, x, y, z, A, n, cap, d, cs⟩] w (RegR (2 ^ y) w) := by
  have HB := Lib.hid (below_al w (.cells #[.int .i64 17, .int .i64 x, .int .i64 y, .int .i64 z, .slice A n cap, .bool d] 36))
  have Hy := Lib.hid hy
  clear hy
  go_enter Tryd.func27, Tryd.ntmps27
  go_wp2_with fail
  refine (with_zero y Hy.out _).mono ?_
  rintro e w1 ⟨rfl, rfl⟩
  go_wp2_with fail
  go_ret
  exact ⟨rfl, HB.out⟩
theorem rb18 (x : Int) (y : Nat) (hy : y < 8) (z : Int) (A : Option Addr) (n cap : Nat) (d : Bool) (cs : List Ca) (w : World) : Calls Tryd.prog 27 #[vI ⟨18, x, y, z, A, n, cap, d, cs⟩] w (RegR (2 ^ y) w) := by
  have HB := Lib.hid (below_al w (.cells #[.int .i64 18, .int .i64 x, .int .i64 y, .int .i64 z, .slice A n cap, .bool d] 36))
  have Hy := Lib.hid hy
  clear hy
  go_enter Tryd.func27, Tryd.ntmps27
  go_wp2_with fail
  refine (with_zero y Hy.out _).mono ?_
  rintro e w1 ⟨rfl, rfl⟩
  go_wp2_with fail
  go_ret
  exact ⟨rfl, HB.out⟩
theorem rb19 (x : Int) (y : Nat) (hy : y < 8) (z : Int) (A : Option Addr) (n cap : Nat) (d : Bool) (cs : List Ca) (w : World) : Calls Tryd.prog 27 #[vI ⟨19, x, y, z, A, n, cap, d, cs⟩] w (RegR (2 ^ y) w) := by
  have HB := Lib.hid (below_al w (.cells #[.int .i64 19, .int .i64 x, .int .i64 y, .int .i64 z, .slice A n cap, .bool d] 36))
  have Hy := Lib.hid hy
  clear hy
  go_enter Tryd.func27, Tryd.ntmps27
  go_wp2_with fail
  refine (with_zero y Hy.out _).mono ?_
  rintro e w1 ⟨rfl, rfl⟩
  go_wp2_with fail
  go_ret
  exact ⟨rfl, HB.out⟩
theorem rb20 (x : Nat) (hx : x < 8) (y : Int) (z : Int) (A : Option Addr) (n cap : Nat) (d : Bool) (cs : List Ca) (w : World) : Calls Tryd.prog 27 #[vI ⟨20, x, y, z, A, n, cap, d, cs⟩] w (RegR (2 ^ x) w) := by
  have HB := Lib.hid (below_al w (.cells #[.int .i64 20, .int .i64 x, .int .i64 y, .int .i64 z, .slice A n cap, .bool d] 36))
  have Hx := Lib.hid hx
  clear hx
  go_enter Tryd.func27, Tryd.ntmps27
  go_wp2_with fail
  refine (with_zero x Hx.out _).mono ?_
  rintro e w1 ⟨rfl, rfl⟩
  go_wp2_with fail
  go_ret
  exact ⟨rfl, HB.out⟩
theorem rb21 (x : Nat) (hx : x < 8) (y : Nat) (hy : y < 8) (z : Int) (A : Option Addr) (n cap : Nat) (d : Bool) (cs : List Ca) (w : World) : Calls Tryd.prog 27 #[vI ⟨21, x, y, z, A, n, cap, d, cs⟩] w (RegR (2 ^ y ||| 2 ^ x) w) := by
  have HB := Lib.hid (below_al w (.cells #[.int .i64 21, .int .i64 x, .int .i64 y, .int .i64 z, .slice A n cap, .bool d] 36))
  have Hx := Lib.hid hx
  have Hy := Lib.hid hy
  clear hx hy
  go_enter Tryd.func27, Tryd.ntmps27
  go_wp2_with fail
  refine (with_zero y Hy.out _).mono ?_
  rintro e w1 ⟨rfl, rfl⟩
  go_wp2_with fail
  refine (with_any _ x (pow8 y Hy.out).2 Hx.out _).mono ?_
  rintro e w1 ⟨rfl, rfl⟩
  go_wp2_with fail
  go_ret
  exact ⟨rfl, HB.out⟩
theorem rb22 (x : Int) (y : Nat) (hy : y < 8) (z : Int) (A : Option Addr) (n cap : Nat) (d : Bool) (cs : List Ca) (w : World) : Calls Tryd.prog 27 #[vI ⟨22, x, y, z, A, n, cap, d, cs⟩] w (RegR (2 ^ y) w) := by
  have HB := Lib.hid (below_al w (.cells #[.int .i64 22, .int .i64 x, .int .i64 y, .int .i64 z, .slice A n cap, .bool d] 36))
  have Hy := Lib.hid hy
  clear hy
  go_enter Tryd.func27, Tryd.ntmps27
  go_wp2_with fail
  refine (with_zero y Hy.out _).mono ?_
  rintro e w1 ⟨rfl, rfl⟩
  go_wp2_with fail
  go_ret
  exact ⟨rfl, HB.out⟩
theorem rb23 (x : Int) (y : Nat) (hy : y < 8) (z : Nat) (hz : z < 8) (A : Option Addr) (n cap : Nat) (d : Bool) (cs : List Ca) (w : World) : Calls Tryd.prog 27 #[vI ⟨23, x, y, z, A, n, cap, d, cs⟩] w (RegR (2 ^ z ||| 2 ^ y) w) := by
  have HB := Lib.hid (below_al w (.cells #[.int .i64 23, .int .i64 x, .int .i64 y, .int .i64 z, .slice A n cap, .bool d] 36))
  have Hy := Lib.hid hy
  have Hz := Lib.hid hz
  clear hy hz
  go_enter Tryd.func27, Tryd.ntmps27
  go_wp2_with fail
  refine (with_zero z Hz.out _).mono ?_
  rintro e w1 ⟨rfl, rfl⟩
  go_wp2_with fail
  refine (with_any _ y (pow8 z Hz.out).2 Hy.out _).mono ?_
  rintro e w1 ⟨rfl, rfl⟩
  go_wp2_with fail
  go_ret
  exact ⟨rfl, HB.out⟩
theorem rb24 (x : Int) (y : Nat) (hy : y < 8) (z : Nat) (hz : z < 8) (A : Option Addr) (n cap : Nat) (d : Bool) (cs : List Ca) (w : World) : Calls Tryd.prog 27 #[vI ⟨24, x, y, z, A, n, cap, d, cs⟩] w (RegR (2 ^ z ||| 2 ^ y) w) := by
  have HB := Lib.hid (below_al w (.cells #[.int .i64 24, .int .i64 x, .int .i64 y, .int .i64 z, .slice A n cap, .bool d] 36))
  have Hy := Lib.hid hy
  have Hz := Lib.hid hz
  clear hy hz
  go_enter Tryd.func27, Tryd.ntmps27
  go_wp2_with fail
  refine (with_zero z Hz.out _).mono ?_
  rintro e w1 ⟨rfl, rfl⟩
  go_wp2_with fail
  refine (with_any _ y (pow8 z Hz.out).2 Hy.out _).mono ?_
  rintro e w1 ⟨rfl, rfl⟩
  go_wp2_with fail
  go_ret
  exact ⟨rfl, HB.out⟩
theorem rb25 (x : Int) (y : Nat) (hy : y < 8) (z : Int) (A : Option Addr) (n cap : Nat) (d : Bool) (cs : List Ca) (w : World) : Calls Tryd.prog 27 #[vI ⟨25, x, y, z, A, n, cap, d, cs⟩] w (RegR (2 ^ y) w) := by
  have HB := Lib.hid (below_al w (.cells #[.int .i64 25, .int .i64 x, .int .i64 y, .int .i64 z, .slice A n cap, .bool d] 36))
  have Hy := Lib.hid hy
  clear hy
  go_enter Tryd.func27, Tryd.ntmps27
  go_wp2_with fail
  refine (with_zero y Hy.out _).mono ?_
  rintro e w1 ⟨rfl, rfl⟩
  go_wp2_with fail
  go_ret
  exact ⟨rfl, HB.out⟩
theorem rb26 (x : Nat) (hx : x < 8) (y : Nat) (hy : y < 8) (z : Int) (A : Option Addr) (n cap : Nat) (d : Bool) (cs : List Ca) (w : World) : Calls Tryd.prog 27 #[vI ⟨26, x, y, z, A, n, cap, d, cs⟩] w (RegR (2 ^ y ||| 2 ^ x) w) := by
  have HB := Lib.hid (below_al w (.cells #[.int .i64 26, .int .i64 x, .int .i64 y, .int .i64 z, .slice A n cap, .bool d] 36))
  have Hx := Lib.hid hx
  have Hy := Lib.hid hy
  clear hx hy
  go_enter Tryd.func27, Tryd.ntmps27
  go_wp2_with fail
  refine (with_zero y Hy.out _).mono ?_
  rintro e w1 ⟨rfl, rfl⟩
  go_wp2_with fail
  refine (with_any _ x (pow8 y Hy.out).2 Hx.out _).mono ?_
  rintro e w1 ⟨rfl, rfl⟩
  go_wp2_with fail
  go_ret
  exact ⟨rfl, HB.out⟩
theorem rb27 (x : Nat) (hx : x < 8) (y : Int) (z : Int) (A : Option Addr) (n cap : Nat) (d : Bool) (cs : List Ca) (w : World) : Calls Tryd.prog 27 #[vI ⟨27, x, y, z, A, n, cap, d, cs⟩] w (RegR (2 ^ x) w) := by
  have HB := Lib.hid (below_al w (.cells #[.int .i64 27, .int .i64 x, .int .i64 y, .int .i64 z, .slice A n cap, .bool d] 36))
  have Hx := Lib.hid hx
  clear hx
  go_enter Tryd.func27, Tryd.ntmps27
  go_wp2_with fail
  refine (with_zero x Hx.out _).mono ?_
  rintro e w1 ⟨rfl, rfl⟩
  go_wp2_with fail
  go_ret
  exact ⟨rfl, HB.out⟩
theorem rb28 (x : Nat) (hx : x < 8) (y : Int) (z : Int) (A : Option Addr) (n cap : Nat) (d : Bool) (cs : List Ca) (w : World) : Calls Tryd.prog 27 #[vI ⟨28, x, y, z, A, n, cap, d, cs⟩] w (RegR (2 ^ x) w) := by
  have HB := Lib.hid (below_al w (.cells #[.int .i64 28, .int .i64 x, .int .i64 y, .int .i64 z, .slice A n cap, .bool d] 36))
  have Hx := Lib.hid hx
  clear hx
  go_enter Tryd.func27, Tryd.ntmps27
  go_wp2_with fail
  refine (with_zero x Hx.out _).mono ?_
  rintro e w1 ⟨rfl, rfl⟩
  go_wp2_with fail
  go_ret
  exact ⟨rfl, HB.out⟩
theorem rb29 (x : Nat) (hx : x < 8) (y : Int) (z : Int) (A : Option Addr) (n cap : Nat) (d : Bool) (cs : List Ca) (w : World) : Calls Tryd.prog 27 #[vI ⟨29, x, y, z, A, n, cap, d, cs⟩] w (RegR (2 ^ x) w) := by
  have HB := Lib.hid (below_al w (.cells #[.int .i64 29, .int .i64 x, .int .i64 y, .int .i64 z, .slice A n cap, .bool d] 36))
  have Hx := Lib.hid hx
  clear hx
  go_enter Tryd.func27, Tryd.ntmps27
  go_wp2_with fail
  refine (with_zero x Hx.out _).mono ?_
  rintro e w1 ⟨rfl, rfl⟩
  go_wp2_with fail
  go_ret
  exact ⟨rfl, HB.out⟩
theorem rb30 (x : Nat) (hx : x < 8) (y : Int) (z : Int) (A : Option Addr) (n cap : Nat) (d : Bool) (cs : List Ca) (w : World) : Calls Tryd.prog 27 #[vI ⟨30, x, y, z, A, n, cap, d, cs⟩] w (RegR (2 ^ x) w) := by
  have HB := Lib.hid (below_al w (.cells #[.int .i64 30, .int .i64 x, .int .i64 y, .int .i64 z, .slice A n cap, .bool d] 36))
  have Hx := Lib.hid hx
  clear hx
  go_enter Tryd.func27, Tryd.ntmps27
  go_wp2_with fail
  refine (with_zero x Hx.out _).mono ?_
  rintro e w1 ⟨rfl, rfl⟩
  go_wp2_with fail
  go_ret
  exact ⟨rfl, HB.out⟩
theorem rb31 (x : Int) (y : Nat) (hy : y < 8) (z : Int) (A : Option Addr) (n cap : Nat) (d : Bool) (cs : List Ca) (w : World) : Calls Tryd.prog 27 #[vI ⟨31, x, y, z, A, n, cap, d, cs⟩] w (RegR (2 ^ y) w) := by
  have HB := Lib.hid (below_al w (.cells #[.int .i64 31, .int .i64 x, .int .i64 y, .int .i64 z, .slice A n cap, .bool d] 36))
  have Hy := Lib.hid hy
  clear hy
  go_enter Tryd.func27, Tryd.ntmps27
  go_wp2_with fail
  refine (with_zero y Hy.out _).mono ?_
  rintro e w1 ⟨rfl, rfl⟩
  go_wp2_with fail
  go_ret
  exact ⟨rfl, HB.out⟩
theorem rb32 (x : Nat) (hx : x < 8) (y : Int) (z : Int) (A : Option Addr) (n cap : Nat) (d : Bool) (cs : List Ca) (w : World) : Calls Tryd.prog 27 #[vI ⟨32, x, y, z, A, n, cap, d, cs⟩] w (RegR (2 ^ x) w) := by
  have HB := Lib.hid (below_al w (.cells #[.int .i64 32, .int .i64 x, .int .i64 y, .int .i64 z, .slice A n cap, .bool d] 36))
  have Hx := Lib.hid hx
  clear hx
  go_enter Tryd.func27, Tryd.ntmps27
  go_wp2_with fail
  refine (with_zero x Hx.out _).mono ?_
  rintro e w1 ⟨rfl, rfl⟩
  go_wp2_with fail
  go_ret
  exact ⟨rfl, HB.out⟩
end Go.Proofs.YtifmamobhkgmfaaDoor
