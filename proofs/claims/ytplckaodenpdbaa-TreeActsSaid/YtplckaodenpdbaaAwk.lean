/- What the document fixes holds: the laws' common end. No condition. -/
import Derived.Test.YtplckaodenpdbaaRnt
namespace Go.Proofs.Ytplckaodenpdbaa
open Go.RowKit
set_option linter.unusedVariables false
set_option maxRecDepth 100000

def A1 : TS := [(-1, false)]
def A2 : TS := [(-1, false), (0, true)]
def A3 : TS := [(-1, false), (0, true), (0, true)]
def A4 : TS := [(-1, false), (0, true), (0, true), (1, true)]
def A5 : TS := [(-1, false), (0, false), (0, true), (1, true)]
theorem a4_walk : walk A4 0 = [0, 1, 3, 2] := by
  have k0 : kids A4 0 = [1, 2] := by decide
  have k1 : kids A4 1 = [3] := by decide
  have k2 : kids A4 2 = [] := by decide
  have k3 : kids A4 3 = [] := by decide
  have w3 : walk A4 3 = [3] := by rw [walk_eq, k3]; rfl
  have w2 : walk A4 2 = [2] := by rw [walk_eq, k2]; rfl
  have w1 : walk A4 1 = [1, 3] := by rw [walk_eq, k1]; simp [w3]
  rw [walk_eq, k0]; simp [w1, w2]
theorem a5_kids : kids A5 0 = [2] := by decide
theorem a5_up1 : upTo A5 1 1 = true := upTo_self _ _
theorem a5_up31 : upTo A5 3 1 = true := by rw [upTo_step (p := 1) (by rfl) (by omega), a5_up1]; rfl
theorem a5_up30 : upTo A5 3 0 = false := by
  rw [upTo_step (p := 1) (by rfl) (by omega), upTo_stop (j := 1) (by intro p h; simp [A5] at h)]; rfl
section
variable {W w : World} {t : Nat}
theorem awk1 (h : LS W t [] [] w) : Calls Try.prog 10 #[.pointer (some ⟨t, 0, none⟩), .int .i64 (-1), .bool true] w fun e w' => e = .returned (.tuple #[.int .i64 0, .int .i64 0]) ∧ Hid (LS W t A1 [] w') := root_ls h (by simp) true
theorem awk2 (h : LS W t A1 [] w) : Calls Try.prog 10 #[.pointer (some ⟨t, 0, none⟩), .int .i64 0, .bool true] w fun e w' => e = .returned (.tuple #[.int .i64 1, .int .i64 0]) ∧ Hid (LS W t A2 [] w') := hung_ls h (by simp [A1]) 0 (by simp [A1])
theorem awk3 (h : LS W t A2 [] w) : Calls Try.prog 10 #[.pointer (some ⟨t, 0, none⟩), .int .i64 0, .bool true] w fun e w' => e = .returned (.tuple #[.int .i64 2, .int .i64 0]) ∧ Hid (LS W t A3 [] w') := hung_ls h (by simp [A2]) 0 (by simp [A2])
theorem awk4 (h : LS W t A3 [] w) : Calls Try.prog 10 #[.pointer (some ⟨t, 0, none⟩), .int .i64 1, .bool true] w fun e w' => e = .returned (.tuple #[.int .i64 3, .int .i64 0]) ∧ Hid (LS W t A4 [] w') := hung_ls h (by simp [A3]) 1 (by simp [A3])
theorem awk5 (h : LS W t A4 [] w) : Calls Try.prog 10 #[.pointer (some ⟨t, 0, none⟩), .int .i64 9, .bool true] w fun e w' => e = .returned (.tuple #[.int .i64 0, .int .i64 1]) ∧ w = w' := arg_ls h 9 true (by simp [A4])
theorem awk6 (h : LS W t A4 [] w) : Calls Try.prog 15 #[.pointer (some ⟨t, 0, none⟩), .int .i64 0] w fun e w' => e = .returned (.tuple #[.int .i64 (-1), .bool false, .bool true]) ∧ Hid (LS W t A4 [] w') := par_ls h 0 (by rfl)
theorem awk7 (h : LS W t A4 [] w) : Calls Try.prog 20 #[.pointer (some ⟨t, 0, none⟩), .int .i64 0] w fun e w' => ∃ P c, e = .returned (.slice P 4 c) ∧ Hid (LS W t A4 [⟨P, c, [0, 1, 3, 2]⟩] w') := by
  refine (show Calls Try.prog 20 #[.pointer (some ⟨t, 0, none⟩), .int .i64 0] w _ from walk_ls h 0 (by simp [A4])).mono ?_
  rintro e w' ⟨P, c, n, hn, rfl, h2⟩
  have hn := hn.out
  have h2 := h2.out
  rw [a4_walk] at hn h2
  subst hn
  exact ⟨P, c, rfl, h2⟩
theorem awk8 {rs : List Rr} (h : LS W t A4 rs w) : Calls Try.prog 12 #[.pointer (some ⟨t, 0, none⟩), .int .i64 1] w fun e w' => e = .returned (.bool true) ∧ Hid (LS W t A5 rs w') := cut_ls h 1 (p := 0) (by rfl)
theorem awk9 {rs : List Rr} (h : LS W t A5 rs w) : Calls Try.prog 12 #[.pointer (some ⟨t, 0, none⟩), .int .i64 1] w fun e w' => e = .returned (.bool false) ∧ Hid (LS W t A5 rs w') := uncut_ls h 1 (p := 0) (by rfl)
theorem awk10 {rs : List Rr} (h : LS W t A5 rs w) : Calls Try.prog 18 #[.pointer (some ⟨t, 0, none⟩), .int .i64 0] w fun e w' => ∃ P c, e = .returned (.slice P 1 c) ∧ Hid (LS W t A5 (⟨P, c, [2]⟩ :: rs) w') := by
  refine (show Calls Try.prog 18 #[.pointer (some ⟨t, 0, none⟩), .int .i64 0] w _ from kids_ls h 0 (by simp [A5])).mono ?_
  rintro e w' ⟨P, c, n, hn, rfl, h2⟩
  have hn := hn.out
  have h2 := h2.out
  rw [a5_kids] at hn h2
  subst hn
  exact ⟨P, c, rfl, h2⟩
theorem awk11 {rs : List Rr} (h : LS W t A5 rs w) : Calls Try.prog 21 #[.pointer (some ⟨t, 0, none⟩), .int .i64 3, .int .i64 0] w fun e w' => e = .returned (.bool false) ∧ w = w' := by
  have := under_ls h 3 (by simp [A5]) 0
  rw [show upZ A5 3 0 = false from (upZ_nat A5 3 0).trans a5_up30] at this
  exact this
theorem awk12 {rs : List Rr} (h : LS W t A5 rs w) : Calls Try.prog 21 #[.pointer (some ⟨t, 0, none⟩), .int .i64 3, .int .i64 1] w fun e w' => e = .returned (.bool true) ∧ w = w' := by
  have := under_ls h 3 (by simp [A5]) 1
  rw [show upZ A5 3 1 = true from (upZ_nat A5 3 1).trans a5_up31] at this
  exact this
theorem awk13 {rs : List Rr} (h : LS W t A5 rs w) : Calls Try.prog 14 #[.pointer (some ⟨t, 0, none⟩)] w fun e w' => e = .returned (.int .i64 4) ∧ w = w' := len_ls h
theorem lit4 (w : World) : Rn (w.alloc (.cells #[.int .i64 0, .int .i64 1, .int .i64 3, .int .i64 2] 3)) (some ⟨w.heap.size, 0, none⟩) 4 [0, 1, 3, 2] :=
  Rn.of_rw (B := 0) (c := 4) (World.ownsRow_lit (base := 0) (e := 3) (size := 1) w #[.int .i64 0, .int .i64 1, .int .i64 3, .int .i64 2] 4 (Nat.zero_le _) (by decide) rfl)
theorem lit1 (w : World) : Rn (w.alloc (.cells #[.int .i64 2] 3)) (some ⟨w.heap.size, 0, none⟩) 1 [2] :=
  Rn.of_rw (B := 0) (c := 1) (World.ownsRow_lit (base := 0) (e := 3) (size := 1) w #[.int .i64 2] 1 (Nat.zero_le _) (by decide) rfl)
end
set_option maxHeartbeats 4000000 in
theorem awake_any (w : World) : Calls Try.prog 8 #[] w (BoolR true w) := by
  have HN := Lib.hid (new_ls (Below.refl w.heap.size w))
  go_enter Try.func8, Try.ntmps8
  go_wp2_with (go_at_call 9; (with_reducible refine HN.out.mono ?_); rintro e w1 ⟨t, rfl, h1⟩; have H1 := Lib.hid h1; clear h1 HN)
  go_wp2_with (go_at_call 10; first | ((with_reducible refine (awk1 H1.out).mono ?_); rintro e w2 ⟨rfl, H2⟩; clear H1) | ((with_reducible refine (awk2 H2.out).mono ?_); rintro e w3 ⟨rfl, H3⟩; clear H2) | ((with_reducible refine (awk3 H3.out).mono ?_); rintro e w4 ⟨rfl, H4⟩; clear H3) | ((with_reducible refine (awk4 H4.out).mono ?_); rintro e w5 ⟨rfl, H5⟩; clear H4) | ((with_reducible refine (awk5 H5.out).mono ?_); rintro e w6 ⟨rfl, rfl⟩))
  refine (awk6 H5.out).mono ?_
  rintro e w6 ⟨rfl, H6⟩
  clear H5
  go_wp2_with fail
  refine (awk7 H6.out).mono ?_
  rintro e w7 ⟨P, c, rfl, H7⟩
  clear H6
  go_wp2_with fail
  refine (awk8 H7.out).mono ?_
  rintro e w8 ⟨rfl, H8⟩
  clear H7
  go_wp2_with fail
  refine (awk9 H8.out).mono ?_
  rintro e w9 ⟨rfl, H9⟩
  clear H8
  go_wp2_with fail
  refine (add_nil w9 (-1) true).mono ?_
  rintro e w10 ⟨rfl, rfl⟩
  go_wp2_with fail
  have HA : Hid (LS w t A5 [⟨P, c, [0, 1, 3, 2]⟩] (w9.alloc (.cells #[.int .i64 0, .int .i64 1, .int .i64 3, .int .i64 2] 3))) := H9.out.alloc _
  refine (ints_eq (c1 := c) (c2 := 4) (Rn.of_rw (HA.out.own (i := 0) rfl)) (lit4 w9) (by simp)).mono ?_
  rintro e w' ⟨rfl, q, rfl⟩
  have HB : Hid (LS w t A5 [⟨P, c, [0, 1, 3, 2]⟩] ((w9.alloc (.cells #[.int .i64 0, .int .i64 1, .int .i64 3, .int .i64 2] 3)).drewN q)) := HA.out.drewN _
  generalize ((w9.alloc (.cells #[.int .i64 0, .int .i64 1, .int .i64 3, .int .i64 2] 3)).drewN q) = w10 at HB ⊢
  clear HA H9
  go_wp2_with fail
  refine (awk10 HB.out).mono ?_
  rintro e w11 ⟨P2, c2, rfl, HC⟩
  clear HB
  go_wp2_with fail
  have HD : Hid (LS w t A5 [⟨P2, c2, [2]⟩, ⟨P, c, [0, 1, 3, 2]⟩] (w11.alloc (.cells #[.int .i64 2] 3))) := HC.out.alloc _
  refine (ints_eq (c1 := c2) (c2 := 1) (Rn.of_rw (HD.out.own (i := 0) rfl)) (lit1 w11) (by simp)).mono ?_
  rintro e w' ⟨rfl, q, rfl⟩
  have HE : Hid (LS w t A5 [⟨P2, c2, [2]⟩, ⟨P, c, [0, 1, 3, 2]⟩] ((w11.alloc (.cells #[.int .i64 2] 3)).drewN q)) := HD.out.drewN _
  generalize ((w11.alloc (.cells #[.int .i64 2] 3)).drewN q) = w12 at HE ⊢
  clear HD HC
  go_wp2_with fail
  refine (awk11 HE.out).mono ?_
  rintro e w' ⟨rfl, rfl⟩
  go_wp2_with fail
  refine (awk12 HE.out).mono ?_
  rintro e w' ⟨rfl, rfl⟩
  go_wp2_with fail
  refine (awk13 HE.out).mono ?_
  rintro e w' ⟨rfl, rfl⟩
  go_wp2_with fail
  go_ret
  exact ⟨rfl, HE.out.bel⟩
end Go.Proofs.Ytplckaodenpdbaa
