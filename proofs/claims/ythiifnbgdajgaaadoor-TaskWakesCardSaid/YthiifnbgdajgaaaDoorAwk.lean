/- What the document fixes holds. Conditions: the table of operations lies in its variable. -/
import Derived.Test.YthiifnbgdajgaaaDoorSta
import Derived.Test.YthiifnbgdajgaaaDoorEq8
namespace Go.Proofs.YthiifnbgdajgaaaDoor
open Go.RowKit
set_option linter.unusedVariables false
set_option maxRecDepth 100000

abbrev g0 : Nat → Int := fun _ => 0
abbrev g1 : Nat → Int := fun j => if j = 0 then 1 else 0
abbrev yI (op a b c : Int) : T0 := ⟨0, 0, 0, 0, g0, op, a, b, c, false, []⟩
abbrev g2 : Nat → Int := upd (upd (upd g1 1 9) 2 0) 2 1
theorem chk_recv : Pg.checkB [tI (yI 11 0 1 2) none 0] 16 = true := by decide +kernel
set_option maxHeartbeats 8000000 in
theorem awake_any (W : World) (hF : Hid (Pg.FT W)) : Calls Tryd.prog 8 #[] W (BoolR true W) := by
  go_enter Tryd.func8, Tryd.ntmps8
  go_wp2_with fail
  refine (new_ls (Below.refl _ _)).mono ?_
  rintro e w1 ⟨t, rfl, S1⟩
  go_wp2_with fail
  refine (start_ls (prog := 2) (g := g1) S1.out (by omega) (by simp) (by simp)).mono ?_
  rintro e w2 ⟨rfl, S2⟩
  replace S2 : Hid (LS W t [yNew 2 g1] [0] [] w2) := S2
  clear S1
  go_wp2_with fail
  refine (start_ls (prog := 0) (g := g0) S2.out (by omega) (by simp) (by simp)).mono ?_
  rintro e w3 ⟨rfl, S3⟩
  replace S3 : Hid (LS W t [yNew 2 g1, yNew 0 g0] [0, 1] [] w3) := S3
  clear S2
  go_wp2_with fail
  have S4 := Lib.hid (S3.out.block 34 (iR (yI 11 0 1 2) none 0))
  have F4 := Lib.hid (S4.out.ft hF.out)
  refine (park_ls (k := 0) (y := yI 11 0 1 2) (As := none) (cap := 0) S4.out rfl rfl (by simp) F4.out (.inr (.inl rfl)) chk_recv (.inl rfl) (Pg.RdC.nil _ _) (Nat.zero_le _) (Nat.zero_le _) (by omega)).mono ?_
  rintro e w5 ⟨rfl, S5⟩
  replace S5 : Hid (LS W t [yPark (yNew 2 g1) (yI 11 0 1 2), yNew 0 g0] [1] [rB w3.heap.size 34 (iR (yI 11 0 1 2) none 0)] w5) := S5
  have B5 : Hid (Bk w5 w3.heap.size 34 (iR (yI 11 0 1 2) none 0)) := S5.out.ownB (i := 0) rfl
  clear S3 S4 F4
  have i0 : w5.cell? ⟨w3.heap.size, 0, none⟩ = some (.int .i64 11) := B5.out.cell 0
  have i1 : w5.cell? ⟨w3.heap.size, 1, none⟩ = some (.int .i64 0) := B5.out.cell 1
  have i2 : w5.cell? ⟨w3.heap.size, 2, none⟩ = some (.int .i64 1) := B5.out.cell 2
  have i3 : w5.cell? ⟨w3.heap.size, 3, none⟩ = some (.int .i64 2) := B5.out.cell 3
  have i4 : w5.cell? ⟨w3.heap.size, 4, none⟩ = some (.slice none 0 0) := B5.out.cell 4
  have i5 : w5.cell? ⟨w3.heap.size, 5, none⟩ = some (.bool false) := B5.out.cell 5
  go_wp2_with fail
  refine (parkno_ls (k := 0) (y := iR (yI 11 0 1 2) none 0) S5.out rfl (by decide)).mono ?_
  rintro e w6 ⟨rfl, S6⟩
  replace S6 := Lib.hid (S6.out.sub (rs' := []) (List.nil_sublist _))
  clear S5 B5 i0 i1 i2 i3 i4 i5
  go_wp2_with fail
  refine (wake_ls (k := 0) (kase := 0) (value := 9) (ok := true) (g := g2) S6.out rfl rfl (by simp) (by decide) (fun A c w1 hR => told_recv1 (nb := 1) (nc := 2) _ A c _ 9 false 0 w1 rfl rfl rfl (by omega) (by omega))).mono ?_
  rintro e w7 ⟨rfl, S7⟩
  replace S7 : Hid (LS W t [yWake (yPark (yNew 2 g1) (yI 11 0 1 2)) g2, yNew 0 g0] [1, 0] [] w7) := S7
  clear S6
  go_wp2_with fail
  refine (get_ls (k := 0) S7.out rfl).mono ?_
  rintro e w8 ⟨A8, c8, rfl, S8⟩
  clear S7
  go_wp2_with (refine wp_stN rfl (.tmp 10) (.tmp 54) rfl rfl rfl rfl i47 (tU_one ..) ?_)
  have S9 := Lib.hid (S8.out.block 47 (tW (yWake (yPark (yNew 2 g1) (yI 11 0 1 2)) g2) A8 c8))
  have HN8 : Hid (w8.heap.size < (w8.alloc (.cells (tW (yWake (yPark (yNew 2 g1) (yI 11 0 1 2)) g2) A8 c8) 47)).heap.size) := by show _ < _; simp
  generalize w8.alloc (.cells (tW (yWake (yPark (yNew 2 g1) (yI 11 0 1 2)) g2) A8 c8) 47) = w9 at *
  generalize w8.heap.size = N at *
  clear S8
  refine (parkarg_ls (k := 1) (y := yI 6 0 0 0) (As := none) (cap := 0) S9.out rfl rfl rfl).mono ?_
  rintro e w10 ⟨rfl, S10⟩
  clear S9 HN8
  go_wp2_with fail
  refine (pick_ls (n := 1) (z := 0) S10.out (by simp) (by rfl)).mono ?_
  rintro e w11 ⟨rfl, S11⟩
  clear S10
  go_wp2_with fail
  refine (end_ls (k := 1) (how := 3) S11.out rfl (by decide) (by simp)).mono ?_
  rintro e w12 ⟨rfl, S12⟩
  replace S12 : Hid (LS W t [yWake (yPark (yNew 2 g1) (yI 11 0 1 2)) g2, yEnd (yNew 0 g0) 3] [0] [rB N 47 (tW (yWake (yPark (yNew 2 g1) (yI 11 0 1 2)) g2) A8 c8)] w12) := S12
  clear S11
  go_wp2_with fail
  refine (endno_ls (k := 1) (how := 0) S12.out rfl rfl).mono ?_
  rintro e w13 ⟨rfl, S13⟩
  clear S12
  go_wp2_with fail
  refine (get_ls (k := 1) S13.out rfl).mono ?_
  rintro e w14 ⟨A14, c14, rfl, S14⟩
  clear S13
  go_wp2_with (refine wp_stN rfl (.tmp 17) (.tmp 75) rfl rfl rfl rfl i47 (tU_one ..) ?_)
  have S15 := Lib.hid (S14.out.block 47 (tW (yEnd (yNew 0 g0) 3) A14 c14))
  generalize w14.alloc (.cells (tW (yEnd (yNew 0 g0) 3) A14 c14) 47) = w15 at *
  generalize w14.heap.size = M at *
  clear S14
  refine (start_nil g0 w15).mono ?_
  rintro e w16 ⟨rfl, hb⟩
  have S16 := Lib.hid (S15.out.later hb)
  clear hb S15
  have BX : Hid (Bk w16 N 47 (tW (yWake (yPark (yNew 2 g1) (yI 11 0 1 2)) g2) A8 c8)) := S16.out.ownB (i := 1) rfl
  have BY : Hid (Bk w16 M 47 (tW (yEnd (yNew 0 g0) 3) A14 c14)) := S16.out.ownB (i := 0) rfl
  have x0 : w16.cell? ⟨N, 0, none⟩ = some (.int .i64 2) := BX.out.cell 0
  have x1 : w16.cell? ⟨N, 1, none⟩ = some (.int .i64 1) := BX.out.cell 1
  have x2 : w16.cell? ⟨N, 2, none⟩ = some (.int .i64 0) := BX.out.cell 2
  have x4 : w16.cell? ⟨N, 4, none⟩ = some (.int .i64 1) := BX.out.cell 4
  have x5 : w16.cell? ⟨N, 5, none⟩ = some (.int .i64 9) := BX.out.cell 5
  have x6 : w16.cell? ⟨N, 6, none⟩ = some (.int .i64 1) := BX.out.cell 6
  have x7 : w16.cell? ⟨N, 7, none⟩ = some (.int .i64 0) := BX.out.cell 7
  have x8 : w16.cell? ⟨N, 8, none⟩ = some (.int .i64 0) := BX.out.cell 8
  have x9 : w16.cell? ⟨N, 9, none⟩ = some (.int .i64 0) := BX.out.cell 9
  have x10 : w16.cell? ⟨N, 10, none⟩ = some (.int .i64 0) := BX.out.cell 10
  have x11 : w16.cell? ⟨N, 11, none⟩ = some (.int .i64 0) := BX.out.cell 11
  have y2 : w16.cell? ⟨M, 2, none⟩ = some (.int .i64 2) := BY.out.cell 2
  have y3 : w16.cell? ⟨M, 3, none⟩ = some (.int .i64 3) := BY.out.cell 3
  have heq := eq8 1 9 1 0 0 0 0 0 w16
  go_wp2_with fail
  refine (ready_ls S16.out (by simp)).mono ?_
  rintro e w17 ⟨A17, c17, rfl, R17, S17⟩
  clear S16 x0 x1 x2 x4 x5 x6 x7 x8 x9 x10 x11 y2 y3 BX BY heq
  replace R17 : Hid (Rn w17 A17 1 [0]) := R17
  go_wp2_with fail
  have S18 := Lib.hid (S17.out.later (below_al w17 (.cells #[.int .i64 0] 3)))
  have R18 := Lib.hid (R17.out.later (below_al w17 (.cells #[.int .i64 0] 3)))
  have Q18 := Lib.hid (rn_blk (heap_alloc_new w17 (.cells #[.int .i64 0] 3)))
  refine (ints_eq R18.out Q18.out (by omega)).mono ?_
  rintro e w' ⟨rfl, q, rfl⟩
  have S19 := Lib.hid (S18.out.drewN q)
  generalize (w17.alloc (.cells #[.int .i64 0] 3)).drewN q = w19 at *
  clear R17 R18 Q18 S17 S18
  go_wp2_with fail
  refine (len_ls S19.out).mono ?_
  rintro e w' ⟨rfl, rfl⟩
  go_wp2_with fail
  go_ret
  exact ⟨rfl, S19.out.bel⟩
end Go.Proofs.YthiifnbgdajgaaaDoor
