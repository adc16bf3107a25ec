/- A wake writes what was received where its instruction says: one of the ways. Conditions: the table of operations lies in its variable. -/
import Derived.Test.YthiifnbgdajgaaaDoorWkB
namespace Go.Proofs.YthiifnbgdajgaaaDoor
open Go.RowKit
set_option linter.unusedVariables false
set_option maxRecDepth 100000

set_option maxHeartbeats 8000000 in
theorem wakes_sl2 (op a b c kase value : Int) (W : World) (hF : Hid (Pg.FT W)) (ho : pk op 3 = 2) (hk : pk kase 2 = 1) : Calls Tryd.prog 4 #[.int .i64 op, .int .i64 a, .int .i64 b, .int .i64 c, .int .i64 kase, .int .i64 value, .bool false] W (BoolR true W) := by
  have HO := Lib.hid ho
  clear ho
  have HK := Lib.hid hk
  clear hk
  go_enter Tryd.func4, Tryd.ntmps4
  go_wp2_with fail
  refine (round_pk a 8 W (by omega) (by omega)).mono ?_
  rintro e w' ⟨rfl, rfl⟩
  go_wp2_with fail
  refine (round_pk b 8 W (by omega) (by omega)).mono ?_
  rintro e w' ⟨rfl, rfl⟩
  go_wp2_with fail
  refine (round_pk c 8 W (by omega) (by omega)).mono ?_
  rintro e w' ⟨rfl, rfl⟩
  have hx := pk_lt a (m := 8) (by omega)
  have hy := pk_lt b (m := 8) (by omega)
  have hz := pk_lt c (m := 8) (by omega)
  generalize pk a 8 = nx at *
  generalize pk b 8 = ny at *
  generalize pk c 8 = nz at *
  have q1 : (nx : Int) < 8 := by omega
  have q2 : (ny : Int) < 8 := by omega
  have q3 : (nz : Int) < 8 := by omega
  have q4 : (0 : Int) ≤ (nx : Int) := by omega
  have q5 : (0 : Int) ≤ (ny : Int) := by omega
  have q6 : (0 : Int) ≤ (nz : Int) := by omega
  have HX := Lib.hid hx
  have HY := Lib.hid hy
  have HZ := Lib.hid hz
  clear hx hy hz
  go_wp2_with fail
  refine (round_pk op 3 _ (by omega) (by omega)).mono ?_
  rintro e w' ⟨rfl, rfl⟩
  rw [HO.out]
  go_wp2_with fail
  refine (round_pk kase 2 _ (by omega) (by omega)).mono ?_
  rintro e w' ⟨rfl, rfl⟩
  rw [HK.out]
  go_wp2_with fail
  have HBW : Hid (Below W.heap.size W (((W.alloc (.cells #[.int .i64 10, .int .i64 11, .int .i64 15] 3)).alloc (.cells (iR (yJ 15 nx ny nz cs2) (some ⟨W.heap.size + 2, 0, none⟩) 2) 34)).alloc (.cells cR 44))) := ((below_al W _).alloc (by simp) _).alloc (by simp; omega) _
  have HI : Hid (Bk (((W.alloc (.cells #[.int .i64 10, .int .i64 11, .int .i64 15] 3)).alloc (.cells (iR (yJ 15 nx ny nz cs2) (some ⟨W.heap.size + 2, 0, none⟩) 2) 34)).alloc (.cells cR 44)) (W.heap.size + 1) 34 (iR (yJ 15 nx ny nz cs2) (some ⟨W.heap.size + 2, 0, none⟩) 2)) := by
    have h9 := (Bk.new (W.alloc (.cells #[.int .i64 10, .int .i64 11, .int .i64 15] 3)) (iR (yJ 15 nx ny nz cs2) (some ⟨W.heap.size + 2, 0, none⟩) 2) 34).later (below_al _ (.cells cR 44))
    rw [World.size_alloc] at h9; exact h9
  have HCs : Hid (Bk (((W.alloc (.cells #[.int .i64 10, .int .i64 11, .int .i64 15] 3)).alloc (.cells (iR (yJ 15 nx ny nz cs2) (some ⟨W.heap.size + 2, 0, none⟩) 2) 34)).alloc (.cells cR 44)) (W.heap.size + 2) 44 cR) := by
    have h9 := Bk.new ((W.alloc (.cells #[.int .i64 10, .int .i64 11, .int .i64 15] 3)).alloc (.cells (iR (yJ 15 nx ny nz cs2) (some ⟨W.heap.size + 2, 0, none⟩) 2) 34)) cR 44
    rw [World.size_alloc, World.size_alloc] at h9; exact h9
  have HSZ : Hid ((((W.alloc (.cells #[.int .i64 10, .int .i64 11, .int .i64 15] 3)).alloc (.cells (iR (yJ 15 nx ny nz cs2) (some ⟨W.heap.size + 2, 0, none⟩) 2) 34)).alloc (.cells cR 44)).heap.size = W.heap.size + 3) := by show _ = _; simp
  refine (new_rs (rs := [rB (W.heap.size + 1) 34 (iR (yJ 15 nx ny nz cs2) (some ⟨W.heap.size + 2, 0, none⟩) 2), rB (W.heap.size + 2) 44 cR]) HBW.out (fun r hr => by
    rcases List.mem_cons.1 hr with rfl | hr
    · exact ⟨HI.out, fun k hk => by
        have e : W.heap.size + 1 = k := by injection hk
        subst e
        exact ⟨by omega, by rw [HSZ.out]; omega⟩⟩
    · rw [List.mem_singleton.1 hr]
      exact ⟨HCs.out, fun k hk => by
        have e : W.heap.size + 2 = k := by injection hk
        subst e
        exact ⟨by omega, by rw [HSZ.out]; omega⟩⟩) (List.pairwise_cons.2 ⟨fun r hr k hk hk2 => by
    rw [List.mem_singleton.1 hr] at hk2
    have e : W.heap.size + 1 = k := by injection hk
    have e2 : W.heap.size + 2 = k := by injection hk2
    omega, List.pairwise_singleton _ _⟩)).mono ?_
  rintro e w1 ⟨t, rfl, S1⟩
  clear HBW HI HSZ HCs
  generalize W.heap.size + 2 = NC at *
  generalize W.heap.size + 1 = NI at *
  go_wp2_with fail
  have S2 : Hid (LS W t [] [] [rB w1.heap.size 30 (gR g10), rB NI 34 (iR (yJ 15 nx ny nz cs2) (some ⟨NC, 0, none⟩) 2), rB NC 44 cR] (w1.alloc (.cells #[.int .i64 10, .int .i64 11, .int .i64 12, .int .i64 13, .int .i64 14, .int .i64 15, .int .i64 16, .int .i64 17] 30))) := S1.out.block 30 (gR g10)
  refine (start_ls (prog := 0) (g := g10) S2.out (by omega) (by simp) (by simp)).mono ?_
  rintro e w2 ⟨rfl, S3⟩
  replace S3 : Hid (LS W t [yNew 0 g10] [0] [rB w1.heap.size 30 (gR g10), rB NI 34 (iR (yJ 15 nx ny nz cs2) (some ⟨NC, 0, none⟩) 2), rB NC 44 cR] w2) := S3
  generalize w1.heap.size = NR at *
  clear S1 S2
  have BR : Hid (Bk w2 NR 30 (gR g10)) := S3.out.ownB (i := 0) rfl
  have r0 : w2.cell? ⟨NR, 0, none⟩ = some (.int .i64 10) := BR.out.cell 0
  have r1 : w2.cell? ⟨NR, 1, none⟩ = some (.int .i64 11) := BR.out.cell 1
  have r2 : w2.cell? ⟨NR, 2, none⟩ = some (.int .i64 12) := BR.out.cell 2
  have r3 : w2.cell? ⟨NR, 3, none⟩ = some (.int .i64 13) := BR.out.cell 3
  have r4 : w2.cell? ⟨NR, 4, none⟩ = some (.int .i64 14) := BR.out.cell 4
  have r5 : w2.cell? ⟨NR, 5, none⟩ = some (.int .i64 15) := BR.out.cell 5
  have r6 : w2.cell? ⟨NR, 6, none⟩ = some (.int .i64 16) := BR.out.cell 6
  have r7 : w2.cell? ⟨NR, 7, none⟩ = some (.int .i64 17) := BR.out.cell 7
  go_wp2_with fail
  refine (put_ls (k := 0) (pc := 5) (g := g10) S3.out rfl rfl).mono ?_
  rintro e w3 ⟨rfl, S4⟩
  replace S4 : Hid (LS W t [yPut (yNew 0 g10) 5 g10] [0] [rB NR 30 (gR g10), rB NI 34 (iR (yJ 15 nx ny nz cs2) (some ⟨NC, 0, none⟩) 2), rB NC 44 cR] w3) := S4
  clear S3 BR r0 r1 r2 r3 r4 r5 r6 r7
  have BI : Hid (Bk w3 NI 34 (iR (yJ 15 nx ny nz cs2) (some ⟨NC, 0, none⟩) 2)) := S4.out.ownB (i := 1) rfl
  have i0 : w3.cell? ⟨NI, 0, none⟩ = some (.int .i64 15) := BI.out.cell 0
  have i1 : w3.cell? ⟨NI, 1, none⟩ = some (.int .i64 (nx : Int)) := BI.out.cell 1
  have i2 : w3.cell? ⟨NI, 2, none⟩ = some (.int .i64 (ny : Int)) := BI.out.cell 2
  have i3 : w3.cell? ⟨NI, 3, none⟩ = some (.int .i64 (nz : Int)) := BI.out.cell 3
  have i4 : w3.cell? ⟨NI, 4, none⟩ = some (.slice (some ⟨NC, 0, none⟩) 2 2) := BI.out.cell 4
  have i5 : w3.cell? ⟨NI, 5, none⟩ = some (.bool false) := BI.out.cell 5
  go_wp2_with fail
  have HRC : Hid (Pg.RdC w3 (some ⟨NC, 0, none⟩) 2 cs2) := cR_rd (S4.out.ownB (i := 2) rfl)
  refine (park_ls (k := 0) (y := (yJ 15 nx ny nz cs2)) (As := (some ⟨NC, 0, none⟩)) (cap := 2) S4.out rfl rfl (by simp) (S4.out.ft hF.out) (.inr (.inr rfl)) (chk15 _ _ HX.out HY.out HZ.out) (.inr ⟨_, _, rfl⟩) HRC.out (show 2 ≤ 1000 by omega) (show 2 ≤ 2 by omega) (show 2 ≤ 9223372036854775807 by omega)).mono ?_
  rintro e w4 ⟨rfl, S5⟩
  replace S5 : Hid (LS W t [yPark (yPut (yNew 0 g10) 5 g10) (yJ 15 nx ny nz cs2)] [] [rB NR 30 (gR g10), rB NI 34 (iR (yJ 15 nx ny nz cs2) (some ⟨NC, 0, none⟩) 2), rB NC 44 cR] w4) := S5
  clear S4 BI i0 i1 i2 i3 i4 i5 HRC
  go_wp2_with fail
  refine (wake_ls (k := 0) (kase := 1) (value := value) (ok := false) (g := upd (upd (upd g10 nx 1) ny value) nz 0) S5.out rfl rfl (by simp) (show IntKind.i64.wrap ((5 : Int) + 1) = (5 : Int) + 1 by decide) (fun A c w1 hR => told_in0 (na := nx) (nb := ny) (nc := nz) (c1 := 3) (c2 := 0) _ A c _ value false 1 w1 rfl rfl HX.out rfl rfl HY.out HZ.out hR rfl)).mono ?_
  rintro e w5 ⟨rfl, S6⟩
  replace S6 : Hid (LS W t [yWake (yPark (yPut (yNew 0 g10) 5 g10) (yJ 15 nx ny nz cs2)) (upd (upd (upd g10 nx 1) ny value) nz 0)] [0] [rB NR 30 (gR g10), rB NI 34 (iR (yJ 15 nx ny nz cs2) (some ⟨NC, 0, none⟩) 2), rB NC 44 cR] w5) := S6
  clear S5
  have BI : Hid (Bk w5 NI 34 (iR (yJ 15 nx ny nz cs2) (some ⟨NC, 0, none⟩) 2)) := S6.out.ownB (i := 1) rfl
  have i0 : w5.cell? ⟨NI, 0, none⟩ = some (.int .i64 15) := BI.out.cell 0
  go_wp2_with (first
    | (refine wp_stI rfl (.tmp 87) (.tmp 86) rfl rfl rfl (S6.out.ownB (i := 0) rfl) (by rw [gR_size]; exact HX.out) ?_; have S7 := S6.out.put (i := 0) (j := nx) rfl (.int .i64 1); rw [gR_set _ HX.out] at S7; have S8 : Hid (LS W t [yWake (yPark (yPut (yNew 0 g10) 5 g10) (yJ 15 nx ny nz cs2)) (upd (upd (upd g10 nx 1) ny value) nz 0)] [0] [rB NR 30 (gR (upd g10 nx 1)), rB NI 34 (iR (yJ 15 nx ny nz cs2) (some ⟨NC, 0, none⟩) 2), rB NC 44 cR] (w5.setCell ⟨NR, nx, none⟩ (.int .i64 1))) := S7; clear S6 S7 BI i0; have S6 := S8; clear S8; generalize w5.setCell ⟨NR, nx, none⟩ (.int .i64 1) = u0 at *; have BI : Hid (Bk u0 NI 34 (iR (yJ 15 nx ny nz cs2) (some ⟨NC, 0, none⟩) 2)) := S6.out.ownB (i := 1) rfl; have i0 : u0.cell? ⟨NI, 0, none⟩ = some (.int .i64 15) := BI.out.cell 0)
    | (refine wp_stI rfl (.tmp 102) (.tmp 101) rfl rfl rfl (S6.out.ownB (i := 0) rfl) (by rw [gR_size]; exact HY.out) ?_; have S7 := S6.out.put (i := 0) (j := ny) rfl (.int .i64 value); rw [gR_set _ HY.out] at S7; have S8 : Hid (LS W t [yWake (yPark (yPut (yNew 0 g10) 5 g10) (yJ 15 nx ny nz cs2)) (upd (upd (upd g10 nx 1) ny value) nz 0)] [0] [rB NR 30 (gR (upd (upd g10 nx 1) ny value)), rB NI 34 (iR (yJ 15 nx ny nz cs2) (some ⟨NC, 0, none⟩) 2), rB NC 44 cR] (u0.setCell ⟨NR, ny, none⟩ (.int .i64 value))) := S7; clear S6 S7 BI i0; have S6 := S8; clear S8; generalize u0.setCell ⟨NR, ny, none⟩ (.int .i64 value) = u1 at *; have BI : Hid (Bk u1 NI 34 (iR (yJ 15 nx ny nz cs2) (some ⟨NC, 0, none⟩) 2)) := S6.out.ownB (i := 1) rfl; have i0 : u1.cell? ⟨NI, 0, none⟩ = some (.int .i64 15) := BI.out.cell 0)
    | (refine wp_stI rfl (.tmp 104) (.const (.int .i64 0)) rfl rfl rfl (S6.out.ownB (i := 0) rfl) (by rw [gR_size]; exact HZ.out) ?_; have S7 := S6.out.put (i := 0) (j := nz) rfl (.int .i64 0); rw [gR_set _ HZ.out] at S7; have S8 : Hid (LS W t [yWake (yPark (yPut (yNew 0 g10) 5 g10) (yJ 15 nx ny nz cs2)) (upd (upd (upd g10 nx 1) ny value) nz 0)] [0] [rB NR 30 (gR (upd (upd (upd g10 nx 1) ny value) nz 0)), rB NI 34 (iR (yJ 15 nx ny nz cs2) (some ⟨NC, 0, none⟩) 2), rB NC 44 cR] (u1.setCell ⟨NR, nz, none⟩ (.int .i64 0))) := S7; clear S6 S7 BI i0; have S6 := S8; clear S8; generalize u1.setCell ⟨NR, nz, none⟩ (.int .i64 0) = u2 at *; have BI : Hid (Bk u2 NI 34 (iR (yJ 15 nx ny nz cs2) (some ⟨NC, 0, none⟩) 2)) := S6.out.ownB (i := 1) rfl; have i0 : u2.cell? ⟨NI, 0, none⟩ = some (.int .i64 15) := BI.out.cell 0))
  refine (get_ls (k := 0) S6.out rfl).mono ?_
  rintro e w6 ⟨A6, c6, rfl, S7⟩
  clear S6 BI i0
  go_wp2_with (refine wp_stN rfl (.tmp 27) (.tmp 112) rfl rfl rfl rfl i47 (tU_one ..) ?_; have S8 := Lib.hid (S7.out.block 47 (tW (yWake (yPark (yPut (yNew 0 g10) 5 g10) (yJ 15 nx ny nz cs2)) (upd (upd (upd g10 nx 1) ny value) nz 0)) A6 c6)); generalize w6.alloc (.cells (tW (yWake (yPark (yPut (yNew 0 g10) 5 g10) (yJ 15 nx ny nz cs2)) (upd (upd (upd g10 nx 1) ny value) nz 0)) A6 c6) 47) = w7 at *; generalize w6.heap.size = NO at *; have BO : Hid (Bk w7 NO 47 (tW (yWake (yPark (yPut (yNew 0 g10) 5 g10) (yJ 15 nx ny nz cs2)) (upd (upd (upd g10 nx 1) ny value) nz 0)) A6 c6)) := S8.out.ownB (i := 0) rfl; have BR : Hid (Bk w7 NR 30 (gR (upd (upd (upd g10 nx 1) ny value) nz 0))) := S8.out.ownB (i := 1) rfl; generalize upd (upd (upd g10 nx 1) ny value) nz 0 = G at *; have o0 : w7.cell? ⟨NO, 4, none⟩ = some (.int .i64 (G 0)) := BO.out.cell 4; have o1 : w7.cell? ⟨NO, 5, none⟩ = some (.int .i64 (G 1)) := BO.out.cell 5; have o2 : w7.cell? ⟨NO, 6, none⟩ = some (.int .i64 (G 2)) := BO.out.cell 6; have o3 : w7.cell? ⟨NO, 7, none⟩ = some (.int .i64 (G 3)) := BO.out.cell 7; have o4 : w7.cell? ⟨NO, 8, none⟩ = some (.int .i64 (G 4)) := BO.out.cell 8; have o5 : w7.cell? ⟨NO, 9, none⟩ = some (.int .i64 (G 5)) := BO.out.cell 9; have o6 : w7.cell? ⟨NO, 10, none⟩ = some (.int .i64 (G 6)) := BO.out.cell 10; have o7 : w7.cell? ⟨NO, 11, none⟩ = some (.int .i64 (G 7)) := BO.out.cell 11; have r0 : w7.cell? ⟨NR, 0, none⟩ = some (.int .i64 (G 0)) := BR.out.cell 0; have r1 : w7.cell? ⟨NR, 1, none⟩ = some (.int .i64 (G 1)) := BR.out.cell 1; have r2 : w7.cell? ⟨NR, 2, none⟩ = some (.int .i64 (G 2)) := BR.out.cell 2; have r3 : w7.cell? ⟨NR, 3, none⟩ = some (.int .i64 (G 3)) := BR.out.cell 3; have r4 : w7.cell? ⟨NR, 4, none⟩ = some (.int .i64 (G 4)) := BR.out.cell 4; have r5 : w7.cell? ⟨NR, 5, none⟩ = some (.int .i64 (G 5)) := BR.out.cell 5; have r6 : w7.cell? ⟨NR, 6, none⟩ = some (.int .i64 (G 6)) := BR.out.cell 6; have r7 : w7.cell? ⟨NR, 7, none⟩ = some (.int .i64 (G 7)) := BR.out.cell 7; have p1 : w7.cell? ⟨NO, 1, none⟩ = some (.int .i64 6) := BO.out.cell 1; have p2 : w7.cell? ⟨NO, 2, none⟩ = some (.int .i64 0) := BO.out.cell 2; have p12 : w7.cell? ⟨NO, 12, none⟩ = some (.int .i64 0) := BO.out.cell 12; have heq := eq8 (G 0) (G 1) (G 2) (G 3) (G 4) (G 5) (G 6) (G 7) w7)
  refine (awake_any w7 (S8.out.ft hF.out)).mono ?_
  rintro e w8 ⟨rfl, b8⟩
  have HB := Lib.hid (S8.out.later b8).bel
  clear S8 BO BR
  go_wp2_with fail
  go_ret
  exact ⟨rfl, HB.out⟩
end Go.Proofs.YthiifnbgdajgaaaDoor
