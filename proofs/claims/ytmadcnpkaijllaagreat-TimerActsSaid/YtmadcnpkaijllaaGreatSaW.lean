/- awake of layer 13 says true. No condition. -/
import Derived.Test.YtmadcnpkaijllaaGreatSrsm
namespace Go.Proofs.YtmadcnpkaijllaaGreat
open Go.RowKit Ch
set_option linter.unusedVariables false
set_option maxRecDepth 100000
/-- A block of one that fired. -/
def Fbk (w : World) (b : Nat) (id kd wh at_ dt : Int) (A : Option Addr) (n k : Nat) (r : Bool) : Prop := w.heap[b]? = some (.cells #[.int .i64 id, .int .i64 kd, .int .i64 wh, .int .i64 at_, .int .i64 dt, .slice A n k, .bool r] 49 (0, 0))
section
variable {RC : List Nat} {RT : List CS} {W w w' w'' : World} {t m n n' i j c b k : Nat} {E E' : List On} {S S' : List It} {g g' : Int → Int} {L L' : List (Nat × CS)} {v : Value} {e : Ending} {x : On} {s s' : CS} {id kd wh at_ dt : Int} {A : Option Addr} {r : Bool}
theorem Fbk.new (w : World) (id kd wh at_ dt : Int) (A : Option Addr) (n k : Nat) (r : Bool) : Fbk (w.alloc (.cells #[.int .i64 id, .int .i64 kd, .int .i64 wh, .int .i64 at_, .int .i64 dt, .slice A n k, .bool r] 49)) w.heap.size id kd wh at_ dt A n k r := heap_alloc_new w _
theorem Fbk.oz (h : Fbk w b id kd wh at_ dt A n k r) (z : OZ w w') : Fbk w' b id kd wh at_ dt A n k r := z _ _ _ _ h (by first | decide | simp)
theorem Fbk.later (h : Fbk w b id kd wh at_ dt A n k r) (hb : Below w.heap.size w w') : Fbk w' b id kd wh at_ dt A n k r := h.oz (OZ.of_below hb)
theorem Fbk.cells (h : Fbk w b id kd wh at_ dt A n k r) : w.cell? ⟨b, 0, none⟩ = some (.int .i64 id) ∧ w.cell? ⟨b, 1, none⟩ = some (.int .i64 kd) ∧ w.cell? ⟨b, 2, none⟩ = some (.int .i64 wh) ∧ w.cell? ⟨b, 3, none⟩ = some (.int .i64 at_) ∧ w.cell? ⟨b, 4, none⟩ = some (.int .i64 dt) ∧ w.cell? ⟨b, 5, none⟩ = some (.slice A n k) ∧ w.cell? ⟨b, 6, none⟩ = some (.bool r) := (fz_cells h).1
end
set_option maxHeartbeats 16000000 in
theorem awakes_any (W : World) : Calls Tryz.prog 4 #[] W (BoolR true W) := by
  go_enter Tryz.func4, Tryz.ntmps4
  go_wp2_with fail
  refine (ss_new (Below.refl _ W)).mono ?_
  rintro e w0 ⟨rfl, h0, -⟩
  have H0 := Lib.hid h0
  clear h0
  generalize W.heap.size = t at *
  go_wp2_with fail
  refine (timer_ok (now := 5) (d := 3) H0.out (by first | decide | simp) (by first | decide | simp) (by first | decide | simp) (by first | decide | simp) (by first | decide | simp)).mono ?_
  rintro e w1 ⟨c, he, h, -⟩
  obtain rfl : e = .returned (.tuple #[.int .i64 0, .pointer (some ⟨c, 0, none⟩), .int .i64 0]) := he
  have H1 : Hid (SS W [] [] t [⟨1, 0, some c, 1⟩] 1 1 [⟨0, 8, 1⟩] (fput (fun _ => 0) 0 0) [(c, cN)] w1) := h
  clear h H0
  go_wp2_with fail
  refine (fire_some (i := 0) (now := 9) H1.out (n' := 1) (S' := []) (g' := fput (fput (fun _ => 0) 0 0) 0 0) rfl rfl (Pt.chan (j := 0) (s' := ⟨1, false, 1, [9], [], []⟩) rfl rfl rfl (by first | decide | simp) rfl) (by first | decide | simp) (by first | decide | simp) (by first | decide | simp)).mono ?_
  rintro e w2 ⟨A, k, he, -, h, -⟩
  obtain rfl : e = .returned (.tuple #[.agg #[.int .i64 0, .int .i64 1, .int .i64 8, .int .i64 9, .int .i64 0, .slice A 0 k, .bool true], .bool true]) := he
  have F2 := Lib.hid (Fbk.new w2 0 1 8 9 0 A 0 k true)
  have H2 : Hid (SS W [] [] t [⟨1, 0, some c, 1⟩] 1 1 [] (fput (fput (fun _ => 0) 0 0) 0 0) [(c, ⟨1, false, 1, [9], [], []⟩)] (w2.alloc (.cells #[.int .i64 0, .int .i64 1, .int .i64 8, .int .i64 9, .int .i64 0, .slice A 0 k, .bool true] 49))) := SS.box h _
  clear h H1
  go_upto_region 6 with (fail)
  generalize w2.alloc (.cells #[.int .i64 0, .int .i64 1, .int .i64 8, .int .i64 9, .int .i64 0, .slice A 0 k, .bool true] 49) = w3 at *
  generalize w2.heap.size = b1 at *
  go_wp2_with fail
  refine (stop_set (i := 0) H2.out rfl (Drp.chan (j := 0) rfl rfl rfl) (by first | decide | simp) (by first | decide | simp) (by first | decide | simp)).mono ?_
  rintro e w4 ⟨he, h, ho⟩
  obtain rfl : e = .returned (.tuple #[.bool true, .int .i64 0]) := he
  have F4 := Lib.hid (F2.out.oz ho)
  have H4 : Hid (SS W [] [] t [⟨1, 0, some c, 1⟩] 1 1 [] (fput (fput (fput (fun _ => 0) 0 0) 0 0) 0 0) [(c, cN)] w4) := h
  clear h ho H2 F2
  go_wp2_with fail
  refine (ticker_no (a := 1) _ _ (by first | decide | simp) (start_due _ _ (by first | decide | simp))).mono ?_
  rintro e w4' ⟨rfl, rfl⟩
  go_wp2_with fail
  refine (func_ok (now := 9) (d := 1) (p := 2) H4.out (by first | decide | simp) (by first | decide | simp) (by first | decide | simp) (by first | decide | simp) (by first | decide | simp) (by first | decide | simp)).mono ?_
  rintro e w5 ⟨he, h, ho⟩
  obtain rfl : e = .returned (.tuple #[.int .i64 1, .int .i64 0]) := he
  have F5 := Lib.hid (F4.out.oz ho)
  have H5 : Hid (SS W [] [] t [⟨1, 0, some c, 1⟩, ⟨3, 2, none, 1⟩] 2 2 [⟨1, 10, 2⟩] (fput (fput (fput (fput (fun _ => 0) 0 0) 0 0) 0 0) 1 0) [(c, cN)] w5) := h
  clear h ho H4 F4
  go_wp2_with fail
  refine (reset_ok (i := 1) (now := 9) (d := 10) H5.out rfl (Drp.none rfl) (by first | decide | simp) (by first | decide | simp) (by first | decide | simp) (by first | decide | simp) (by first | decide | simp) (by first | decide | simp) (by first | decide | simp) (by first | decide | simp)).mono ?_
  rintro e w6 ⟨he, h, ho⟩
  obtain rfl : e = .returned (.tuple #[.bool true, .int .i64 0]) := he
  have F6 := Lib.hid (F5.out.oz ho)
  have H6 : Hid (SS W [] [] t [⟨1, 0, some c, 1⟩, ⟨3, 2, none, 2⟩] 2 3 [⟨1, 19, 3⟩] (fput (fput (fput (fput (fput (fun _ => 0) 0 0) 0 0) 0 0) 1 0) 1 0) [(c, cN)] w6) := h
  clear h ho H5 F5
  go_wp2_with fail
  refine (lapse_ok (wh := 12) (p := 4) H6.out (by first | decide | simp) (by first | decide | simp) (by first | decide | simp) (by first | decide | simp)).mono ?_
  rintro e w7 ⟨he, h, ho⟩
  obtain rfl : e = .returned (.tuple #[.int .i64 2, .int .i64 0]) := he
  have F7 := Lib.hid (F6.out.oz ho)
  have H7 : Hid (SS W [] [] t [⟨1, 0, some c, 1⟩, ⟨3, 2, none, 2⟩, ⟨4, 4, none, 1⟩] 2 4 [⟨2, 12, 4⟩, ⟨1, 19, 3⟩] (fput (fput (fput (fput (fput (fput (fun _ => 0) 0 0) 0 0) 0 0) 1 0) 1 0) 2 0) [(c, cN)] w7) := h
  clear h ho H6 F6
  go_wp2_with fail
  refine (reset_kind (i := 2) (now := 9) (d := 1) H7.out rfl rfl (by first | decide | simp)).mono ?_
  rintro e w8 ⟨rfl, h, ho⟩
  have F8 := Lib.hid (F7.out.oz ho)
  have H8 := Lib.hid h
  clear h ho H7 F7
  go_wp2_with fail
  refine (fire_some (i := 2) (now := 20) H8.out (n' := 4) (S' := [⟨1, 19, 3⟩]) (g' := fput (fput (fput (fput (fput (fput (fput (fun _ => 0) 0 0) 0 0) 0 0) 1 0) 1 0) 2 0) 2 0) rfl rfl (Pt.none rfl) (by first | decide | simp) (by first | decide | simp) (by first | decide | simp)).mono ?_
  rintro e w9 ⟨A2, k2, he, -, h, ho⟩
  obtain rfl : e = .returned (.tuple #[.agg #[.int .i64 2, .int .i64 4, .int .i64 12, .int .i64 20, .int .i64 4, .slice A2 0 k2, .bool false], .bool true]) := he
  have F9 := Lib.hid ((F8.out.oz ho).later (below_al w9 (.cells #[.int .i64 2, .int .i64 4, .int .i64 12, .int .i64 20, .int .i64 4, .slice A2 0 k2, .bool false] 49)))
  have G9 := Lib.hid (Fbk.new w9 2 4 12 20 4 A2 0 k2 false)
  have H9 : Hid (SS W [] [] t [⟨1, 0, some c, 1⟩, ⟨3, 2, none, 2⟩, ⟨4, 4, none, 1⟩] 2 4 [⟨1, 19, 3⟩] (fput (fput (fput (fput (fput (fput (fput (fun _ => 0) 0 0) 0 0) 0 0) 1 0) 1 0) 2 0) 2 0) [(c, cN)] (w9.alloc (.cells #[.int .i64 2, .int .i64 4, .int .i64 12, .int .i64 20, .int .i64 4, .slice A2 0 k2, .bool false] 49))) := SS.box h _
  clear h ho H8 F8
  go_upto_region 13 with (fail)
  generalize w9.alloc (.cells #[.int .i64 2, .int .i64 4, .int .i64 12, .int .i64 20, .int .i64 4, .slice A2 0 k2, .bool false] 49) = w10 at *
  generalize w9.heap.size = b2 at *
  go_wp2_with fail
  refine (fire_some (i := 1) (now := 20) H9.out (n' := 4) (S' := []) (g' := fput (fput (fput (fput (fput (fput (fput (fput (fun _ => 0) 0 0) 0 0) 0 0) 1 0) 1 0) 2 0) 2 0) 1 0) rfl rfl (Pt.none rfl) (by first | decide | simp) (by first | decide | simp) (by first | decide | simp)).mono ?_
  rintro e w11 ⟨A3, k3, he, -, h, ho⟩
  obtain rfl : e = .returned (.tuple #[.agg #[.int .i64 1, .int .i64 3, .int .i64 19, .int .i64 20, .int .i64 2, .slice A3 0 k3, .bool false], .bool true]) := he
  have F11 := Lib.hid ((F9.out.oz ho).later (below_al w11 (.cells #[.int .i64 1, .int .i64 3, .int .i64 19, .int .i64 20, .int .i64 2, .slice A3 0 k3, .bool false] 49)))
  have G11 := Lib.hid ((G9.out.oz ho).later (below_al w11 (.cells #[.int .i64 1, .int .i64 3, .int .i64 19, .int .i64 20, .int .i64 2, .slice A3 0 k3, .bool false] 49)))
  have K11 := Lib.hid (Fbk.new w11 1 3 19 20 2 A3 0 k3 false)
  have H11 : Hid (SS W [] [] t [⟨1, 0, some c, 1⟩, ⟨3, 2, none, 2⟩, ⟨4, 4, none, 1⟩] 2 4 [] (fput (fput (fput (fput (fput (fput (fput (fput (fun _ => 0) 0 0) 0 0) 0 0) 1 0) 1 0) 2 0) 2 0) 1 0) [(c, cN)] (w11.alloc (.cells #[.int .i64 1, .int .i64 3, .int .i64 19, .int .i64 20, .int .i64 2, .slice A3 0 k3, .bool false] 49))) := SS.box h _
  clear h ho H9 F9 G9
  go_upto_region 14 with (fail)
  generalize w11.alloc (.cells #[.int .i64 1, .int .i64 3, .int .i64 19, .int .i64 20, .int .i64 2, .slice A3 0 k3, .bool false] 49) = w12 at *
  generalize w11.heap.size = b3 at *
  go_wp2_with fail
  refine (stop_none (k := 99) H11.out (by first | decide | simp)).mono ?_
  rintro e w13 ⟨rfl, h, ho⟩
  have F13 := Lib.hid (F11.out.oz ho)
  have G13 := Lib.hid (G11.out.oz ho)
  have K13 := Lib.hid (K11.out.oz ho)
  have H13 := Lib.hid h
  clear h ho H11 F11 G11 K11
  go_wp2_with fail
  refine (timer_no (a := 3) none _ (by first | decide | simp) (start_nil _ (by first | decide | simp) (by first | decide | simp))).mono ?_
  rintro e w14 ⟨rfl, rfl⟩
  obtain ⟨q0, q1, q2, q3, q4, q5, q6⟩ := F13.out.cells
  go_wp2_with fail
  refine (ms_can false H13.out.ms (i := 0) rfl).mono ?_
  rintro e w15 ⟨rfl, z, rfl⟩
  have F15 := Lib.hid (F13.out.oz (OZ.of_below (below_drewN w13 z)))
  have G15 := Lib.hid (G13.out.oz (OZ.of_below (below_drewN w13 z)))
  have K15 := Lib.hid (K13.out.oz (OZ.of_below (below_drewN w13 z)))
  have H15 := Lib.hid (H13.out.drewN z)
  have hc : can cN false = false := by decide
  rw [hc]
  clear q0 q1 q2 q3 q4 q5 q6 F13 G13 K13 H13 hc
  generalize w13.drewN z = w15 at *
  obtain ⟨q0, q1, q2, q3, q4, q5, q6⟩ := G15.out.cells
  obtain ⟨r0, r1, r2, r3, r4, r5, r6⟩ := K15.out.cells
  go_wp2_with fail
  refine (gen_any 1 H15.out).mono ?_
  rintro e w16 ⟨he, h, ho⟩
  obtain rfl : e = .returned (.int .i64 2) := he
  have HB := Lib.hid h.bel
  clear h ho H15 F15 G15 K15 q0 q1 q2 q3 q4 q5 q6 r0 r1 r2 r3 r4 r5 r6
  go_wp2_with fail
  go_ret
  exact ⟨rfl, HB.out⟩
end Go.Proofs.YtmadcnpkaijllaaGreat
