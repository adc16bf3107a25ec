/- The laws' own example holds. No condition. -/
import Derived.Test.YtmcacmbllpphiaaZs
namespace Go.Proofs.Ytmcacmbllpphiaa
open Go.RowKit
set_option linter.unusedVariables false

theorem RdX.more {t : TypeId} {B B' : List Nat} {w : World} {A : Option Addr} {n : Nat} {l : List Ca} (h : RdX t B w A n l) (k : ∀ x ∈ l, ptr B' x = ptr B x) : RdX t B' w A n l :=
  ⟨h.1, fun h0 => by
    obtain ⟨b, off, cs, e, hb, hc⟩ := h.2 h0
    refine ⟨b, off, cs, e, hb, fun i x hx => ?_⟩
    rw [k x (List.mem_of_getElem? hx)]
    exact hc i x hx⟩
theorem RdX.nil (t : TypeId) (B : List Nat) (w : World) (A : Option Addr) : RdX t B w A 0 [] := ⟨rfl, fun h => absurd h (by omega)⟩
def aL : List Ca := [⟨some 0, false, 0⟩, ⟨some 1, true, 3⟩, ⟨none, false, 0⟩]
def aS (l : List Int) (q : List Wt) : List CS := [⟨0, false, 1, [7], [], []⟩, ⟨0, false, 1, l, q, []⟩]
set_option maxRecDepth 100000 in
set_option maxHeartbeats 8000000 in
theorem awake_any (W : World) : Calls Try.prog 9 #[] W (BoolR true W) := by
  go_enter Try.func9, Try.ntmps9
  go_wp2_with fail
  refine (zs_new (ZS.nil W) 1 (by omega)).mono ?_
  rintro e w1 ⟨a, rfl, s1, _⟩
  have S1 := Lib.hid s1
  clear s1
  go_wp2_with fail
  refine (zs_new S1.out 1 (by omega)).mono ?_
  rintro e w2 ⟨b, rfl, s2, _⟩
  have S2 : Hid (ZS W [a, b] [⟨0, false, 1, [], [], []⟩, ⟨0, false, 1, [], [], []⟩] w2) := s2
  clear s2 S1
  go_wp2_with fail
  refine (zs_send (i := 0) 7 S2.out rfl rfl rfl rfl (by simp) rfl rfl).mono ?_
  rintro e w3 ⟨A3, n3, rfl, _, s3, _⟩
  have S3 : Hid (ZS W [a, b] (aS [] []) w3) := s3
  clear s3 S2
  go_wp2_with fail
  have HL3 : Hid (RdX 65 [a, b] (w3.alloc (.cells #[.pointer (some ⟨a, 0, none⟩), .bool false, .int .i64 0, .pointer (some ⟨b, 0, none⟩), .bool true, .int .i64 3, .pointer none, .bool false, .int .i64 0] 65)) (some ⟨w3.heap.size, 0, none⟩) 3 aL) := RdX.lit 65 [a, b] w3 _ aL rfl _ 3 rfl rfl
  refine (zs_do (m := 0) (ws := []) (S' := aS [3] []) (r := ⟨1, 0, true, false, false, false⟩) (code := 0) false 3 5 (by unfold Wf; decide) (S3.out.alloc _) (by intro s hs; simp [aS] at hs; rcases hs with rfl | rfl <;> simp [nw]) HL3.out (by omega) rfl rfl).mono ?_
  rintro e w4 ⟨A4, n4, rfl, _, s4, k4⟩
  have S4 := Lib.hid s4
  have HL4 := Lib.hid (HL3.out.ko o65 k4)
  clear s4 k4 S3 HL3
  generalize w3.heap.size = N3 at *
  have R4 : Hid ((w4.alloc (.cells #[.int .i64 1, .int .i64 0, .bool true, .bool false, .bool false, .bool false] 46)).heap[w4.heap.size]? = some (.cells #[.int .i64 1, .int .i64 0, .bool true, .bool false, .bool false, .bool false] 46 (0, 0))) := heap_alloc_new _ _
  have K4 := Lib.hid (below_al w4 (.cells #[.int .i64 1, .int .i64 0, .bool true, .bool false, .bool false, .bool false] 46))
  unfold reG
  go_wp2_with fail
  have X5 : Hid (RdX 65 [a, b] ((w4.alloc (.cells #[.int .i64 1, .int .i64 0, .bool true, .bool false, .bool false, .bool false] 46)).alloc (.cells #[.pointer none, .bool false, .int .i64 0] 65)) (some ⟨w4.heap.size + 1, 0, none⟩) 1 [⟨none, false, 0⟩]) := RdX.lit 65 [a, b] _ _ [⟨none, false, 0⟩] rfl _ 1 (by simp) rfl
  refine (zs_do (m := 0) (ws := []) (S' := aS [3] []) (r := ⟨-1, 0, false, false, false, false⟩) (code := 0) true 0 5 (by unfold Wf; decide) ((S4.out.alloc _).alloc _) (by intro s hs; simp [aS] at hs; rcases hs with rfl | rfl <;> simp [nw]) X5.out (by omega) rfl rfl).mono ?_
  rintro e w5 ⟨A5, n5, rfl, _, s5, k5⟩
  have S5 := Lib.hid s5
  have K45 := (Ko.of_below (two_al w4 (.cells #[.int .i64 1, .int .i64 0, .bool true, .bool false, .bool false, .bool false] 46) (.cells #[.pointer none, .bool false, .int .i64 0] 65))).trans k5
  have HL5 := Lib.hid (HL4.out.ko o65 K45)
  have R5 : Hid (w5.heap[w4.heap.size]? = some (.cells #[.int .i64 1, .int .i64 0, .bool true, .bool false, .bool false, .bool false] 46 (0, 0))) := k5.2 _ _ _ _ ((below_al _ _).block _ (lt_of_blk R4.out) |>.trans R4.out) o46
  clear s5 k5 K45 S4 HL4 R4 K4 X5
  generalize w4.heap.size = N4 at *
  unfold reG
  go_wp2_with fail
  have X6 : Hid (RdX 65 [a, b] ((w5.alloc (.cells #[.int .i64 (-1), .int .i64 0, .bool false, .bool false, .bool false, .bool false] 46)).alloc (.cells #[.pointer (some ⟨b, 0, none⟩), .bool true, .int .i64 0, .pointer (some ⟨b, 0, none⟩), .bool true, .int .i64 0] 65)) (some ⟨w5.heap.size + 1, 0, none⟩) 2 [⟨some 1, true, 0⟩, ⟨some 1, true, 0⟩]) := RdX.lit 65 [a, b] _ _ [⟨some 1, true, 0⟩, ⟨some 1, true, 0⟩] rfl _ 2 (by simp) rfl
  refine (zs_do (m := 0) (ws := []) (S' := aS [3] [⟨5, 0, 0⟩, ⟨5, 1, 0⟩]) (r := ⟨-1, 0, false, false, true, false⟩) (code := 0) false 0 5 (by unfold Wf; decide) ((S5.out.alloc _).alloc _) (by intro s hs; simp [aS] at hs; rcases hs with rfl | rfl <;> simp [nw]) X6.out (by omega) rfl rfl).mono ?_
  rintro e w6 ⟨A6, n6, rfl, _, s6, k6⟩
  have S6 := Lib.hid s6
  have K56 := (Ko.of_below (two_al w5 (.cells #[.int .i64 (-1), .int .i64 0, .bool false, .bool false, .bool false, .bool false] 46) (.cells #[.pointer (some ⟨b, 0, none⟩), .bool true, .int .i64 0, .pointer (some ⟨b, 0, none⟩), .bool true, .int .i64 0] 65))).trans k6
  have HL6 := Lib.hid (HL5.out.ko o65 K56)
  have R6 := Lib.hid (K56.2 _ _ _ _ R5.out o46)
  have Q6 : Hid (w6.heap[w5.heap.size]? = some (.cells #[.int .i64 (-1), .int .i64 0, .bool false, .bool false, .bool false, .bool false] 46 (0, 0))) := k6.2 _ _ _ _ ((below_al _ _).block _ (by simp) |>.trans (heap_alloc_new _ _)) o46
  clear s6 k6 K56 S5 HL5 R5 X6
  generalize w5.heap.size = N5 at *
  unfold reG
  go_wp2_with fail
  refine (zs_timed (S6.out.alloc (.cells #[.int .i64 (-1), .int .i64 0, .bool false, .bool false, .bool true, .bool false] 46))).mono ?_
  rintro e w7 ⟨t, rfl, s7, k7⟩
  have S7 : Hid (ZS W [a, b, t] (aS [3] [⟨5, 0, 0⟩, ⟨5, 1, 0⟩] ++ [⟨1, false, 1, [], [], []⟩]) w7) := s7
  have K67 := (Ko.of_below (below_al w6 (.cells #[.int .i64 (-1), .int .i64 0, .bool false, .bool false, .bool true, .bool false] 46))).trans k7
  have HL7 := Lib.hid (HL6.out.ko o65 K67)
  have R7 := Lib.hid (K67.2 _ _ _ _ R6.out o46)
  have Q7 := Lib.hid (K67.2 _ _ _ _ Q6.out o46)
  have P7 : Hid (w7.heap[w6.heap.size]? = some (.cells #[.int .i64 (-1), .int .i64 0, .bool false, .bool false, .bool true, .bool false] 46 (0, 0))) := k7.2 _ _ _ _ (heap_alloc_new _ _) o46
  clear s7 k7 K67 S6 HL6 R6 Q6
  generalize w6.heap.size = N6 at *
  go_wp2_with fail
  have X8 : Hid (RdX 65 [a, b, t] (w7.alloc (.cells #[.pointer (some ⟨t, 0, none⟩), .bool true, .int .i64 0] 65)) (some ⟨w7.heap.size, 0, none⟩) 1 [⟨some 2, true, 0⟩]) := RdX.lit 65 [a, b, t] w7 _ [⟨some 2, true, 0⟩] rfl _ 1 rfl rfl
  refine (zs_do (m := 0) (ws := []) (S' := aS [3] [⟨5, 0, 0⟩, ⟨5, 1, 0⟩] ++ [⟨1, false, 1, [], [], []⟩]) (r := ⟨0, 0, false, false, false, true⟩) (code := 0) false 0 5 (by unfold Wf; decide) (S7.out.alloc _) (by intro s hs; simp [aS] at hs; rcases hs with rfl | rfl | rfl <;> simp [nw]) X8.out (by omega) rfl rfl).mono ?_
  rintro e w8 ⟨A8, n8, rfl, _, s8, k8⟩
  have S8 := Lib.hid s8
  have K78 := (Ko.of_below (below_al w7 (.cells #[.pointer (some ⟨t, 0, none⟩), .bool true, .int .i64 0] 65))).trans k8
  have HL8 := Lib.hid (HL7.out.ko o65 K78)
  have R8 := Lib.hid (K78.2 _ _ _ _ R7.out o46)
  have Q8 := Lib.hid (K78.2 _ _ _ _ Q7.out o46)
  have P8 := Lib.hid (K78.2 _ _ _ _ P7.out o46)
  clear s8 k8 K78 S7 HL7 R7 Q7 P7 X8
  unfold reG
  go_wp2_with fail
  refine (zs_do (m := 0) (ws := []) (S' := aS [3] [⟨5, 0, 0⟩, ⟨5, 1, 0⟩] ++ [⟨1, false, 1, [], [], []⟩]) (r := ⟨0, 0, false, false, false, false⟩) (code := 1) false 0 (-1) (by unfold Wf; decide) (S8.out.alloc (.cells #[.int .i64 0, .int .i64 0, .bool false, .bool false, .bool false, .bool true] 46)) (by intro s hs; simp [aS] at hs; rcases hs with rfl | rfl | rfl <;> simp [nw]) (RdX.nil _ _ _ _) (by omega) rfl rfl).mono ?_
  rintro e w9 ⟨A9, n9, rfl, _, s9, k9⟩
  have S9 := Lib.hid s9
  have K89 := (Ko.of_below (below_al w8 (.cells #[.int .i64 0, .int .i64 0, .bool false, .bool false, .bool false, .bool true] 46))).trans k9
  have HL9 := Lib.hid (HL8.out.ko o65 K89)
  have R9 := Lib.hid (K89.2 _ _ _ _ R8.out o46)
  have Q9 := Lib.hid (K89.2 _ _ _ _ Q8.out o46)
  have P9 := Lib.hid (K89.2 _ _ _ _ P8.out o46)
  have U9 : Hid (w9.heap[w8.heap.size]? = some (.cells #[.int .i64 0, .int .i64 0, .bool false, .bool false, .bool false, .bool true] 46 (0, 0))) := k9.2 _ _ _ _ (heap_alloc_new _ _) o46
  clear s9 k9 K89 S8 HL8 R8 Q8 P8
  generalize w8.heap.size = N8 at *
  have r0 := cell_of_row w9 N4 0 _ _ _ R9.out
  have r1 := cell_of_row w9 N4 1 _ _ _ R9.out
  have r2 := cell_of_row w9 N4 2 _ _ _ R9.out
  have r3 := cell_of_row w9 N4 3 _ _ _ R9.out
  have r4 := cell_of_row w9 N4 4 _ _ _ R9.out
  have r5 := cell_of_row w9 N4 5 _ _ _ R9.out
  have q0 := cell_of_row w9 N5 0 _ _ _ Q9.out
  have q4 := cell_of_row w9 N5 4 _ _ _ Q9.out
  have p0 := cell_of_row w9 N6 0 _ _ _ P9.out
  have p4 := cell_of_row w9 N6 4 _ _ _ P9.out
  simp only [List.getElem?_toArray, List.getElem?_cons_succ, List.getElem?_cons_zero] at r0 r1 r2 r3 r4 r5 q0 q4 p0 p4
  have g4 := lt_of_blk R9.out
  have g5 := lt_of_blk Q9.out
  have g6 := lt_of_blk P9.out
  clear R9 Q9 P9
  unfold reG
  go_wp2_with fail
  refine (zs_waiting (i := 1) true (S9.out.alloc _) rfl rfl (by simp [CS.q])).mono ?_
  rintro e w10 ⟨A10, n10, rfl, _, hb10⟩
  have S10 := Lib.hid ((S9.out.alloc _).later hb10)
  have K10 := (Ko.of_below (below_al w9 (.cells #[.int .i64 0, .int .i64 0, .bool false, .bool false, .bool false, .bool false] 46))).trans (Ko.of_below hb10)
  have HL10 := Lib.hid (HL9.out.ko o65 K10)
  have U10 := Lib.hid (K10.2 _ _ _ _ U9.out o46)
  clear hb10 K10 S9 HL9 U9 r0 r1 r2 r3 r4 r5 q0 q4 p0 p4
  go_wp2_with fail
  have X11 : Hid (RdX 65 [a, b, t] (w10.alloc (.cells #[.pointer (some ⟨b, 0, none⟩), .bool false, .int .i64 0] 65)) (some ⟨w10.heap.size, 0, none⟩) 1 [⟨some 1, false, 0⟩]) := RdX.lit 65 [a, b, t] w10 _ [⟨some 1, false, 0⟩] rfl _ 1 rfl rfl
  refine (zs_leave (S' := aS [3] [] ++ [⟨1, false, 1, [], [], []⟩]) (k := 2) 5 (S10.out.alloc _) (by intro s hs; simp [aS] at hs; rcases hs with rfl | rfl | rfl <;> simp [nw]) X11.out (by omega) rfl).mono ?_
  rintro e w11 ⟨rfl, s11, k11⟩
  have S11 := Lib.hid s11
  have K11 := (Ko.of_below (below_al w10 (.cells #[.pointer (some ⟨b, 0, none⟩), .bool false, .int .i64 0] 65))).trans k11
  have HL11 : Hid (RdX 65 [a, b, t] w11 (some ⟨N3, 0, none⟩) 3 aL) := (HL10.out.ko o65 K11).more (by intro x hx; simp [aL] at hx; rcases hx with rfl | rfl | rfl <;> rfl)
  have U11 := Lib.hid (K11.2 _ _ _ _ U10.out o46)
  have u5 := cell_of_row w11 N8 5 _ _ _ U11.out
  simp only [List.getElem?_toArray, List.getElem?_cons_succ, List.getElem?_cons_zero] at u5
  have g8 := lt_of_blk U11.out
  clear s11 k11 K11 S10 HL10 U10 U11 X11
  go_wp2_with fail
  refine (zs_ready (m := 1) (r := [0]) S11.out (by intro s hs; simp [aS] at hs; rcases hs with rfl | rfl | rfl <;> simp [nw]) HL11.out (by omega) rfl rfl).mono ?_
  rintro e w12 ⟨A12, n12, rfl, r12, s12, _⟩
  have S12 := Lib.hid s12
  have R12 := Lib.hid r12
  clear s12 r12 S11 HL11 u5
  go_wp2_with fail
  refine (ints_yes A12 (some ⟨w12.heap.size, 0, none⟩) 1 n12 1 [0] _ (R12.out.later (below_al w12 (.cells #[.int .i64 0] 3))) (Rd.new w12 #[.int .i64 0] 1 1 3 rfl) (by omega)).mono ?_
  rintro e w13 ⟨rfl, nd, rfl⟩
  have S13 := Lib.hid ((S12.out.alloc (.cells #[.int .i64 0] 3)).drewN nd)
  clear S12 R12
  go_wp2_with fail
  go_ret
  exact ⟨rfl, S13.out.bel⟩
end Go.Proofs.Ytmcacmbllpphiaa
