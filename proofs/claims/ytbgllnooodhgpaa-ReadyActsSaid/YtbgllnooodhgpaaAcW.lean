/- The walk of ReadyActs. Condition: the list of pairs reads as it came. -/
import Derived.Test.YtbgllnooodhgpaaStp
namespace Go.Proofs.Ytbgllnooodhgpaa
open Go.RowKit
set_option linter.unusedVariables false

set_option maxRecDepth 100000 in
set_option maxHeartbeats 1000000 in
theorem acts_out (A1 : Option Addr) (n1 c1 : Nat) (W : World) (h : 100 < n1) : Calls Try.prog 3 #[.slice A1 n1 c1] W (BoolR true W) := by
  have d1 : (100 : Int) < (n1 : Int) := by omega
  go_enter Try.func3, Try.ntmps3
  go_wp2_with fail
  refine (awake_any W).mono ?_
  rintro e w' ⟨rfl, hb⟩
  have HB := Lib.hid hb
  clear hb
  go_wp2_with fail
  go_ret
  exact ⟨rfl, HB.out⟩

set_option maxRecDepth 100000 in
set_option maxHeartbeats 8000000 in
theorem acts_in (A1 : Option Addr) (n1 c1 : Nat) (kf vf : Nat → Int) (W : World) (h1 : RdP W A1 n1 kf vf) (hn1 : n1 ≤ 100) : Calls Try.prog 3 #[.slice A1 n1 c1] W (BoolR true W) := by
  have b3 : (n1 : Int) ≤ 100 := by omega
  have R1 := Lib.hid h1
  clear h1
  go_enter Try.func3, Try.ntmps3
  go_wp2_with fail
  refine (new_any W).mono ?_
  rintro e w1 q1
  obtain rfl := q1.1
  have S0 := Lib.hid (AS.start (start q1))
  clear q1
  go_wp2_with fail
  go_loopw [4, 5] (fun v i wr => ∃ (k n : Nat) (L : List Int) (P : Option Addr) (c : Nat) (P2 : Option Addr) (c2 : Nat), k ≤ n1 ∧ n ≤ k ∧ v = .slice P2 n c2 ∧ i = .int .i64 (k : Int) ∧ Hid (AS W P c L P2 c2 L n wr)) (fun _ i _ => n1 - (intOf i).toNat)
  case atStart => exact ⟨0, 0, [], none, 0, none, 0, by omega, by omega, rfl, rfl, S0⟩
  case round =>
    clear S0
    obtain ⟨k, n, L, P, c, P2, c2, hk, hnk, rfl, rfl, hS⟩ := hrel
    generalize wr = w1 at *
    by_cases hlt : k < n1
    · obtain ⟨bb, off, rfl, hbb, hcx, hcv, hwt⟩ := R1.out.cell hS.out.st.bel hlt
      generalize kf k = x at *
      generalize vf k = t at *
      have HW := Lib.hid hwt
      have k3 : (k : Int) < (n1 : Int) := by omega
      have k4 : (0 : Int) ≤ (k : Int) := by omega
      have k5 : (n : Int) ≤ 100 := by omega
      clear hwt
      go_wp2_with fail
      go_loopw [7, 8] (fun z j wq => ∃ (z' : Int) (j' : Nat), j' ≤ n ∧ z = .int .i64 z' ∧ j = .int .i64 (j' : Int) ∧ wq = w1 ∧ Hid (Fd L t j' z')) (fun _ j _ => n - (intOf j).toNat)
      case atStart => exact ⟨-1, 0, by omega, rfl, rfl, rfl, Fd.start L t⟩
      case round =>
        obtain ⟨z, j, hj, rfl, rfl, rfl, HF⟩ := hrel
        by_cases hjn : j < n
        · have j3 : (j : Int) < (n : Int) := by omega
          have j4 : (0 : Int) ≤ (j : Int) := by omega
          have hll := hS.out.len2
          have hy : L[j]? = some (L[j]'(by omega)) := List.getElem?_eq_getElem (by omega)
          generalize L[j]'(by omega) = y at hy
          obtain ⟨g2, rfl, hc2⟩ := row_form hS.out.row (by omega)
          have hcy := (hS.out.row.cellAt j (by omega)).trans (iV_at hy)
          by_cases e : y = t
          · subst e
            have F1 := Lib.hid (Fd.yes hy)
            clear hy HF
            go_wp2_with fail
            go_roundw
            case rel => exact ⟨(j : Int), j + 1, by omega, rfl, by go_num, by first | rfl | trivial, F1⟩
            case measure => simp [intOf]; omega
          · have F1 := Lib.hid (HF.out.no hy e)
            clear hy HF
            go_wp2_with fail
            go_roundw
            case rel => exact ⟨z, j + 1, by omega, rfl, by go_num, by first | rfl | trivial, F1⟩
            case measure => simp [intOf]; omega
        · obtain rfl : j = n := by omega
          have j3 : ¬ (j : Int) < (j : Int) := by omega
          have hll := hS.out.len2
          have FD : Hid ((z = -1 ∧ t ∉ L) ∨ ∃ p : Nat, p < L.length ∧ z = (p : Int) ∧ L[p]? = some t) := Fd.done (by rw [hll]; exact HF.out)
          clear HF hjn hj hcv
          generalize j = n at *
          go_wp2_with fail
          refine (round_any x 3 _ (by omega) (by omega)).mono ?_
          rintro e w' ⟨r, hr, rfl, rfl⟩
          clear hcx
          obtain rfl | rfl | rfl : r = 0 ∨ r = 1 ∨ r = 2 := by omega
          · obtain ⟨hz, hnl⟩ | ⟨p, hp, hz, hpl⟩ := FD.out
            · clear FD
              subst hz
              by_cases ht : t < 0
              · have t1 : ¬ 0 ≤ t := by omega
                go_wp2_with fail
                refine (add_low t _ ht).mono ?_
                rintro e w' ⟨rfl, rfl⟩
                have S2 := hS
                clear hS ht hnl
                clear hll
                have hll := S2.out.len2
                go_wp2_with fail
                refine (g_all S2.out.st.rg (by omega)).mono ?_
                rintro e w3 ⟨A3, c3, rfl, r1, r2⟩
                have S3 := Lib.hid (S2.out.later r2)
                rw [hll] at r1 ⊢
                have R3 := Lib.hid r1
                clear r1 r2 S2
                go_wp2_with fail
                refine (ints_eq R3.out (Rn.of_own S3.out.row) (by omega)).mono ?_
                rintro e w' ⟨rfl, q, rfl⟩
                have S4 := Lib.hid (S3.out.drewN q)
                generalize w3.drewN q = w4 at *
                clear S3 R3
                go_wp2_with fail
                refine (g_len S4.out.st.rg).mono ?_
                rintro e w' ⟨rfl, rfl⟩
                rw [hll]
                go_wp2_with fail
                go_roundw
                case rel => exact ⟨k + 1, n, L, _, _, _, _, by omega, by omega, rfl, by go_num, S4⟩
                case measure => simp [intOf]; omega
              · have t1 : 0 ≤ t := by omega
                clear ht
                go_wp2_with fail
                refine (g_add_new (x := t) hS.out.st.rg ⟨t1, HW.out⟩ hnl (by omega) hS.out.st.bel.size).mono ?_
                rintro e w2 q3
                obtain rfl := q3.1
                obtain ⟨P', c', S3⟩ := hS.out.add q3
                replace S3 := Lib.hid S3
                clear q3 hS hnl
                have hn4 : n ≤ 400 := by omega
                go_wp2_with (first
                  | (at_builtin; refine wp_copy (w2 := w2) rfl (.tmp 64) (.tmp 65) rfl w2.heap.size P2 n c2 L rfl rfl (heap_e1 w2) (Nat.le_refl _) (below_al w2 _) (Rn.of_own S3.out.row) hn4 ?_; intro v4 w4 ho4 hb4; have HO4 := Lib.hid ho4; have HB4 := Lib.hid hb4; clear ho4 hb4)
                  | (at_builtin; refine wp_more (w2 := w2) rfl (.tmp 66) (.tmp 68) rfl v4 (some ⟨w4.heap.size, 0, none⟩) n 1 1 L [t] rfl rfl (HO4.out.alloc _) (HB4.out.alloc HB4.out.size _) (rn_blk (heap_alloc_new w4 _)) hn4 (by omega) ?_; intro v5 w5 ho5 hb5; have HO5 := Lib.hid ho5; have HB5 := Lib.hid hb5; clear ho5 hb5))
                obtain ⟨A5, c5, rfl⟩ := slice_of HO5.out
                have S2 := Lib.hid (S3.out.fresh HB5.out HO5.out)
                clear S3 HO5 HB5 HO4 HB4 hn4
                have hn9 : n + 1 ≤ k + 1 := by omega
                clear hnk k5 hll
                generalize n + 1 = n at *
                generalize L ++ [t] = L at *
                generalize w5 = w2 at *
                have hll := S2.out.len2
                go_wp2_with fail
                refine (g_all S2.out.st.rg (by omega)).mono ?_
                rintro e w3 ⟨A3, c3, rfl, r1, r2⟩
                have S3 := Lib.hid (S2.out.later r2)
                rw [hll] at r1 ⊢
                have R3 := Lib.hid r1
                clear r1 r2 S2
                go_wp2_with fail
                refine (ints_eq R3.out (Rn.of_own S3.out.row) (by omega)).mono ?_
                rintro e w' ⟨rfl, q, rfl⟩
                have S4 := Lib.hid (S3.out.drewN q)
                generalize w3.drewN q = w4 at *
                clear S3 R3
                go_wp2_with fail
                refine (g_len S4.out.st.rg).mono ?_
                rintro e w' ⟨rfl, rfl⟩
                rw [hll]
                go_wp2_with fail
                go_roundw
                case rel => exact ⟨k + 1, n, L, _, _, _, _, by omega, by omega, rfl, by go_num, S4⟩
                case measure => simp [intOf]; omega
            · clear FD
              subst hz
              have t1 : 0 ≤ t := (hS.out.st.rg.wf t (at_mem hpl)).1
              have t2 : ¬ (p : Int) < 0 := by omega
              go_wp2_with fail
              refine (g_add_old (x := t) hS.out.st.rg HW.out (at_mem hpl)).mono ?_
              rintro e w' ⟨rfl, rfl⟩
              have S2 := hS
              clear hS hpl hp
              clear hll
              have hll := S2.out.len2
              go_wp2_with fail
              refine (g_all S2.out.st.rg (by omega)).mono ?_
              rintro e w3 ⟨A3, c3, rfl, r1, r2⟩
              have S3 := Lib.hid (S2.out.later r2)
              rw [hll] at r1 ⊢
              have R3 := Lib.hid r1
              clear r1 r2 S2
              go_wp2_with fail
              refine (ints_eq R3.out (Rn.of_own S3.out.row) (by omega)).mono ?_
              rintro e w' ⟨rfl, q, rfl⟩
              have S4 := Lib.hid (S3.out.drewN q)
              generalize w3.drewN q = w4 at *
              clear S3 R3
              go_wp2_with fail
              refine (g_len S4.out.st.rg).mono ?_
              rintro e w' ⟨rfl, rfl⟩
              rw [hll]
              go_wp2_with fail
              go_roundw
              case rel => exact ⟨k + 1, n, L, _, _, _, _, by omega, by omega, rfl, by go_num, S4⟩
              case measure => simp [intOf]; omega
          · obtain ⟨hz, hnl⟩ | ⟨p, hp, hz, hpl⟩ := FD.out
            · clear FD
              subst hz
              have t1 : ¬ (0 : Int) ≤ -1 := by omega
              go_wp2_with fail
              refine (g_remove_no (x := t) hS.out.st.rg HW.out hnl).mono ?_
              rintro e w' ⟨rfl, rfl⟩
              have S2 := hS
              clear hS hnl
              clear hll
              have hll := S2.out.len2
              go_wp2_with fail
              refine (g_all S2.out.st.rg (by omega)).mono ?_
              rintro e w3 ⟨A3, c3, rfl, r1, r2⟩
              have S3 := Lib.hid (S2.out.later r2)
              rw [hll] at r1 ⊢
              have R3 := Lib.hid r1
              clear r1 r2 S2
              go_wp2_with fail
              refine (ints_eq R3.out (Rn.of_own S3.out.row) (by omega)).mono ?_
              rintro e w' ⟨rfl, q, rfl⟩
              have S4 := Lib.hid (S3.out.drewN q)
              generalize w3.drewN q = w4 at *
              clear S3 R3
              go_wp2_with fail
              refine (g_len S4.out.st.rg).mono ?_
              rintro e w' ⟨rfl, rfl⟩
              rw [hll]
              go_wp2_with fail
              go_roundw
              case rel => exact ⟨k + 1, n, L, _, _, _, _, by omega, by omega, rfl, by go_num, S4⟩
              case measure => simp [intOf]; omega
            · clear FD
              subst hz
              have t2 : (0 : Int) ≤ (p : Int) := by omega
              have hpn : p < n := by omega
              have hcl := cut_len hpl
              go_wp2_with fail
              refine (g_remove_yes (x := t) (p := p) hS.out.st.rg hpl (by omega)).mono ?_
              rintro e w2 ⟨rfl, r1, r2⟩
              have S3 := Lib.hid (hS.out.go ⟨r1, r2⟩)
              clear r1 r2 hS
              obtain ⟨g2, rfl, hc2⟩ := row_form S3.out.row (by omega)
              have T3 := Lib.hid ((Rn.of_own S3.out.row).take (show p ≤ n by omega))
              have e3 := (Rn.of_own S3.out.row).drop (show p + 1 ≤ n by omega)
              rw [Nat.zero_add] at e3
              have E3 := Lib.hid e3
              clear e3
              have p0 : (0 : Int) ≤ (p : Int) := by omega
              have p2 : (p : Int) ≤ (c2 : Int) := by omega
              have p3 : (p : Int) + 1 ≤ (n : Int) := by omega
              have p4 : (p : Int) + 1 ≤ (c2 : Int) := by omega
              have p5 : (n : Int) ≤ (c2 : Int) := by omega
              have p6 : (p : Int) ≤ 100 := by omega
              have hw1 : IntKind.i64.wrap ((p : Int) + 1) = (p : Int) + 1 := by rw [IntKind.wrap_i64]; omega
              have hw2 : (0 : Int) ≤ (p : Int) + 1 := by omega
              have hw3 : ((p : Int) + 1).toNat = p + 1 := by omega
              have hcut := List.eraseIdx_eq_take_drop_succ L p
              rw [hcut] at S3 hcl
              clear hcut
              have HL := Lib.hid hpl
              clear hpl
              by_cases hpc : p + 1 < c2
              · have p7 : ¬ c2 = p + 1 := by omega
                go_wp2_with fail
                go_region_law (first
                  | (refine step_copy (w2 := w2) rfl (.tmp 80) (.tmp 83) rfl _ (some ⟨g2, 0, none⟩) p c2 (L.take p) (by rfl) (by rfl) (by first | exact heap_e1 _ | (simp; done)) (by first | omega | (simp <;> omega)) (by repeat' (first | exact Below.refl _ _ | refine Below.drew ?_ | refine Below.alloc ?_ (by first | omega | (simp <;> omega)) _)) T3.out (by omega) ?_; intro v7 w7 ho7 hb7; have hs7 := hb7.size; have HO7 := Lib.hid ho7; clear ho7)
                  | (refine step_more (w2 := w2) rfl (.tmp 84) (.tmp 88) rfl v7 (some ⟨g2, p + 1, none⟩) p (n - (p + 1)) _ (L.take p) (L.drop (p + 1)) (by rfl) (by rfl) HO7.out hb7 (E3.out.later hb7) (by omega) (by omega) ?_; intro v8 w8 ho8 hb8; have HO8 := Lib.hid ho8; have HB8 := Lib.hid hb8; clear ho8))
                clear hw1 hw2 hw3 p7
                obtain ⟨A5, c5, rfl⟩ := slice_of HO8.out
                have S2 := Lib.hid (S3.out.fresh HB8.out HO8.out)
                clear S3 HO8 HB8 hb8 HO7 hb7 hs7 T3 E3 HL
                have hn9 : p + (n - (p + 1)) ≤ k + 1 := by omega
                clear p0 p2 p3 p4 p5 p6 hpc hc2 hpn hcl hp hnk k5 hll
                generalize p + (n - (p + 1)) = n at *
                generalize L.take p ++ L.drop (p + 1) = L at *
                generalize w8 = w2 at *
                have hll := S2.out.len2
                go_wp2_with fail
                refine (g_all S2.out.st.rg (by omega)).mono ?_
                rintro e w3 ⟨A3, c3, rfl, r1, r2⟩
                have S3 := Lib.hid (S2.out.later r2)
                rw [hll] at r1 ⊢
                have R3 := Lib.hid r1
                clear r1 r2 S2
                go_wp2_with fail
                refine (ints_eq R3.out (Rn.of_own S3.out.row) (by omega)).mono ?_
                rintro e w' ⟨rfl, q, rfl⟩
                have S4 := Lib.hid (S3.out.drewN q)
                generalize w3.drewN q = w4 at *
                clear S3 R3
                go_wp2_with fail
                refine (g_len S4.out.st.rg).mono ?_
                rintro e w' ⟨rfl, rfl⟩
                rw [hll]
                go_wp2_with fail
                go_roundw
                case rel => exact ⟨k + 1, n, L, _, _, _, _, by omega, by omega, rfl, by go_num, S4⟩
                case measure => simp [intOf]; omega
              · obtain rfl : n = p + 1 := by omega
                obtain rfl : c2 = p + 1 := by omega
                have hd0 : L.drop (p + 1) = [] := List.drop_eq_nil_of_le (by omega)
                rw [hd0] at S3
                have hw4 : (p : Int) ≤ (p : Int) + 1 := by omega
                clear p2 p3 p4 p5 hpc E3 hd0
                go_wp2_with fail
                go_region_law (first
                  | (refine step_copy (w2 := w2) rfl (.tmp 80) (.tmp 83) rfl _ (some ⟨g2, 0, none⟩) p (p + 1) (L.take p) (by rfl) (by rfl) (by first | exact heap_e1 _ | (simp; done)) (by first | omega | (simp <;> omega)) (by repeat' (first | exact Below.refl _ _ | refine Below.drew ?_ | refine Below.alloc ?_ (by first | omega | (simp <;> omega)) _)) T3.out (by omega) ?_; intro v7 w7 ho7 hb7; have hs7 := hb7.size; have HO7 := Lib.hid ho7; clear ho7)
                  | (refine step_more (w2 := w2) rfl (.tmp 84) (.tmp 88) rfl v7 (some ⟨g2, 0, none⟩) p 0 _ (L.take p) [] (by rfl) (by rfl) HO7.out hb7 (Rn.nil _ _) (by omega) (by omega) ?_; intro v8 w8 ho8 hb8; have HO8 := Lib.hid ho8; have HB8 := Lib.hid hb8; clear ho8))
                clear hw1 hw2 hw3 hw4
                obtain ⟨A5, c5, rfl⟩ := slice_of HO8.out
                have S2 := Lib.hid (S3.out.fresh HB8.out HO8.out)
                clear S3 HO8 HB8 hb8 HO7 hb7 hs7 T3 HL
                have hn9 : p + 0 ≤ k + 1 := by omega
                clear p0 p6 hc2 hpn hcl hp hnk k5 hll
                generalize p + 0 = n at *
                generalize L.take p ++ [] = L at *
                generalize w8 = w2 at *
                have hll := S2.out.len2
                go_wp2_with fail
                refine (g_all S2.out.st.rg (by omega)).mono ?_
                rintro e w3 ⟨A3, c3, rfl, r1, r2⟩
                have S3 := Lib.hid (S2.out.later r2)
                rw [hll] at r1 ⊢
                have R3 := Lib.hid r1
                clear r1 r2 S2
                go_wp2_with fail
                refine (ints_eq R3.out (Rn.of_own S3.out.row) (by omega)).mono ?_
                rintro e w' ⟨rfl, q, rfl⟩
                have S4 := Lib.hid (S3.out.drewN q)
                generalize w3.drewN q = w4 at *
                clear S3 R3
                go_wp2_with fail
                refine (g_len S4.out.st.rg).mono ?_
                rintro e w' ⟨rfl, rfl⟩
                rw [hll]
                go_wp2_with fail
                go_roundw
                case rel => exact ⟨k + 1, n, L, _, _, _, _, by omega, by omega, rfl, by go_num, S4⟩
                case measure => simp [intOf]; omega
          · by_cases hn0 : 0 < n
            · have hx : L[pk t L.length]? = some (L[pk t L.length]'(pk_lt t (by omega))) := List.getElem?_eq_getElem _
              generalize L[pk t L.length]'(pk_lt t (by omega)) = y at hx
              have n0 : (0 : Int) < (n : Int) := by omega
              have hplt := pk_lt t (m := n) hn0
              have n2 : ((pk t n : Nat) : Int) < (n : Int) := by omega
              have n3 : (0 : Int) ≤ ((pk t n : Nat) : Int) := by omega
              clear FD
              go_wp2_with fail
              refine (g_pick_any (n := t) (x := y) hS.out.st.rg (by omega) hx).mono ?_
              rintro e w' ⟨rfl, q, rfl⟩
              have S2 := Lib.hid (hS.out.drewN q)
              generalize w1.drewN q = w2 at *
              obtain ⟨g2, rfl, hc2⟩ := row_form S2.out.row hn0
              rw [hll] at hx
              have hcy := (S2.out.row.cellAt (pk t n) (by omega)).trans (iV_at hx)
              clear hS hx
              go_wp2_with fail
              refine (rpick t n _ hn0 (by omega)).mono ?_
              rintro e w' ⟨rfl, rfl⟩
              go_wp2_with fail
              clear hcy n0 n2 n3 hplt hc2 hn0 hll
              have hll := S2.out.len2
              go_wp2_with fail
              refine (g_all S2.out.st.rg (by omega)).mono ?_
              rintro e w3 ⟨A3, c3, rfl, r1, r2⟩
              have S3 := Lib.hid (S2.out.later r2)
              rw [hll] at r1 ⊢
              have R3 := Lib.hid r1
              clear r1 r2 S2
              go_wp2_with fail
              refine (ints_eq R3.out (Rn.of_own S3.out.row) (by omega)).mono ?_
              rintro e w' ⟨rfl, q, rfl⟩
              have S4 := Lib.hid (S3.out.drewN q)
              generalize w3.drewN q = w4 at *
              clear S3 R3
              go_wp2_with fail
              refine (g_len S4.out.st.rg).mono ?_
              rintro e w' ⟨rfl, rfl⟩
              rw [hll]
              go_wp2_with fail
              go_roundw
              case rel => exact ⟨k + 1, n, L, _, _, _, _, by omega, by omega, rfl, by go_num, S4⟩
              case measure => simp [intOf]; omega
            · obtain rfl : n = 0 := by omega
              obtain rfl : L = [] := List.eq_nil_of_length_eq_zero hll
              clear FD hn0
              go_wp2_with fail
              refine (g_pick_none (n := t) hS.out.st.rg).mono ?_
              rintro e w' ⟨rfl, rfl⟩
              have S2 := hS
              clear hS hll
              have hll := S2.out.len2
              go_wp2_with fail
              refine (g_all S2.out.st.rg (by omega)).mono ?_
              rintro e w3 ⟨A3, c3, rfl, r1, r2⟩
              have S3 := Lib.hid (S2.out.later r2)
              rw [hll] at r1 ⊢
              have R3 := Lib.hid r1
              clear r1 r2 S2
              go_wp2_with fail
              refine (ints_eq R3.out (Rn.of_own S3.out.row) (by omega)).mono ?_
              rintro e w' ⟨rfl, q, rfl⟩
              have S4 := Lib.hid (S3.out.drewN q)
              generalize w3.drewN q = w4 at *
              clear S3 R3
              go_wp2_with fail
              refine (g_len S4.out.st.rg).mono ?_
              rintro e w' ⟨rfl, rfl⟩
              rw [hll]
              go_wp2_with fail
              go_roundw
              case rel => exact ⟨k + 1, 0, [], _, _, _, _, by omega, by omega, rfl, by go_num, S4⟩
              case measure => simp [intOf]; omega
    · have k3 : ¬ (k : Int) < (n1 : Int) := by omega
      go_wp2_with fail
      refine (awake_any _).mono ?_
      rintro e w3 ⟨rfl, b3⟩
      have HB := Lib.hid (hS.out.st.later b3).bel
      clear b3
      go_wp2_with fail
      go_ret
      exact ⟨rfl, HB.out⟩
theorem acts_walk (A1 : Option Addr) (n1 c1 : Nat) (kf vf : Nat → Int) (W : World) (h1 : RdP W A1 n1 kf vf) : Calls Try.prog 3 #[.slice A1 n1 c1] W (BoolR true W) := by
  by_cases h : 100 < n1
  · exact acts_out A1 n1 c1 W h
  · exact acts_in A1 n1 c1 kf vf W h1 (by omega)
end Go.Proofs.Ytbgllnooodhgpaa
