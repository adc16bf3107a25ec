/- Who starts, or wakes, stands behind all that can run. Conditions: the argument reads as the row says; the table of operations lies in its variable. -/
import Derived.Test.YthiifnbgdajgaaaDoorLnB
namespace Go.Proofs.YthiifnbgdajgaaaDoor
open Go.RowKit
set_option linter.unusedVariables false
set_option maxRecDepth 100000

theorem line_out (A : Option Addr) (len cap : Nat) (W : World) (hF : Hid (Pg.FT W)) (h : 120 < len) : Calls Tryd.prog 3 #[.slice A len cap] W (BoolR true W) := by
  have c1 : 120 < (len : Int) := by omega
  go_enter Tryd.func3, Tryd.ntmps3
  go_wp2_with fail
  refine (awake_any W hF).mono ?_
  rintro e w2 ⟨rfl, b2⟩
  go_wp2_with fail
  go_ret
  exact ⟨rfl, b2⟩
set_option maxHeartbeats 16000000 in
theorem line_in (A : Option Addr) (len cap : Nat) (zs : List Int) (W : World) (hF : Hid (Pg.FT W)) (hZ : Hid (Rn W A len zs)) (h : len ≤ 120) : Calls Tryd.prog 3 #[.slice A len cap] W (BoolR true W) := by
  have c1 : ¬ 120 < (len : Int) := by omega
  have c2 : (len : Int) ≤ 120 := by omega
  go_enter Tryd.func3, Tryd.ntmps3
  go_wp2_with fail
  refine (new_ls (Below.refl _ _)).mono ?_
  rintro e w1 ⟨t, rfl, S1⟩
  go_wp2_with fail
  have S1' : Hid (LS W t [] [] [rI none 0 [], rI none 0 []] w1) := (S1.out.ints (World.ownsRow_nil _ _ _ _) (Below.refl _ _)).ints (World.ownsRow_nil _ _ _ _) (Below.refl _ _)
  go_loopw [4, 5, 6, 7] (fun vl vp vn vi wr => ∃ (k m n q : Nat) (P : Option Addr) (c : Nat) (Q : Option Addr) (d : Nat) (S : List T0) (l p : List Int), k ≤ len ∧ vl = .slice P n c ∧ vp = .slice Q q d ∧ vn = .int .i64 (m : Int) ∧ vi = .int .i64 (k : Int) ∧ Hid (n = l.length) ∧ Hid (q = p.length) ∧ (n ≤ k ∧ q ≤ k) ∧ Hid (S.length = m) ∧ Hid (LI k S p) ∧ Hid (LS W t S l [rI P c l, rI Q d p] wr)) (fun vl vp vn vi _ => len - (intOf vi).toNat)
  case atStart => exact ⟨0, 0, 0, 0, none, 0, none, 0, [], [], [], by omega, rfl, rfl, rfl, rfl, rfl, rfl, ⟨Nat.le_refl _, Nat.le_refl _⟩, rfl, ⟨fun y hy => (by cases hy), fun s hs => (by cases hs)⟩, S1'⟩
  case round =>
    clear S1 S1'
    obtain ⟨k, m, n, q, P, c, Q, d, S, l, p, hk, rfl, rfl, rfl, rfl, hn, hq, ⟨hnk, hqk⟩, hSl, hI, S2⟩ := hrel
    have k1 : (0 : Int) ≤ (k : Int) := by omega
    have k2 : (k : Int) ≤ 120 := by omega
    have n2 : (n : Int) ≤ 120 := by omega
    have q2' : (q : Int) ≤ 120 := by omega
    by_cases hlt : k < len
    · have hlc : (k : Int) < (len : Int) := by omega
      have hm64 : m ≤ 64 := by have := S2.out.ids.2.1; rw [hSl.out] at this; exact this
      have hm2 : (m : Int) ≤ 64 := by omega
      obtain ⟨bz, oz, z, rfl, hbz, hzz, hcz⟩ := hZ.out.cell S2.out.bel hlt
      clear hzz
      have hbw : bz < wr.heap.size := Nat.lt_of_lt_of_le hbz S2.out.bel.size
      go_wp2_with fail
      refine (round_any z 4 wr (by omega) (by omega)).mono ?_
      rintro e w' ⟨r4, hr4, rfl, rfl⟩
      go_wp2_with fail
      refine (round_any _ 7 _ (by omega) (by omega)).mono ?_
      rintro e w2 ⟨r7, hr7, rfl, hw2⟩
      subst hw2
      generalize wr = w2 at *
      have r7b : (r7 : Int) < 7 := by omega
      have r7c : (0 : Int) ≤ (r7 : Int) := by omega
      have hc4 : r4 = 0 ∨ r4 = 1 ∨ r4 = 2 ∨ r4 = 3 := by omega
      clear hr4 hcz hbz hbw
      rcases hc4 with rfl | rfl | rfl | rfl
      · by_cases hm : m < 64
        · have hge : ¬ (64 : Int) ≤ (m : Int) := by omega
          go_wp2_with fail
          refine (start_ls (prog := 0) (g := g0) S2.out (by omega) (by rw [hSl.out]; omega) (by rw [← hn.out]; omega)).mono ?_
          rintro e w3 ⟨he, S3⟩
          rw [hSl.out] at he S3
          subst he
          clear S2
          have HR3 : Hid (Rn w3 P n l) := by show Rn _ _ _ _; rw [hn.out]; exact rn_rw (S3.out.ownI (i := 0) rfl)
          go_wp2_with (first
            | (refine wp_copy (w2 := w3) rfl (.tmp 61) (.tmp 62) rfl w3.heap.size P n c l rfl rfl (heap_alloc_new w3 _) (Nat.le_refl _) (below_al w3 _) HR3.out (by omega) ?_; intro v3 wA ho3 hb3; obtain ⟨P3, c3, rfl⟩ := slice_of ho3; have H3 := Lib.hid (And.intro ho3 hb3); clear ho3 hb3)
            | (refine wp_more (w2 := w3) rfl (.tmp 63) (.tmp 65) rfl (.slice P3 n c3) (some ⟨wA.heap.size, 0, none⟩) n 1 1 l [(m : Int)] rfl rfl (row_later H3.out.1 (below_al wA _)) (H3.out.2.trans ((below_al wA _).mono H3.out.2.size)) (rn_one (heap_alloc_new wA _)) (by omega) (by omega) ?_; intro v4 w4 ho4 hb4; obtain ⟨PF0, cF0, rfl, hnF0, SF0⟩ := S3.out.renew (i := 0) rfl ho4 hb4; clear ho4 hb4 H3))
          have SF : Hid (LS W t (S ++ [yNew 0 g0]) (l ++ [(m : Int)]) [rI PF0 cF0 (l ++ [(m : Int)]), rI Q d p] w4) := SF0
          have hnF : Hid (n + 1 = (l ++ [(m : Int)]).length) := hnF0
          have hqF := hq
          have hSF : Hid ((S ++ [yNew 0 g0]).length = m + 1) := by show _ = _; rw [List.length_append, hSl.out]; rfl
          have hIF : Hid (LI (k + 1) (S ++ [yNew 0 g0]) p) := hI.out.more
          clear SF0 hnF0 HR3 S3
          refine (ready_ls SF.out (by rw [← hnF.out]; omega)).mono ?_
          rintro e w8 ⟨A8, c8, rfl, R8, S8⟩
          rw [← hnF.out] at R8 ⊢
          have HR8 : Hid (Rn w8 PF0 (n + 1) (l ++ [(m : Int)])) := by show Rn _ _ _ _; rw [hnF.out]; exact rn_rw (S8.out.ownI (i := 0) rfl)
          clear SF
          go_wp2_with fail
          refine (ints_eq R8.out HR8.out (by omega)).mono ?_
          rintro e w' ⟨rfl, q8, rfl⟩
          have S9 := Lib.hid (S8.out.drewN q8)
          generalize w8.drewN q8 = w9 at *
          clear R8 HR8 S8
          go_wp2_with fail
          go_roundw
          case rel => exact ⟨k + 1, (m + 1), (n + 1), q, PF0, cF0, Q, d, _, (l ++ [(m : Int)]), p, by omega, rfl, rfl, by go_num, by go_num, hnF, hqF, ⟨by omega, by omega⟩, hSF, hIF, S9⟩
          case measure => simp [intOf]; omega
        · have hge : (64 : Int) ≤ (m : Int) := by omega
          go_wp2_with fail
          refine (full_ls (prog := 0) (g := g0) S2.out (by omega) (by rw [hSl.out]; omega)).mono ?_
          rintro e w3 ⟨rfl, S3⟩
          have hIF : Hid (LI (k + 1) S p) := hI.out.next
          clear S2
          go_wp2_with fail
          go_roundw
          case rel => exact ⟨k + 1, m, n, q, P, c, Q, d, S, l, p, by omega, rfl, rfl, by go_num, by go_num, hn, hq, ⟨by omega, by omega⟩, hSl, hIF, S3⟩
          case measure => simp [intOf]; omega
      · by_cases h0 : 0 < n
        · obtain ⟨j, hj, hjn⟩ := idx r7 (n := n) (by omega)
          have HR1 : Hid (Rw 0 w2 P c l) := S2.out.ownI (i := 0) rfl
          obtain ⟨g, rfl, hgc⟩ := row_form HR1.out (by rw [← hn.out]; omega)
          have hjl : j < l.length := by rw [← hn.out]; exact hjn
          obtain ⟨y, hy⟩ : ∃ y, Hid (l[j]? = some y) := ⟨l[j]'hjl, List.getElem?_eq_getElem hjl⟩
          have hcy : w2.cell? ⟨g, j, none⟩ = some (.int .i64 y) := by rw [HR1.out.cellAt _ (by rw [← hn.out]; omega)]; exact iV_at hy.out
          have hmem : y ∈ l := at_mem hy.out
          have nz : ((n : Int) == 0) = false := by simp; omega
          have np : (0 : Int) < (n : Int) := by omega
          have j1 : (j : Int) < (n : Int) := by omega
          have j2 : (0 : Int) ≤ (j : Int) := by omega
          obtain ⟨id, s, hid, hs, h0⟩ := S2.out.ids.1 y hmem
          subst hid
          have hpc := hI.out.sp s (List.mem_of_getElem? hs)
          have HPC := Lib.hid hpc
          have HS := Lib.hid hs
          have H0 := Lib.hid h0
          clear hs h0 hpc hmem
          go_wp2_with fail
          refine (park_ls (k := id) (y := yI 15 0 0 0) (As := none) (cap := 0) S2.out HS.out H0.out (by rw [← hn.out]; omega) (S2.out.ft hF.out) (.inr (.inr rfl)) chk15z (.inl rfl) (Pg.RdC.nil _ _) (Nat.zero_le _) (Nat.zero_le _) (by omega)).mono ?_
          rintro e w3 ⟨rfl, S3'⟩
          have S3 : Hid (LS W t (S.set id (yPark s (yI 15 0 0 0))) (wo l id) [rI (some ⟨g, 0, none⟩) c l, rI Q d p] w3) := S3'
          clear S3' S2 hcy HR1
          have HQ3 : Hid (Rn w3 Q q p) := by show Rn _ _ _ _; rw [hq.out]; exact rn_rw (S3.out.ownI (i := 1) rfl)
          go_wp2_with (first
            | (refine wp_copy (w2 := w3) rfl (.tmp 87) (.tmp 88) rfl w3.heap.size Q q d p rfl rfl (heap_alloc_new w3 _) (Nat.le_refl _) (below_al w3 _) HQ3.out (by omega) ?_; intro v3 wA ho3 hb3; obtain ⟨P3, c3, rfl⟩ := slice_of ho3; have H3 := Lib.hid (And.intro ho3 hb3); clear ho3 hb3)
            | (refine wp_more (w2 := w3) rfl (.tmp 89) (.tmp 91) rfl (.slice P3 q c3) (some ⟨wA.heap.size, 0, none⟩) q 1 1 p [(id : Int)] rfl rfl (row_later H3.out.1 (below_al wA _)) (H3.out.2.trans ((below_al wA _).mono H3.out.2.size)) (rn_one (heap_alloc_new wA _)) (by omega) (by omega) ?_; intro v4 w4 ho4 hb4; obtain ⟨PF1, cF1, rfl, hnF1, SF1⟩ := S3.out.renew (i := 1) rfl ho4 hb4; clear ho4 hb4 H3))
          have S4 : Hid (LS W t (S.set id (yPark s (yI 15 0 0 0))) (wo l id) [rI (some ⟨g, 0, none⟩) c l, rI PF1 cF1 (p ++ [(id : Int)])] w4) := SF1
          have hq4 : Hid (q + 1 = (p ++ [(id : Int)]).length) := hnF1
          clear SF1 hnF1 HQ3 S3
          have HR4 : Hid (Rn w4 (some ⟨g, 0, none⟩) n l) := by show Rn _ _ _ _; rw [hn.out]; exact rn_rw (S4.out.ownI (i := 0) rfl)
          refine (out_any w4 HR4 (by omega)).mono ?_
          rintro e w5 ⟨v, rfl, ho, hb⟩
          obtain ⟨PF2, cF2, rfl, hnF2, SF2⟩ := S4.out.renew (i := 0) rfl ho hb
          have hlF2 : Hid ((wo l id).length ≤ l.length) := wo_le _ _
          clear ho hb
          have SF' : Hid (LS W t (S.set id (yPark s (yI 15 0 0 0))) (wo l id) [rI PF2 cF2 (wo l id), rI PF1 cF1 (p ++ [(id : Int)])] w5) := SF2
          have hlb : Hid ((wo l id).length ≤ n) := by show _ ≤ _; rw [hn.out]; exact hlF2.out
          have hnF' : Hid ((wo l id).length = (wo l id).length) := rfl
          change _ = _ at hnF'
          obtain ⟨n2, hn2⟩ : ∃ n2, n2 = (wo l id).length := ⟨_, rfl⟩
          have hnF : Hid (n2 = (wo l id).length) := hn2
          have hn2b : n2 ≤ n := by rw [hn2]; exact hlb.out
          have hfe : (l.filter fun y => decide (y ≠ (id : Int))).length = n2 := hn2.symm
          rw [hfe]
          have SF := SF'
          have hqF := hq4
          have hSF : Hid ((S.set id (yPark s (yI 15 0 0 0))).length = m) := by show _ = _; rw [List.length_set]; exact hSl.out
          have hIF : Hid (LI (k + 1) (S.set id (yPark s (yI 15 0 0 0))) (p ++ [(id : Int)])) := hI.out.park HS.out H0.out ⟨rfl, rfl, rfl, rfl⟩ (by have := HPC.out; exact ⟨this.1, by have := this.2; show s.pc ≤ _; omega⟩)
          clear SF2 SF' hnF2 hlF2 hlb hnF' hn2 hfe S4 HR4
          go_wp2_with fail
          refine (ready_ls SF.out (by rw [← hnF.out]; omega)).mono ?_
          rintro e w8 ⟨A8, c8, rfl, R8, S8⟩
          rw [← hnF.out] at R8 ⊢
          have HR8 : Hid (Rn w8 PF2 n2 (wo l id)) := by show Rn _ _ _ _; rw [hnF.out]; exact rn_rw (S8.out.ownI (i := 0) rfl)
          clear SF
          go_wp2_with fail
          refine (ints_eq R8.out HR8.out (by omega)).mono ?_
          rintro e w' ⟨rfl, q8, rfl⟩
          have S9 := Lib.hid (S8.out.drewN q8)
          generalize w8.drewN q8 = w9 at *
          clear R8 HR8 S8
          go_wp2_with fail
          go_roundw
          case rel => exact ⟨k + 1, m, n2, (q + 1), PF2, cF2, PF1, cF1, _, (wo l id), (p ++ [(id : Int)]), by omega, rfl, rfl, by go_num, by go_num, hnF, hqF, ⟨by omega, by omega⟩, hSF, hIF, S9⟩
          case measure => simp [intOf]; omega
        · have np : ¬ (0 : Int) < (n : Int) := by omega
          go_wp2_with fail
          have SF := S2
          have hnF := hn
          have hqF := hq
          have hSF := hSl
          have hIF : Hid (LI (k + 1) S p) := hI.out.next
          refine (ready_ls SF.out (by rw [← hnF.out]; omega)).mono ?_
          rintro e w8 ⟨A8, c8, rfl, R8, S8⟩
          rw [← hnF.out] at R8 ⊢
          have HR8 : Hid (Rn w8 P n l) := by show Rn _ _ _ _; rw [hnF.out]; exact rn_rw (S8.out.ownI (i := 0) rfl)
          clear SF
          go_wp2_with fail
          refine (ints_eq R8.out HR8.out (by omega)).mono ?_
          rintro e w' ⟨rfl, q8, rfl⟩
          have S9 := Lib.hid (S8.out.drewN q8)
          generalize w8.drewN q8 = w9 at *
          clear R8 HR8 S8
          go_wp2_with fail
          go_roundw
          case rel => exact ⟨k + 1, m, n, q, P, c, Q, d, _, l, p, by omega, rfl, rfl, by go_num, by go_num, hnF, hqF, ⟨by omega, by omega⟩, hSF, hIF, S9⟩
          case measure => simp [intOf]; omega
      · by_cases h0 : 0 < q
        · by_cases h6 : r7 = 6
          · have r6 : ((r7 : Int) == 6) = true := by simp [h6]
            clear h6
            obtain ⟨j, hj, hjn⟩ := idx r7 (n := q) (by omega)
            have HR1 : Hid (Rw 0 w2 Q d p) := S2.out.ownI (i := 1) rfl
            obtain ⟨g, rfl, hgc⟩ := row_form HR1.out (by rw [← hq.out]; omega)
            have hjl : j < p.length := by rw [← hq.out]; exact hjn
            obtain ⟨y, hy⟩ : ∃ y, Hid (p[j]? = some y) := ⟨p[j]'hjl, List.getElem?_eq_getElem hjl⟩
            have hcy : w2.cell? ⟨g, j, none⟩ = some (.int .i64 y) := by rw [HR1.out.cellAt _ (by rw [← hq.out]; omega)]; exact iV_at hy.out
            have hmem : y ∈ p := at_mem hy.out
            have nz : ((q : Int) == 0) = false := by simp; omega
            have np : (0 : Int) < (q : Int) := by omega
            have j1 : (j : Int) < (q : Int) := by omega
            have j2 : (0 : Int) ≤ (j : Int) := by omega
            obtain ⟨id, s, hid, hs, h0⟩ := hI.out.pi y hmem
            subst hid
            have hpc := hI.out.sp s (List.mem_of_getElem? hs)
            have HPC := Lib.hid hpc
            have HS := Lib.hid hs
            have H0 := Lib.hid h0
            clear hs h0 hpc hmem
            go_wp2_with fail
            refine (panic_ls (k := id) (kase := 0) (value := 0) (ok := false) S2.out HS.out H0.out.1 (by rw [← hn.out]; omega)).mono ?_
            rintro e w3 ⟨rfl, S3'⟩
            have hid0 : wo l id = l := wo_not (S2.out.ids.1.not HS.out (by rw [H0.out.1]; decide))
            rw [hid0] at S3'
            have S4 : Hid (LS W t (S.set id (yEnd s 1)) l [rI P c l, rI (some ⟨g, 0, none⟩) d p] w3) := S3'
            clear S3' S2 hcy HR1 hid0
            have HR4 : Hid (Rn w3 (some ⟨g, 0, none⟩) q p) := by show Rn _ _ _ _; rw [hq.out]; exact rn_rw (S4.out.ownI (i := 1) rfl)
            go_wp2_with fail
            refine (out_any w3 HR4 (by omega)).mono ?_
            rintro e w5 ⟨v, rfl, ho, hb⟩
            obtain ⟨PF2, cF2, rfl, hnF2, SF2⟩ := S4.out.renew (i := 1) rfl ho hb
            have hlF2 : Hid ((wo p id).length ≤ p.length) := wo_le _ _
            clear ho hb
            have SF : Hid (LS W t (S.set id (yEnd s 1)) l [rI P c l, rI PF2 cF2 (wo p id)] w5) := SF2
            have hlb : Hid ((wo p id).length ≤ q) := by show _ ≤ _; rw [hq.out]; exact hlF2.out
            obtain ⟨q2, hq2⟩ : ∃ q2, q2 = (wo p id).length := ⟨_, rfl⟩
            have hqF : Hid (q2 = (wo p id).length) := hq2
            have hq2b : q2 ≤ q := by rw [hq2]; exact hlb.out
            have hfe : (p.filter fun y => decide (y ≠ (id : Int))).length = q2 := hq2.symm
            rw [hfe]
            have hnF := hn
            have hSF : Hid ((S.set id (yEnd s 1)).length = m) := by show _ = _; rw [List.length_set]; exact hSl.out
            have hIF : Hid (LI (k + 1) (S.set id (yEnd s 1)) (wo p id)) := hI.out.off (by have := HPC.out; exact ⟨this.1, by have := this.2; show s.pc ≤ _; omega⟩)
            clear SF2 hnF2 hlF2 hlb hq2 hfe S4 HR4
            go_wp2_with fail
            refine (ready_ls SF.out (by rw [← hnF.out]; omega)).mono ?_
            rintro e w8 ⟨A8, c8, rfl, R8, S8⟩
            rw [← hnF.out] at R8 ⊢
            have HR8 : Hid (Rn w8 P n l) := by show Rn _ _ _ _; rw [hnF.out]; exact rn_rw (S8.out.ownI (i := 0) rfl)
            clear SF
            go_wp2_with fail
            refine (ints_eq R8.out HR8.out (by omega)).mono ?_
            rintro e w' ⟨rfl, q8, rfl⟩
            have S9 := Lib.hid (S8.out.drewN q8)
            generalize w8.drewN q8 = w9 at *
            clear R8 HR8 S8
            go_wp2_with fail
            go_roundw
            case rel => exact ⟨k + 1, m, n, q2, P, c, PF2, cF2, _, l, (wo p id), by omega, rfl, rfl, by go_num, by go_num, hnF, hqF, ⟨by omega, by omega⟩, hSF, hIF, S9⟩
            case measure => simp [intOf]; omega
          · have r6 : ((r7 : Int) == 6) = false := by simp; omega
            obtain ⟨j, hj, hjn⟩ := idx r7 (n := q) (by omega)
            have HR1 : Hid (Rw 0 w2 Q d p) := S2.out.ownI (i := 1) rfl
            obtain ⟨g, rfl, hgc⟩ := row_form HR1.out (by rw [← hq.out]; omega)
            have hjl : j < p.length := by rw [← hq.out]; exact hjn
            obtain ⟨y, hy⟩ : ∃ y, Hid (p[j]? = some y) := ⟨p[j]'hjl, List.getElem?_eq_getElem hjl⟩
            have hcy : w2.cell? ⟨g, j, none⟩ = some (.int .i64 y) := by rw [HR1.out.cellAt _ (by rw [← hq.out]; omega)]; exact iV_at hy.out
            have hmem : y ∈ p := at_mem hy.out
            have nz : ((q : Int) == 0) = false := by simp; omega
            have np : (0 : Int) < (q : Int) := by omega
            have j1 : (j : Int) < (q : Int) := by omega
            have j2 : (0 : Int) ≤ (j : Int) := by omega
            obtain ⟨id, s, hid, hs, h0⟩ := hI.out.pi y hmem
            subst hid
            have hpc := hI.out.sp s (List.mem_of_getElem? hs)
            have HPC := Lib.hid hpc
            have HS := Lib.hid hs
            have H0 := Lib.hid h0
            clear hs h0 hpc hmem
            have hwr : IntKind.i64.wrap (s.pc + 1) = s.pc + 1 := by have := HPC.out; rw [IntKind.wrap_i64]; omega
            have HWR := Lib.hid hwr
            clear hwr
            go_wp2_with fail
            refine (wake_ls (k := id) (kase := 0) (value := 0) (ok := false) (g := upd s.rg 0 0) S2.out HS.out H0.out.1 (by rw [← hn.out]; omega) HWR.out (fun A c w1 hR => told_out (na := 0) s A c _ 0 false false 0 w1 H0.out.2.1 H0.out.2.2.1 (by omega) (by rw [H0.out.2.2.2]; exact Nat.le_refl _))).mono ?_
            rintro e w3 ⟨rfl, S3'⟩
            have S4 : Hid (LS W t (S.set id (yWake s (upd s.rg 0 0))) (l ++ [(id : Int)]) [rI P c l, rI (some ⟨g, 0, none⟩) d p] w3) := S3'
            clear S3' S2 hcy HR1
            have HR4 : Hid (Rn w3 (some ⟨g, 0, none⟩) q p) := by show Rn _ _ _ _; rw [hq.out]; exact rn_rw (S4.out.ownI (i := 1) rfl)
            go_wp2_with fail
            refine (out_any w3 HR4 (by omega)).mono ?_
            rintro e w5 ⟨v, rfl, ho, hb⟩
            obtain ⟨PF2, cF2, rfl, hnF2, SF2⟩ := S4.out.renew (i := 1) rfl ho hb
            have hlF2 : Hid ((wo p id).length ≤ p.length) := wo_le _ _
            clear ho hb
            have S5 : Hid (LS W t (S.set id (yWake s (upd s.rg 0 0))) (l ++ [(id : Int)]) [rI P c l, rI PF2 cF2 (wo p id)] w5) := SF2
            have hlb : Hid ((wo p id).length ≤ q) := by show _ ≤ _; rw [hq.out]; exact hlF2.out
            obtain ⟨q2, hq2⟩ : ∃ q2, q2 = (wo p id).length := ⟨_, rfl⟩
            have hqF : Hid (q2 = (wo p id).length) := hq2
            have hq2b : q2 ≤ q := by rw [hq2]; exact hlb.out
            have hfe : (p.filter fun y => decide (y ≠ (id : Int))).length = q2 := hq2.symm
            rw [hfe]
            clear SF2 hnF2 hlF2 hlb hq2 hfe S4 HR4
            have HP5 : Hid (Rn w5 P n l) := by show Rn _ _ _ _; rw [hn.out]; exact rn_rw (S5.out.ownI (i := 0) rfl)
            go_wp2_with (first
              | (refine wp_copy (w2 := w5) rfl (.tmp 123) (.tmp 124) rfl w5.heap.size P n c l rfl rfl (heap_alloc_new w5 _) (Nat.le_refl _) (below_al w5 _) HP5.out (by omega) ?_; intro v3 wA ho3 hb3; obtain ⟨P3, c3, rfl⟩ := slice_of ho3; have H3 := Lib.hid (And.intro ho3 hb3); clear ho3 hb3)
              | (refine wp_more (w2 := w5) rfl (.tmp 125) (.tmp 127) rfl (.slice P3 n c3) (some ⟨wA.heap.size, 0, none⟩) n 1 1 l [(id : Int)] rfl rfl (row_later H3.out.1 (below_al wA _)) (H3.out.2.trans ((below_al wA _).mono H3.out.2.size)) (rn_one (heap_alloc_new wA _)) (by omega) (by omega) ?_; intro v4 w4 ho4 hb4; obtain ⟨PF3, cF3, rfl, hnF3, SF3⟩ := S5.out.renew (i := 0) rfl ho4 hb4; clear ho4 hb4 H3))
            have SF : Hid (LS W t (S.set id (yWake s (upd s.rg 0 0))) (l ++ [(id : Int)]) [rI PF3 cF3 (l ++ [(id : Int)]), rI PF2 cF2 (wo p id)] w4) := SF3
            have hnF : Hid (n + 1 = (l ++ [(id : Int)]).length) := hnF3
            have hSF : Hid ((S.set id (yWake s (upd s.rg 0 0))).length = m) := by show _ = _; rw [List.length_set]; exact hSl.out
            have hIF : Hid (LI (k + 1) (S.set id (yWake s (upd s.rg 0 0))) (wo p id)) := hI.out.off (by have := HPC.out; exact ⟨show 0 ≤ s.pc + 1 by omega, show s.pc + 1 ≤ _ by omega⟩)
            clear SF3 hnF3 HP5 S5
            refine (ready_ls SF.out (by rw [← hnF.out]; omega)).mono ?_
            rintro e w8 ⟨A8, c8, rfl, R8, S8⟩
            rw [← hnF.out] at R8 ⊢
            have HR8 : Hid (Rn w8 PF3 (n + 1) (l ++ [(id : Int)])) := by show Rn _ _ _ _; rw [hnF.out]; exact rn_rw (S8.out.ownI (i := 0) rfl)
            clear SF
            go_wp2_with fail
            refine (ints_eq R8.out HR8.out (by omega)).mono ?_
            rintro e w' ⟨rfl, q8, rfl⟩
            have S9 := Lib.hid (S8.out.drewN q8)
            generalize w8.drewN q8 = w9 at *
            clear R8 HR8 S8
            go_wp2_with fail
            go_roundw
            case rel => exact ⟨k + 1, m, (n + 1), q2, PF3, cF3, PF2, cF2, _, (l ++ [(id : Int)]), (wo p id), by omega, rfl, rfl, by go_num, by go_num, hnF, hqF, ⟨by omega, by omega⟩, hSF, hIF, S9⟩
            case measure => simp [intOf]; omega
        · have np : ¬ (0 : Int) < (q : Int) := by omega
          go_wp2_with fail
          have SF := S2
          have hnF := hn
          have hqF := hq
          have hSF := hSl
          have hIF : Hid (LI (k + 1) S p) := hI.out.next
          refine (ready_ls SF.out (by rw [← hnF.out]; omega)).mono ?_
          rintro e w8 ⟨A8, c8, rfl, R8, S8⟩
          rw [← hnF.out] at R8 ⊢
          have HR8 : Hid (Rn w8 P n l) := by show Rn _ _ _ _; rw [hnF.out]; exact rn_rw (S8.out.ownI (i := 0) rfl)
          clear SF
          go_wp2_with fail
          refine (ints_eq R8.out HR8.out (by omega)).mono ?_
          rintro e w' ⟨rfl, q8, rfl⟩
          have S9 := Lib.hid (S8.out.drewN q8)
          generalize w8.drewN q8 = w9 at *
          clear R8 HR8 S8
          go_wp2_with fail
          go_roundw
          case rel => exact ⟨k + 1, m, n, q, P, c, Q, d, _, l, p, by omega, rfl, rfl, by go_num, by go_num, hnF, hqF, ⟨by omega, by omega⟩, hSF, hIF, S9⟩
          case measure => simp [intOf]; omega
      · by_cases h0 : 0 < n
        · obtain ⟨j, hj, hjn⟩ := idx r7 (n := n) (by omega)
          have HR1 : Hid (Rw 0 w2 P c l) := S2.out.ownI (i := 0) rfl
          obtain ⟨g, rfl, hgc⟩ := row_form HR1.out (by rw [← hn.out]; omega)
          have hjl : j < l.length := by rw [← hn.out]; exact hjn
          obtain ⟨y, hy⟩ : ∃ y, Hid (l[j]? = some y) := ⟨l[j]'hjl, List.getElem?_eq_getElem hjl⟩
          have hcy : w2.cell? ⟨g, j, none⟩ = some (.int .i64 y) := by rw [HR1.out.cellAt _ (by rw [← hn.out]; omega)]; exact iV_at hy.out
          have hmem : y ∈ l := at_mem hy.out
          have nz : ((n : Int) == 0) = false := by simp; omega
          have np : (0 : Int) < (n : Int) := by omega
          have j1 : (j : Int) < (n : Int) := by omega
          have j2 : (0 : Int) ≤ (j : Int) := by omega
          obtain ⟨id, s, hid, hs, h0⟩ := S2.out.ids.1 y hmem
          subst hid
          have hpc := hI.out.sp s (List.mem_of_getElem? hs)
          have HPC := Lib.hid hpc
          have HS := Lib.hid hs
          have H0 := Lib.hid h0
          clear hs h0 hpc hmem
          go_wp2_with fail
          refine (end_ls (k := id) (how := 0) S2.out HS.out (by rw [H0.out]; decide) (by rw [← hn.out]; omega)).mono ?_
          rintro e w3 ⟨rfl, S3'⟩
          have S4 : Hid (LS W t (S.set id (yEnd s 0)) (wo l id) [rI (some ⟨g, 0, none⟩) c l, rI Q d p] w3) := S3'
          clear S3' S2 hcy HR1
          have HR4 : Hid (Rn w3 (some ⟨g, 0, none⟩) n l) := by show Rn _ _ _ _; rw [hn.out]; exact rn_rw (S4.out.ownI (i := 0) rfl)
          go_wp2_with fail
          refine (out_any w3 HR4 (by omega)).mono ?_
          rintro e w5 ⟨v, rfl, ho, hb⟩
          obtain ⟨PF2, cF2, rfl, hnF2, SF2⟩ := S4.out.renew (i := 0) rfl ho hb
          have hlF2 : Hid ((wo l id).length ≤ l.length) := wo_le _ _
          clear ho hb
          have SF : Hid (LS W t (S.set id (yEnd s 0)) (wo l id) [rI PF2 cF2 (wo l id), rI Q d p] w5) := SF2
          have hlb : Hid ((wo l id).length ≤ n) := by show _ ≤ _; rw [hn.out]; exact hlF2.out
          obtain ⟨n2, hn2⟩ : ∃ n2, n2 = (wo l id).length := ⟨_, rfl⟩
          have hnF : Hid (n2 = (wo l id).length) := hn2
          have hn2b : n2 ≤ n := by rw [hn2]; exact hlb.out
          have hfe : (l.filter fun y => decide (y ≠ (id : Int))).length = n2 := hn2.symm
          rw [hfe]
          have hqF := hq
          have hSF : Hid ((S.set id (yEnd s 0)).length = m) := by show _ = _; rw [List.length_set]; exact hSl.out
          have hIF : Hid (LI (k + 1) (S.set id (yEnd s 0)) p) := hI.out.keep HS.out H0.out (by have := HPC.out; exact ⟨this.1, by have := this.2; show s.pc ≤ _; omega⟩)
          clear SF2 hnF2 hlF2 hlb hn2 hfe S4 HR4
          go_wp2_with fail
          refine (ready_ls SF.out (by rw [← hnF.out]; omega)).mono ?_
          rintro e w8 ⟨A8, c8, rfl, R8, S8⟩
          rw [← hnF.out] at R8 ⊢
          have HR8 : Hid (Rn w8 PF2 n2 (wo l id)) := by show Rn _ _ _ _; rw [hnF.out]; exact rn_rw (S8.out.ownI (i := 0) rfl)
          clear SF
          go_wp2_with fail
          refine (ints_eq R8.out HR8.out (by omega)).mono ?_
          rintro e w' ⟨rfl, q8, rfl⟩
          have S9 := Lib.hid (S8.out.drewN q8)
          generalize w8.drewN q8 = w9 at *
          clear R8 HR8 S8
          go_wp2_with fail
          go_roundw
          case rel => exact ⟨k + 1, m, n2, q, PF2, cF2, Q, d, _, (wo l id), p, by omega, rfl, rfl, by go_num, by go_num, hnF, hqF, ⟨by omega, by omega⟩, hSF, hIF, S9⟩
          case measure => simp [intOf]; omega
        · have np : ¬ (0 : Int) < (n : Int) := by omega
          go_wp2_with fail
          have SF := S2
          have hnF := hn
          have hqF := hq
          have hSF := hSl
          have hIF : Hid (LI (k + 1) S p) := hI.out.next
          refine (ready_ls SF.out (by rw [← hnF.out]; omega)).mono ?_
          rintro e w8 ⟨A8, c8, rfl, R8, S8⟩
          rw [← hnF.out] at R8 ⊢
          have HR8 : Hid (Rn w8 P n l) := by show Rn _ _ _ _; rw [hnF.out]; exact rn_rw (S8.out.ownI (i := 0) rfl)
          clear SF
          go_wp2_with fail
          refine (ints_eq R8.out HR8.out (by omega)).mono ?_
          rintro e w' ⟨rfl, q8, rfl⟩
          have S9 := Lib.hid (S8.out.drewN q8)
          generalize w8.drewN q8 = w9 at *
          clear R8 HR8 S8
          go_wp2_with fail
          go_roundw
          case rel => exact ⟨k + 1, m, n, q, P, c, Q, d, _, l, p, by omega, rfl, rfl, by go_num, by go_num, hnF, hqF, ⟨by omega, by omega⟩, hSF, hIF, S9⟩
          case measure => simp [intOf]; omega
    · have hlc : ¬ (k : Int) < (len : Int) := by omega
      go_wp2_with fail
      refine (awake_any wr (S2.out.ft hF.out)).mono ?_
      rintro e w3 ⟨rfl, b3⟩
      have HB := Lib.hid (S2.out.later b3).bel
      go_wp2_with fail
      go_ret
      exact ⟨rfl, HB.out⟩
theorem line_walk (A : Option Addr) (len cap : Nat) (zs : List Int) (W : World) (hF : Hid (Pg.FT W)) (hZ : Hid (Rn W A len zs)) : Calls Tryd.prog 3 #[.slice A len cap] W (BoolR true W) := by
  by_cases h : 120 < len
  · exact line_out A len cap W hF h
  · exact line_in A len cap zs W hF hZ (by omega)
end Go.Proofs.YthiifnbgdajgaaaDoor
