/- The law ProgOne, walked. Conditions: the table lies in its variable; the instructions lie where the slice says. -/
import Derived.Test.YtifmamobhkgmfaaDoorOnA
namespace Go.Proofs.YtifmamobhkgmfaaDoor
open Go.RowKit
set_option linter.unusedVariables false

theorem all_one {w : World} {A : Option Addr} {n cap : Nat} {l : List In} (hF : FT w) (hP : Pr.At w ⟨A, n, cap, l⟩) (h : checkB l 16 = false) (N : Nat) (hN : N = w.heap.size) :
    Calls Tryd.prog 10 #[.slice (some ⟨N, 0, none⟩) 1 1] (w.alloc (.cells #[.slice A n cap] 29)) (fun e w' => e = .returned (.int .i64 1) ∧ Below w.heap.size w w') :=
  All_new hF [⟨A, n, cap, l⟩] 1 _ rfl rfl (fun e he => by simp only [List.mem_cons, List.not_mem_nil, or_false] at he; subst he; exact hP) false (all_one_no h) 1 rfl N hN
set_option maxRecDepth 100000 in
set_option maxHeartbeats 4000000 in
theorem one_any (A : Option Addr) (n cap : Nat) (at_ : Int) (l : List In) (W : World) (hF : Hid (FT W)) (hP : Hid (Pr.At W ⟨A, n, cap, l⟩)) : Calls Tryd.prog 4 #[.slice A n cap, .int .i64 at_] W (BoolR true W) := by
  have HB0 := Lib.hid (below_al W (.cells #[.slice A n cap] 29))
  have HP0 : Hid (RdP (W.alloc (.cells #[.slice A n cap] 29)) (some ⟨W.heap.size, 0, none⟩) 1 [⟨A, n, cap, l⟩]) := RdP.new W [⟨A, n, cap, l⟩] 1 _ 29 rfl rfl (fun e he => by simp only [List.mem_cons, List.not_mem_nil, or_false] at he; subst he; exact hP.out)
  have HS0 : Hid (OnS W (W.alloc (.cells #[.slice A n cap] 29)) A n l) := ⟨HB0.out, hF.out.later HB0.out, hP.out.2.2.later HB0.out⟩
  have hcap1 := hP.out.1
  have hcap2 := hP.out.2.1
  simp only at hcap1 hcap2
  go_enter Tryd.func4, Tryd.ntmps4
  go_wp2_with fail
  refine (aProgs_any _ 1 1 _ _ HP0 (by omega)).mono ?_
  rintro e w1 ⟨⟨b, rfl, hb⟩, rfl⟩
  have HSm := Lib.hid hb
  clear hb HP0
  generalize hw1 : W.alloc (.cells #[.slice A n cap] 29) = w1 at *
  clear hw1
  cases b with
  | false =>
    go_wp2_with fail
    refine (awake_any _ HS0.out.ft).mono ?_
    rintro e w2 ⟨rfl, hb⟩
    have HB := Lib.hid (HS0.out.bel.trans (hb.mono HS0.out.bel.size))
    clear hb
    go_wp2_with fail
    go_ret
    exact ⟨rfl, HB.out⟩
  | true =>
    have h60 : n ≤ 60 := ((HSm.out rfl).2 _ (List.mem_singleton.2 rfl)).1
    clear HSm
    by_cases h0 : n = 0
    · subst h0
      go_wp2_with fail
      refine (awake_any _ HS0.out.ft).mono ?_
      rintro e w2 ⟨rfl, hb⟩
      have HB := Lib.hid (HS0.out.bel.trans (hb.mono HS0.out.bel.size))
      clear hb
      go_wp2_with fail
      go_ret
      exact ⟨rfl, HB.out⟩
    · have g0 : ((n : Int) == 0) = false := by simp; omega
      have hpos : 0 < n := by omega
      clear h0
      cases hc : checkB l 16 with
      | false =>
        have HC := Lib.hid hc
        clear hc
        go_wp2_with fail
        refine (Check_no HS0.out.ft HS0.out.rd HC.out).mono ?_
        rintro e w2 ⟨rfl, hb⟩
        have HS1 := Lib.hid (HS0.out.later hb)
        clear hb
        go_wp2_with fail
        refine (all_one HS1.out.ft ⟨hcap1, hcap2, HS1.out.rd⟩ HC.out _ rfl).mono ?_
        rintro e w3 ⟨rfl, hb⟩
        have HS2 := Lib.hid (HS1.out.later hb)
        clear hb
        go_wp2_with fail
        refine (awake_any _ HS2.out.ft).mono ?_
        rintro e w4 ⟨rfl, hb⟩
        have HB := Lib.hid (HS2.out.bel.trans (hb.mono HS2.out.bel.size))
        clear hb
        go_wp2_with fail
        go_ret
        exact ⟨rfl, HB.out⟩
      | true =>
        have HC := Lib.hid hc
        clear hc
        go_wp2_with fail
        refine (Check_yes HS0.out.ft HS0.out.rd HC.out).mono ?_
        rintro e w2 ⟨rfl, hb⟩
        have HS1 := Lib.hid (HS0.out.later hb)
        clear hb HS0
        go_wp2_with fail
        refine (round_any at_ n hpos (by omega) w2).mono ?_
        rintro e w3 ⟨⟨r, hr, rfl⟩, rfl⟩
        obtain ⟨i36, hi, hz0, hz1, hz2⟩ := info_parts Tryd.inf36
        obtain ⟨b0, o0, rfl, hb0, hcell⟩ := HS1.out.rd.cells hpos
        have hrl : r < l.length := by rw [HS1.out.rd.1]; exact hr
        obtain ⟨c0, c1, c2, c3, c4, c5⟩ := hcell r (l[r]'hrl) (List.getElem?_eq_getElem hrl)
        have HX : Hid (l[r]? = some (l[r]'hrl)) := List.getElem?_eq_getElem hrl
        have HMX : Hid (mayB n 16 (l[r]'hrl) = true) := by have h := check_mem HC.out (List.getElem_mem hrl); rw [HS1.out.rd.1] at h; exact h
        generalize l[r]'hrl = x at *
        obtain ⟨op, a, b, c, xA, xn, xc, xd, xs⟩ := x
        simp only at c0 c1 c2 c3 c4 c5
        have HLn : Hid (l.length = n) := HS1.out.rd.1
        have HSx : Hid (OnS W (w2.alloc (.cells #[.int .i64 op, .int .i64 a, .int .i64 b, .int .i64 c, .slice xA xn xc, .bool xd] 36)) (some ⟨b0, o0, none⟩) n l) := HS1.out.later (below_al _ _)
        have hE1 := own_empty (w2.alloc (.cells #[.int .i64 op, .int .i64 a, .int .i64 b, .int .i64 c, .slice xA xn xc, .bool xd] 36)) 36 6 (w2.heap.size + 1) (w2.heap.size + 1) (by simp) (by simp)
        have HR1 := Lib.hid (HSx.out.rd.later (below_al _ (.cells #[] 36))).2.1
        have HQ2 : Hid (checkB (l.set r ⟨33, a, b, c, xA, xn, xc, xd, xs⟩) 16 = false) := check_set_no (by rw [HLn.out]; exact hr) (none_no _ _ _ _ _ _ _ _ _ _ (by omega))
        have HQ3 : Hid (checkB (l.set r ⟨0, a, b, c, xA, xn, xc, xd, xs⟩) 16 = false) := check_set_no (by rw [HLn.out]; exact hr) (none_no _ _ _ _ _ _ _ _ _ _ (by omega))
        have HQ4 : Hid (checkB (l ++ [pl 7 0 0]) 16 = true) := check_snoc HC.out (by rw [HLn.out]; omega)
        clear hcell hrl HS1
        by_cases h4 : op = 4
        · subst h4
          have HQ1 : Hid (checkB (l.set r ⟨4, (n : Int) + 1, b, c, xA, xn, xc, xd, xs⟩) 16 = false) := check_set_no (by rw [HLn.out]; exact hr) (by rw [HLn.out]; exact odd_no HMX.out _ (.inl ⟨rfl, by omega⟩))
          go_wp2_with (first | (at_builtin; go_loud (refine app_wp rfl (.tmp 38) (.tmp 39) 29 rfl (w2.heap.size + 1) 36 6 64 i36 (.agg #[.int .i64 0, .int .i64 0, .int .i64 0, .int .i64 0, .slice none 0 0, .bool false]) Tryd.underlying29 hi hz0 hz1 hz2 rfl (by decide) _ 0 [] rfl hE1 _ (some ⟨b0, o0, none⟩) n cap _ rfl HR1.out (flI_one _) (by unfold maxLen; omega) (by omega) (by simp) ?_; intro v3 w3 ho3 hg3; obtain ⟨g1, k1, rfl, hk1a, hk1b, hlo1, hlt1, hbl1, hrow1⟩ := cp_of hpos (by simp) ho3 hg3; obtain ⟨⟨y1, hy1⟩, hf1, hbs1, hrs1⟩ := st_of (j := 1) (q := r * 6 + 1) (u := .int .i64 8) (e' := ⟨4, 8, b, c, xA, xn, xc, xd, xs⟩) hrow1 (by simpa using hlo1) hbl1 HX.out (by omega) rfl rfl HLn.out; obtain ⟨⟨y1b, hy1b⟩, hf1b, hbs1b, hrs1b⟩ := st_of (j := 1) (q := r * 6 + 1) (u := .int .i64 ((n : Int) + 1)) (x := ⟨4, 8, b, c, xA, xn, xc, xd, xs⟩) (e' := ⟨4, (n : Int) + 1, b, c, xA, xn, xc, xd, xs⟩) hrs1 (by simpa using hlo1) hbs1 (List.getElem?_set_self (by rw [HLn.out]; exact hr)) (by omega) rfl rfl (by rw [List.length_set]; exact HLn.out); rw [List.set_set] at hrs1b; have HS2 := Lib.hid (HSx.out.later hbs1b); have HO2 := Lib.hid (RdI.of_row hrs1b (by rw [List.length_set]; exact HLn.out) (At_set HX.out HS2.out.rd.2.2 (fun h => h))); have ox : w3.cell? ⟨w2.heap.size, 0, none⟩ = some (.int .i64 4) := (cell_blk (hbl1.block _ (by simp)) 0).trans (by simp); have hng : w2.heap.size < g1 := (by omega); have hn3 : w2.heap.size < w3.heap.size := (by omega); have hE2 := own_empty ((w3.setCell ⟨g1, r * 6 + 1, none⟩ (.int .i64 8)).setCell ⟨g1, r * 6 + 1, none⟩ (.int .i64 ((n : Int) + 1))) 36 6 w3.heap.size w3.heap.size (by simp [World.setCell]) (by simp [World.setCell]); have HR2 := Lib.hid (HS2.out.rd.later (below_al _ (.cells #[] 36))).2.1; clear ho3 hg3 hbl1 hrow1 hbs1 hrs1 hbs1b hrs1b hE1 HR1 c0 c1 c2 c3 c4 c5 HSx)) | (at_builtin; go_loud (refine app_wp rfl (.tmp 55) (.tmp 56) 29 rfl w3.heap.size 36 6 64 i36 (.agg #[.int .i64 0, .int .i64 0, .int .i64 0, .int .i64 0, .slice none 0 0, .bool false]) Tryd.underlying29 hi hz0 hz1 hz2 rfl (by decide) _ 0 [] rfl hE2 _ (some ⟨b0, o0, none⟩) n cap _ rfl HR2.out (flI_one _) (by unfold maxLen; omega) (by omega) (by simp [World.setCell]) ?_; intro v4 w4 ho4 hg4; obtain ⟨g2, k2, rfl, hk2a, hk2b, hlo2, hlt2, hbl2, hrow2⟩ := cp_of hpos (by simp [World.setCell]) ho4 hg4; obtain ⟨⟨y2, hy2⟩, hf2, hbs2, hrs2⟩ := st_of (j := 0) (q := r * 6) (u := .int .i64 33) (e' := ⟨33, a, b, c, xA, xn, xc, xd, xs⟩) hrow2 (by simpa [World.setCell] using hlo2) hbl2 HX.out (by omega) rfl rfl HLn.out; have HS3 := Lib.hid (HS2.out.later hbs2); have HO3 := Lib.hid (HO2.out.later hbs2); have HM3 := Lib.hid (RdI.of_row hrs2 (by rw [List.length_set]; exact HLn.out) (At_set HX.out HS3.out.rd.2.2 (fun h => h))); have hE3 := own_empty (w4.setCell ⟨g2, r * 6, none⟩ (.int .i64 33)) 36 6 w4.heap.size w4.heap.size (by simp [World.setCell]) (by simp [World.setCell]); have HR3 := Lib.hid (HS3.out.rd.later (below_al _ (.cells #[] 36))).2.1; clear hy1b hf1b ho4 hg4 hbl2 hrow2 hbs2 hrs2 hE2 HR2 HS2 HO2 ox hy1 hf1)) | (at_builtin; go_loud (refine app_wp rfl (.tmp 62) (.tmp 63) 29 rfl w4.heap.size 36 6 64 i36 (.agg #[.int .i64 0, .int .i64 0, .int .i64 0, .int .i64 0, .slice none 0 0, .bool false]) Tryd.underlying29 hi hz0 hz1 hz2 rfl (by decide) _ 0 [] rfl hE3 _ (some ⟨b0, o0, none⟩) n cap _ rfl HR3.out (flI_one _) (by unfold maxLen; omega) (by omega) (by simp [World.setCell]) ?_; intro v5 w5 ho5 hg5; obtain ⟨g3, k3, rfl, hk3a, hk3b, hlo3, hlt3, hbl3, hrow3⟩ := cp_of hpos (by simp [World.setCell]) ho5 hg5; obtain ⟨⟨y3, hy3⟩, hf3, hbs3, hrs3⟩ := st_of (j := 0) (q := r * 6) (u := .int .i64 0) (e' := ⟨0, a, b, c, xA, xn, xc, xd, xs⟩) hrow3 (by simpa [World.setCell] using hlo3) hbl3 HX.out (by omega) rfl rfl HLn.out; have HS4 := Lib.hid (HS3.out.later hbs3); have HO4 := Lib.hid (HO3.out.later hbs3); have HM4 := Lib.hid (HM3.out.later hbs3); have HN4 := Lib.hid (RdI.of_row hrs3 (by rw [List.length_set]; exact HLn.out) (At_set HX.out HS4.out.rd.2.2 (fun h => h))); clear ho5 hg5 hbl3 hrow3 hbs3 hrs3 hE3 HR3 HS3 HO3 HM3 hy2 hf2)))
          clear hy3 hf3
          generalize w5.setCell ⟨g3, r * 6, none⟩ (.int .i64 0) = w6 at *
          refine (Check_no HS4.out.ft HO4.out HQ1.out).mono ?_
          rintro e w7 ⟨rfl, hb⟩
          have HS5 := Lib.hid (HS4.out.later hb)
          have HM5 := Lib.hid (HM4.out.later hb)
          have HN5 := Lib.hid (HN4.out.later hb)
          clear hb HS4 HO4 HM4 HN4
          go_wp2_with fail
          refine (Check_no HS5.out.ft HM5.out HQ2.out).mono ?_
          rintro e w8 ⟨rfl, hb⟩
          have HS6 := Lib.hid (HS5.out.later hb)
          have HN6 := Lib.hid (HN5.out.later hb)
          clear hb HS5 HM5 HN5
          go_wp2_with fail
          refine (Check_no HS6.out.ft HN6.out HQ3.out).mono ?_
          rintro e w9 ⟨rfl, hb⟩
          have HS7 := Lib.hid (HS6.out.later hb)
          clear hb HS6 HN6
          have hE4 := own_empty w9 36 6 w9.heap.size w9.heap.size rfl (Nat.le_refl _)
          have HR4 := Lib.hid (HS7.out.rd.later (below_al _ (.cells #[] 36))).2.1
          go_wp2_with (first | (at_builtin; go_loud (refine app_want rfl (.tmp 83) (.tmp 84) 29 rfl w9.heap.size 36 6 64 i36 (.agg #[.int .i64 0, .int .i64 0, .int .i64 0, .int .i64 0, .slice none 0 0, .bool false]) Tryd.underlying29 hi hz0 hz1 hz2 rfl (by decide) _ 0 [] rfl hE4 _ (some ⟨b0, o0, none⟩) n cap _ rfl HR4.out (flI_one _) (by unfold maxLen; omega) (by omega) (by simp) ?_; intro v10 w10 ho10 hg10; have HB10 := Lib.hid (below_app (below_al w9 (.cells #[] 36)) (Nat.le_refl _) (by simp) hE4 hg10); have HO10 := Lib.hid ho10; have hs10 := HB10.out.size; clear hE4 HR4 ho10 hg10)) | (at_builtin; go_loud (refine app_want rfl (.tmp 85) (.tmp 87) 29 rfl w9.heap.size 36 6 64 i36 (.agg #[.int .i64 0, .int .i64 0, .int .i64 0, .int .i64 0, .slice none 0 0, .bool false]) Tryd.underlying29 hi hz0 hz1 hz2 rfl (by decide) v10 _ _ rfl (HO10.out.alloc _) _ (some ⟨w10.heap.size, 0, none⟩) 1 1 _ rfl (Rd.new w10 #[.int .i64 7, .int .i64 0, .int .i64 0, .int .i64 0, .slice none 0 0, .bool false] 1 6 36 rfl) (iV_one (pl 7 0 0)) (by unfold maxLen; omega) (by omega) (by simp; omega) ?_; intro v11 w11 ho11 hg11; have HB11 := Lib.hid (below_app (HB10.out.trans ((below_al w10 (.cells #[.int .i64 7, .int .i64 0, .int .i64 0, .int .i64 0, .slice none 0 0, .bool false] 36)).mono hs10)) (Nat.le_refl _) (by simp; omega) (HO10.out.alloc _) hg11); have HO11 := Lib.hid ho11; clear ho11 hg11)))
          have HS8 := Lib.hid (HS7.out.later HB11.out)
          have hrow := HO11.out
          obtain ⟨A5, k5, rfl, hk5a, hk5b⟩ := own_cap hrow
          have HL8 : Hid (RdI w11 A5 (0 + n + 1) (l ++ [pl 7 0 0])) := by
            refine ⟨by rw [List.length_append, HLn.out]; simp, ?_, fun e he => ?_⟩
            · have h := Rd.of_own hrow
              rw [List.nil_append] at h
              rw [List.flatMap_append]
              exact h
            · rcases List.mem_append.1 he with he | he
              · exact HS8.out.rd.2.2 e he
              · simp only [List.mem_cons, List.not_mem_nil, or_false] at he
                subst he; exact At_pl _ _ _ _
          clear hrow
          refine (Check_yes HS8.out.ft HL8.out HQ4.out).mono ?_
          rintro e w12 ⟨rfl, hb⟩
          have HS9 := Lib.hid (HS8.out.later hb)
          clear hb HS8 HL8 HO11 HB11 HB10
          go_wp2_with fail
          refine (awake_any _ HS9.out.ft).mono ?_
          rintro e w13 ⟨rfl, hb⟩
          have HB := Lib.hid (HS9.out.bel.trans (hb.mono HS9.out.bel.size))
          clear hb
          go_wp2_with fail
          go_ret
          exact ⟨rfl, HB.out⟩
        · have g4 : (op == 4) = false := by simpa using h4
          have H4 := Lib.hid h4
          clear h4
          have HQ1 : Hid (checkB (l.set r ⟨op, 8, b, c, xA, xn, xc, xd, xs⟩) 16 = false) := check_set_no (by rw [HLn.out]; exact hr) (by rw [HLn.out]; exact odd_no HMX.out 8 (.inr ⟨H4.out, rfl⟩))
          go_wp2_with (first | (at_builtin; go_loud (refine app_wp rfl (.tmp 38) (.tmp 39) 29 rfl (w2.heap.size + 1) 36 6 64 i36 (.agg #[.int .i64 0, .int .i64 0, .int .i64 0, .int .i64 0, .slice none 0 0, .bool false]) Tryd.underlying29 hi hz0 hz1 hz2 rfl (by decide) _ 0 [] rfl hE1 _ (some ⟨b0, o0, none⟩) n cap _ rfl HR1.out (flI_one _) (by unfold maxLen; omega) (by omega) (by simp) ?_; intro v3 w3 ho3 hg3; obtain ⟨g1, k1, rfl, hk1a, hk1b, hlo1, hlt1, hbl1, hrow1⟩ := cp_of hpos (by simp) ho3 hg3; obtain ⟨⟨y1, hy1⟩, hf1, hbs1, hrs1⟩ := st_of (j := 1) (q := r * 6 + 1) (u := .int .i64 8) (e' := ⟨op, 8, b, c, xA, xn, xc, xd, xs⟩) hrow1 (by simpa using hlo1) hbl1 HX.out (by omega) rfl rfl HLn.out; have HS2 := Lib.hid (HSx.out.later hbs1); have HO2 := Lib.hid (RdI.of_row hrs1 (by rw [List.length_set]; exact HLn.out) (At_set HX.out HS2.out.rd.2.2 (fun h => h))); have ox : w3.cell? ⟨w2.heap.size, 0, none⟩ = some (.int .i64 op) := (cell_blk (hbl1.block _ (by simp)) 0).trans (by simp); have hng : w2.heap.size < g1 := (by omega); have hn3 : w2.heap.size < w3.heap.size := (by omega); have hE2 := own_empty (w3.setCell ⟨g1, r * 6 + 1, none⟩ (.int .i64 8)) 36 6 w3.heap.size w3.heap.size (by simp [World.setCell]) (by simp [World.setCell]); have HR2 := Lib.hid (HS2.out.rd.later (below_al _ (.cells #[] 36))).2.1; clear ho3 hg3 hbl1 hrow1 hbs1 hrs1 hE1 HR1 c0 c1 c2 c3 c4 c5 HSx)) | (at_builtin; go_loud (refine app_wp rfl (.tmp 55) (.tmp 56) 29 rfl w3.heap.size 36 6 64 i36 (.agg #[.int .i64 0, .int .i64 0, .int .i64 0, .int .i64 0, .slice none 0 0, .bool false]) Tryd.underlying29 hi hz0 hz1 hz2 rfl (by decide) _ 0 [] rfl hE2 _ (some ⟨b0, o0, none⟩) n cap _ rfl HR2.out (flI_one _) (by unfold maxLen; omega) (by omega) (by simp [World.setCell]) ?_; intro v4 w4 ho4 hg4; obtain ⟨g2, k2, rfl, hk2a, hk2b, hlo2, hlt2, hbl2, hrow2⟩ := cp_of hpos (by simp [World.setCell]) ho4 hg4; obtain ⟨⟨y2, hy2⟩, hf2, hbs2, hrs2⟩ := st_of (j := 0) (q := r * 6) (u := .int .i64 33) (e' := ⟨33, a, b, c, xA, xn, xc, xd, xs⟩) hrow2 (by simpa [World.setCell] using hlo2) hbl2 HX.out (by omega) rfl rfl HLn.out; have HS3 := Lib.hid (HS2.out.later hbs2); have HO3 := Lib.hid (HO2.out.later hbs2); have HM3 := Lib.hid (RdI.of_row hrs2 (by rw [List.length_set]; exact HLn.out) (At_set HX.out HS3.out.rd.2.2 (fun h => h))); have hE3 := own_empty (w4.setCell ⟨g2, r * 6, none⟩ (.int .i64 33)) 36 6 w4.heap.size w4.heap.size (by simp [World.setCell]) (by simp [World.setCell]); have HR3 := Lib.hid (HS3.out.rd.later (below_al _ (.cells #[] 36))).2.1; clear ho4 hg4 hbl2 hrow2 hbs2 hrs2 hE2 HR2 HS2 HO2 ox hy1 hf1)) | (at_builtin; go_loud (refine app_wp rfl (.tmp 62) (.tmp 63) 29 rfl w4.heap.size 36 6 64 i36 (.agg #[.int .i64 0, .int .i64 0, .int .i64 0, .int .i64 0, .slice none 0 0, .bool false]) Tryd.underlying29 hi hz0 hz1 hz2 rfl (by decide) _ 0 [] rfl hE3 _ (some ⟨b0, o0, none⟩) n cap _ rfl HR3.out (flI_one _) (by unfold maxLen; omega) (by omega) (by simp [World.setCell]) ?_; intro v5 w5 ho5 hg5; obtain ⟨g3, k3, rfl, hk3a, hk3b, hlo3, hlt3, hbl3, hrow3⟩ := cp_of hpos (by simp [World.setCell]) ho5 hg5; obtain ⟨⟨y3, hy3⟩, hf3, hbs3, hrs3⟩ := st_of (j := 0) (q := r * 6) (u := .int .i64 0) (e' := ⟨0, a, b, c, xA, xn, xc, xd, xs⟩) hrow3 (by simpa [World.setCell] using hlo3) hbl3 HX.out (by omega) rfl rfl HLn.out; have HS4 := Lib.hid (HS3.out.later hbs3); have HO4 := Lib.hid (HO3.out.later hbs3); have HM4 := Lib.hid (HM3.out.later hbs3); have HN4 := Lib.hid (RdI.of_row hrs3 (by rw [List.length_set]; exact HLn.out) (At_set HX.out HS4.out.rd.2.2 (fun h => h))); clear ho5 hg5 hbl3 hrow3 hbs3 hrs3 hE3 HR3 HS3 HO3 HM3 hy2 hf2)))
          clear hy3 hf3
          generalize w5.setCell ⟨g3, r * 6, none⟩ (.int .i64 0) = w6 at *
          refine (Check_no HS4.out.ft HO4.out HQ1.out).mono ?_
          rintro e w7 ⟨rfl, hb⟩
          have HS5 := Lib.hid (HS4.out.later hb)
          have HM5 := Lib.hid (HM4.out.later hb)
          have HN5 := Lib.hid (HN4.out.later hb)
          clear hb HS4 HO4 HM4 HN4
          go_wp2_with fail
          refine (Check_no HS5.out.ft HM5.out HQ2.out).mono ?_
          rintro e w8 ⟨rfl, hb⟩
          have HS6 := Lib.hid (HS5.out.later hb)
          have HN6 := Lib.hid (HN5.out.later hb)
          clear hb HS5 HM5 HN5
          go_wp2_with fail
          refine (Check_no HS6.out.ft HN6.out HQ3.out).mono ?_
          rintro e w9 ⟨rfl, hb⟩
          have HS7 := Lib.hid (HS6.out.later hb)
          clear hb HS6 HN6
          have hE4 := own_empty w9 36 6 w9.heap.size w9.heap.size rfl (Nat.le_refl _)
          have HR4 := Lib.hid (HS7.out.rd.later (below_al _ (.cells #[] 36))).2.1
          go_wp2_with (first | (at_builtin; go_loud (refine app_want rfl (.tmp 83) (.tmp 84) 29 rfl w9.heap.size 36 6 64 i36 (.agg #[.int .i64 0, .int .i64 0, .int .i64 0, .int .i64 0, .slice none 0 0, .bool false]) Tryd.underlying29 hi hz0 hz1 hz2 rfl (by decide) _ 0 [] rfl hE4 _ (some ⟨b0, o0, none⟩) n cap _ rfl HR4.out (flI_one _) (by unfold maxLen; omega) (by omega) (by simp) ?_; intro v10 w10 ho10 hg10; have HB10 := Lib.hid (below_app (below_al w9 (.cells #[] 36)) (Nat.le_refl _) (by simp) hE4 hg10); have HO10 := Lib.hid ho10; have hs10 := HB10.out.size; clear hE4 HR4 ho10 hg10)) | (at_builtin; go_loud (refine app_want rfl (.tmp 85) (.tmp 87) 29 rfl w9.heap.size 36 6 64 i36 (.agg #[.int .i64 0, .int .i64 0, .int .i64 0, .int .i64 0, .slice none 0 0, .bool false]) Tryd.underlying29 hi hz0 hz1 hz2 rfl (by decide) v10 _ _ rfl (HO10.out.alloc _) _ (some ⟨w10.heap.size, 0, none⟩) 1 1 _ rfl (Rd.new w10 #[.int .i64 7, .int .i64 0, .int .i64 0, .int .i64 0, .slice none 0 0, .bool false] 1 6 36 rfl) (iV_one (pl 7 0 0)) (by unfold maxLen; omega) (by omega) (by simp; omega) ?_; intro v11 w11 ho11 hg11; have HB11 := Lib.hid (below_app (HB10.out.trans ((below_al w10 (.cells #[.int .i64 7, .int .i64 0, .int .i64 0, .int .i64 0, .slice none 0 0, .bool false] 36)).mono hs10)) (Nat.le_refl _) (by simp; omega) (HO10.out.alloc _) hg11); have HO11 := Lib.hid ho11; clear ho11 hg11)))
          have HS8 := Lib.hid (HS7.out.later HB11.out)
          have hrow := HO11.out
          obtain ⟨A5, k5, rfl, hk5a, hk5b⟩ := own_cap hrow
          have HL8 : Hid (RdI w11 A5 (0 + n + 1) (l ++ [pl 7 0 0])) := by
            refine ⟨by rw [List.length_append, HLn.out]; simp, ?_, fun e he => ?_⟩
            · have h := Rd.of_own hrow
              rw [List.nil_append] at h
              rw [List.flatMap_append]
              exact h
            · rcases List.mem_append.1 he with he | he
              · exact HS8.out.rd.2.2 e he
              · simp only [List.mem_cons, List.not_mem_nil, or_false] at he
                subst he; exact At_pl _ _ _ _
          clear hrow
          refine (Check_yes HS8.out.ft HL8.out HQ4.out).mono ?_
          rintro e w12 ⟨rfl, hb⟩
          have HS9 := Lib.hid (HS8.out.later hb)
          clear hb HS8 HL8 HO11 HB11 HB10
          go_wp2_with fail
          refine (awake_any _ HS9.out.ft).mono ?_
          rintro e w13 ⟨rfl, hb⟩
          have HB := Lib.hid (HS9.out.bel.trans (hb.mono HS9.out.bel.size))
          clear hb
          go_wp2_with fail
          go_ret
          exact ⟨rfl, HB.out⟩
end Go.Proofs.YtifmamobhkgmfaaDoor
