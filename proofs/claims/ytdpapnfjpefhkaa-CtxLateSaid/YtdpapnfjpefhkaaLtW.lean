/- CtxLate walked: a context of one that is done is done at once, with the same error and cause, and its channel is closed; a deadline that is over is over at once. No condition. -/
import Derived.Test.YtdpapnfjpefhkaaAwpm
namespace Go.Proofs.Ytdpapnfjpefhkaa
open Go.RowKit Tr
set_option linter.unusedVariables false
set_option maxRecDepth 100000

def B1 (c : Nat) (cause : Int) : St := ⟨[(-1, false), (0, false)], [⟨false, 0⟩, ⟨false, 1⟩], [bg, ended (X1 c) 1 cause], [], [], 0, []⟩
theorem walk_A1 (c : Nat) : Tr.walk (A1 c).T (X1 c).nd = [1] := by
  show Tr.walk (A1 0).T 1 = _
  rw [walk_eq, show Tr.kids (A1 0).T 1 = [] from by decide]
  rfl
theorem B1_eq (c : Nat) (cause : Int) : cnS (A1 c) (X1 c) 1 cause = (B1 c cause, [(1, [])], []) := by
  unfold cnS
  rw [if_neg (by show ¬ ((0 : Int) ≠ 0); decide), walk_A1]
  rfl
/-- n behind the first one are done; the last one has this cause. -/
structure LT (s : St) (cause : Int) (n : Nat) : Prop where
  len : s.C.length = n + 2
  bg : s.C[0]? = some bg
  last : ∃ x, s.C[n + 1]? = some x ∧ x.er = 1 ∧ x.cs = cause
theorem LT.next {s : St} {cause : Int} {n c : Nat} {y : Cx} (h : LT s cause n) (hy : s.C[n + 1]? = some y) : ∃ x, (mkC s (nx0 c y.wh y.has false) y).C[n + 2]? = some x ∧ x.ch = some c ∧ x.cl = true ∧ x.er = 1 ∧ x.cs = cause ∧ LT (mkC s (nx0 c y.wh y.has false) y) cause (n + 1) ∧ mkL s y = [(n + 2, [])] := by
  obtain ⟨x, h1, h2, h3⟩ := h.last
  rw [hy] at h1; cases h1
  have e : mkC s (nx0 c y.wh y.has false) y = addD s (nx0 c y.wh y.has false) (y.nd : Int) y.er y.cs := by unfold mkC; rw [if_neg (by rw [h2]; decide)]
  have hl := h.len
  have hat : (addD s (nx0 c y.wh y.has false) (y.nd : Int) y.er y.cs).C[n + 2]? = some (ended (nw (nx0 c y.wh y.has false) s.T.length) y.er y.cs) := by
    show (s.C ++ _)[n + 2]? = _
    rw [← hl]; simp
  rw [e]
  refine ⟨_, hat, rfl, rfl, h2, h3, ⟨by show (s.C ++ _).length = _; simp [hl], ?_, _, hat, h2, h3⟩, ?_⟩
  · show (s.C ++ _)[0]? = _
    rw [List.getElem?_append_left (by omega)]; exact h.bg
  · unfold mkL; rw [if_neg (by rw [h2]; decide), hl]
set_option maxHeartbeats 64000000 in
theorem late_any (cause depth when_ now : Int) (w : World) : Calls Try.prog 6 #[.int .i64 cause, .int .i64 depth, .int .i64 when_, .int .i64 now] w fun e w' => e = .returned (.bool true) ∧ Below w.heap.size w w' := by
  by_cases h1 : cause < 3
  · go_enter Try.func6, Try.ntmps6
    go_wp2_with fail
    refine (awake_any w).mono ?_
    rintro e w' ⟨rfl, hb⟩
    have HB := Lib.hid hb
    clear hb
    go_wp2_with fail
    go_ret
    exact ⟨rfl, HB.out⟩
  · by_cases h2 : depth < 1
    · go_enter Try.func6, Try.ntmps6
      go_wp2_with fail
      refine (awake_any w).mono ?_
      rintro e w' ⟨rfl, hb⟩
      have HB := Lib.hid hb
      clear hb
      go_wp2_with fail
      go_ret
      exact ⟨rfl, HB.out⟩
    · by_cases h3 : 10 < depth
      · go_enter Try.func6, Try.ntmps6
        go_wp2_with fail
        refine (awake_any w).mono ?_
        rintro e w' ⟨rfl, hb⟩
        have HB := Lib.hid hb
        clear hb
        go_wp2_with fail
        go_ret
        exact ⟨rfl, HB.out⟩
      · by_cases h4 : now < 0
        · go_enter Try.func6, Try.ntmps6
          go_wp2_with fail
          refine (awake_any w).mono ?_
          rintro e w' ⟨rfl, hb⟩
          have HB := Lib.hid hb
          clear hb
          go_wp2_with fail
          go_ret
          exact ⟨rfl, HB.out⟩
        · by_cases h5 : 1000 < now
          · go_enter Try.func6, Try.ntmps6
            go_wp2_with fail
            refine (awake_any w).mono ?_
            rintro e w' ⟨rfl, hb⟩
            have HB := Lib.hid hb
            clear hb
            go_wp2_with fail
            go_ret
            exact ⟨rfl, HB.out⟩
          · by_cases h6 : when_ < -10
            · go_enter Try.func6, Try.ntmps6
              go_wp2_with fail
              refine (awake_any w).mono ?_
              rintro e w' ⟨rfl, hb⟩
              have HB := Lib.hid hb
              clear hb
              go_wp2_with fail
              go_ret
              exact ⟨rfl, HB.out⟩
            · by_cases h7 : 2000 < when_
              · go_enter Try.func6, Try.ntmps6
                go_wp2_with fail
                refine (awake_any w).mono ?_
                rintro e w' ⟨rfl, hb⟩
                have HB := Lib.hid hb
                clear hb
                go_wp2_with fail
                go_ret
                exact ⟨rfl, HB.out⟩
              · obtain ⟨dp, rfl⟩ : ∃ dp : Nat, depth = (dp : Int) := Int.eq_ofNat_of_zero_le (by omega)
                obtain ⟨z, hz9⟩ : ∃ z, max when_ 0 = z := ⟨_, rfl⟩
                have HZ : Hid (hz when_ = z) := by show _ = _; unfold hz; omega
                have HCA : Hid (3 ≤ cause) := by show 3 ≤ cause; omega
                have hdp : dp ≤ 10 := by omega
                go_enter Try.func6, Try.ntmps6
                go_wp2_with fail
                refine (ss_tms (Below.refl w.heap.size w)).mono ?_
                rintro e w1 ⟨rfl, h1, hb1⟩
                have H1 := Lib.hid (newctx_lq h1.out hb1.out)
                simp only [Option.map_some] at H1
                clear h1 hb1
                go_wp2_with fail
                refine H1.out.mono ?_
                rintro e w2 ⟨rfl, h2⟩
                clear H1
                have H2 : Hid (LQ w w1.heap.size (some w.heap.size) A0 [] w2) := h2
                clear h2
                generalize w1.heap.size = t at *
                generalize w.heap.size = ts at *
                have HC := Lib.hid (H2.out.made (fun c => H2.out.iv.nx (i := 0) (y := bg) rfl (by decide) c bg.wh bg.has false) fun O f => cancels_ok f H2.out.iv (i := 0) (y := bg) rfl (by decide))
                go_wp2_with fail
                refine HC.out.mono ?_
                rintro e w3 ⟨P0, n0, k0, c, L0, hn0, rfl, h, hr0⟩
                clear HC
                have H3 : Hid (LQ w t (some ts) (A1 c) [] w3) := h.out.sub (List.sublist_cons_self _ _)
                clear H2 h hn0 hr0
                have HC := Lib.hid (H3.out.cn (H3.out.iv.cn (i := 1) (x := X1 c) (er := 1) (cs := cause) rfl ⟨c, rfl⟩ (by decide)) fun O f => cancel_call f H3.out.iv (i := 1) (x := X1 c) rfl ⟨c, rfl⟩ cause cause (if_neg (by have := HCA.out; omega)))
                go_wp2_with fail
                refine HC.out.mono ?_
                rintro e w4 ⟨P7, n7, k7, L7, Q7, m7, j7, hn7, hm7, rfl, h, hr⟩
                clear HC
                have hn7 := hn7.out
                have h9 := h.out
                rw [B1_eq] at hn7 h9
                obtain rfl : n7 = 1 := hn7
                have H4 : Hid (LQ w t (some ts) (B1 c cause) [] w4) := h9.sub (List.nil_sublist _)
                clear H3 h hr h9 hn7 hm7
                have HT : Hid (LT (B1 c cause) cause 0) := ⟨rfl, rfl, _, rfl, rfl, rfl⟩
                go_wp2_with fail
                go_loopw [10, 16] (fun s10 s16 wr => ∃ (n : Nat) (s : St), n ≤ dp ∧ s10 = .int .i64 ((n + 1 : Nat) : Int) ∧ s16 = .int .i64 (n : Int) ∧ Hid (LQ w t (some ts) s [] wr ∧ LT s cause n)) (fun _ x _ => dp - (intOf x).toNat)
                case atStart => exact ⟨0, _, by omega, rfl, rfl, H4.out, HT.out⟩
                case round =>
                  clear H4 HT
                  obtain ⟨n, s, hn, rfl, rfl, hR⟩ := hrel
                  by_cases hlt : n < dp
                  · have b3 : (n : Int) < (dp : Int) := by omega
                    have hn9 : n < 10 := by omega
                    obtain ⟨y, hy, hy1, hy2⟩ := hR.out.2.last
                    have hlen := hR.out.2.len
                    have HC := Lib.hid (hR.out.1.made (fun c => hR.out.1.iv.nx (i := n + 1) (y := y) hy (by omega) c y.wh y.has false) fun O f => cancels_ok f hR.out.1.iv (i := n + 1) (y := y) hy (by omega))
                    have HN : Hid (∀ c, ∃ x, (mkC s (nx0 c y.wh y.has false) y).C[n + 2]? = some x ∧ x.ch = some c ∧ x.cl = true ∧ x.er = 1 ∧ x.cs = cause ∧ LT (mkC s (nx0 c y.wh y.has false) y) cause (n + 1) ∧ mkL s y = [(n + 2, [])]) := fun c => hR.out.2.next hy
                    rw [hlen] at HC
                    clear hR hlen hy1 hy2
                    go_wp2_with fail
                    refine HC.out.mono ?_
                    rintro e w5 ⟨P0, n0, k0, cc, L0, hn0, rfl, h, hr0⟩
                    clear HC
                    obtain ⟨x, hx, hxc, hxl, hxe, hxs, hT, hL⟩ := HN.out cc
                    have hn0 := hn0.out
                    rw [hL] at hn0
                    obtain rfl : n0 = 1 := hn0
                    have hr0 := hr0.out
                    rw [hL] at hr0
                    obtain ⟨eL, -⟩ := hr0
                    have hlenL : L0.length = 1 := by have := congrArg List.length eL; simpa using this
                    obtain ⟨z0, rfl⟩ : ∃ z0, L0 = [z0] := by
                      match L0, hlenL with
                      | [a], _ => exact ⟨a, rfl⟩
                    simp only [List.map_cons, List.map_nil, List.cons.injEq, Prod.mk.injEq] at eL
                    obtain ⟨⟨i1, -⟩, -⟩ := eL
                    have H5 := Lib.hid h.out
                    dsimp only at H5
                    generalize mkC s (nx0 cc y.wh y.has false) y = s5 at *
                    have ea : cA s5 ((n + 2 : Nat) : Int) = (x, 0) := cA_at hx
                    have HX := Lib.hid hx
                    have HXC := Lib.hid (And.intro hxc hxl)
                    have HT := Lib.hid hT
                    clear h HN hL hlenL hx hxc hxl hT hy
                    have HC := Lib.hid (H5.out.read (k := ((n + 2 : Nat) : Int)) fun O f => cdone_any _ f)
                    rw [ea] at HC
                    dsimp only at HC
                    rw [HXC.out.1] at HC
                    simp only [Option.map_some] at HC
                    go_wp2_with fail
                    refine HC.out.mono ?_
                    rintro e w6 ⟨rfl, H6⟩
                    clear H5 HC
                    have HC := Lib.hid (H6.out.read (k := ((n + 2 : Nat) : Int)) fun O f => cerr_any _ f)
                    rw [ea] at HC
                    dsimp only at HC
                    rw [hxe] at HC
                    go_wp2_with fail
                    refine HC.out.mono ?_
                    rintro e w7 ⟨rfl, H7⟩
                    clear H6 HC
                    have HC := Lib.hid (H7.out.read (k := ((n + 2 : Nat) : Int)) fun O f => ccause_any _ f)
                    rw [ea] at HC
                    dsimp only at HC
                    rw [hxs] at HC
                    clear ea hxe hxs
                    go_wp2_with fail
                    refine HC.out.mono ?_
                    rintro e w8 ⟨rfl, H8⟩
                    clear H7 HC
                    have HC := Lib.hid (H8.out.closed HX.out HXC.out.1)
                    rw [HXC.out.2] at HC
                    obtain ⟨q, rfl, a0, -⟩ := H8.out.lcell (i := 0) (j := 0) (x := z0) rfl rfl rfl
                    rw [i1] at a0
                    simp only [Nat.zero_mul] at a0
                    go_wp2_with fail
                    refine HC.out.mono ?_
                    rintro e w9 ⟨rfl, rfl⟩
                    clear HC i1
                    have HR : Hid (LQ w t (some ts) s5 [] w8) := H8.out.sub (List.nil_sublist _)
                    clear H8 HX HXC
                    go_wp2_with fail
                    go_roundw
                    case rel => exact ⟨n + 1, s5, by omega, by go_num, by go_num, HR.out, HT.out⟩
                    case measure => simp [intOf]; omega
                  · obtain rfl : n = dp := by omega
                    have hbg := hR.out.2.bg
                    have hlen := hR.out.2.len
                    have hdl : s.C.length < 64 := by omega
                    by_cases hnow : z ≤ now
                    · have HC := Lib.hid (hR.out.1.made (fun c => hR.out.1.iv.addD (i := 0) (y := bg) (x := nx0 c (hz when_) true true) (er := 2) (cs := 2) hbg hdl ⟨rfl, rfl, rfl⟩ ⟨c, rfl⟩ (by decide)) fun O f => deadline_now when_ now f hR.out.1.iv (i := 0) (y := bg) hbg hdl (by intro h9; exact Bool.noConfusion (show false = true from h9.1)) rfl (by rw [HZ.out]; exact hnow))
                      rw [HZ.out] at HC
                      have HA : Hid (∀ c, cA (addD s (nx0 c z true true) (bg.nd : Int) 2 2) (s.C.length : Int) = ((⟨s.T.length, some c, true, [], 2, 2, z, true, true, -1⟩ : Cx), 0)) := fun c => cA_at (by show (s.C ++ [ended (nw (nx0 c z true true) s.T.length) 2 2])[s.C.length]? = _; rw [List.getElem?_append_right (Nat.le_refl _), Nat.sub_self]; rfl)
                      clear hR hbg hdl
                      generalize s.C.length = N at *
                      clear hlen
                      go_wp2_with fail
                      refine HC.out.mono ?_
                      rintro e w5 ⟨P0, n0, k0, cc, L0, hn0, rfl, h, hr0⟩
                      clear HC
                      obtain rfl : n0 = 1 := hn0.out
                      have ea := HA.out cc
                      have H5 := Lib.hid h.out
                      dsimp only at H5
                      generalize addD s (nx0 cc z true true) (bg.nd : Int) 2 2 = s5 at *
                      clear h hn0 hr0 HA
                      have HC := Lib.hid (H5.out.read (k := (N : Int)) fun O f => cerr_any _ f)
                      rw [ea] at HC
                      dsimp only at HC
                      go_wp2_with fail
                      refine HC.out.mono ?_
                      rintro e w6 ⟨rfl, H6⟩
                      clear H5 HC
                      have HC := Lib.hid (H6.out.read (k := (N : Int)) fun O f => ccause_any _ f)
                      rw [ea] at HC
                      dsimp only at HC
                      go_wp2_with fail
                      refine HC.out.mono ?_
                      rintro e w7 ⟨rfl, H7⟩
                      clear H6 HC
                      have HC := Lib.hid (H7.out.read (k := (N : Int)) fun O f => cuntil_any _ f)
                      rw [ea] at HC
                      dsimp only at HC
                      clear ea
                      go_wp2_with fail
                      refine HC.out.mono ?_
                      rintro e w8 ⟨rfl, H8⟩
                      clear H7 HC
                      have HB8 := Lib.hid H8.out.bel
                      clear H8
                      go_wp2_with fail
                      refine (awake_any w8).mono ?_
                      rintro e w9 ⟨rfl, hb⟩
                      have HB := Lib.hid hb
                      clear hb
                      go_wp2_with fail
                      go_ret
                      exact ⟨rfl, HB8.out.trans (HB.out.mono HB8.out.size)⟩
                    · have HC := Lib.hid (hR.out.1.made (fun c => hR.out.1.iv.dl (p := some ts) (i := 0) (y := bg) hbg hdl c (hz when_)) fun O f => deadline_set when_ now f hR.out.1.iv (i := 0) (y := bg) hbg hdl (by intro h9; exact Bool.noConfusion (show false = true from h9.1)) rfl (by rw [HZ.out]; exact hnow))
                      rw [HZ.out] at HC
                      have HA : Hid (∀ c, ∃ lp, cA (dlS (some ts) s (nx0 c z true true) (bg.nd : Int) z) (s.C.length : Int) = ((⟨s.T.length, some c, false, [], 0, 0, z, true, true, lp⟩ : Cx), 0)) := fun c => ⟨lpV (some ts) s.E, cA_at (by show (s.C ++ [{ nw (nx0 c z true true) s.T.length with lp := lpV (some ts) s.E }])[s.C.length]? = _; rw [List.getElem?_append_right (Nat.le_refl _), Nat.sub_self]; rfl)⟩
                      have hml : mkL s bg = [] := rfl
                      rw [hml] at HC
                      clear hR hbg hdl hml
                      generalize s.C.length = N at *
                      clear hlen
                      go_wp2_with fail
                      refine HC.out.mono ?_
                      rintro e w5 ⟨P0, n0, k0, cc, L0, hn0, rfl, h, hr0⟩
                      clear HC
                      obtain rfl : n0 = 0 := hn0.out
                      obtain ⟨lp, ea⟩ := HA.out cc
                      have H5 := Lib.hid h.out
                      dsimp only at H5
                      generalize dlS (some ts) s (nx0 cc z true true) (bg.nd : Int) z = s5 at *
                      clear h hn0 hr0 HA
                      have HC := Lib.hid (H5.out.read (k := (N : Int)) fun O f => cerr_any _ f)
                      rw [ea] at HC
                      dsimp only at HC
                      go_wp2_with fail
                      refine HC.out.mono ?_
                      rintro e w6 ⟨rfl, H6⟩
                      clear H5 HC
                      have HC := Lib.hid (H6.out.read (k := (N : Int)) fun O f => ccause_any _ f)
                      rw [ea] at HC
                      dsimp only at HC
                      go_wp2_with fail
                      refine HC.out.mono ?_
                      rintro e w7 ⟨rfl, H7⟩
                      clear H6 HC
                      have HC := Lib.hid (H7.out.read (k := (N : Int)) fun O f => cuntil_any _ f)
                      rw [ea] at HC
                      dsimp only at HC
                      clear ea
                      go_wp2_with fail
                      refine HC.out.mono ?_
                      rintro e w8 ⟨rfl, H8⟩
                      clear H7 HC
                      have HB8 := Lib.hid H8.out.bel
                      clear H8
                      go_wp2_with fail
                      refine (awake_any w8).mono ?_
                      rintro e w9 ⟨rfl, hb⟩
                      have HB := Lib.hid hb
                      clear hb
                      go_wp2_with fail
                      go_ret
                      exact ⟨rfl, HB8.out.trans (HB.out.mono HB8.out.size)⟩
end Go.Proofs.Ytdpapnfjpefhkaa
