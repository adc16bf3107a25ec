/- CtxFalls walked: who is cancelled has all cancelled that hang on it, with its error and cause, and nobody else. No condition. -/
import Derived.Test.YtdpapnfjpefhkaaDwlm
namespace Go.Proofs.Ytdpapnfjpefhkaa
open Go.RowKit Tr
set_option linter.unusedVariables false
set_option maxRecDepth 100000

theorem bool_cell (x : Bool) : ∀ u ∈ ([.bool x] : List Value), u.oneCell' = true := by intro u hu; simp at hu; subst hu; rfl
theorem inf4b : (Try.prog.info? 4).map (fun i => (i.zero, i.size, i.bytes)) = some (some (.bool false), 1, 1) := by kernel_rfl
section
variable {W w : World} {t i j c k : Nat} {p : Option Nat} {s : St} {rs : List Rr}
theorem LQ.bcell {l : List Bool} {P : Option Addr} {x : Bool} (h : LQ W t p s rs w) (hr : rs[i]? = some (rwB P c l)) (hx : l[j]? = some x) : ∃ q, P = some ⟨q, 0, none⟩ ∧ w.cell? ⟨q, j, none⟩ = some (.bool x) := by
  have ho : w.ownsRow 0 4 1 (.slice P l.length c) l.length (bV l) := h.own hr
  have hj := (List.getElem?_eq_some_iff.1 hx).1
  obtain ⟨q, hP, _⟩ := row_form ho (by omega)
  subst hP
  have e2 := ho.cellAt j (by simpa using hj)
  refine ⟨q, rfl, ?_⟩
  rw [e2]; simp [bV, hx]
/-- A context that stays over: a second cancellation tells nobody. -/
theorem LQ.again {x : Cx} {c : Nat} (h : LQ W t p s rs w) (hx : s.C[k]? = some x) (hc : x.ch = some c) (he : x.er = 1) (z : Int) : Calls Try.prog 16 #[pS t, .int .i64 (k : Int), .int .i64 z] w fun e w' => CnQ W t p s rs 1 (if z < 1 then 1 else z) [] [] e w' := by
  have hn : cnS s x 1 (if z < 1 then 1 else z) = (s, [], []) := cn_over (by rw [he]; decide)
  have := h.cn (h.iv.cn (i := k) (x := x) (er := 1) (cs := if z < 1 then 1 else z) hx ⟨c, hc⟩ (by decide)) fun O f => cancel_call f h.iv (i := k) (x := x) hx ⟨c, hc⟩ z _ rfl
  rw [hn] at this
  exact this
end
set_option maxHeartbeats 64000000 in
theorem falls_any {A0 A1 : Option Addr} {n0 k0 n1 k1 : Nat} {l0 l1 : List Int} (at_ cause : Int) {w : World} (hr0 : Rni w A0 n0 l0) (hr1 : Rni w A1 n1 l1) : Calls Try.prog 3 #[.slice A0 n0 k0, .slice A1 n1 k1, .int .i64 at_, .int .i64 cause] w fun e w' => e = .returned (.bool true) ∧ Below w.heap.size w w' := by
  by_cases h1 : (40 : Int) < (n0 : Int)
  · go_enter Try.func3, Try.ntmps3
    go_wp2_with fail
    refine (awake_any w).mono ?_
    rintro e w' ⟨rfl, hb⟩
    have HB := Lib.hid hb
    clear hb
    go_wp2_with fail
    go_ret
    exact ⟨rfl, HB.out⟩
  · by_cases h2 : (n1 : Int) < (n0 : Int)
    · go_enter Try.func3, Try.ntmps3
      go_wp2_with fail
      refine (awake_any w).mono ?_
      rintro e w' ⟨rfl, hb⟩
      have HB := Lib.hid hb
      clear hb
      go_wp2_with fail
      go_ret
      exact ⟨rfl, HB.out⟩
    · by_cases h3 : (60 : Int) < (n1 : Int)
      · go_enter Try.func3, Try.ntmps3
        go_wp2_with fail
        refine (awake_any w).mono ?_
        rintro e w' ⟨rfl, hb⟩
        have HB := Lib.hid hb
        clear hb
        go_wp2_with fail
        go_ret
        exact ⟨rfl, HB.out⟩
      · by_cases h4 : cause < 3
        · go_enter Try.func3, Try.ntmps3
          go_wp2_with fail
          refine (awake_any w).mono ?_
          rintro e w' ⟨rfl, hb⟩
          have HB := Lib.hid hb
          clear hb
          go_wp2_with fail
          go_ret
          exact ⟨rfl, HB.out⟩
        · have hn0 : n0 ≤ 40 := by omega
          have hn1 : n0 ≤ n1 := by omega
          have hc3 : 3 ≤ cause := by omega
          have c5 : ((0 : Int) == cause) = false := by simp <;> omega
          have R0 := Lib.hid hr0
          have R1 := Lib.hid hr1
          clear hr0 hr1
          obtain ⟨i3, hi3, hy0, hy1, hy2⟩ := info_parts Tr.inf3
          obtain ⟨i4, hi4, hz0, hz1, hz2⟩ := info_parts inf4b
          go_enter Try.func3, Try.ntmps3
          go_wp2_with fail
          refine (ss_tms (Below.refl w.heap.size w)).mono ?_
          rintro e w1 ⟨rfl, h1, hb1⟩
          have H1 := Lib.hid (newctx_lq h1.out hb1.out)
          simp only [Option.map_some] at H1
          clear h1 hb1
          go_wp2_with fail
          refine H1.out.mono ?_
          rintro e w2 ⟨rfl, h2⟩
          clear H1
          have H3 : Hid (LQ w w1.heap.size (some w.heap.size) (s0 [] 0 []) [rwI (some ⟨w2.heap.size, 0, none⟩) 1 [-1]] (w2.alloc (.cells #[.int .i64 (-1)] 3))) :=
            h2.out.news (below_al _ _) (r := rwI (some ⟨w2.heap.size, 0, none⟩) 1 [-1]) (World.ownsRow_lit (base := w2.heap.size) (e := 3) (size := 1) w2 #[.int .i64 (-1)] 1 (Nat.le_refl _) (by decide) rfl) (by show OthZ 3; decide)
          clear h2
          have H2 : Hid (LQ w w1.heap.size (some w.heap.size) (s0 [] 0 []) [rwB (some ⟨(w2.alloc (.cells #[.int .i64 (-1)] 3)).heap.size, 0, none⟩) 1 [true], rwI (some ⟨w2.heap.size, 0, none⟩) 1 [-1]] ((w2.alloc (.cells #[.int .i64 (-1)] 3)).alloc (.cells #[.bool true] 4))) :=
            H3.out.news (below_al _ _) (r := rwB (some ⟨(w2.alloc (.cells #[.int .i64 (-1)] 3)).heap.size, 0, none⟩) 1 [true]) (World.ownsRow_lit (base := (w2.alloc (.cells #[.int .i64 (-1)] 3)).heap.size) (e := 4) (size := 1) (w2.alloc (.cells #[.int .i64 (-1)] 3)) #[.bool true] 1 (Nat.le_refl _) (by decide) rfl) (by show OthZ 4; decide)
          clear H3
          rw [show (w2.alloc (.cells #[.int .i64 (-1)] 3)).heap.size = w2.heap.size + 1 from by simp] at H2
          generalize w1.heap.size = t at *
          generalize w.heap.size = ts at *
          go_wp2_with fail
          go_loopw [10, 11, 12] (fun s10 s11 s12 wr => ∃ (i m c c2 : Nat) (P Q : Option Addr) (s : St) (up : List Int) (pl : List Bool), i ≤ n0 ∧ s12 = .int .i64 (i : Int) ∧ s10 = .slice P m c ∧ s11 = .slice Q m c2 ∧ m = i + 1 ∧ Hid (m = up.length) ∧ Hid (m = pl.length) ∧ Hid (LQ w t (some ts) s [rwB Q c2 pl, rwI P c up] wr) ∧ Hid (FI s up pl)) (fun _ _ x _ => n0 - (intOf x).toNat)
          case atStart => exact ⟨0, 1, 1, 1, _, _, _, [-1], [true], by omega, rfl, rfl, rfl, rfl, rfl, rfl, H2.out, FI.zero⟩
          case round =>
            clear H2
            obtain ⟨i, m, c, c2, P, Q, s, up, pl, hi, rfl, rfl, rfl, hm, hml, hpl, hL, hF⟩ := hrel
            by_cases hlt : i < n0
            · have b3 : (i : Int) < (n0 : Int) := by omega
              have b4 : (i : Int) < (n1 : Int) := by omega
              obtain ⟨b, off, z, rfl, hbl, hz9, hc0⟩ := R0.out.cell hL.out.bel hlt
              obtain ⟨b1, off1, z1, rfl, hbl1, hz8, hc1⟩ := R1.out.cell hL.out.bel (show i < n1 by omega)
              have hlen : s.C.length = i + 1 := by rw [← hF.out.lu, ← hml.out]; exact hm
              have HQ0 := Lib.hid (round_at z i (by omega) wr)
              have hp := pk_lt z (m := i + 1) (by omega)
              generalize pk z (i + 1) = p at *
              have HQ1 := Lib.hid (round_any z1 4 wr (by omega) (by omega))
              generalize pk z1 4 = q at *
              clear hz9 hz8
              obtain ⟨y, hy⟩ : ∃ y, s.C[p]? = some y := ⟨_, List.getElem?_eq_getElem (by rw [hlen]; exact hp)⟩
              have hm9 : m ≤ 100 := by omega
              have HM := Lib.hid hm
              clear hm
              by_cases hq0 : q = 0
              · as_aux_lemma =>
                obtain rfl := hq0
                have HC := Lib.hid (hL.out.call (hL.out.iv.wo (i := p) (y := y) hy (by omega)) (Q := fun e _ => e = .returned (.tuple #[.int .i64 (s.C.length : Int), .int .i64 0])) fun O f => (without_ok f hL.out.iv (i := p) (y := y) hy (by omega)).mono fun e w' h => ⟨h.1, h.2.out⟩)
                rw [hlen] at HC
                have HFF : Hid (FI (addS s nxW (y.nd : Int) false) (up ++ [-1]) (pl ++ [true])) := hF.out.wo hL.out.iv hy
                clear hlen hL hF hy
                go_wp2_with fail
                refine HQ0.out.mono ?_
                rintro e w' ⟨rfl, rfl⟩
                clear HQ0 hc0
                go_wp2_with fail
                refine HQ1.out.mono ?_
                rintro e w' ⟨rfl, rfl⟩
                clear HQ1 hc1
                go_wp2_with fail
                refine HC.out.mono ?_
                rintro e w5 ⟨rfl, h⟩
                clear HC
                have H5 : Hid (LQ w t (some ts) (addS s nxW (y.nd : Int) false) [rwB Q c2 pl, rwI P c up] w5) := h
                clear h
                generalize addS s nxW (y.nd : Int) false = s5 at *
                go_wp2_with (first | (at_builtin; go_loud (refine wpList_append_lies _ rfl (.tmp 102) (.tmp 104) 22 rfl 0 3 i3 _ 1 8 Try.underlying22 hi3 hy0 hy1 hy2 rfl (by omega) (.slice P m c) m (Tr.iV up) rfl ((H5.out.alloc _).ownI (i := 1) rfl hml.out) ⟨w5.heap.size, 0, none⟩ 1 1 [.int .i64 (-1)] rfl rfl (World.news_of_block (cs := #[.int .i64 (-1)]) (heap_alloc_new w5 _)) (int_cell _) (by omega) (by unfold maxLen; omega) (by omega) (by omega) (w5.heap.size + 1) (by first | (simp; done) | (simp; rfl)) ?_; intro g cap w6 hown hgrow hat hlt1; have H6 := Lib.hid (LQ.app (H5.out.alloc _) (i := 1) rfl hml.out hown hgrow (hat.imp id (fun e => by rw [e]; simp))); clear hown hgrow hat hlt1 H5)) | (at_builtin; go_loud (refine wpList_append_lies _ rfl (.tmp 106) (.tmp 108) 28 rfl 0 4 i4 _ 1 1 Try.underlying28 hi4 hz0 hz1 hz2 rfl (by omega) (.slice Q m c2) m (bV pl) rfl ((H6.out.alloc _).ownB (i := 0) rfl hpl.out) ⟨w6.heap.size, 0, none⟩ 1 1 [.bool true] rfl rfl (World.news_of_block (cs := #[.bool true]) (heap_alloc_new w6 _)) (bool_cell _) (by omega) (by unfold maxLen; omega) (by omega) (by omega) (w6.heap.size + 1) (by first | (simp; done) | (simp; rfl)) ?_; intro g cap2 w7 hown hgrow hat hlt1; have H7 := Lib.hid (LQ.appB (H6.out.alloc _) (i := 0) rfl hpl.out hown hgrow (hat.imp id (fun e => by rw [e]; simp))); clear hown hgrow hat hlt1 H6)))
                go_roundw
                case rel =>
                  refine ⟨i + 1, m + 1, cap, cap2, _, _, s5, up ++ [-1], pl ++ [true], by omega, by go_num, by first | rfl | go_num, by first | rfl | go_num, by have := HM.out; omega, ?_, ?_, H7.out, HFF.out⟩
                  · show _ = _; rw [List.length_append, ← hml.out]; rfl
                  · show _ = _; rw [List.length_append, ← hpl.out]; rfl
                case measure => simp [intOf]; omega
              · as_aux_lemma =>
                have c0 : ((q : Int) == 0) = false := by simp <;> omega
                clear hq0
                have HC := Lib.hid (hL.out.made (fun c => hL.out.iv.nx (i := p) (y := y) hy (by omega) c y.wh y.has false) fun O f => cancels_ok f hL.out.iv (i := p) (y := y) hy (by omega))
                rw [hlen] at HC
                have HFF0 : Hid (∀ c, FI (mkC s (nx0 c y.wh y.has false) y) (up ++ [(p : Int)]) (pl ++ [false])) := fun c => hF.out.can hL.out.iv hy
                clear hlen hL hF hy
                go_wp2_with fail
                refine HQ0.out.mono ?_
                rintro e w' ⟨rfl, rfl⟩
                clear HQ0 hc0
                go_wp2_with fail
                refine HQ1.out.mono ?_
                rintro e w' ⟨rfl, rfl⟩
                clear HQ1 hc1
                go_wp2_with fail
                refine HC.out.mono ?_
                rintro e w5 ⟨P0, m0, kk0, cc, L0, hm0, rfl, h, hrd⟩
                clear HC
                have H5 : Hid (LQ w t (some ts) (mkC s (nx0 cc y.wh y.has false) y) [rwB Q c2 pl, rwI P c up] w5) := h.out.sub (List.sublist_cons_self _ _)
                have HFF := Lib.hid (HFF0.out cc)
                clear h hm0 hrd HFF0
                generalize mkC s (nx0 cc y.wh y.has false) y = s5 at *
                go_wp2_with (first | (at_builtin; go_loud (refine wpList_append_lies _ rfl (.tmp 102) (.tmp 104) 22 rfl 0 3 i3 _ 1 8 Try.underlying22 hi3 hy0 hy1 hy2 rfl (by omega) (.slice P m c) m (Tr.iV up) rfl ((H5.out.alloc _).ownI (i := 1) rfl hml.out) ⟨w5.heap.size, 0, none⟩ 1 1 [.int .i64 (p : Int)] rfl rfl (World.news_of_block (cs := #[.int .i64 (p : Int)]) (heap_alloc_new w5 _)) (int_cell _) (by omega) (by unfold maxLen; omega) (by omega) (by omega) (w5.heap.size + 1) (by first | (simp; done) | (simp; rfl)) ?_; intro g cap w6 hown hgrow hat hlt1; have H6 := Lib.hid (LQ.app (H5.out.alloc _) (i := 1) rfl hml.out hown hgrow (hat.imp id (fun e => by rw [e]; simp))); clear hown hgrow hat hlt1 H5)) | (at_builtin; go_loud (refine wpList_append_lies _ rfl (.tmp 106) (.tmp 108) 28 rfl 0 4 i4 _ 1 1 Try.underlying28 hi4 hz0 hz1 hz2 rfl (by omega) (.slice Q m c2) m (bV pl) rfl ((H6.out.alloc _).ownB (i := 0) rfl hpl.out) ⟨w6.heap.size, 0, none⟩ 1 1 [.bool false] rfl rfl (World.news_of_block (cs := #[.bool false]) (heap_alloc_new w6 _)) (bool_cell _) (by omega) (by unfold maxLen; omega) (by omega) (by omega) (w6.heap.size + 1) (by first | (simp; done) | (simp; rfl)) ?_; intro g cap2 w7 hown hgrow hat hlt1; have H7 := Lib.hid (LQ.appB (H6.out.alloc _) (i := 0) rfl hpl.out hown hgrow (hat.imp id (fun e => by rw [e]; simp))); clear hown hgrow hat hlt1 H6)))
                go_roundw
                case rel =>
                  refine ⟨i + 1, m + 1, cap, cap2, _, _, s5, up ++ [(p : Int)], pl ++ [false], by omega, by go_num, by first | rfl | go_num, by first | rfl | go_num, by have := HM.out; omega, ?_, ?_, H7.out, HFF.out⟩
                  · show _ = _; rw [List.length_append, ← hml.out]; rfl
                  · show _ = _; rw [List.length_append, ← hpl.out]; rfl
                case measure => simp [intOf]; omega
            · obtain rfl : n0 = i := by omega
              have hm1 : 1 ≤ m ∧ m ≤ 41 := by omega
              have HQ := Lib.hid (round_any at_ m wr (by omega) (by omega))
              have hk := pk_lt at_ (m := m) (by omega)
              generalize pk at_ m = k at *
              clear hm R0 R1
              obtain ⟨x, hx⟩ : ∃ x, s.C[k]? = some x := ⟨_, List.getElem?_eq_getElem (by rw [← hF.out.lu, ← hml.out]; exact hk)⟩
              obtain ⟨pb, hpb⟩ : ∃ b, pl[k]? = some b := ⟨_, List.getElem?_eq_getElem (by rw [← hpl.out]; exact hk)⟩
              have bk : (k : Int) < (m : Int) := by omega
              have bk0 : (0 : Int) ≤ (k : Int) := by omega
              obtain ⟨g1, rfl, hgc⟩ := hL.out.bcell (i := 0) rfl hpb
              cases pb with
              | true =>
                as_aux_lemma =>
                have HC := Lib.hid (hL.out.same fun O f => cancel_plain (c1 := cause) f (i := k) (x := x) hx ((hF.out.c k x hx).2.2.2 hpb))
                have HB9 := Lib.hid hL.out.bel
                clear hL hF hx hpb hml hpl
                go_wp2_with fail
                refine HQ.out.mono ?_
                rintro e w' ⟨rfl, rfl⟩
                clear HQ
                go_wp2_with fail
                refine HC.out.mono ?_
                rintro e w' ⟨rfl, rfl⟩
                clear HC
                go_wp2_with fail
                refine (awake_any _).mono ?_
                rintro e w9 ⟨rfl, hb⟩
                have HB := Lib.hid hb
                clear hb
                go_wp2_with fail
                go_ret
                exact ⟨rfl, HB9.out.trans (HB.out.mono HB9.out.size)⟩
              | false =>
                obtain ⟨cx, s', L, hch, hcn, hll, hG⟩ := hF.out.gone (cause := cause) hL.out.iv hx hpb
                have HC := Lib.hid (hL.out.cn (hL.out.iv.cn (i := k) (x := x) (er := 1) (cs := cause) hx ⟨cx, hch⟩ (by decide)) fun O f => cancel_call f hL.out.iv (i := k) (x := x) hx ⟨cx, hch⟩ cause cause (if_neg (by omega)))
                rw [hcn] at HC
                have hST : ∀ j, j < m → (∃ p : Nat, up[j]? = some (p : Int) ∧ p < j ∧ upTo s.T j k = ((j == k) || upTo s.T p k)) ∨ (up[j]? = some (-1) ∧ upTo s.T j k = (j == k)) := fun j hj => hF.out.step hL.out.iv (by rw [← hml.out]; exact hj)
                have HST := Lib.hid hST
                have HG := Lib.hid hG
                rw [← hml.out] at hll
                have HLL := Lib.hid hll
                have hcl := cnt_le s.T k m
                have HML := Lib.hid hml.out
                have hpb9 := Lib.hid hpb
                clear hF hx hch hcn hG hST hll hpb hpl hml hL
                generalize s.T = S at *
                go_wp2_with fail
                refine HQ.out.mono ?_
                rintro e w' ⟨rfl, rfl⟩
                clear HQ
                go_wp2_with fail
                refine HC.out.mono ?_
                rintro e w8 ⟨P7, n7, k7, L7, Q7, m7, j7, hn7, hm7, rfl, h, hr⟩
                clear HC hgc
                obtain ⟨eL, eR⟩ := hr.out
                have hln : L7.length = n7 := by rw [hn7.out, ← congrArg List.length eL, List.length_map]
                obtain ⟨lx, L8, rfl⟩ : ∃ a l, L7 = a :: l := by
                  cases L7 with
                  | nil => simp at eL
                  | cons a l => exact ⟨a, l, rfl⟩
                have hlid : lx.id = k := by
                  rw [List.map_cons] at eL
                  injection eL with e1 _
                  exact congrArg Prod.fst e1
                have hN7 : n7 = cnt S k m := hn7.out.trans HLL.out
                have HN7 := Lib.hid hN7
                have hn7b : 1 ≤ n7 ∧ n7 ≤ 41 := ⟨by rw [← hln]; simp, by omega⟩
                have HLN := Lib.hid hln
                have HID := Lib.hid hlid
                obtain ⟨g2, e9, hgc⟩ := h.out.bcell (i := 2) (j := k) (x := false) rfl (by have := hpb9.out; exact this)
                clear hr eL eR hn7 hm7 HLL hln hlid hN7 hcl
                have H8 : Hid (LQ w t (some ts) s' [rwL P7 k7 n7 (lx :: L8), rwI P c up] w8) := h.out.sub (by simp)
                injection e9 with e9; injection e9 with e9; subst e9
                clear h
                go_wp2_with fail
                clear hgc
                go_loopw [21, 22] (fun s21 s22 wr => ∃ i a : Nat, i ≤ m ∧ s21 = .int .i64 (a : Int) ∧ s22 = .int .i64 (i : Int) ∧ a ≤ i ∧ Hid (a = cnt S k i) ∧ Hid (LQ w t (some ts) s' [rwL P7 k7 n7 (lx :: L8), rwI P c up] wr)) (fun _ x _ => m - (intOf x).toNat)
                case atStart => exact ⟨0, 0, by omega, rfl, rfl, by omega, rfl, H8.out⟩
                case round =>
                  clear H8
                  obtain ⟨i, a, hi, rfl, rfl, hai, ha, H8⟩ := hrel
                  by_cases hlt3 : i < m
                  · as_aux_lemma =>
                    have b6 : (i : Int) < (m : Int) := by omega
                    go_wp2_with fail
                    generalize wr = w9 at *
                    go_loopw [23, 24] (fun s23 s24 wr => ∃ (v : Bool) (z : Int), s23 = .bool v ∧ s24 = .int .i64 z ∧ Hid (w9 = wr) ∧ Hid ((z = -1 ∧ v = upTo S i k) ∨ ∃ j : Nat, z = (j : Int) ∧ j < m ∧ (v || upTo S j k) = upTo S i k)) (fun _ x _ => (intOf x + 1).toNat)
                    case atStart => exact ⟨false, (i : Int), rfl, rfl, rfl, .inr ⟨i, rfl, hlt3, rfl⟩⟩
                    case round =>
                      obtain ⟨v, z, rfl, rfl, hwr, hz⟩ := hrel
                      have hwr' := hwr.out
                      subst hwr'
                      clear hwr
                      rcases hz.out with ⟨rfl, hv⟩ | ⟨j, rfl, hj, hv⟩
                      · clear hz
                        obtain ⟨x, hx, ex1, ex2⟩ := HG.out.c i (by rw [← HML.out]; exact hlt3)
                        have HEA := Lib.hid (cA_at hx)
                        clear hx
                        have HC := Lib.hid (H8.out.read (k := (i : Int)) fun O f => cerr_any _ f)
                        rw [HEA.out] at HC
                        dsimp only at HC
                        by_cases hB : upTo S i k = true
                        · as_aux_lemma =>
                          have HV : v = true := hv.trans hB
                          subst HV
                          rw [if_pos hB] at ex1 ex2
                          rw [ex1] at HC
                          clear ex1 hv
                          go_wp2_with fail
                          refine HC.out.mono ?_
                          rintro e w10 ⟨rfl, H10⟩
                          clear HC H8
                          have HC := Lib.hid (H10.out.read (k := (i : Int)) fun O f => ccause_any _ f)
                          rw [HEA.out] at HC
                          dsimp only at HC
                          rw [ex2] at HC
                          clear ex2 HEA
                          go_wp2_with fail
                          refine HC.out.mono ?_
                          rintro e w11 ⟨rfl, H11⟩
                          clear HC H10
                          go_wp2_with fail
                          go_roundw
                          case rel => exact ⟨i + 1, a + 1, by omega, by go_num, by go_num, by omega, by show _ = _; rw [cnt_in hB, ← ha.out], H11⟩
                          case measure => simp [intOf]; omega
                        · as_aux_lemma =>
                          have hB' : upTo S i k = false := by simpa using hB
                          have HV : v = false := hv.trans hB'
                          subst HV
                          rw [if_neg hB] at ex1 ex2
                          rw [ex1] at HC
                          clear ex1 hv
                          go_wp2_with fail
                          refine HC.out.mono ?_
                          rintro e w10 ⟨rfl, H10⟩
                          clear HC H8
                          have HC := Lib.hid (H10.out.read (k := (i : Int)) fun O f => ccause_any _ f)
                          rw [HEA.out] at HC
                          dsimp only at HC
                          rw [ex2] at HC
                          clear ex2 HEA
                          go_wp2_with fail
                          refine HC.out.mono ?_
                          rintro e w11 ⟨rfl, H11⟩
                          clear HC H10
                          go_wp2_with fail
                          go_roundw
                          case rel => exact ⟨i + 1, a, by omega, by go_num, by go_num, by omega, by show _ = _; rw [cnt_out (by simpa using hB), ← ha.out], H11⟩
                          case measure => simp [intOf]; omega
                      · clear hz
                        have HV := Lib.hid hv
                        clear hv
                        have b1 : (j : Int) < (m : Int) := by omega
                        have b2 : (0 : Int) ≤ (j : Int) := by omega
                        have ejk : ((j : Int) == (k : Int)) = (j == k) := by
                          by_cases e : j = k
                          · subst e; simp
                          · rw [beq_eq_false_iff_ne.2 e, beq_eq_false_iff_ne.2 (by omega)]
                        rcases HST.out j hj with ⟨p, hp, hpj, hu⟩ | ⟨hp, hu⟩
                        · obtain ⟨g, hPg, hgl, hgc, hgf⟩ := H8.out.icell (i := 1) rfl hp
                          subst hPg
                          have HE : Hid (((v || ((j : Int) == (k : Int))) || upTo S p k) = upTo S i k) := by
                            rw [← HV.out, hu, ejk]
                            show _ = _
                            rw [Bool.or_assoc]
                          have HPJ := Lib.hid hpj
                          clear HV hp hu ejk hpj hgl hgf
                          cases v
                          all_goals
                            go_wp2_with fail
                            go_roundw
                            case rel => exact ⟨_, (p : Int), rfl, rfl, trivial, .inr ⟨p, rfl, by have := HPJ.out; omega, HE.out⟩⟩
                            case measure => have := HPJ.out; simp [intOf]; omega
                        · obtain ⟨g, hPg, hgl, hgc, hgf⟩ := H8.out.icell (i := 1) rfl hp
                          subst hPg
                          have HE : Hid ((v || ((j : Int) == (k : Int))) = upTo S i k) := by
                            rw [← HV.out, hu, ejk]
                            rfl
                          clear HV hp hu ejk hgl hgf
                          cases v
                          all_goals
                            go_wp2_with fail
                            go_roundw
                            case rel => exact ⟨_, -1, rfl, rfl, trivial, .inl ⟨rfl, HE.out⟩⟩
                            case measure => first | (simp [intOf]; done) | (simp [intOf]; omega)
                  · obtain rfl : m = i := by omega
                    as_aux_lemma =>
                    have ha9 : n7 = a := HN7.out.trans ha.out.symm
                    subst ha9
                    obtain ⟨x, c9, hx, hch, he1, hc1⟩ := HG.out.k
                    have HA := Lib.hid fun z => H8.out.again hx hch he1 z
                    have HEA := Lib.hid (cA_at hx)
                    have HCS := Lib.hid hc1
                    clear hx hch he1 hc1 HST HG ha HN7
                    go_wp2_with fail
                    refine (HA.out _).mono ?_
                    rintro e w10 ⟨P8, n8, k8, L9, Q8, m8, j8, hn8, hm8, rfl, h, hr⟩
                    clear HA H8
                    obtain rfl : n8 = 0 := hn8.out
                    have H10 : Hid (LQ w t (some ts) s' [rwL P7 k7 n7 (lx :: L8), rwI P c up] w10) := h.out.sub (by simp)
                    clear h hr hn8 hm8
                    have HC := Lib.hid (H10.out.read (k := (k : Int)) fun O f => ccause_any _ f)
                    rw [HEA.out] at HC
                    dsimp only at HC
                    rw [HCS.out] at HC
                    go_wp2_with fail
                    refine HC.out.mono ?_
                    rintro e w11 ⟨rfl, H11⟩
                    clear HC H10 HEA HCS
                    obtain ⟨q, rfl, a0, -⟩ := H11.out.lcell (i := 0) (j := 0) (x := lx) rfl HLN.out rfl
                    rw [HID.out] at a0
                    simp only [Nat.zero_mul] at a0
                    have HB9 := Lib.hid H11.out.bel
                    have b9 : (0 : Int) < (n7 : Int) := by omega
                    clear H11
                    go_wp2_with fail
                    refine (awake_any _).mono ?_
                    rintro e w12 ⟨rfl, hb⟩
                    have HB := Lib.hid hb
                    clear hb
                    go_wp2_with fail
                    go_ret
                    exact ⟨rfl, HB9.out.trans (HB.out.mono HB9.out.size)⟩
end Go.Proofs.Ytdpapnfjpefhkaa
