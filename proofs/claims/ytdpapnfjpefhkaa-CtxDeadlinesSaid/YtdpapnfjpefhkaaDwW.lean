/- CtxDeadlines walked: a context's deadline is the least of all that it hangs on, and its own; when time comes to it, it is over, with all that hang on it. No condition. -/
import Derived.Test.YtdpapnfjpefhkaaDwlm
import Derived.Test.YtdpapnfjpefhkaaTmW
namespace Go.Proofs.Ytdpapnfjpefhkaa
open Go.RowKit Tr
set_option linter.unusedVariables false
set_option maxRecDepth 100000

theorem LQ.fcell1 {W w : World} {t b k i : Nat} {p : Option Nat} {s : St} {rs : List Rr} {a1 a2 c d e : Int} {A : Option Addr} {v : Bool} (h : LQ W t p s rs w) (hr : rs[i]? = some (fbR b a1 a2 c d e A k v)) : w.cell? ⟨b, 1, none⟩ = some (.int .i64 a2) := by
  have ho : w.ownsRow 0 47 7 (.slice (some ⟨b, 0, none⟩) 1 1) 1 [.int .i64 a1, .int .i64 a2, .int .i64 c, .int .i64 d, .int .i64 e, .slice A 0 k, .bool v] := h.own hr
  rw [ho.cellAt 1 (by omega)]; rfl
/-- All of it, as long as nobody is over: the row, the last one, and how the least stands to the deadlines. -/
structure DZ (at_ : Int) (s : St) (want : List Int) (least : Int) (y : Cx) : Prop where
  w : DW at_ s want want.length
  l : DL s want.length least y
  m : ∀ (j : Nat) (u : Int), want[j]? = some u → 0 < u → 0 < least ∧ least ≤ u
  s : 0 < least → ∃ (j : Nat), want[j]? = some least
theorem DZ.zero (at_ : Int) : DZ at_ (s0 [] 0 []) [] 0 bg := ⟨DW.zero _, DL.zero, fun j u h => by simp at h, fun h => absurd h (by decide)⟩
theorem DZ.add {at_ least : Int} {s : St} {want : List Int} {c : Nat} {y : Cx} (h : DZ at_ s want least y) (v : Inv s) : ∃ y', DZ at_ (mkC s (nx0 c y.wh y.has false) y) (want ++ [least]) least y' := by
  obtain ⟨h1, h2⟩ := h.w.add (c := c) v h.l h.m h.s
  refine ⟨_, h1, h2, fun j u hu h0 => ?_, fun _ => ⟨want.length, app_new _ _ rfl⟩⟩
  rcases app_cases hu with ⟨_, a2⟩ | ⟨rfl, rfl⟩
  · exact h.m j u a2 h0
  · exact ⟨h0, Int.le_refl _⟩
theorem DZ.dl {at_ least k : Int} {s : St} {want : List Int} {c ts : Nat} {y : Cx} (h : DZ at_ s want least y) (v : Inv s) (hk : 0 < k) (hl : 0 < least → k ≤ least) : ∃ y', DZ at_ (dlS (some ts) s (nx0 c k true true) (y.nd : Int) k) (want ++ [k]) k y' := by
  have hm : ∀ (j : Nat) (u : Int), want[j]? = some u → 0 < u → k ≤ u := fun j u hu h0 => by
    obtain ⟨h1, h2⟩ := h.m j u hu h0
    have := hl h1; omega
  obtain ⟨h1, h2⟩ := h.w.dl (c := c) (ts := ts) v h.l hk hm
  refine ⟨_, h1, h2, fun j u hu h0 => ?_, fun _ => ⟨want.length, app_new _ _ rfl⟩⟩
  rcases app_cases hu with ⟨_, a2⟩ | ⟨rfl, rfl⟩
  · exact ⟨hk, hm j u a2 h0⟩
  · exact ⟨h0, Int.le_refl _⟩
set_option maxHeartbeats 64000000 in
theorem deadlines_any {A0 : Option Addr} {n0 k0 : Nat} {l0 : List Int} (at_ : Int) {w : World} (hr0 : Rni w A0 n0 l0) : Calls Try.prog 4 #[.slice A0 n0 k0, .int .i64 at_] w fun e w' => e = .returned (.bool true) ∧ Below w.heap.size w w' := by
  by_cases h1 : (n0 : Int) < 1
  · go_enter Try.func4, Try.ntmps4
    go_wp2_with fail
    refine (awake_any w).mono ?_
    rintro e w' ⟨rfl, hb⟩
    have HB := Lib.hid hb
    clear hb
    go_wp2_with fail
    go_ret
    exact ⟨rfl, HB.out⟩
  · by_cases h2 : (20 : Int) < (n0 : Int)
    · go_enter Try.func4, Try.ntmps4
      go_wp2_with fail
      refine (awake_any w).mono ?_
      rintro e w' ⟨rfl, hb⟩
      have HB := Lib.hid hb
      clear hb
      go_wp2_with fail
      go_ret
      exact ⟨rfl, HB.out⟩
    · by_cases h3 : at_ < 1
      · go_enter Try.func4, Try.ntmps4
        go_wp2_with fail
        refine (awake_any w).mono ?_
        rintro e w' ⟨rfl, hb⟩
        have HB := Lib.hid hb
        clear hb
        go_wp2_with fail
        go_ret
        exact ⟨rfl, HB.out⟩
      · by_cases h4 : 1000 < at_
        · go_enter Try.func4, Try.ntmps4
          go_wp2_with fail
          refine (awake_any w).mono ?_
          rintro e w' ⟨rfl, hb⟩
          have HB := Lib.hid hb
          clear hb
          go_wp2_with fail
          go_ret
          exact ⟨rfl, HB.out⟩
        · have hn0 : n0 ≤ 20 := by omega
          have hn1 : 1 ≤ n0 := by omega
          have R0 := Lib.hid hr0
          clear hr0
          obtain ⟨i3, hi3, hy0, hy1, hy2⟩ := info_parts Tr.inf3
          go_enter Try.func4, Try.ntmps4
          go_wp2_with fail
          refine (ss_tms (Below.refl w.heap.size w)).mono ?_
          rintro e w1 ⟨rfl, h1, hb1⟩
          have H1 := Lib.hid (newctx_lq h1.out hb1.out)
          simp only [Option.map_some] at H1
          clear h1 hb1
          go_wp2_with fail
          refine H1.out.mono ?_
          rintro e w2 ⟨rfl, h2⟩
          clear H1
          have H2 : Hid (LQ w w1.heap.size (some w.heap.size) (s0 [] 0 []) [rwI none 0 []] w2) := h2.out.nil
          clear h2
          generalize w1.heap.size = t at *
          generalize w.heap.size = ts at *
          go_wp2_with fail
          go_loopw [7, 8, 9, 10] (fun s7 s8 s9 s10 wr => ∃ (i c : Nat) (P : Option Addr) (s : St) (want : List Int) (least : Int) (y : Cx), i ≤ n0 ∧ s7 = .int .i64 (i : Int) ∧ s8 = .int .i64 least ∧ s9 = .slice P i c ∧ s10 = .int .i64 (i : Int) ∧ Hid (i = want.length) ∧ Hid (LQ w t (some ts) s [rwI P c want] wr) ∧ Hid (DZ at_ s want least y) ∧ least ≤ 1000) (fun _ _ _ x _ => n0 - (intOf x).toNat)
          case atStart => exact ⟨0, 0, none, _, [], 0, _, by omega, rfl, rfl, rfl, rfl, rfl, H2.out, DZ.zero at_, by decide⟩
          case round =>
            clear H2
            obtain ⟨i, c, P, s, want, least, y, hi, rfl, rfl, rfl, rfl, hdl, hL, hZ, hle9⟩ := hrel
            by_cases hlt : i < n0
            · have b3 : (i : Int) < (n0 : Int) := by omega
              obtain ⟨b, off, z, rfl, hbl, hz9, hcl⟩ := R0.out.cell hL.out.bel hlt
              have HQ := Lib.hid (round_any z 1000 wr (by omega) (by omega))
              have hq := pk_lt z (m := 1000) (by omega)
              generalize pk z 1000 = q at *
              clear hz9
              have hlen : s.C.length = i + 1 := by rw [hZ.out.w.len, ← hdl.out]
              have hy : s.C[i]? = some y := by have := hZ.out.l.h; rwa [← hdl.out] at this
              have hye := hZ.out.l.er
              have hyw := hZ.out.l.wh
              have hyh := hZ.out.l.has
              have hnn := hZ.out.l.nn
              have hqz : hz (q : Int) = (q : Int) := by unfold hz; omega
              by_cases hq0 : q = 0
              · by_cases hl0 : 0 < least
                · as_aux_lemma =>
                  obtain rfl := hq0
                  have HC := Lib.hid (hL.out.made (fun c => hL.out.iv.nx (i := i) (y := y) hy (by omega) c y.wh y.has false) fun O f => cancels_ok f hL.out.iv (i := i) (y := y) hy (by omega))
                  rw [hlen] at HC
                  have HDD : Hid (∀ c, ∃ y', DZ at_ (mkC s (nx0 c y.wh y.has false) y) (want ++ [least]) least y') := fun c => hZ.out.add hL.out.iv
                  clear hlen hL hZ
                  go_wp2_with fail
                  refine HQ.out.mono ?_
                  rintro e w' ⟨rfl, rfl⟩
                  clear HQ
                  go_wp2_with fail
                  refine HC.out.mono ?_
                  rintro e w5 ⟨P0, m0, kk0, cc, L0, hm0, rfl, h, hrd⟩
                  clear HC
                  obtain ⟨y5, hy5⟩ := HDD.out cc
                  have H5 : Hid (LQ w t (some ts) (mkC s (nx0 cc y.wh y.has false) y) [rwI P c want] w5) := h.out.sub (List.sublist_cons_self _ _)
                  have HD5 := Lib.hid hy5
                  clear h hm0 hrd HDD hcl hy5
                  generalize mkC s (nx0 cc y.wh y.has false) y = s5 at *
                  have ea : cA s5 ((i + 1 : Nat) : Int) = (y5, 0) := cA_at (by have := HD5.out.l.h; rwa [List.length_append, ← hdl.out] at this)
                  have HC := Lib.hid (H5.out.read (k := ((i + 1 : Nat) : Int)) fun O f => cuntil_any _ f)
                  rw [ea] at HC
                  dsimp only at HC
                  rw [HD5.out.l.wh, HD5.out.l.has, decide_eq_true hl0] at HC
                  clear ea
                  go_wp2_with fail
                  refine HC.out.mono ?_
                  rintro e w6 ⟨rfl, H6⟩
                  clear HC H5
                  go_wp2_with (at_builtin; go_loud (refine wpList_append_lies _ rfl (.tmp 119) (.tmp 121) 22 rfl 0 3 i3 _ 1 8 Try.underlying22 hi3 hy0 hy1 hy2 rfl (by omega) (.slice P i c) i (Tr.iV want) rfl ((H6.out.alloc _).ownI (i := 0) rfl hdl.out) ⟨w6.heap.size, 0, none⟩ 1 1 [.int .i64 least] rfl rfl (World.news_of_block (cs := #[.int .i64 least]) (heap_alloc_new w6 _)) (int_cell _) (by omega) (by unfold maxLen; omega) (by omega) (by omega) (w6.heap.size + 1) (by first | (simp; done) | (simp; rfl)) ?_; intro g cap w4 hown hgrow hat hlt1; have HL4 := Lib.hid (LQ.app (H6.out.alloc _) (i := 0) rfl hdl.out hown hgrow (hat.imp id (fun e => by rw [e]; simp))); clear hown hgrow hat hlt1 H6))
                  go_roundw
                  case rel => exact ⟨i + 1, cap, _, s5, want ++ [least], least, y5, by omega, by go_num, by first | rfl | go_num, by go_num, by go_num, by show _ = _; rw [List.length_append, ← hdl.out]; rfl, HL4.out, HD5.out, by omega⟩
                  case measure => simp [intOf]; omega
                · as_aux_lemma =>
                  obtain rfl := hq0
                  have HC := Lib.hid (hL.out.made (fun c => hL.out.iv.nx (i := i) (y := y) hy (by omega) c y.wh y.has false) fun O f => cancels_ok f hL.out.iv (i := i) (y := y) hy (by omega))
                  rw [hlen] at HC
                  have HDD : Hid (∀ c, ∃ y', DZ at_ (mkC s (nx0 c y.wh y.has false) y) (want ++ [least]) least y') := fun c => hZ.out.add hL.out.iv
                  clear hlen hL hZ
                  go_wp2_with fail
                  refine HQ.out.mono ?_
                  rintro e w' ⟨rfl, rfl⟩
                  clear HQ
                  go_wp2_with fail
                  refine HC.out.mono ?_
                  rintro e w5 ⟨P0, m0, kk0, cc, L0, hm0, rfl, h, hrd⟩
                  clear HC
                  obtain ⟨y5, hy5⟩ := HDD.out cc
                  have H5 : Hid (LQ w t (some ts) (mkC s (nx0 cc y.wh y.has false) y) [rwI P c want] w5) := h.out.sub (List.sublist_cons_self _ _)
                  have HD5 := Lib.hid hy5
                  clear h hm0 hrd HDD hcl hy5
                  generalize mkC s (nx0 cc y.wh y.has false) y = s5 at *
                  have ea : cA s5 ((i + 1 : Nat) : Int) = (y5, 0) := cA_at (by have := HD5.out.l.h; rwa [List.length_append, ← hdl.out] at this)
                  have HC := Lib.hid (H5.out.read (k := ((i + 1 : Nat) : Int)) fun O f => cuntil_any _ f)
                  rw [ea] at HC
                  dsimp only at HC
                  rw [HD5.out.l.wh, HD5.out.l.has, decide_eq_false (show ¬ 0 < least by omega)] at HC
                  clear ea
                  go_wp2_with fail
                  refine HC.out.mono ?_
                  rintro e w6 ⟨rfl, H6⟩
                  clear HC H5
                  go_wp2_with (at_builtin; go_loud (refine wpList_append_lies _ rfl (.tmp 119) (.tmp 121) 22 rfl 0 3 i3 _ 1 8 Try.underlying22 hi3 hy0 hy1 hy2 rfl (by omega) (.slice P i c) i (Tr.iV want) rfl ((H6.out.alloc _).ownI (i := 0) rfl hdl.out) ⟨w6.heap.size, 0, none⟩ 1 1 [.int .i64 least] rfl rfl (World.news_of_block (cs := #[.int .i64 least]) (heap_alloc_new w6 _)) (int_cell _) (by omega) (by unfold maxLen; omega) (by omega) (by omega) (w6.heap.size + 1) (by first | (simp; done) | (simp; rfl)) ?_; intro g cap w4 hown hgrow hat hlt1; have HL4 := Lib.hid (LQ.app (H6.out.alloc _) (i := 0) rfl hdl.out hown hgrow (hat.imp id (fun e => by rw [e]; simp))); clear hown hgrow hat hlt1 H6))
                  go_roundw
                  case rel => exact ⟨i + 1, cap, _, s5, want ++ [least], least, y5, by omega, by go_num, by first | rfl | go_num, by go_num, by go_num, by show _ = _; rw [List.length_append, ← hdl.out]; rfl, HL4.out, HD5.out, by omega⟩
                  case measure => simp [intOf]; omega
              · have c0 : ((q : Int) == 0) = false := by simp <;> omega
                by_cases hl0 : 0 < least
                · have c1 : (least == 0) = false := by simp <;> omega
                  by_cases hlq : least ≤ (q : Int)
                  · as_aux_lemma =>
                    have c2 : ¬ (q : Int) < least := by omega
                    have HC := Lib.hid (hL.out.made (fun c => hL.out.iv.nx (i := i) (y := y) hy (by omega) c y.wh y.has false) fun O f => deadline_as (q : Int) 0 f hL.out.iv (i := i) (y := y) hy (by omega) (by rw [hyh, decide_eq_true hl0]) (by rw [hyw, hqz]; omega))
                    rw [hlen] at HC
                    have HDD : Hid (∀ c, ∃ y', DZ at_ (mkC s (nx0 c y.wh y.has false) y) (want ++ [least]) least y') := fun c => hZ.out.add hL.out.iv
                    clear hlen hL hZ
                    go_wp2_with fail
                    refine HQ.out.mono ?_
                    rintro e w' ⟨rfl, rfl⟩
                    clear HQ
                    go_wp2_with fail
                    refine HC.out.mono ?_
                    rintro e w5 ⟨P0, m0, kk0, cc, L0, hm0, rfl, h, hrd⟩
                    clear HC
                    obtain ⟨y5, hy5⟩ := HDD.out cc
                    have H5 : Hid (LQ w t (some ts) (mkC s (nx0 cc y.wh y.has false) y) [rwI P c want] w5) := h.out.sub (List.sublist_cons_self _ _)
                    have HD5 := Lib.hid hy5
                    clear h hm0 hrd HDD hcl hy5
                    generalize mkC s (nx0 cc y.wh y.has false) y = s5 at *
                    have ea : cA s5 ((i + 1 : Nat) : Int) = (y5, 0) := cA_at (by have := HD5.out.l.h; rwa [List.length_append, ← hdl.out] at this)
                    have HC := Lib.hid (H5.out.read (k := ((i + 1 : Nat) : Int)) fun O f => cuntil_any _ f)
                    rw [ea] at HC
                    dsimp only at HC
                    rw [HD5.out.l.wh, HD5.out.l.has, decide_eq_true hl0] at HC
                    clear ea
                    go_wp2_with fail
                    refine HC.out.mono ?_
                    rintro e w6 ⟨rfl, H6⟩
                    clear HC H5
                    go_wp2_with (at_builtin; go_loud (refine wpList_append_lies _ rfl (.tmp 119) (.tmp 121) 22 rfl 0 3 i3 _ 1 8 Try.underlying22 hi3 hy0 hy1 hy2 rfl (by omega) (.slice P i c) i (Tr.iV want) rfl ((H6.out.alloc _).ownI (i := 0) rfl hdl.out) ⟨w6.heap.size, 0, none⟩ 1 1 [.int .i64 least] rfl rfl (World.news_of_block (cs := #[.int .i64 least]) (heap_alloc_new w6 _)) (int_cell _) (by omega) (by unfold maxLen; omega) (by omega) (by omega) (w6.heap.size + 1) (by first | (simp; done) | (simp; rfl)) ?_; intro g cap w4 hown hgrow hat hlt1; have HL4 := Lib.hid (LQ.app (H6.out.alloc _) (i := 0) rfl hdl.out hown hgrow (hat.imp id (fun e => by rw [e]; simp))); clear hown hgrow hat hlt1 H6))
                    go_roundw
                    case rel => exact ⟨i + 1, cap, _, s5, want ++ [least], least, y5, by omega, by go_num, by first | rfl | go_num, by go_num, by go_num, by show _ = _; rw [List.length_append, ← hdl.out]; rfl, HL4.out, HD5.out, by omega⟩
                    case measure => simp [intOf]; omega
                  · as_aux_lemma =>
                    have c2 : (q : Int) < least := by omega
                    have c3 : (0 : Int) < (q : Int) := by omega
                    have HC := Lib.hid (hL.out.made (fun c => hL.out.iv.dl (p := some ts) (i := i) (y := y) hy (by omega) c (hz (q : Int))) fun O f => deadline_set (q : Int) 0 f hL.out.iv (i := i) (y := y) hy (by omega) (by rw [hyh, hyw, hqz]; simp only [decide_eq_true_eq]; omega) hye (by rw [hqz]; omega))
                    rw [hqz] at HC
                    rw [hlen] at HC
                    have HDD : Hid (∀ c, ∃ y', DZ at_ (dlS (some ts) s (nx0 c (q : Int) true true) (y.nd : Int) (q : Int)) (want ++ [(q : Int)]) (q : Int) y') := fun c => hZ.out.dl hL.out.iv c3 (fun _ => by omega)
                    clear hlen hL hZ
                    go_wp2_with fail
                    refine HQ.out.mono ?_
                    rintro e w' ⟨rfl, rfl⟩
                    clear HQ
                    go_wp2_with fail
                    refine HC.out.mono ?_
                    rintro e w5 ⟨P0, m0, kk0, cc, L0, hm0, rfl, h, hrd⟩
                    clear HC
                    obtain ⟨y5, hy5⟩ := HDD.out cc
                    have H5 : Hid (LQ w t (some ts) (dlS (some ts) s (nx0 cc (q : Int) true true) (y.nd : Int) (q : Int)) [rwI P c want] w5) := h.out.sub (List.sublist_cons_self _ _)
                    have HD5 := Lib.hid hy5
                    clear h hm0 hrd HDD hcl hy5
                    generalize dlS (some ts) s (nx0 cc (q : Int) true true) (y.nd : Int) (q : Int) = s5 at *
                    have ea : cA s5 ((i + 1 : Nat) : Int) = (y5, 0) := cA_at (by have := HD5.out.l.h; rwa [List.length_append, ← hdl.out] at this)
                    have HC := Lib.hid (H5.out.read (k := ((i + 1 : Nat) : Int)) fun O f => cuntil_any _ f)
                    rw [ea] at HC
                    dsimp only at HC
                    rw [HD5.out.l.wh, HD5.out.l.has, decide_eq_true c3] at HC
                    clear ea
                    go_wp2_with fail
                    refine HC.out.mono ?_
                    rintro e w6 ⟨rfl, H6⟩
                    clear HC H5
                    go_wp2_with (at_builtin; go_loud (refine wpList_append_lies _ rfl (.tmp 119) (.tmp 121) 22 rfl 0 3 i3 _ 1 8 Try.underlying22 hi3 hy0 hy1 hy2 rfl (by omega) (.slice P i c) i (Tr.iV want) rfl ((H6.out.alloc _).ownI (i := 0) rfl hdl.out) ⟨w6.heap.size, 0, none⟩ 1 1 [.int .i64 (q : Int)] rfl rfl (World.news_of_block (cs := #[.int .i64 (q : Int)]) (heap_alloc_new w6 _)) (int_cell _) (by omega) (by unfold maxLen; omega) (by omega) (by omega) (w6.heap.size + 1) (by first | (simp; done) | (simp; rfl)) ?_; intro g cap w4 hown hgrow hat hlt1; have HL4 := Lib.hid (LQ.app (H6.out.alloc _) (i := 0) rfl hdl.out hown hgrow (hat.imp id (fun e => by rw [e]; simp))); clear hown hgrow hat hlt1 H6))
                    go_roundw
                    case rel => exact ⟨i + 1, cap, _, s5, want ++ [(q : Int)], (q : Int), y5, by omega, by go_num, by first | rfl | go_num, by go_num, by go_num, by show _ = _; rw [List.length_append, ← hdl.out]; rfl, HL4.out, HD5.out, by omega⟩
                    case measure => simp [intOf]; omega
                · as_aux_lemma =>
                  have c1 : (least == 0) = true := by simp <;> omega
                  have c3 : (0 : Int) < (q : Int) := by omega
                  have HC := Lib.hid (hL.out.made (fun c => hL.out.iv.dl (p := some ts) (i := i) (y := y) hy (by omega) c (hz (q : Int))) fun O f => deadline_set (q : Int) 0 f hL.out.iv (i := i) (y := y) hy (by omega) (by rw [hyh, hyw, hqz]; simp only [decide_eq_true_eq]; omega) hye (by rw [hqz]; omega))
                  rw [hqz] at HC
                  rw [hlen] at HC
                  have HDD : Hid (∀ c, ∃ y', DZ at_ (dlS (some ts) s (nx0 c (q : Int) true true) (y.nd : Int) (q : Int)) (want ++ [(q : Int)]) (q : Int) y') := fun c => hZ.out.dl hL.out.iv c3 (fun h9 => absurd h9 hl0)
                  clear hlen hL hZ
                  go_wp2_with fail
                  refine HQ.out.mono ?_
                  rintro e w' ⟨rfl, rfl⟩
                  clear HQ
                  go_wp2_with fail
                  refine HC.out.mono ?_
                  rintro e w5 ⟨P0, m0, kk0, cc, L0, hm0, rfl, h, hrd⟩
                  clear HC
                  obtain ⟨y5, hy5⟩ := HDD.out cc
                  have H5 : Hid (LQ w t (some ts) (dlS (some ts) s (nx0 cc (q : Int) true true) (y.nd : Int) (q : Int)) [rwI P c want] w5) := h.out.sub (List.sublist_cons_self _ _)
                  have HD5 := Lib.hid hy5
                  clear h hm0 hrd HDD hcl hy5
                  generalize dlS (some ts) s (nx0 cc (q : Int) true true) (y.nd : Int) (q : Int) = s5 at *
                  have ea : cA s5 ((i + 1 : Nat) : Int) = (y5, 0) := cA_at (by have := HD5.out.l.h; rwa [List.length_append, ← hdl.out] at this)
                  have HC := Lib.hid (H5.out.read (k := ((i + 1 : Nat) : Int)) fun O f => cuntil_any _ f)
                  rw [ea] at HC
                  dsimp only at HC
                  rw [HD5.out.l.wh, HD5.out.l.has, decide_eq_true c3] at HC
                  clear ea
                  go_wp2_with fail
                  refine HC.out.mono ?_
                  rintro e w6 ⟨rfl, H6⟩
                  clear HC H5
                  go_wp2_with (at_builtin; go_loud (refine wpList_append_lies _ rfl (.tmp 119) (.tmp 121) 22 rfl 0 3 i3 _ 1 8 Try.underlying22 hi3 hy0 hy1 hy2 rfl (by omega) (.slice P i c) i (Tr.iV want) rfl ((H6.out.alloc _).ownI (i := 0) rfl hdl.out) ⟨w6.heap.size, 0, none⟩ 1 1 [.int .i64 (q : Int)] rfl rfl (World.news_of_block (cs := #[.int .i64 (q : Int)]) (heap_alloc_new w6 _)) (int_cell _) (by omega) (by unfold maxLen; omega) (by omega) (by omega) (w6.heap.size + 1) (by first | (simp; done) | (simp; rfl)) ?_; intro g cap w4 hown hgrow hat hlt1; have HL4 := Lib.hid (LQ.app (H6.out.alloc _) (i := 0) rfl hdl.out hown hgrow (hat.imp id (fun e => by rw [e]; simp))); clear hown hgrow hat hlt1 H6))
                  go_roundw
                  case rel => exact ⟨i + 1, cap, _, s5, want ++ [(q : Int)], (q : Int), y5, by omega, by go_num, by first | rfl | go_num, by go_num, by go_num, by show _ = _; rw [List.length_append, ← hdl.out]; rfl, HL4.out, HD5.out, by omega⟩
                  case measure => simp [intOf]; omega
            · obtain rfl : n0 = i := by omega
              have HD : Hid (want.length = n0) := hdl.out.symm
              have HW : Hid (DW at_ s want n0) := by have := hZ.out.w; rwa [← hdl.out] at this
              clear hdl hZ hle9
              go_wp2_with fail
              go_loopw [17] (fun s17 wr => ∃ (i m : Nat) (s : St), i + m ≤ n0 ∧ s17 = .int .i64 (i : Int) ∧ Hid (LQ w t (some ts) s [rwI P c want] wr) ∧ Hid (DW at_ s want m)) (fun x _ => n0 + 1 - (intOf x).toNat)
              case atStart => exact ⟨0, n0, s, by omega, rfl, hL, HW⟩
              case round =>
                clear hL HW
                obtain ⟨i, m, s, him, rfl, hL, hW⟩ := hrel
                have b4 : (i : Int) ≤ (n0 : Int) := by omega
                by_cases hdue : ∃ z r, s.S = z :: r ∧ z.w ≤ at_
                · as_aux_lemma =>
                  obtain ⟨z, r, hS, hzw⟩ := hdue
                  obtain ⟨iz, j, y, x, cx, s5, ll, a1, a2, a3, a4, a5, a6, a7, a8, a9⟩ := hW.out.lapse hL.out.iv hL.out.ok hS hzw
                  have HF := Lib.hid (hL.out.fire (now := at_) hS hzw)
                  have hj20 : j ≤ 20 := by omega
                  have hij : i + 1 + j ≤ n0 := by omega
                  have HE := Lib.hid (And.intro a1 (And.intro a2 a3))
                  have HX := Lib.hid (And.intro a5 (And.intro a6 a7))
                  have HN := Lib.hid a8
                  have HW5 := Lib.hid a9
                  generalize z.w = zw at *
                  generalize z.id = zi at *
                  clear hS a1 a2 a3 a4 a5 a6 a7 a8 a9 hL hW
                  go_wp2_with fail
                  refine HF.out.mono ?_
                  rintro e w7 ⟨i', y', A, kk, bb, hi', hy', he, H7⟩
                  have hdt : y'.dt = (j : Int) + 1 := by
                    have h1 := HE.out.1
                    obtain rfl : i' = iz := by omega
                    rw [HE.out.2.1] at hy'; cases hy'; exact HE.out.2.2
                  rw [hdt] at he
                  subst he
                  clear HF HE hi' hy' hdt
                  have H8 := Lib.hid (H7.out.addF (a1 := zi) (a2 := 4) (c := zw) (d := at_) (e := (j : Int) + 1) (A := A) (k := kk) (v := bb))
                  clear H7
                  go_upto_region 29 with (fail)
                  generalize w7.alloc (.cells #[.int .i64 zi, .int .i64 4, .int .i64 zw, .int .i64 at_, .int .i64 ((j : Int) + 1), .slice A 0 kk, .bool bb] 47) = w8 at *
                  generalize w7.heap.size = fb at *
                  obtain ⟨p2, p4⟩ := H8.out.fcell (i := 0) rfl
                  have HC := Lib.hid (H8.out.cn (H8.out.iv.cn (i := j + 1) (x := x) (er := 2) (cs := 2) HX.out.1 ⟨cx, HX.out.2.1⟩ (by decide)) fun O f => lapse_call f H8.out.iv (i := j + 1) (x := x) HX.out.1 ⟨cx, HX.out.2.1⟩ HX.out.2.2)
                  rw [HN.out, show ((j + 1 : Nat) : Int) = (j : Int) + 1 from by omega] at HC
                  clear HX HN H8
                  go_wp2_with fail
                  refine HC.out.mono ?_
                  rintro e w10 ⟨P7, n7, k7, L7, Q7, m7, j7, hn7, hm7, rfl, h, hr⟩
                  clear HC p2 p4
                  obtain ⟨p2, p4⟩ := h.out.fcell (i := 2) rfl
                  have p1 := h.out.fcell1 (i := 2) rfl
                  have H11 : Hid (LQ w t (some ts) s5 [rwI P c want] w10) := h.out.sub (by simp)
                  clear h hr hn7 hm7 p4
                  go_wp2_with fail
                  go_roundw
                  case rel => exact ⟨i + 1, j, s5, by omega, by go_num, H11, HW5⟩
                  case measure => simp [intOf]; omega
                · as_aux_lemma =>
                  have hno : ∀ x r, s.S = x :: r → at_ < x.w := fun x r e => by
                    rcases Int.lt_or_le at_ x.w with h9 | h9
                    · exact h9
                    · exact absurd ⟨x, r, e, h9⟩ hdue
                  have HF := Lib.hid (hL.out.fire_none (now := at_) hno)
                  have HDn := Lib.hid (hW.out.done hL.out.ok hno)
                  clear hL hW hdue hno
                  go_wp2_with fail
                  refine HF.out.mono ?_
                  rintro e w7 ⟨rfl, H7⟩
                  clear HF
                  have H8 : Hid (LQ w t (some ts) s [rwI P c want] (w7.alloc (.cells #[.int .i64 0, .int .i64 0, .int .i64 0, .int .i64 0, .int .i64 0, .slice none 0 0, .bool false] 47))) := H7.out.alloc _
                  clear H7
                  go_upto_region 29 with (fail)
                  generalize w7.alloc (.cells #[.int .i64 0, .int .i64 0, .int .i64 0, .int .i64 0, .int .i64 0, .slice none 0 0, .bool false] 47) = w8 at *
                  go_wp2_with fail
                  go_loopw [23] (fun s23 wr => ∃ i : Nat, i ≤ n0 ∧ s23 = .int .i64 (i : Int) ∧ Hid (LQ w t (some ts) s [rwI P c want] wr)) (fun x _ => n0 - (intOf x).toNat)
                  case atStart => exact ⟨0, by omega, rfl, H8.out⟩
                  case round =>
                    clear H8
                    obtain ⟨k, hk, rfl, H8⟩ := hrel
                    by_cases hlt3 : k < n0
                    · have b6 : (k : Int) < (n0 : Int) := by omega
                      obtain ⟨v, hv⟩ : ∃ v, want[k]? = some v := ⟨_, List.getElem?_eq_getElem (by rw [HD.out]; exact hlt3)⟩
                      obtain ⟨x, hx, hcs⟩ := HDn.out k v hv
                      have HV := Lib.hid hv
                      have ea : cA s ((k : Int) + 1) = (x, 0) := by
                        have := cA_at hx
                        rwa [show ((k + 1 : Nat) : Int) = (k : Int) + 1 from by omega] at this
                      have HCS := Lib.hid hcs
                      have HEA := Lib.hid ea
                      clear hv hx hcs ea
                      have HC := Lib.hid (H8.out.read (k := (k : Int) + 1) fun O f => cerr_any _ f)
                      rw [HEA.out] at HC
                      dsimp only at HC
                      by_cases hov : 0 < v ∧ v ≤ at_
                      · obtain ⟨o1, o2⟩ := hov
                        have hcs := HCS.out
                        rw [if_pos ⟨o1, o2⟩] at hcs
                        obtain ⟨e1, e2⟩ := hcs
                        rw [e1] at HC
                        clear e1 HCS
                        go_wp2_with fail
                        refine HC.out.mono ?_
                        rintro e w9 ⟨rfl, H9⟩
                        clear HC H8
                        have HC := Lib.hid (H9.out.read (k := (k : Int) + 1) fun O f => ccause_any _ f)
                        rw [HEA.out] at HC
                        dsimp only at HC
                        rw [e2] at HC
                        clear e2 HEA
                        go_wp2_with fail
                        refine HC.out.mono ?_
                        rintro e w10 ⟨rfl, H10⟩
                        clear HC H9
                        obtain ⟨g, hPg, hgl, hgc, hgf⟩ := H10.out.icell (i := 0) rfl HV.out
                        subst hPg
                        clear HV
                        go_wp2_with fail
                        go_roundw
                        case rel => exact ⟨k + 1, by omega, by go_num, H10⟩
                        case measure => simp [intOf]; omega
                      · by_cases o1 : 0 < v
                        · have o2 : ¬ v ≤ at_ := fun h9 => hov ⟨o1, h9⟩
                          clear hov
                          have hcs := HCS.out
                          rw [if_neg (fun h9 => o2 h9.2)] at hcs
                          obtain ⟨e1, e2⟩ := hcs
                          rw [e1] at HC
                          clear e1 HCS
                          go_wp2_with fail
                          refine HC.out.mono ?_
                          rintro e w9 ⟨rfl, H9⟩
                          clear HC H8
                          have HC := Lib.hid (H9.out.read (k := (k : Int) + 1) fun O f => ccause_any _ f)
                          rw [HEA.out] at HC
                          dsimp only at HC
                          rw [e2] at HC
                          clear e2 HEA
                          go_wp2_with fail
                          refine HC.out.mono ?_
                          rintro e w10 ⟨rfl, H10⟩
                          clear HC H9
                          obtain ⟨g, hPg, hgl, hgc, hgf⟩ := H10.out.icell (i := 0) rfl HV.out
                          subst hPg
                          clear HV
                          go_wp2_with fail
                          go_roundw
                          case rel => exact ⟨k + 1, by omega, by go_num, H10⟩
                          case measure => simp [intOf]; omega
                        · clear hov
                          have hcs := HCS.out
                          rw [if_neg (fun h9 => o1 h9.1)] at hcs
                          obtain ⟨e1, e2⟩ := hcs
                          rw [e1] at HC
                          clear e1 HCS
                          go_wp2_with fail
                          refine HC.out.mono ?_
                          rintro e w9 ⟨rfl, H9⟩
                          clear HC H8
                          have HC := Lib.hid (H9.out.read (k := (k : Int) + 1) fun O f => ccause_any _ f)
                          rw [HEA.out] at HC
                          dsimp only at HC
                          rw [e2] at HC
                          clear e2 HEA
                          go_wp2_with fail
                          refine HC.out.mono ?_
                          rintro e w10 ⟨rfl, H10⟩
                          clear HC H9
                          obtain ⟨g, hPg, hgl, hgc, hgf⟩ := H10.out.icell (i := 0) rfl HV.out
                          subst hPg
                          clear HV
                          go_wp2_with fail
                          go_roundw
                          case rel => exact ⟨k + 1, by omega, by go_num, H10⟩
                          case measure => simp [intOf]; omega
                    · obtain rfl : n0 = k := by omega
                      have HB9 := Lib.hid H8.out.bel
                      clear H8
                      go_wp2_with fail
                      refine (awake_any _).mono ?_
                      rintro e w9 ⟨rfl, hb⟩
                      have HB := Lib.hid hb
                      clear hb
                      go_wp2_with fail
                      go_ret
                      exact ⟨rfl, HB9.out.trans (HB.out.mono HB9.out.size)⟩
end Go.Proofs.Ytdpapnfjpefhkaa
