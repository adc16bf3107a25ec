/- CtxFull walked: so many contexts, and so many afters, there may be, and none more. No condition. -/
import Derived.Test.YtdpapnfjpefhkaaLrwm
namespace Go.Proofs.Ytdpapnfjpefhkaa
open Go.RowKit Tr
set_option linter.unusedVariables false
set_option maxRecDepth 100000

/-- n contexts, the background ahead, not done; m afters. -/
structure FU (s : St) (n m : Nat) : Prop where
  len : s.C.length = n
  bg : s.C[0]? = some bg
  al : s.A.length = m
theorem FU.add {s : St} {n m : Nat} (h : FU s n m) (x : Cx) (ab : Int) (l : Bool) : FU (addS s x ab l) (n + 1) m := by
  refine ⟨by show (s.C ++ _).length = _; simp [h.len], ?_, h.al⟩
  show (s.C ++ _)[0]? = _
  have := (List.getElem?_eq_some_iff.1 h.bg).1
  rw [List.getElem?_append_left this]; exact h.bg
theorem FU.dl {s : St} {n m : Nat} (h : FU s n m) (x : Cx) (ab z : Int) : FU (dlS none s x ab z) (n + 1) m := by
  refine ⟨by show (s.C ++ _).length = _; simp [h.len], ?_, h.al⟩
  show (s.C ++ _)[0]? = _
  have := (List.getElem?_eq_some_iff.1 h.bg).1
  rw [List.getElem?_append_left this]; exact h.bg
theorem FU.af {s : St} {n m : Nat} (h : FU s n m) (pg : Int) : FU (afS s Ytdpapnfjpefhkaa.bg pg) n (m + 1) :=
  ⟨h.len, h.bg, by show (s.A ++ _).length = _; simp [h.al]⟩
theorem hz50 : ¬ hz 50 ≤ 1 := by unfold hz; omega
theorem mk_bg (s : St) (x : Cx) : mkC s x bg = addS s x (bg.nd : Int) true := rfl
theorem ml_bg (s : St) : mkL s bg = [] := rfl
theorem full_len {m : Nat} (h : m < 6) : min (64 + m) 64 = 64 := by omega
set_option maxHeartbeats 64000000 in
theorem full_any {A : Option Addr} {n c : Nat} {l : List Int} (more : Int) {w : World} (h : Rni w A n l) : Calls Try.prog 8 #[.slice A n c, .int .i64 more] w fun e w' => e = .returned (.bool true) ∧ Below w.heap.size w w' := by
  by_cases h1 : (20 : Int) < (n : Int)
  · go_enter Try.func8, Try.ntmps8
    go_wp2_with fail
    refine (awake_any w).mono ?_
    rintro e w' ⟨rfl, hb⟩
    have HB := Lib.hid hb
    clear hb
    go_wp2_with fail
    go_ret
    exact ⟨rfl, HB.out⟩
  · by_cases h2 : more < 0
    · go_enter Try.func8, Try.ntmps8
      go_wp2_with fail
      refine (awake_any w).mono ?_
      rintro e w' ⟨rfl, hb⟩
      have HB := Lib.hid hb
      clear hb
      go_wp2_with fail
      go_ret
      exact ⟨rfl, HB.out⟩
    · by_cases h3 : 5 < more
      · go_enter Try.func8, Try.ntmps8
        go_wp2_with fail
        refine (awake_any w).mono ?_
        rintro e w' ⟨rfl, hb⟩
        have HB := Lib.hid hb
        clear hb
        go_wp2_with fail
        go_ret
        exact ⟨rfl, HB.out⟩
      · obtain ⟨m, rfl⟩ : ∃ m : Nat, more = (m : Int) := Int.eq_ofNat_of_zero_le (by omega)
        have hm : m ≤ 5 := by omega
        have hn20 : n ≤ 20 := by omega
        have HIn := Lib.hid h
        clear h
        go_enter Try.func8, Try.ntmps8
        go_wp2_with fail
        have H1 := Lib.hid (newctx_lq (W := w) (p := none) (w := w) ⟨rfl, rfl, rfl⟩ (Below.refl w.heap.size w))
        simp only [Option.map_none] at H1
        refine H1.out.mono ?_
        rintro e w2 ⟨rfl, h2⟩
        clear H1
        have H2 : Hid (LQ w w.heap.size none (s0 [] 0 []) [] w2) := h2
        clear h2
        have HF : Hid (FU (s0 [] 0 []) 1 0) := ⟨rfl, rfl, rfl⟩
        go_wp2_with fail
        go_loopw [6] (fun s6 wr => ∃ (i : Nat) (s : St), 1 ≤ i ∧ i ≤ 64 + m ∧ s6 = .int .i64 (i : Int) ∧ Hid (LQ w w.heap.size none s [] wr ∧ FU s (min i 64) 0)) (fun x _ => 64 + m - (intOf x).toNat)
        case atStart => exact ⟨1, _, by omega, by omega, rfl, H2.out, HF.out⟩
        case round =>
          clear H2 HF
          obtain ⟨i, s, hi1, hi, rfl, hR⟩ := hrel
          have bm : IntKind.i64.wrap (64 + (m : Int)) = 64 + (m : Int) := by rw [IntKind.wrap_i64]; omega
          by_cases hlt0 : i < 64 + m
          · have b3 : (i : Int) < 64 + (m : Int) := by omega
            by_cases hn0 : ¬ 0 < n
            · have b5 : ¬ (0 : Int) < (n : Int) := by omega
              clear hn0
              by_cases h64 : i < 64
              · have b4 : (i : Int) < 64 := by omega
                have hlen : s.C.length = i := by rw [hR.out.2.len]; omega
                have hlt : s.C.length < 64 := by omega
                have HC := Lib.hid (hR.out.1.made (fun c => hR.out.1.iv.nx (i := 0) (y := bg) hR.out.2.bg hlt c bg.wh bg.has false) fun O f => cancels_ok f hR.out.1.iv (i := 0) (y := bg) hR.out.2.bg hlt)
                rw [hlen] at HC
                go_wp2_with fail
                refine HC.out.mono ?_
                rintro e w3 ⟨P0, n0, k0, cc, L0, hn0, rfl, h, hr0⟩
                clear HC
                have HR : Hid (LQ w w.heap.size none (mkC s (nx0 cc bg.wh bg.has false) bg) [] w3 ∧ FU (mkC s (nx0 cc bg.wh bg.has false) bg) (min (i + 1) 64) 0) := ⟨h.out.sub (List.sublist_cons_self _ _), by rw [show min (i + 1) 64 = min i 64 + 1 from by omega]; rw [mk_bg]; exact FU.add hR.out.2 _ _ _⟩
                clear hR h hr0 hn0 hlen hlt
                go_wp2_with fail
                go_roundw
                case rel => exact ⟨i + 1, _, by omega, by omega, by go_num, HR.out⟩
                case measure => simp [intOf]; omega
              · have b4 : ¬ (i : Int) < 64 := by omega
                have hrf : rfs s 0 = 3 := rfs_full (i := 0) (by rw [hR.out.2.len]; omega) (by rw [hR.out.2.len]; omega)
                have HC := Lib.hid (hR.out.1.same (fun O f => cancels_no f (k := 0) hrf (by decide)))
                clear hrf
                go_wp2_with fail
                refine HC.out.mono ?_
                rintro e w3 ⟨rfl, rfl⟩
                clear HC
                have HR : Hid (LQ w w.heap.size none s [] wr ∧ FU s (min (i + 1) 64) 0) := ⟨hR.out.1, by rw [show min (i + 1) 64 = min i 64 from by omega]; exact hR.out.2⟩
                clear hR
                go_wp2_with fail
                go_roundw
                case rel => exact ⟨i + 1, _, by omega, by omega, by go_num, HR.out⟩
                case measure => simp [intOf]; omega
            · have b5 : (0 : Int) < (n : Int) := by omega
              have c2 : ((n : Int) == 0) = false := by simp <;> omega
              have c3 : ((n : Int) == -1) = false := by simp <;> omega
              have hmod : i % n < n := Nat.mod_lt _ (by omega)
              have e1 : ((i : Int).tmod (n : Int)) = ((i % n : Nat) : Int) := (Int.ofNat_tmod i n).symm
              have w1 : IntKind.i64.wrap (((i % n : Nat) : Int)) = ((i % n : Nat) : Int) := by rw [IntKind.wrap_i64]; omega
              have w0 : IntKind.i64.wrap ((i : Int).tmod (n : Int)) = ((i % n : Nat) : Int) := by rw [e1]; exact w1
              obtain ⟨b, off, z, rfl, hbl, hz, hcl⟩ := HIn.out.cell hR.out.1.bel hmod
              generalize i % n = j at *
              have HQ := Lib.hid (round_any z 3 wr (by omega) (by omega))
              have hq := pk_lt z (m := 3) (by omega)
              generalize pk z 3 = q at *
              clear hz
              go_wp2_with fail
              refine HQ.out.mono ?_
              rintro e w' ⟨rfl, rfl⟩
              clear HQ
              have hq3 : q = 0 ∨ q = 1 ∨ q = 2 := by omega
              rcases hq3 with rfl | rfl | rfl
              · by_cases h64 : i < 64
                · have b4 : (i : Int) < 64 := by omega
                  have hlen : s.C.length = i := by rw [hR.out.2.len]; omega
                  have hlt : s.C.length < 64 := by omega
                  have HC := Lib.hid (hR.out.1.made (fun c => hR.out.1.iv.nx (i := 0) (y := bg) hR.out.2.bg hlt c bg.wh bg.has false) fun O f => cancels_ok f hR.out.1.iv (i := 0) (y := bg) hR.out.2.bg hlt)
                  rw [hlen] at HC
                  go_wp2_with fail
                  refine HC.out.mono ?_
                  rintro e w3 ⟨P0, n0, k0, cc, L0, hn0, rfl, h, hr0⟩
                  clear HC
                  have HR : Hid (LQ w w.heap.size none (mkC s (nx0 cc bg.wh bg.has false) bg) [] w3 ∧ FU (mkC s (nx0 cc bg.wh bg.has false) bg) (min (i + 1) 64) 0) := ⟨h.out.sub (List.sublist_cons_self _ _), by rw [show min (i + 1) 64 = min i 64 + 1 from by omega]; rw [mk_bg]; exact FU.add hR.out.2 _ _ _⟩
                  clear hR h hr0 hn0 hlen hlt
                  go_wp2_with fail
                  go_roundw
                  case rel => exact ⟨i + 1, _, by omega, by omega, by go_num, HR.out⟩
                  case measure => simp [intOf]; omega
                · have b4 : ¬ (i : Int) < 64 := by omega
                  have hrf : rfs s 0 = 3 := rfs_full (i := 0) (by rw [hR.out.2.len]; omega) (by rw [hR.out.2.len]; omega)
                  have HC := Lib.hid (hR.out.1.same (fun O f => cancels_no f (k := 0) hrf (by decide)))
                  clear hrf
                  go_wp2_with fail
                  refine HC.out.mono ?_
                  rintro e w3 ⟨rfl, rfl⟩
                  clear HC
                  have HR : Hid (LQ w w.heap.size none s [] wr ∧ FU s (min (i + 1) 64) 0) := ⟨hR.out.1, by rw [show min (i + 1) 64 = min i 64 from by omega]; exact hR.out.2⟩
                  clear hR
                  go_wp2_with fail
                  go_roundw
                  case rel => exact ⟨i + 1, _, by omega, by omega, by go_num, HR.out⟩
                  case measure => simp [intOf]; omega
              · by_cases h64 : i < 64
                · have b4 : (i : Int) < 64 := by omega
                  have hlen : s.C.length = i := by rw [hR.out.2.len]; omega
                  have hlt : s.C.length < 64 := by omega
                  have HC := Lib.hid (hR.out.1.made (fun c => hR.out.1.iv.dl (p := none) (i := 0) (y := bg) hR.out.2.bg hlt c (hz 50)) fun O f => deadline_set 50 1 f hR.out.1.iv (i := 0) (y := bg) hR.out.2.bg hlt (by intro h9; exact Bool.noConfusion (show false = true from h9.1)) rfl hz50)
                  rw [hlen] at HC
                  go_wp2_with fail
                  refine HC.out.mono ?_
                  rintro e w3 ⟨P0, n0, k0, cc, L0, hn0, rfl, h, hr0⟩
                  clear HC
                  have HR : Hid (LQ w w.heap.size none (dlS none s (nx0 cc (hz 50) true true) (bg.nd : Int) (hz 50)) [] w3 ∧ FU (dlS none s (nx0 cc (hz 50) true true) (bg.nd : Int) (hz 50)) (min (i + 1) 64) 0) := ⟨h.out.sub (List.sublist_cons_self _ _), by rw [show min (i + 1) 64 = min i 64 + 1 from by omega]; exact FU.dl hR.out.2 _ _ _⟩
                  clear hR h hr0 hn0 hlen hlt
                  go_wp2_with fail
                  go_roundw
                  case rel => exact ⟨i + 1, _, by omega, by omega, by go_num, HR.out⟩
                  case measure => simp [intOf]; omega
                · have b4 : ¬ (i : Int) < 64 := by omega
                  have hrf : rfs s 0 = 3 := rfs_full (i := 0) (by rw [hR.out.2.len]; omega) (by rw [hR.out.2.len]; omega)
                  have HC := Lib.hid (hR.out.1.same (fun O f => deadline_no f (k := 0) (wh := 50) (now := 1) hrf (by decide)))
                  clear hrf
                  go_wp2_with fail
                  refine HC.out.mono ?_
                  rintro e w3 ⟨rfl, rfl⟩
                  clear HC
                  have HR : Hid (LQ w w.heap.size none s [] wr ∧ FU s (min (i + 1) 64) 0) := ⟨hR.out.1, by rw [show min (i + 1) 64 = min i 64 from by omega]; exact hR.out.2⟩
                  clear hR
                  go_wp2_with fail
                  go_roundw
                  case rel => exact ⟨i + 1, _, by omega, by omega, by go_num, HR.out⟩
                  case measure => simp [intOf]; omega
              · by_cases h64 : i < 64
                · have b4 : (i : Int) < 64 := by omega
                  have hlen : s.C.length = i := by rw [hR.out.2.len]; omega
                  have hlt : s.C.length < 64 := by omega
                  have HC := Lib.hid (hR.out.1.call (hR.out.1.iv.wo (i := 0) (y := bg) hR.out.2.bg hlt) (Q := fun e _ => e = .returned (.tuple #[.int .i64 (s.C.length : Int), .int .i64 0])) fun O f => (without_ok f hR.out.1.iv (i := 0) (y := bg) hR.out.2.bg hlt).mono fun e w' h => ⟨h.1, h.2.out⟩)
                  rw [hlen] at HC
                  go_wp2_with fail
                  refine HC.out.mono ?_
                  rintro e w3 ⟨rfl, h⟩
                  clear HC
                  have HR : Hid (LQ w w.heap.size none (addS s nxW (bg.nd : Int) false) [] w3 ∧ FU (addS s nxW (bg.nd : Int) false) (min (i + 1) 64) 0) := ⟨h, by rw [show min (i + 1) 64 = min i 64 + 1 from by omega]; exact FU.add hR.out.2 _ _ _⟩
                  clear hR h hlen hlt
                  go_wp2_with fail
                  go_roundw
                  case rel => exact ⟨i + 1, _, by omega, by omega, by go_num, HR.out⟩
                  case measure => simp [intOf]; omega
                · have b4 : ¬ (i : Int) < 64 := by omega
                  have hrf : rfs s 0 = 3 := rfs_full (i := 0) (by rw [hR.out.2.len]; omega) (by rw [hR.out.2.len]; omega)
                  have HC := Lib.hid (hR.out.1.same (fun O f => without_no f (k := 0) hrf (by decide)))
                  clear hrf
                  go_wp2_with fail
                  refine HC.out.mono ?_
                  rintro e w3 ⟨rfl, rfl⟩
                  clear HC
                  have HR : Hid (LQ w w.heap.size none s [] wr ∧ FU s (min (i + 1) 64) 0) := ⟨hR.out.1, by rw [show min (i + 1) 64 = min i 64 from by omega]; exact hR.out.2⟩
                  clear hR
                  go_wp2_with fail
                  go_roundw
                  case rel => exact ⟨i + 1, _, by omega, by omega, by go_num, HR.out⟩
                  case measure => simp [intOf]; omega
          · obtain rfl : i = 64 + m := by omega
            have b3 : ¬ (((64 + m : Nat) : Int) < 64 + (m : Int)) := by omega
            have hF : Hid (LQ w w.heap.size none s [] wr ∧ FU s 64 0) := ⟨hR.out.1, by have := hR.out.2; rwa [full_len (show m < 6 by omega)] at this⟩
            clear hR
            go_wp2_with fail
            go_loopw [10] (fun s10 wr => ∃ (i : Nat) (s : St), i ≤ 64 + m ∧ s10 = .int .i64 (i : Int) ∧ Hid (LQ w w.heap.size none s [] wr ∧ FU s 64 (min i 64))) (fun x _ => 64 + m - (intOf x).toNat)
            case atStart => exact ⟨0, _, by omega, rfl, hF.out⟩
            case round =>
              clear hF
              obtain ⟨i, s, hi, rfl, hR⟩ := hrel
              by_cases hlt1 : i < 64 + m
              · have b6 : (i : Int) < 64 + (m : Int) := by omega
                have hpg : (0 : Int) ≤ (i : Int) := by omega
                by_cases h64 : i < 64
                · have b4 : (i : Int) < 64 := by omega
                  have hlen : s.A.length = i := by rw [hR.out.2.al]; omega
                  have HC := Lib.hid (hR.out.1.af (hR.out.1.iv.af (i := 0) (y := bg) hR.out.2.bg (by omega) (i : Int)) fun O f => after_ok (i : Int) f hR.out.1.iv (i := 0) (x := bg) hR.out.2.bg hpg (by omega))
                  rw [hlen] at HC
                  go_wp2_with fail
                  refine HC.out.mono ?_
                  rintro e w3 ⟨P4, n4, k4, hn4, rfl, h⟩
                  clear HC
                  obtain rfl : n4 = 0 := hn4.out
                  have HR : Hid (LQ w w.heap.size none (afS s bg (i : Int)) [] w3 ∧ FU (afS s bg (i : Int)) 64 (min (i + 1) 64)) := ⟨h.out.sub (List.sublist_cons_self _ _), by rw [show min (i + 1) 64 = min i 64 + 1 from by omega]; exact hR.out.2.af _⟩
                  clear hR h hn4 hlen
                  go_wp2_with fail
                  go_roundw
                  case rel => exact ⟨i + 1, _, by omega, by go_num, HR.out⟩
                  case measure => simp [intOf]; omega
                · have b4 : ¬ (i : Int) < 64 := by omega
                  have HC := Lib.hid (hR.out.1.same (fun O f => after_full (i := 0) (pg := (i : Int)) f (by rw [hR.out.2.len]; omega) hpg (by rw [hR.out.2.al]; omega)))
                  go_wp2_with fail
                  refine HC.out.mono ?_
                  rintro e w3 ⟨rfl, rfl⟩
                  clear HC
                  have HR : Hid (LQ w w.heap.size none s [] wr ∧ FU s 64 (min (i + 1) 64)) := ⟨hR.out.1, by rw [show min (i + 1) 64 = min i 64 from by omega]; exact hR.out.2⟩
                  clear hR
                  unfold af3
                  go_wp2_with fail
                  go_roundw
                  case rel => exact ⟨i + 1, _, by omega, by go_num, HR.out⟩
                  case measure => simp [intOf]; omega
              · obtain rfl : i = 64 + m := by omega
                have b6 : ¬ (((64 + m : Nat) : Int) < 64 + (m : Int)) := by omega
                have HC := Lib.hid (hR.out.1.same fun O f => clen_any f)
                rw [hR.out.2.len] at HC
                have HB9 := Lib.hid hR.out.1.bel
                clear hR
                go_wp2_with fail
                refine HC.out.mono ?_
                rintro e w3 ⟨rfl, rfl⟩
                clear HC
                go_wp2_with fail
                refine (awake_any _).mono ?_
                rintro e w9 ⟨rfl, hb⟩
                have HB := Lib.hid hb
                clear hb
                go_wp2_with fail
                go_ret
                exact ⟨rfl, HB9.out.trans (HB.out.mono HB9.out.size)⟩
end Go.Proofs.Ytdpapnfjpefhkaa
