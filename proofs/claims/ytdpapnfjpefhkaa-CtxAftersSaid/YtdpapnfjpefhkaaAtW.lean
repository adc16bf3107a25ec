/- CtxAfters walked: what is registered is started once, when its context is done, or at once, if it is; what was taken back in time never. No condition. -/
import Derived.Test.YtdpapnfjpefhkaaAftm
import Derived.Test.YtdpapnfjpefhkaaFaW
namespace Go.Proofs.Ytdpapnfjpefhkaa
open Go.RowKit Tr
set_option linter.unusedVariables false
set_option maxRecDepth 100000

section
variable {W w : World} {t i j c : Nat} {p : Option Nat} {s : St} {rs : List Rr}
def gk (l : List Bool) (k : Nat) (i : Nat) : Bool := !(decide (i < k) && l.getD i false)
def fk (l : List Int) (i : Nat) : Nat := if pk (l.getD i 0) 3 = 0 then 1 else if pk (l.getD i 0) 3 = 1 then 2 else 0
theorem fk_le (l : List Int) (i : Nat) : fk l i ≤ 2 := by unfold fk; split <;> (try split) <;> omega
theorem fk_at {l : List Int} {z : Int} {i : Nat} (h : l[i]? = some z) : fk l i = if pk z 3 = 0 then 1 else if pk z 3 = 1 then 2 else 0 := by
  unfold fk
  rw [show l.getD i 0 = z from by simp [List.getD_eq_getElem?_getD, h]]
theorem gk_zero (l : List Bool) : gk l 0 = fun _ => true := by funext i; simp [gk]
theorem gk_at (l : List Bool) (i : Nat) : gk l i i = true := by simp [gk]
theorem gk_back {l : List Bool} {i : Nat} (h : l[i]? = some true) : (fun j => (fun j => gk l i j && !(j == i)) j && !(j == i)) = gk l (i + 1) := by
  funext j
  by_cases e : j = i
  · subst e; simp [gk, List.getD_eq_getElem?_getD, h]
  · have e2 : (j == i) = false := by simpa using e
    simp only [gk, e2, Bool.not_false, Bool.and_true]
    have : decide (j < i + 1) = decide (j < i) := decide_eq_decide.2 (by omega)
    rw [this]
theorem gk_stay {l : List Bool} {i : Nat} (h : l[i]? = some false) : gk l (i + 1) = gk l i := by
  funext j
  by_cases e : j = i
  · subst e; simp [gk, List.getD_eq_getElem?_getD, h]
  · have : decide (j < i + 1) = decide (j < i) := decide_eq_decide.2 (by omega)
    simp only [gk, this]
def bk (l : List Bool) (i : Nat) : Bool := !l.getD i false
theorem bk_at {l : List Bool} {i : Nat} {b : Bool} (h : l[i]? = some b) : bk l i = !b := by simp [bk, List.getD_eq_getElem?_getD, h]
theorem gk_bk (l : List Bool) {n i : Nat} (h : i < n) : gk l n i = bk l i := by simp [gk, bk, h]
def iN (l : List Nat) : List Int := l.map fun i : Nat => (i : Int)
theorem iN_app (l : List Nat) (i : Nat) : iN (l ++ [i]) = iN l ++ [(i : Int)] := by simp [iN]
theorem iN_len (l : List Nat) : (iN l).length = l.length := by simp [iN]
end
set_option maxHeartbeats 64000000 in
theorem afters_any {D0 D1 : Option Addr} {n0 k0 n1 k1 : Nat} {l0 : List Int} {l1 : List Bool} (late : Int) {w : World} (hr0 : Rni w D0 n0 l0) (hr1 : Rb w D1 n1 l1) : Calls Try.prog 5 #[.slice D0 n0 k0, .slice D1 n1 k1, .int .i64 late] w fun e w' => e = .returned (.bool true) ∧ Below w.heap.size w w' := by
  by_cases h1 : (20 : Int) < (n0 : Int)
  · go_enter Try.func5, Try.ntmps5
    go_wp2_with fail
    refine (awake_any w).mono ?_
    rintro e w' ⟨rfl, hb⟩
    have HB := Lib.hid hb
    clear hb
    go_wp2_with fail
    go_ret
    exact ⟨rfl, HB.out⟩
  · by_cases h2 : (n1 : Int) < (n0 : Int)
    · go_enter Try.func5, Try.ntmps5
      go_wp2_with fail
      refine (awake_any w).mono ?_
      rintro e w' ⟨rfl, hb⟩
      have HB := Lib.hid hb
      clear hb
      go_wp2_with fail
      go_ret
      exact ⟨rfl, HB.out⟩
    · by_cases h3 : (30 : Int) < (n1 : Int)
      · go_enter Try.func5, Try.ntmps5
        go_wp2_with fail
        refine (awake_any w).mono ?_
        rintro e w' ⟨rfl, hb⟩
        have HB := Lib.hid hb
        clear hb
        go_wp2_with fail
        go_ret
        exact ⟨rfl, HB.out⟩
      · have hn0 : n0 ≤ 20 := by omega
        have hn1 : n0 ≤ n1 := by omega
        have R0 := Lib.hid hr0
        have R1 := Lib.hid hr1
        clear hr0 hr1
        obtain ⟨i3, hi3, hy0, hy1, hy2⟩ := info_parts Tr.inf3
        go_enter Try.func5, Try.ntmps5
        go_wp2_with fail
        have H1 := Lib.hid (newctx_lq (W := w) (p := none) (w := w) ⟨rfl, rfl, rfl⟩ (Below.refl w.heap.size w))
        simp only [Option.map_none] at H1
        refine H1.out.mono ?_
        rintro e w2 ⟨rfl, h2⟩
        clear H1
        have H2 : Hid (LQ w w.heap.size none A0 [] w2) := h2
        clear h2
        generalize w.heap.size = t at *
        have HC : Hid (Calls Try.prog 15 #[pS t, .int .i64 0] w2 fun e w' => MkQ w t none (fun c => A1 c) [] 1 0 0 [] e w') := Lib.hid (H2.out.made (fun c => H2.out.iv.nx (i := 0) (y := bg) rfl (by decide) c bg.wh bg.has false) fun O f => cancels_ok f H2.out.iv (i := 0) (y := bg) rfl (by decide))
        go_wp2_with fail
        refine HC.out.mono ?_
        rintro e w3 ⟨P0, m0, kk0, c1, L0, hm0, rfl, h, hrd⟩
        clear HC H2
        have H3 : Hid (LQ w t none (A1 c1) [] w3) := h.out.sub (List.nil_sublist _)
        clear h hm0 hrd
        have HC : Hid (Calls Try.prog 15 #[pS t, .int .i64 1] w3 fun e w' => MkQ w t none (fun c => sA c1 c (fk l0) (fun _ => true) 0) [] 2 0 0 [] e w') := Lib.hid (H3.out.made (fun c => H3.out.iv.nx (i := 1) (y := X1 c1) rfl (by show (2 : Nat) < 64; decide) c (X1 c1).wh (X1 c1).has false) fun O f => cancels_ok f H3.out.iv (i := 1) (y := X1 c1) rfl (by show (2 : Nat) < 64; decide))
        go_wp2_with fail
        refine HC.out.mono ?_
        rintro e w4 ⟨P0, m0, kk0, c2, L0, hm0, rfl, h, hrd⟩
        clear HC H3
        have H4 : Hid (LQ w t none (sA c1 c2 (fk l0) (fun _ => true) 0) [] w4) := h.out.sub (List.nil_sublist _)
        clear h hm0 hrd
        go_wp2_with fail
        go_loopw [15] (fun s15 wr => ∃ i : Nat, i ≤ n0 ∧ s15 = .int .i64 (i : Int) ∧ Hid (LQ w t none (sA c1 c2 (fk l0) (fun _ => true) i) [] wr)) (fun x _ => n0 - (intOf x).toNat)
        case atStart => exact ⟨0, by omega, rfl, H4.out⟩
        case round =>
          clear H4
          obtain ⟨i, hi, rfl, hL⟩ := hrel
          by_cases hlt : i < n0
          · have b3 : (i : Int) < (n0 : Int) := by omega
            have hLa := Lib.hid (hL.out.alloc (.cells #[.int .i64 1, .int .i64 2, .int .i64 0] 3))
            obtain ⟨b, off, z, rfl, hbl, hz9, hc0⟩ := R0.out.cell hLa.out.bel hlt
            clear hL
            have HQ := Lib.hid (round_any z 3 (wr.alloc (.cells #[.int .i64 1, .int .i64 2, .int .i64 0] 3)) (by omega) (by omega))
            have hq3 := pk_lt z (m := 3) (by omega)
            obtain ⟨q, hpk⟩ : ∃ q, pk z 3 = q := ⟨_, rfl⟩
            rw [hpk] at HQ hq3
            by_cases hq : q = 0
            · as_aux_lemma =>
              clear hq3
              obtain rfl := hq
              have hfi : fk l0 i = 1 := by rw [fk_at hz9, hpk]; rfl
              obtain ⟨x, hx, hxe, hxn⟩ := sA_c (c1 := c1) (c2 := c2) (f := fk l0) (g := fun _ => true) (n := i) (v := 1) (by omega)
              have e9 := sA_af (c1 := c1) (c2 := c2) (f := fk l0) (g := fun _ => true) (n := i) hxe (by rw [hxn, hfi]) rfl
              have HC := Lib.hid (hLa.out.af (hLa.out.iv.af (i := 1) (y := x) hx (by show (afA i).length < 64; rw [afA_len]; omega) (100 + (i : Int))) fun O f => after_ok (100 + (i : Int)) f hLa.out.iv (i := 1) (x := x) hx (by omega) (by show (afA i).length < 64; rw [afA_len]; omega))
              rw [e9.1, e9.2, show (sA c1 c2 (fk l0) (fun _ => true) i).A.length = i from afA_len i] at HC
              clear hx hxe hxn e9 hfi hLa hz9 hpk
              go_wp2_with fail
              refine HQ.out.mono ?_
              rintro e w' ⟨rfl, rfl⟩
              clear HQ hc0
              go_wp2_with fail
              refine HC.out.mono ?_
              rintro e w5 ⟨P2, n2, k2, hn2, rfl, h⟩
              clear HC
              obtain rfl : n2 = 0 := hn2.out
              have H5 : Hid (LQ w t none (sA c1 c2 (fk l0) (fun _ => true) (i + 1)) [] w5) := h.out.sub (List.nil_sublist _)
              clear h hn2
              go_wp2_with fail
              go_roundw
              case rel => exact ⟨i + 1, by omega, by go_num, H5.out⟩
              case measure => simp [intOf]; omega
            · by_cases hq1 : q = 1
              · as_aux_lemma =>
                clear hq hq3
                have hq := hq1
                clear hq1
                obtain rfl := hq
                have hfi : fk l0 i = 2 := by rw [fk_at hz9, hpk]; rfl
                obtain ⟨x, hx, hxe, hxn⟩ := sA_c (c1 := c1) (c2 := c2) (f := fk l0) (g := fun _ => true) (n := i) (v := 2) (by omega)
                have e9 := sA_af (c1 := c1) (c2 := c2) (f := fk l0) (g := fun _ => true) (n := i) hxe (by rw [hxn, hfi]) rfl
                have HC := Lib.hid (hLa.out.af (hLa.out.iv.af (i := 2) (y := x) hx (by show (afA i).length < 64; rw [afA_len]; omega) (100 + (i : Int))) fun O f => after_ok (100 + (i : Int)) f hLa.out.iv (i := 2) (x := x) hx (by omega) (by show (afA i).length < 64; rw [afA_len]; omega))
                rw [e9.1, e9.2, show (sA c1 c2 (fk l0) (fun _ => true) i).A.length = i from afA_len i] at HC
                clear hx hxe hxn e9 hfi hLa hz9 hpk
                go_wp2_with fail
                refine HQ.out.mono ?_
                rintro e w' ⟨rfl, rfl⟩
                clear HQ hc0
                go_wp2_with fail
                refine HC.out.mono ?_
                rintro e w5 ⟨P2, n2, k2, hn2, rfl, h⟩
                clear HC
                obtain rfl : n2 = 0 := hn2.out
                have H5 : Hid (LQ w t none (sA c1 c2 (fk l0) (fun _ => true) (i + 1)) [] w5) := h.out.sub (List.nil_sublist _)
                clear h hn2
                go_wp2_with fail
                go_roundw
                case rel => exact ⟨i + 1, by omega, by go_num, H5.out⟩
                case measure => simp [intOf]; omega
              · as_aux_lemma =>
                have hq : q = 2 := by omega
                clear hq1 hq3
                obtain rfl := hq
                have hfi : fk l0 i = 0 := by rw [fk_at hz9, hpk]; rfl
                obtain ⟨x, hx, hxe, hxn⟩ := sA_c (c1 := c1) (c2 := c2) (f := fk l0) (g := fun _ => true) (n := i) (v := 0) (by omega)
                have e9 := sA_af (c1 := c1) (c2 := c2) (f := fk l0) (g := fun _ => true) (n := i) hxe (by rw [hxn, hfi]) rfl
                have HC := Lib.hid (hLa.out.af (hLa.out.iv.af (i := 0) (y := x) hx (by show (afA i).length < 64; rw [afA_len]; omega) (100 + (i : Int))) fun O f => after_ok (100 + (i : Int)) f hLa.out.iv (i := 0) (x := x) hx (by omega) (by show (afA i).length < 64; rw [afA_len]; omega))
                rw [e9.1, e9.2, show (sA c1 c2 (fk l0) (fun _ => true) i).A.length = i from afA_len i] at HC
                clear hx hxe hxn e9 hfi hLa hz9 hpk
                go_wp2_with fail
                refine HQ.out.mono ?_
                rintro e w' ⟨rfl, rfl⟩
                clear HQ hc0
                go_wp2_with fail
                refine HC.out.mono ?_
                rintro e w5 ⟨P2, n2, k2, hn2, rfl, h⟩
                clear HC
                obtain rfl : n2 = 0 := hn2.out
                have H5 : Hid (LQ w t none (sA c1 c2 (fk l0) (fun _ => true) (i + 1)) [] w5) := h.out.sub (List.nil_sublist _)
                clear h hn2
                go_wp2_with fail
                go_roundw
                case rel => exact ⟨i + 1, by omega, by go_num, H5.out⟩
                case measure => simp [intOf]; omega
          · obtain rfl : n0 = i := by omega
            have hL9 : Hid (LQ w t none (sA c1 c2 (fk l0) (gk l1 0) n0) [rwI none 0 (iN (wA (fk l0) (bk l1) 2 0))] wr) := by rw [gk_zero]; exact hL.out.nil
            clear hL
            go_wp2_with fail
            go_loopw [14, 20] (fun s14 s20 wr => ∃ (i m c : Nat) (P : Option Addr), i ≤ n0 ∧ s20 = .int .i64 (i : Int) ∧ s14 = .slice P m c ∧ m ≤ i ∧ Hid (m = (wA (fk l0) (bk l1) 2 i).length) ∧ Hid (LQ w t none (sA c1 c2 (fk l0) (gk l1 i) n0) [rwI P c (iN (wA (fk l0) (bk l1) 2 i))] wr)) (fun _ x _ => n0 - (intOf x).toNat)
            case atStart => exact ⟨0, 0, 0, none, by omega, rfl, rfl, by omega, rfl, hL9.out⟩
            case round =>
              clear hL9
              obtain ⟨i, m, c, P, hi, rfl, rfl, hmi9, hml, hL⟩ := hrel
              by_cases hlt : i < n0
              · have b3 : (i : Int) < (n0 : Int) := by omega
                have b4 : (i : Int) < (n1 : Int) := by omega
                have hmi : Hid (m = (iN (wA (fk l0) (bk l1) 2 i)).length) := by show _ = _; rw [iN_len]; exact hml.out
                obtain ⟨b, off, z, rfl, hbl, hz9, hc0⟩ := R0.out.cell hL.out.bel hlt
                obtain ⟨b1, off1, v1, rfl, hbl1, hbv, hc1⟩ := R1.out.cell hL.out.bel (show i < n1 by omega)
                cases v1 with
                | true =>
                  as_aux_lemma =>
                  have hun := sA_un (c1 := c1) (c2 := c2) (f := fk l0) (g := gk l1 i) (n := n0) hlt
                  have hlk := sA_lkd (c1 := c1) (c2 := c2) (f := fk l0) (g := gk l1 i) (n := n0) hlt
                  have hun2 := sA_un (c1 := c1) (c2 := c2) (f := fk l0) (g := fun j => gk l1 i j && !(j == i)) (n := n0) hlt
                  have hlk2 := sA_lkd (c1 := c1) (c2 := c2) (f := fk l0) (g := fun j => gk l1 i j && !(j == i)) (n := n0) hlt
                  rw [gk_at] at hlk
                  rw [gk_back hbv] at hun2
                  have hlk2 : lkd (sA c1 c2 (fk l0) (fun j => gk l1 i j && !(j == i)) n0) (3 + i) = false := by rw [hlk2]; simp
                  have HW := Lib.hid (wA_out (f := fk l0) (g := bk l1) (v := 2) (n := i) (.inl (by rw [bk_at hbv]; rfl)))
                  have HC := Lib.hid (hL.out.call (hL.out.iv.un (3 + i)) (Q := fun e _ => e = .returned (un2 (lkd (sA c1 c2 (fk l0) (gk l1 i) n0) (3 + i)) 0)) fun O f => (unafter_ok f hL.out.iv (j := i) (a := ⟨3 + i, 100 + (i : Int)⟩) (afA_at hlt)).mono fun e w' h => ⟨h.1, h.2.out⟩)
                  rw [hun, hlk] at HC
                  have HU2 := Lib.hid (And.intro hun2 hlk2)
                  clear hun hlk hun2 hlk2 hbv hL hc0 hz9
                  go_wp2_with fail
                  refine HC.out.mono ?_
                  rintro e w5 ⟨rfl, h⟩
                  clear HC hc1
                  have H5 := Lib.hid h
                  clear h
                  have HC := Lib.hid (H5.out.call (H5.out.iv.un (3 + i)) (Q := fun e _ => e = .returned (un2 (lkd (sA c1 c2 (fk l0) (fun j => gk l1 i j && !(j == i)) n0) (3 + i)) 0)) fun O f => (unafter_ok f H5.out.iv (j := i) (a := ⟨3 + i, 100 + (i : Int)⟩) (afA_at hlt)).mono fun e w' h => ⟨h.1, h.2.out⟩)
                  rw [HU2.out.1, HU2.out.2] at HC
                  clear HU2
                  go_wp2_with fail
                  refine HC.out.mono ?_
                  rintro e w6 ⟨rfl, h⟩
                  clear HC H5
                  have H6 := Lib.hid h
                  clear h
                  go_wp2_with fail
                  go_roundw
                  case rel =>
                    refine ⟨i + 1, m, c, P, by omega, by go_num, rfl, by omega, ?_, ?_⟩
                    · show _ = _; rw [HW.out]; exact hml.out
                    · show LQ w t none (sA c1 c2 (fk l0) (gk l1 (i + 1)) n0) [rwI _ _ (iN (wA (fk l0) (bk l1) 2 (i + 1)))] _
                      rw [HW.out]; exact H6.out
                  case measure => simp [intOf]; omega
                | false =>
                  have HQ := Lib.hid (round_any z 3 wr (by omega) (by omega))
                  have hq3 := pk_lt z (m := 3) (by omega)
                  obtain ⟨q, hpk⟩ : ∃ q, pk z 3 = q := ⟨_, rfl⟩
                  rw [hpk] at HQ hq3
                  by_cases hq : q = 0
                  · as_aux_lemma =>
                    clear hq3
                    obtain rfl := hq
                    have HW := Lib.hid (wA_out (f := fk l0) (g := bk l1) (v := 2) (n := i) (.inr (by rw [fk_at hz9, hpk]; decide)))
                    have hgs := gk_stay hbv
                    clear hz9 hpk hbv
                    go_wp2_with fail
                    refine HQ.out.mono ?_
                    rintro e w' ⟨rfl, rfl⟩
                    clear HQ hc0 hc1
                    go_wp2_with fail
                    go_roundw
                    case rel =>
                      refine ⟨i + 1, m, c, P, by omega, by go_num, rfl, by omega, ?_, ?_⟩
                      · show _ = _; rw [HW.out]; exact hml.out
                      · show LQ w t none (sA c1 c2 (fk l0) (gk l1 (i + 1)) n0) [rwI _ _ (iN (wA (fk l0) (bk l1) 2 (i + 1)))] _
                        rw [HW.out, hgs]; exact hL.out
                    case measure => simp [intOf]; omega
                  · by_cases hq1 : q = 1
                    · as_aux_lemma =>
                      clear hq hq3
                      have hq := hq1
                      clear hq1
                      obtain rfl := hq
                      have hfi : fk l0 i = 2 := by rw [fk_at hz9, hpk]; rfl
                      have HW := Lib.hid (wA_in (f := fk l0) (g := bk l1) (n := i) (by rw [bk_at hbv]; rfl) hfi)
                      have hgs := gk_stay hbv
                      clear hz9 hpk hfi hbv
                      go_wp2_with fail
                      refine HQ.out.mono ?_
                      rintro e w' ⟨rfl, rfl⟩
                      clear HQ hc0 hc1
                      go_wp2_with (at_builtin; go_loud (refine wpList_append_lies _ rfl (.tmp 154) (.tmp 156) 22 rfl 0 3 i3 _ 1 8 Try.underlying22 hi3 hy0 hy1 hy2 rfl (by omega) (.slice P m c) m (Tr.iV (iN (wA (fk l0) (bk l1) 2 i))) rfl ((hL.out.alloc _).ownI (i := 0) rfl hmi.out) ⟨wr.heap.size, 0, none⟩ 1 1 [.int .i64 (i : Int)] rfl rfl (World.news_of_block (cs := #[.int .i64 (i : Int)]) (heap_alloc_new wr _)) (int_cell _) (by omega) (by unfold maxLen; omega) (by omega) (by omega) (wr.heap.size + 1) (by first | (simp; done) | (simp; rfl)) ?_; intro g cap w7 hown hgrow hat hlt1; have H7 := Lib.hid (LQ.app (hL.out.alloc _) (i := 0) rfl hmi.out hown hgrow (hat.imp id (fun e => by rw [e]; simp))); clear hown hgrow hat hlt1 hL))
                      go_roundw
                      case rel =>
                        refine ⟨i + 1, m + 1, cap, _, by omega, by go_num, by first | rfl | go_num, by omega, ?_, ?_⟩
                        · show _ = _; rw [HW.out, List.length_append, ← hml.out]; rfl
                        · show LQ w t none (sA c1 c2 (fk l0) (gk l1 (i + 1)) n0) [rwI _ _ (iN (wA (fk l0) (bk l1) 2 (i + 1)))] _
                          rw [HW.out, iN_app, hgs]; exact H7.out
                      case measure => simp [intOf]; omega
                    · as_aux_lemma =>
                      have hq : q = 2 := by omega
                      clear hq1 hq3
                      obtain rfl := hq
                      have HW := Lib.hid (wA_out (f := fk l0) (g := bk l1) (v := 2) (n := i) (.inr (by rw [fk_at hz9, hpk]; decide)))
                      have hgs := gk_stay hbv
                      clear hz9 hpk hbv
                      go_wp2_with fail
                      refine HQ.out.mono ?_
                      rintro e w' ⟨rfl, rfl⟩
                      clear HQ hc0 hc1
                      go_wp2_with fail
                      go_roundw
                      case rel =>
                        refine ⟨i + 1, m, c, P, by omega, by go_num, rfl, by omega, ?_, ?_⟩
                        · show _ = _; rw [HW.out]; exact hml.out
                        · show LQ w t none (sA c1 c2 (fk l0) (gk l1 (i + 1)) n0) [rwI _ _ (iN (wA (fk l0) (bk l1) 2 (i + 1)))] _
                          rw [HW.out, hgs]; exact hL.out
                      case measure => simp [intOf]; omega
              · obtain rfl : n0 = i := by omega
                have hL9 : Hid (LQ w t none (sA c1 c2 (fk l0) (gk l1 n0) n0) [rwI P c (iN (wA (fk l0) (bk l1) 2 n0 ++ wA (fk l0) (bk l1) 1 0))] wr) := by
                  rw [show wA (fk l0) (bk l1) 1 0 = [] from rfl, List.append_nil]; exact hL.out
                have hml9 : Hid (m = (wA (fk l0) (bk l1) 2 n0 ++ wA (fk l0) (bk l1) 1 0).length) := by
                  rw [show wA (fk l0) (bk l1) 1 0 = [] from rfl, List.append_nil]; exact hml.out
                clear hL hml
                go_wp2_with fail
                go_loopw [14, 25] (fun s14 s25 wr => ∃ (i m c : Nat) (P : Option Addr), i ≤ n0 ∧ s25 = .int .i64 (i : Int) ∧ s14 = .slice P m c ∧ m ≤ 20 + i ∧ Hid (m = (wA (fk l0) (bk l1) 2 n0 ++ wA (fk l0) (bk l1) 1 i).length) ∧ Hid (LQ w t none (sA c1 c2 (fk l0) (gk l1 n0) n0) [rwI P c (iN (wA (fk l0) (bk l1) 2 n0 ++ wA (fk l0) (bk l1) 1 i))] wr)) (fun _ x _ => n0 - (intOf x).toNat)
                case atStart => exact ⟨0, m, c, P, by omega, rfl, rfl, by omega, hml9, hL9⟩
                case round =>
                  clear hL9 hml9
                  obtain ⟨i, m, c, P, hi, rfl, rfl, hmi9, hml, hL⟩ := hrel
                  by_cases hlt : i < n0
                  · have b3 : (i : Int) < (n0 : Int) := by omega
                    have b4 : (i : Int) < (n1 : Int) := by omega
                    have hmi : Hid (m = (iN (wA (fk l0) (bk l1) 2 n0 ++ wA (fk l0) (bk l1) 1 i)).length) := by show _ = _; rw [iN_len]; exact hml.out
                    obtain ⟨b, off, z, rfl, hbl, hz9, hc0⟩ := R0.out.cell hL.out.bel hlt
                    obtain ⟨b1, off1, v1, rfl, hbl1, hbv, hc1⟩ := R1.out.cell hL.out.bel (show i < n1 by omega)
                    cases v1 with
                    | true =>
                      as_aux_lemma =>
                      have HW := Lib.hid (wA_out (f := fk l0) (g := bk l1) (v := 1) (n := i) (.inl (by rw [bk_at hbv]; rfl)))
                      clear hbv hz9
                      go_wp2_with fail
                      go_roundw
                      case rel =>
                        refine ⟨i + 1, m, c, P, by omega, by go_num, rfl, by omega, ?_, ?_⟩
                        · show _ = _; rw [HW.out]; exact hml.out
                        · show LQ w t none (sA c1 c2 (fk l0) (gk l1 n0) n0) [rwI _ _ (iN (wA (fk l0) (bk l1) 2 n0 ++ wA (fk l0) (bk l1) 1 (i + 1)))] _
                          rw [HW.out]; exact hL.out
                      case measure => simp [intOf]; omega
                    | false =>
                      have HQ := Lib.hid (round_any z 3 wr (by omega) (by omega))
                      have hq3 := pk_lt z (m := 3) (by omega)
                      obtain ⟨q, hpk⟩ : ∃ q, pk z 3 = q := ⟨_, rfl⟩
                      rw [hpk] at HQ hq3
                      by_cases hq : q = 0
                      · as_aux_lemma =>
                        clear hq3
                        obtain rfl := hq
                        have hfi : fk l0 i = 1 := by rw [fk_at hz9, hpk]; rfl
                        have HW := Lib.hid (wA_in (f := fk l0) (g := bk l1) (n := i) (by rw [bk_at hbv]; rfl) hfi)
                        clear hz9 hpk hfi hbv
                        go_wp2_with fail
                        refine HQ.out.mono ?_
                        rintro e w' ⟨rfl, rfl⟩
                        clear HQ hc0 hc1
                        go_wp2_with (at_builtin; go_loud (refine wpList_append_lies _ rfl (.tmp 177) (.tmp 179) 22 rfl 0 3 i3 _ 1 8 Try.underlying22 hi3 hy0 hy1 hy2 rfl (by omega) (.slice P m c) m (Tr.iV (iN (wA (fk l0) (bk l1) 2 n0 ++ wA (fk l0) (bk l1) 1 i))) rfl ((hL.out.alloc _).ownI (i := 0) rfl hmi.out) ⟨wr.heap.size, 0, none⟩ 1 1 [.int .i64 (i : Int)] rfl rfl (World.news_of_block (cs := #[.int .i64 (i : Int)]) (heap_alloc_new wr _)) (int_cell _) (by omega) (by unfold maxLen; omega) (by omega) (by omega) (wr.heap.size + 1) (by first | (simp; done) | (simp; rfl)) ?_; intro g cap w7 hown hgrow hat hlt1; have H7 := Lib.hid (LQ.app (hL.out.alloc _) (i := 0) rfl hmi.out hown hgrow (hat.imp id (fun e => by rw [e]; simp))); clear hown hgrow hat hlt1 hL))
                        go_roundw
                        case rel =>
                          refine ⟨i + 1, m + 1, cap, _, by omega, by go_num, by first | rfl | go_num, by omega, ?_, ?_⟩
                          · show _ = _; rw [HW.out, ← List.append_assoc, List.length_append, ← hml.out]; rfl
                          · show LQ w t none (sA c1 c2 (fk l0) (gk l1 n0) n0) [rwI _ _ (iN (wA (fk l0) (bk l1) 2 n0 ++ wA (fk l0) (bk l1) 1 (i + 1)))] _
                            rw [HW.out, ← List.append_assoc, iN_app]; exact H7.out
                        case measure => simp [intOf]; omega
                      · by_cases hq1 : q = 1
                        · as_aux_lemma =>
                          clear hq hq3
                          have hq := hq1
                          clear hq1
                          obtain rfl := hq
                          have HW := Lib.hid (wA_out (f := fk l0) (g := bk l1) (v := 1) (n := i) (.inr (by rw [fk_at hz9, hpk]; decide)))
                          clear hz9 hpk hbv
                          go_wp2_with fail
                          refine HQ.out.mono ?_
                          rintro e w' ⟨rfl, rfl⟩
                          clear HQ hc0 hc1
                          go_wp2_with fail
                          go_roundw
                          case rel =>
                            refine ⟨i + 1, m, c, P, by omega, by go_num, rfl, by omega, ?_, ?_⟩
                            · show _ = _; rw [HW.out]; exact hml.out
                            · show LQ w t none (sA c1 c2 (fk l0) (gk l1 n0) n0) [rwI _ _ (iN (wA (fk l0) (bk l1) 2 n0 ++ wA (fk l0) (bk l1) 1 (i + 1)))] _
                              rw [HW.out]; exact hL.out
                          case measure => simp [intOf]; omega
                        · as_aux_lemma =>
                          have hq : q = 2 := by omega
                          clear hq1 hq3
                          obtain rfl := hq
                          have HW := Lib.hid (wA_out (f := fk l0) (g := bk l1) (v := 1) (n := i) (.inr (by rw [fk_at hz9, hpk]; decide)))
                          clear hz9 hpk hbv
                          go_wp2_with fail
                          refine HQ.out.mono ?_
                          rintro e w' ⟨rfl, rfl⟩
                          clear HQ hc0 hc1
                          go_wp2_with fail
                          go_roundw
                          case rel =>
                            refine ⟨i + 1, m, c, P, by omega, by go_num, rfl, by omega, ?_, ?_⟩
                            · show _ = _; rw [HW.out]; exact hml.out
                            · show LQ w t none (sA c1 c2 (fk l0) (gk l1 n0) n0) [rwI _ _ (iN (wA (fk l0) (bk l1) 2 n0 ++ wA (fk l0) (bk l1) 1 (i + 1)))] _
                              rw [HW.out]; exact hL.out
                          case measure => simp [intOf]; omega
                  · obtain rfl : n0 = i := by omega
                    clear R0 R1
                    obtain ⟨T', hcn, hTl⟩ := sA_cn (c1 := c1) (c2 := c2) (f := fk l0) (g := gk l1 n0) (n := n0) fun j _ => fk_le _ _
                    rw [wA_same (f := fk l0) (v := 2) fun i hi => gk_bk l1 hi, wA_same (f := fk l0) (v := 1) fun i hi => gk_bk l1 hi] at hcn
                    have HWL : Hid (∀ x ∈ wA (fk l0) (bk l1) 2 n0 ++ wA (fk l0) (bk l1) 1 n0, x < n0) := fun x hx => by
                      rcases List.mem_append.1 hx with h | h
                      · exact wA_lt h
                      · exact wA_lt h
                    have HC := Lib.hid (hL.out.cn (hL.out.iv.cn (i := 1) (x := X1 c1) (er := 1) (cs := 1) rfl ⟨c1, rfl⟩ (by decide)) fun O f => cancel_call f hL.out.iv (i := 1) (x := X1 c1) rfl ⟨c1, rfl⟩ 0 1 (by decide))
                    rw [hcn] at HC
                    clear hcn hL
                    generalize wA (fk l0) (bk l1) 2 n0 ++ wA (fk l0) (bk l1) 1 n0 = ws at *
                    dsimp only at HC
                    go_wp2_with fail
                    refine HC.out.mono ?_
                    rintro e w8 ⟨P7, n7, k7, L7, Q7, m7, j7, hn7, hm7, rfl, h, hr⟩
                    clear HC
                    obtain rfl : m7 = m := by rw [hm7.out, hml.out, List.length_map]
                    have H8 : Hid (LQ w t none (sB c1 c2 T' n0) [rwM Q7 j7 m7 (ws.map fun i => ⟨i, 100 + (i : Int)⟩), rwI P c (iN ws)] w8) := h.out.sub (by simp)
                    clear h hr hn7
                    go_wp2_with fail
                    go_loopw [29] (fun s29 wr => ∃ i : Nat, i ≤ m7 ∧ s29 = .int .i64 (i : Int) ∧ Hid (LQ w t none (sB c1 c2 T' n0) [rwM Q7 j7 m7 (ws.map fun i => ⟨i, 100 + (i : Int)⟩), rwI P c (iN ws)] wr)) (fun x _ => m7 - (intOf x).toNat)
                    case atStart => exact ⟨0, by omega, rfl, H8.out⟩
                    case round =>
                      clear H8
                      obtain ⟨i, hi, rfl, H8⟩ := hrel
                      by_cases hlt3 : i < m7
                      · as_aux_lemma =>
                        have b6 : (i : Int) < (m7 : Int) := by omega
                        obtain ⟨v, hv⟩ : ∃ v, ws[i]? = some v := ⟨_, List.getElem?_eq_getElem (by rw [← hml.out]; exact hlt3)⟩
                        have hvl : v ≤ 20 := by have := HWL.out v (List.mem_of_getElem? hv); omega
                        obtain ⟨q7, rfl, a0, a1⟩ := H8.out.mcell (i := 0) (j := i) (x := ⟨v, 100 + (v : Int)⟩) rfl (by rw [List.length_map]; exact hml.out.symm) (by rw [List.getElem?_map, hv]; rfl)
                        obtain ⟨q8, rfl, hgl, hgc, hgf⟩ := H8.out.icell (i := 1) (j := i) (x := (v : Int)) rfl (by unfold iN; rw [List.getElem?_map, hv]; rfl)
                        dsimp only at a0 a1
                        clear hv hgl hgf
                        go_wp2_with fail
                        go_quiet (fail)
                        go_wp2_with fail
                        go_roundw
                        case rel => exact ⟨i + 1, by omega, by go_num, H8.out.drewN _⟩
                        case measure => simp [intOf]; omega
                      · obtain rfl : m7 = i := by omega
                        as_aux_lemma =>
                        clear HWL
                        have H9 : Hid (LQ w t none (sB c1 c2 T' n0) [] wr) := H8.out.sub (List.nil_sublist _)
                        have HA := Lib.hid (H9.out.again (k := 1) (x := ended (X1 c1) 1 1) (c := c1) rfl rfl rfl 0)
                        clear H8
                        go_wp2_with fail
                        refine HA.out.mono ?_
                        rintro e w10 ⟨P8, n8, k8, L9, Q8, m8, j8, hn8, hm8, rfl, h, hr⟩
                        clear HA H9
                        obtain rfl : m8 = 0 := hm8.out
                        have H10 : Hid (LQ w t none (sB c1 c2 T' n0) [] w10) := h.out.sub (List.nil_sublist _)
                        clear h hr hn8 hm8
                        have HQ := Lib.hid (round_any late 16 w10 (by omega) (by omega))
                        have hq := pk_lt late (m := 16) (by omega)
                        obtain ⟨q, hpk⟩ : ∃ q, pk late 16 = q := ⟨_, rfl⟩
                        rw [hpk] at HQ hq
                        have HPK := Lib.hid hpk
                        clear hpk
                        obtain ⟨e1, e2, e3⟩ := sB_af (c1 := c1) (c2 := c2) (n := n0) (T' := T') (q := (q : Int))
                        have HC := Lib.hid (H10.out.af (H10.out.iv.af (i := 2) (y := ended (Y2 c2) 1 1) rfl (by show (afA n0).length < 64; rw [afA_len]; omega) (q : Int)) fun O f => after_ok (q : Int) f H10.out.iv (i := 2) (x := ended (Y2 c2) 1 1) rfl (by omega) (by show (afA n0).length < 64; rw [afA_len]; omega))
                        rw [e1, show (sB c1 c2 T' n0).A.length = n0 from afA_len n0] at HC
                        have HE := Lib.hid (And.intro e2 e3)
                        clear e1 e2 e3
                        generalize afS (sB c1 c2 T' n0) (ended (Y2 c2) 1 1) (q : Int) = s5 at *
                        go_wp2_with fail
                        refine HQ.out.mono ?_
                        rintro e w' ⟨rfl, rfl⟩
                        clear HQ
                        go_wp2_with fail
                        refine HC.out.mono ?_
                        rintro e w11 ⟨P9, n9, k9, hn9, rfl, h⟩
                        clear HC H10
                        obtain rfl : n9 = 1 := hn9.out
                        have H11 : Hid (LQ w t none s5 [rwM P9 k9 1 [⟨n0, (q : Int)⟩]] w11) := h
                        clear h hn9
                        have HC := Lib.hid (H11.out.call (H11.out.iv.un T'.length) (Q := fun e _ => e = .returned (un2 (lkd s5 T'.length) 0)) fun O f => (unafter_ok f H11.out.iv (j := n0) (a := ⟨T'.length, (q : Int)⟩) HE.out.1).mono fun e w' h => ⟨h.1, h.2.out⟩)
                        rw [HE.out.2] at HC
                        go_wp2_with fail
                        refine HC.out.mono ?_
                        rintro e w12 ⟨rfl, h⟩
                        have H12 := Lib.hid h
                        clear HC H11 HE h
                        obtain ⟨q5, rfl, a0, a1⟩ := H12.out.mcell (i := 0) (j := 0) (x := ⟨n0, (q : Int)⟩) rfl rfl rfl
                        simp only [Nat.zero_mul, Nat.zero_add] at a0 a1
                        have HKP : Hid (∀ w', Below w12.heap.size w12 w' → w'.cell? ⟨q5, 0, none⟩ = some (.int .i64 (n0 : Int)) ∧ w'.cell? ⟨q5, 1, none⟩ = some (.int .i64 (q : Int)) ∧ Below w12.heap.size w12 w') := fun w' hb => by
                          obtain ⟨x0, x1, x2⟩ := (H12.out.later hb).mcell (i := 0) (j := 0) (x := ⟨n0, (q : Int)⟩) rfl rfl rfl
                          injection x1 with x1; injection x1 with x1; subst x1
                          simp only [Nat.zero_mul, Nat.zero_add] at x2
                          exact ⟨x2.1, x2.2, hb⟩
                        have HBL := Lib.hid H12.out.bel
                        clear H12 a0 a1
                        go_upto_region 44 with (fail)
                        try simp only [List.append_eq, List.cons_append, List.nil_append]
                        refine but_startQ 1000 (fun w' => w'.cell? ⟨q5, 0, none⟩ = some (.int .i64 (n0 : Int)) ∧ w'.cell? ⟨q5, 1, none⟩ = some (.int .i64 (q : Int)) ∧ Below w12.heap.size w12 w') (by kernel_rfl) (by as_aux_lemma => kernel_rfl) ?_
                        intro hTidy
                        have hHeld := HKP.out w12.drew (Below.drew (Below.refl _ _))
                        change AnyBut _ _ _ _ _ _ 37 _ _ _
                        refine but_takeQ (i := 0) (v := ?_) rfl hTidy (by kernel_rfl) (by kernel_rfl) (fun _ _ _ h => h) (Or.inl ⟨by first | kernel_rfl | rfl, ?_⟩) hHeld ?_
                        rotate_left
                        · intro w hSw
                          (try dsimp only at hSw)
                          go_split_ands
                          go_simp
                          try with_reducible rfl
                        try simp only [List.getElem_toArray, List.getElem_cons_zero, Act.put, List.setIfInBounds_toArray, List.set_cons_zero, List.set_cons_succ]
                        refine but_takeQ (i := 1) (v := ?_) rfl hTidy (by kernel_rfl) (by kernel_rfl) (fun _ _ _ h => h) (Or.inl ⟨by first | kernel_rfl | rfl, ?_⟩) hHeld ?_
                        rotate_left
                        · intro w hSw
                          (try dsimp only at hSw)
                          go_split_ands
                          go_simp
                          try with_reducible rfl
                        try simp only [List.getElem_toArray, List.getElem_cons_succ, List.getElem_cons_zero, Act.put, List.setIfInBounds_toArray, List.set_cons_zero, List.set_cons_succ]
                        refine but_takeQ (i := 2) (v := ?_) rfl hTidy (by kernel_rfl) (by kernel_rfl) (fun _ _ _ h => h) (Or.inl ⟨by first | kernel_rfl | rfl, ?_⟩) hHeld ?_
                        rotate_left
                        · intro w hSw
                          (try dsimp only at hSw)
                          go_split_ands
                          go_simp
                          try with_reducible rfl
                        try simp only [List.getElem_toArray, List.getElem_cons_succ, List.getElem_cons_zero, Act.put, List.setIfInBounds_toArray, List.set_cons_zero, List.set_cons_succ]
                        refine but_takeQ (i := 3) (v := ?_) rfl hTidy (by kernel_rfl) (by kernel_rfl) (fun _ _ _ h => h) (Or.inl ⟨by first | kernel_rfl | rfl, ?_⟩) hHeld ?_
                        rotate_left
                        · intro w hSw
                          (try dsimp only at hSw)
                          go_split_ands
                          go_simp
                          try with_reducible rfl
                        try simp only [List.getElem_toArray, List.getElem_cons_succ, List.getElem_cons_zero, Act.put, List.setIfInBounds_toArray, List.set_cons_zero, List.set_cons_succ]
                        refine but_takeQ (i := 4) (v := ?_) rfl hTidy (by kernel_rfl) (by kernel_rfl) (fun _ _ _ h => h) (Or.inl ⟨by first | kernel_rfl | rfl, ?_⟩) hHeld ?_
                        rotate_left
                        · intro w hSw
                          (try dsimp only at hSw)
                          go_split_ands
                          go_simp
                          try with_reducible rfl
                        try simp only [List.getElem_toArray, List.getElem_cons_succ, List.getElem_cons_zero, Act.put, List.setIfInBounds_toArray, List.set_cons_zero, List.set_cons_succ]
                        refine but_takeQ (i := 5) (v := ?_) rfl hTidy (by kernel_rfl) (by kernel_rfl) (fun _ _ _ h => h) (Or.inl ⟨by first | kernel_rfl | rfl, ?_⟩) hHeld ?_
                        rotate_left
                        · intro w hSw
                          (try dsimp only at hSw)
                          go_split_ands
                          go_simp
                          try with_reducible rfl
                        try simp only [List.getElem_toArray, List.getElem_cons_succ, List.getElem_cons_zero, Act.put, List.setIfInBounds_toArray, List.set_cons_zero, List.set_cons_succ]
                        refine but_takeQ (i := 6) (v := ?_) rfl hTidy (by kernel_rfl) (by kernel_rfl) (fun _ _ _ h => h) (Or.inl ⟨by first | kernel_rfl | rfl, ?_⟩) hHeld ?_
                        rotate_left
                        · intro w hSw
                          (try dsimp only at hSw)
                          go_split_ands
                          go_simp
                          try with_reducible rfl
                        try simp only [List.getElem_toArray, List.getElem_cons_succ, List.getElem_cons_zero, Act.put, List.setIfInBounds_toArray, List.set_cons_zero, List.set_cons_succ]
                        refine but_takeQ (i := 7) (v := ?_) rfl hTidy (by kernel_rfl) (by kernel_rfl) (fun _ _ _ h => h) (Or.inl ⟨by first | kernel_rfl | rfl, ?_⟩) hHeld ?_
                        rotate_left
                        · intro w hSw
                          (try dsimp only at hSw)
                          go_split_ands
                          go_simp
                          try with_reducible rfl
                        try simp only [List.getElem_toArray, List.getElem_cons_succ, List.getElem_cons_zero, Act.put, List.setIfInBounds_toArray, List.set_cons_zero, List.set_cons_succ]
                        refine but_takeQ (i := 8) (v := ?_) rfl hTidy (by kernel_rfl) (by kernel_rfl) (fun _ _ _ h => h) (Or.inl ⟨by first | kernel_rfl | rfl, ?_⟩) hHeld ?_
                        rotate_left
                        · intro w hSw
                          (try dsimp only at hSw)
                          go_split_ands
                          go_simp
                          try with_reducible rfl
                        try simp only [List.getElem_toArray, List.getElem_cons_succ, List.getElem_cons_zero, Act.put, List.setIfInBounds_toArray, List.set_cons_zero, List.set_cons_succ]
                        refine but_takeQ (i := 9) (v := ?_) rfl hTidy (by kernel_rfl) (by kernel_rfl) (fun _ _ _ h => h) (Or.inl ⟨by first | kernel_rfl | rfl, ?_⟩) hHeld ?_
                        rotate_left
                        · intro w hSw
                          (try dsimp only at hSw)
                          go_split_ands
                          go_simp
                          try with_reducible rfl
                        try simp only [List.getElem_toArray, List.getElem_cons_succ, List.getElem_cons_zero, Act.put, List.setIfInBounds_toArray, List.set_cons_zero, List.set_cons_succ]
                        refine but_takeQ (i := 10) (v := ?_) rfl hTidy (by kernel_rfl) (by kernel_rfl) (fun _ _ _ h => h) (Or.inl ⟨by first | kernel_rfl | rfl, ?_⟩) hHeld ?_
                        rotate_left
                        · intro w hSw
                          (try dsimp only at hSw)
                          go_split_ands
                          go_simp
                          try with_reducible rfl
                        try simp only [List.getElem_toArray, List.getElem_cons_succ, List.getElem_cons_zero, Act.put, List.setIfInBounds_toArray, List.set_cons_zero, List.set_cons_succ]
                        refine but_takeQ (i := 11) (v := ?_) rfl hTidy (by kernel_rfl) (by kernel_rfl) (fun _ _ _ h => h) (Or.inl ⟨by first | kernel_rfl | rfl, ?_⟩) hHeld ?_
                        rotate_left
                        · intro w hSw
                          (try dsimp only at hSw)
                          go_split_ands
                          go_simp
                          try with_reducible rfl
                        try simp only [List.getElem_toArray, List.getElem_cons_succ, List.getElem_cons_zero, Act.put, List.setIfInBounds_toArray, List.set_cons_zero, List.set_cons_succ]
                        refine but_takeQ (i := 12) (v := ?_) rfl hTidy (by kernel_rfl) (by kernel_rfl) (fun _ _ _ h => h) (Or.inl ⟨by first | kernel_rfl | rfl, ?_⟩) hHeld ?_
                        rotate_left
                        · intro w hSw
                          (try dsimp only at hSw)
                          go_split_ands
                          go_simp
                          try with_reducible rfl
                        try simp only [List.getElem_toArray, List.getElem_cons_succ, List.getElem_cons_zero, Act.put, List.setIfInBounds_toArray, List.set_cons_zero, List.set_cons_succ]
                        refine but_takeQ (i := 13) (v := ?_) rfl hTidy (by kernel_rfl) (by kernel_rfl) (fun _ _ _ h => h) (Or.inl ⟨by first | kernel_rfl | rfl, ?_⟩) hHeld ?_
                        rotate_left
                        · intro w hSw
                          (try dsimp only at hSw)
                          go_split_ands
                          go_simp
                          try with_reducible rfl
                        try simp only [List.getElem_toArray, List.getElem_cons_succ, List.getElem_cons_zero, Act.put, List.setIfInBounds_toArray, List.set_cons_zero, List.set_cons_succ]
                        refine but_takeQ (i := 14) (v := ?_) rfl hTidy (by kernel_rfl) (by kernel_rfl) (fun _ _ _ h => h) (Or.inl ⟨by first | kernel_rfl | rfl, ?_⟩) hHeld ?_
                        rotate_left
                        · intro w hSw
                          (try dsimp only at hSw)
                          go_split_ands
                          go_simp
                          try with_reducible rfl
                        try simp only [List.getElem_toArray, List.getElem_cons_succ, List.getElem_cons_zero, Act.put, List.setIfInBounds_toArray, List.set_cons_zero, List.set_cons_succ]
                        refine but_takeQ (i := 15) (v := ?_) rfl hTidy (by kernel_rfl) (by kernel_rfl) (fun _ _ _ h => h) (Or.inl ⟨by first | kernel_rfl | rfl, ?_⟩) hHeld ?_
                        rotate_left
                        · intro w hSw
                          (try dsimp only at hSw)
                          go_split_ands
                          go_simp
                          try with_reducible rfl
                        try simp only [List.getElem_toArray, List.getElem_cons_succ, List.getElem_cons_zero, Act.put, List.setIfInBounds_toArray, List.set_cons_zero, List.set_cons_succ]
                        refine but_takeQ (i := 16) (v := ?_) rfl hTidy (by kernel_rfl) (by kernel_rfl) (fun _ _ _ h => h) (Or.inl ⟨by first | kernel_rfl | rfl, ?_⟩) hHeld ?_
                        rotate_left
                        · intro w hSw
                          (try dsimp only at hSw)
                          go_split_ands
                          go_simp
                          try with_reducible rfl
                        try simp only [List.getElem_toArray, List.getElem_cons_succ, List.getElem_cons_zero, Act.put, List.setIfInBounds_toArray, List.set_cons_zero, List.set_cons_succ]
                        refine but_takeQ (i := 17) (v := ?_) rfl hTidy (by kernel_rfl) (by kernel_rfl) (fun _ _ _ h => h) (Or.inl ⟨by first | kernel_rfl | rfl, ?_⟩) hHeld ?_
                        rotate_left
                        · intro w hSw
                          (try dsimp only at hSw)
                          go_split_ands
                          go_simp
                          try with_reducible rfl
                        try simp only [List.getElem_toArray, List.getElem_cons_succ, List.getElem_cons_zero, Act.put, List.setIfInBounds_toArray, List.set_cons_zero, List.set_cons_succ]
                        refine but_takeQ (i := 18) (v := ?_) rfl hTidy (by kernel_rfl) (by kernel_rfl) (fun _ _ _ h => h) (Or.inl ⟨by first | kernel_rfl | rfl, ?_⟩) hHeld ?_
                        rotate_left
                        · intro w hSw
                          (try dsimp only at hSw)
                          go_split_ands
                          go_simp
                          try with_reducible rfl
                        try simp only [List.getElem_toArray, List.getElem_cons_succ, List.getElem_cons_zero, Act.put, List.setIfInBounds_toArray, List.set_cons_zero, List.set_cons_succ]
                        refine but_takeQ (i := 19) (v := ?_) rfl hTidy (by kernel_rfl) (by kernel_rfl) (fun _ _ _ h => h) (Or.inl ⟨by first | kernel_rfl | rfl, ?_⟩) hHeld ?_
                        rotate_left
                        · intro w hSw
                          (try dsimp only at hSw)
                          go_split_ands
                          go_simp
                          try with_reducible rfl
                        try simp only [List.getElem_toArray, List.getElem_cons_succ, List.getElem_cons_zero, Act.put, List.setIfInBounds_toArray, List.set_cons_zero, List.set_cons_succ]
                        refine but_takeQ (i := 20) (v := ?_) rfl hTidy (by kernel_rfl) (by kernel_rfl) (fun _ _ _ h => h) (Or.inl ⟨by first | kernel_rfl | rfl, ?_⟩) hHeld ?_
                        rotate_left
                        · intro w hSw
                          (try dsimp only at hSw)
                          go_split_ands
                          go_simp
                          try with_reducible rfl
                        try simp only [List.getElem_toArray, List.getElem_cons_succ, List.getElem_cons_zero, Act.put, List.setIfInBounds_toArray, List.set_cons_zero, List.set_cons_succ]
                        refine but_takeQ (i := 21) (v := ?_) rfl hTidy (by kernel_rfl) (by kernel_rfl) (fun _ _ _ h => h) (Or.inl ⟨by first | kernel_rfl | rfl, ?_⟩) hHeld ?_
                        rotate_left
                        · intro w hSw
                          (try dsimp only at hSw)
                          go_split_ands
                          go_simp
                          try with_reducible rfl
                        try simp only [List.getElem_toArray, List.getElem_cons_succ, List.getElem_cons_zero, Act.put, List.setIfInBounds_toArray, List.set_cons_zero, List.set_cons_succ]
                        refine but_takeQ (i := 22) (v := ?_) rfl hTidy (by kernel_rfl) (by kernel_rfl) (fun _ _ _ h => h) (Or.inl ⟨by first | kernel_rfl | rfl, ?_⟩) hHeld ?_
                        rotate_left
                        · intro w hSw
                          (try dsimp only at hSw)
                          go_split_ands
                          go_simp
                          try with_reducible rfl
                        try simp only [List.getElem_toArray, List.getElem_cons_succ, List.getElem_cons_zero, Act.put, List.setIfInBounds_toArray, List.set_cons_zero, List.set_cons_succ]
                        refine but_takeQ (i := 23) (v := ?_) rfl hTidy (by kernel_rfl) (by kernel_rfl) (fun _ _ _ h => h) (Or.inl ⟨by first | kernel_rfl | rfl, ?_⟩) hHeld ?_
                        rotate_left
                        · intro w hSw
                          (try dsimp only at hSw)
                          go_split_ands
                          go_simp
                          try with_reducible rfl
                        try simp only [List.getElem_toArray, List.getElem_cons_succ, List.getElem_cons_zero, Act.put, List.setIfInBounds_toArray, List.set_cons_zero, List.set_cons_succ]
                        refine but_takeQ (i := 24) (v := ?_) rfl hTidy (by kernel_rfl) (by kernel_rfl) (fun _ _ _ h => h) (Or.inl ⟨by first | kernel_rfl | rfl, ?_⟩) hHeld ?_
                        rotate_left
                        · intro w hSw
                          (try dsimp only at hSw)
                          go_split_ands
                          go_simp
                          try with_reducible rfl
                        try simp only [List.getElem_toArray, List.getElem_cons_succ, List.getElem_cons_zero, Act.put, List.setIfInBounds_toArray, List.set_cons_zero, List.set_cons_succ]
                        refine but_takeQ (i := 25) (v := ?_) rfl hTidy (by kernel_rfl) (by kernel_rfl) (fun _ _ _ h => h) (Or.inl ⟨by first | kernel_rfl | rfl, ?_⟩) hHeld ?_
                        rotate_left
                        · intro w hSw
                          (try dsimp only at hSw)
                          go_split_ands
                          go_simp
                          try with_reducible rfl
                        try simp only [List.getElem_toArray, List.getElem_cons_succ, List.getElem_cons_zero, Act.put, List.setIfInBounds_toArray, List.set_cons_zero, List.set_cons_succ]
                        refine but_one (i := 26) (by kernel_rfl) rfl ?_
                        intro K hK
                        go_simp
                        go_at_call 13
                        refine (round_any late 16 _ (by omega) (by omega)).mono ?_
                        rintro e w' ⟨rfl, hw⟩
                        rw [HPK.out]
                        subst hw
                        go_simp
                        have hHeld2 := hHeld
                        refine hK _ _ (fun _ => hHeld2) ?_
                        clear hK K hHeld
                        have hHeld := hHeld2
                        clear hHeld2
                        try simp only [List.getElem_toArray, List.getElem_cons_succ, List.getElem_cons_zero, Act.put, List.setIfInBounds_toArray, List.set_cons_zero, List.set_cons_succ]
                        refine but_takeQ (i := 27) (v := ?_) rfl hTidy (by kernel_rfl) (by kernel_rfl) (fun _ _ _ h => h) (Or.inl ⟨by first | kernel_rfl | rfl, ?_⟩) hHeld ?_
                        rotate_left
                        · intro w hSw
                          (try dsimp only at hSw)
                          go_split_ands
                          go_simp
                          try with_reducible rfl
                        try simp only [List.getElem_toArray, List.getElem_cons_succ, List.getElem_cons_zero, Act.put, List.setIfInBounds_toArray, List.set_cons_zero, List.set_cons_succ]
                        refine but_takeQ (i := 28) (v := ?_) rfl hTidy (by kernel_rfl) (by kernel_rfl) (fun _ _ _ h => h) (Or.inl ⟨by first | kernel_rfl | rfl, ?_⟩) hHeld ?_
                        rotate_left
                        · intro w hSw
                          (try dsimp only at hSw)
                          go_split_ands
                          go_simp
                          try with_reducible rfl
                        try simp only [List.getElem_toArray, List.getElem_cons_succ, List.getElem_cons_zero, Act.put, List.setIfInBounds_toArray, List.set_cons_zero, List.set_cons_succ]
                        refine but_takeQ (i := 29) (v := ?_) rfl hTidy (by kernel_rfl) (by kernel_rfl) (fun _ _ _ h => h) (Or.inl ⟨by first | kernel_rfl | rfl, ?_⟩) hHeld ?_
                        rotate_left
                        · intro w hSw
                          (try dsimp only at hSw)
                          go_split_ands
                          go_simp
                          try with_reducible rfl
                        try simp only [List.getElem_toArray, List.getElem_cons_succ, List.getElem_cons_zero, Act.put, List.setIfInBounds_toArray, List.set_cons_zero, List.set_cons_succ]
                        refine but_takeQ (i := 30) (v := ?_) rfl hTidy (by kernel_rfl) (by kernel_rfl) (fun _ _ _ h => h) (Or.inl ⟨by first | kernel_rfl | rfl, ?_⟩) hHeld ?_
                        rotate_left
                        · intro w hSw
                          (try dsimp only at hSw)
                          go_split_ands
                          go_simp
                          try with_reducible rfl
                        try simp only [List.getElem_toArray, List.getElem_cons_succ, List.getElem_cons_zero, Act.put, List.setIfInBounds_toArray, List.set_cons_zero, List.set_cons_succ]
                        refine but_takeQ (i := 31) (v := ?_) rfl hTidy (by kernel_rfl) (by kernel_rfl) (fun _ _ _ h => h) (Or.inl ⟨by first | kernel_rfl | rfl, ?_⟩) hHeld ?_
                        rotate_left
                        · intro w hSw
                          (try dsimp only at hSw)
                          go_split_ands
                          go_simp
                          try with_reducible rfl
                        try simp only [List.getElem_toArray, List.getElem_cons_succ, List.getElem_cons_zero, Act.put, List.setIfInBounds_toArray, List.set_cons_zero, List.set_cons_succ]
                        refine but_takeQ (i := 32) (v := ?_) rfl hTidy (by kernel_rfl) (by kernel_rfl) (fun _ _ _ h => h) (Or.inl ⟨by first | kernel_rfl | rfl, ?_⟩) hHeld ?_
                        rotate_left
                        · intro w hSw
                          (try dsimp only at hSw)
                          go_split_ands
                          go_simp
                          try with_reducible rfl
                        try simp only [List.getElem_toArray, List.getElem_cons_succ, List.getElem_cons_zero, Act.put, List.setIfInBounds_toArray, List.set_cons_zero, List.set_cons_succ]
                        refine but_takeQ (i := 33) (v := ?_) rfl hTidy (by kernel_rfl) (by kernel_rfl) (fun _ _ _ h => h) (Or.inl ⟨by first | kernel_rfl | rfl, ?_⟩) hHeld ?_
                        rotate_left
                        · intro w hSw
                          (try dsimp only at hSw)
                          go_split_ands
                          go_simp
                          try with_reducible rfl
                        try simp only [List.getElem_toArray, List.getElem_cons_succ, List.getElem_cons_zero, Act.put, List.setIfInBounds_toArray, List.set_cons_zero, List.set_cons_succ]
                        refine but_one (i := 34) (by kernel_rfl) rfl ?_
                        intro K hK
                        go_simp
                        go_at_call 10
                        refine (awake_any _).mono ?_
                        rintro e w13 ⟨rfl, hb⟩
                        have HBZ := Lib.hid (hHeld.2.2.trans (hb.mono hHeld.2.2.size))
                        clear hb
                        go_simp
                        have hHeld2 := HKP.out w13 HBZ.out
                        refine hK _ _ (fun _ => hHeld2) ?_
                        clear hK K hHeld
                        have hHeld := hHeld2
                        clear hHeld2
                        try simp only [List.getElem_toArray, List.getElem_cons_succ, List.getElem_cons_zero, Act.put, List.setIfInBounds_toArray, List.set_cons_zero, List.set_cons_succ]
                        refine but_takeQ (i := 35) (v := ?_) rfl hTidy (by kernel_rfl) (by kernel_rfl) (fun _ _ _ h => h) (Or.inl ⟨by first | kernel_rfl | rfl, ?_⟩) hHeld ?_
                        rotate_left
                        · intro w hSw
                          (try dsimp only at hSw)
                          go_split_ands
                          go_simp
                          try with_reducible rfl
                        try simp only [List.getElem_toArray, List.getElem_cons_succ, List.getElem_cons_zero, Act.put, List.setIfInBounds_toArray, List.set_cons_zero, List.set_cons_succ]
                        refine but_takeQ (i := 36) (v := ?_) rfl hTidy (by kernel_rfl) (by kernel_rfl) (fun _ _ _ h => h) (Or.inl ⟨by first | kernel_rfl | rfl, ?_⟩) hHeld ?_
                        rotate_left
                        · intro w hSw
                          (try dsimp only at hSw)
                          go_split_ands
                          go_simp
                          try with_reducible rfl
                        try simp only [List.getElem_toArray, List.getElem_cons_succ, List.getElem_cons_zero, Act.put, List.setIfInBounds_toArray, List.set_cons_zero, List.set_cons_succ]
                        refine but_done (by kernel_rfl) ?_
                        try clear hHeld
                        clear hTidy
                        go_wp2_with fail
                        go_ret
                        exact ⟨rfl, HBL.out.trans (HBZ.out.mono HBL.out.size)⟩
end Go.Proofs.Ytdpapnfjpefhkaa
