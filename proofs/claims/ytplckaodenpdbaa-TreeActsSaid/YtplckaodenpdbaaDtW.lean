/- TreeDetach walked: who is taken off takes along all that hang on it, and nobody else. No condition. -/
import Derived.Test.YtplckaodenpdbaaBld
namespace Go.Proofs.Ytplckaodenpdbaa
open Go.RowKit
set_option linter.unusedVariables false
set_option maxRecDepth 100000

section
variable {W w : World} {t : Nat} {S : TS} {rs : List Rr}
theorem LS.rn (h : LS W t S rs w) {i n : Nat} {r : Rr} (hr : rs[i]? = some r) (hn : n = r.l.length) : Rn w r.P n r.l := by subst hn; exact Rn.of_rw (h.own hr)
theorem LS.nilrow (h : LS W t S rs w) : LS W t S (⟨none, 0, []⟩ :: rs) w := h.row (World.ownsRow_nil _ _ _ _) (Below.refl _ _)
/-- A cell of a row. -/
theorem LS.at (h : LS W t S rs w) {i j : Nat} {r : Rr} (hr : rs[i]? = some r) {x : Int} (hx : r.l[j]? = some x) : ∃ g, r.P = some ⟨g, 0, none⟩ ∧ w.cell? ⟨g, j, none⟩ = some (.int .i64 x) := by
  obtain ⟨g, hg, _⟩ := row_form (h.own hr) (by have := (List.getElem?_eq_some_iff.1 hx).1; omega)
  exact ⟨g, hg, (h.own hr).at hg hx⟩
end
theorem nz_mem (m : List Nat) (a : Nat) : (nz m).contains (a : Int) = m.contains a := by
  induction m with
  | nil => rfl
  | cons b m ih =>
    show ((b : Int) :: nz m).contains (a : Int) = _
    rw [List.contains_cons, List.contains_cons, ih]
    congr 1
    by_cases e : a = b
    · subst e; simp
    · rw [beq_eq_false_iff_ne.2 e, beq_eq_false_iff_ne.2 (by omega)]
theorem nz_filter (l m : List Nat) : (nz l).filter (fun x => !(nz m).contains x) = nz (l.filter fun x => !m.contains x) := by
  induction l with
  | nil => rfl
  | cons a l ih =>
    show ((a : Int) :: nz l).filter _ = _
    rw [List.filter_cons, List.filter_cons, nz_mem, ih]
    split <;> rfl
theorem take_next {α : Type} {l : List α} {i : Nat} {x : α} (h : l[i]? = some x) : l.take (i + 1) = l.take i ++ [x] := by rw [List.take_add_one, h]; rfl
/-- What is kept of the first i. -/
def kept (al wl : List Int) (i : Nat) : List Int := (al.take i).filter fun x => !wl.contains x
theorem kept_in {al wl : List Int} {i : Nat} {x : Int} (h : al[i]? = some x) (hc : wl.contains x = true) : kept al wl (i + 1) = kept al wl i := by
  unfold kept; rw [take_next h, List.filter_append]; simp only [List.filter_cons, hc]; simp
theorem kept_out {al wl : List Int} {i : Nat} {x : Int} (h : al[i]? = some x) (hc : wl.contains x = false) : kept al wl (i + 1) = kept al wl i ++ [x] := by
  unfold kept; rw [take_next h, List.filter_append]; simp only [List.filter_cons, hc]; simp
theorem kept_len (al wl : List Int) (i : Nat) : (kept al wl i).length ≤ i := Nat.le_trans (List.length_filter_le _ _) (by simp; omega)
theorem has_next {wl : List Int} {j : Nat} {x y : Int} (h : wl[j]? = some y) : (wl.take (j + 1)).contains x = ((wl.take j).contains x || (y == x)) := by
  rw [take_next h]
  simp only [List.contains_eq_mem, List.mem_append, List.mem_singleton]
  by_cases e : x = y
  · subst e; simp
  · have : (y == x) = false := beq_eq_false_iff_ne.2 fun e2 => e e2.symm
    rw [this]; simp [e]
set_option maxHeartbeats 4000000 in
theorem detaches_any {A : Option Addr} {n c0 : Nat} {l : List Int} (W : World) (hr : Rn W A n l) (a : Int) : Calls Try.prog 5 #[.slice A n c0, .int .i64 a] W (BoolR true W) := by
  have HAW := Lib.hid fun w => awake_any w
  obtain ⟨i3, hi3, hy0, hy1, hy2⟩ := info_parts inf3
  by_cases c1 : (n : Int) < 1
  · clear hr
    go_enter Try.func5, Try.ntmps5
    go_wp2_with fail
    refine (HAW.out _).mono ?_
    rintro e w' ⟨rfl, hb⟩
    have HB := Lib.hid hb
    clear hb
    go_wp2_with fail
    go_ret
    exact ⟨rfl, HB.out⟩
  by_cases c2 : (60 : Int) < (n : Int)
  · clear hr
    go_enter Try.func5, Try.ntmps5
    go_wp2_with fail
    refine (HAW.out _).mono ?_
    rintro e w' ⟨rfl, hb⟩
    have HB := Lib.hid hb
    clear hb
    go_wp2_with fail
    go_ret
    exact ⟨rfl, HB.out⟩
  have HRN := Lib.hid hr
  have HN := Lib.hid (new_ls (Below.refl W.heap.size W))
  have hn1 : (n : Int) ≤ 60 := by omega
  obtain ⟨f, hf⟩ : ∃ f : Nat → Int, Hid (f = fun i => l.getD i 0) := ⟨_, rfl⟩
  clear hr
  go_enter Try.func5, Try.ntmps5
  go_wp2_with (go_at_call 9; (with_reducible refine HN.out.mono ?_); rintro e w1 ⟨t, rfl, h1⟩; have H1 := Lib.hid h1; clear h1 HN)
  refine (root_ls H1.out (by simp) false).mono ?_
  rintro e w2 ⟨rfl, HL⟩
  have H2 : Hid (LS W t (bt f (fun _ => true) 0) [] w2) := HL
  clear H1 HL
  go_wp2_with fail
  go_loopw [8] (fun x wr => ∃ k : Nat, k ≤ n ∧ x = .int .i64 k ∧ Hid (LS W t (bt f (fun _ => true) k) [] wr)) (fun x _ => n - (intOf x).toNat)
  case atStart => exact ⟨0, by omega, rfl, H2⟩
  case round =>
    clear H2
    obtain ⟨k, hk, rfl, hL⟩ := hrel
    by_cases hlt : k < n
    · have b1 : (k : Int) < (n : Int) := by omega
      have b2 : (0 : Int) ≤ (k : Int) := by omega
      obtain ⟨b, off, z, rfl, hbl, hz, hc⟩ := HRN.out.cell hL.out.bel hlt
      have hp : (pk z (k + 1) : Int) = (pk (f k) (k + 1) : Int) := by rw [hf.out]; simp [List.getD_eq_getElem?_getD, hz]
      have HR := Lib.hid (round_at (w := wr) z k (by omega))
      have HA := Lib.hid (bt_add hL.out (by omega) hp (show true = _ from rfl))
      clear hz hp hL
      generalize pk z (k + 1) = p at HR HA
      go_wp2_with (first | (go_at_call 22; (with_reducible refine HR.out.mono ?_); rintro e w' ⟨rfl, rfl⟩; clear HR) | (go_at_call 10; (with_reducible refine HA.out.mono ?_); rintro e w3 ⟨rfl, HL3⟩; clear HA))
      go_roundw
      case rel => exact ⟨k + 1, by omega, by go_num, HL3⟩
      case measure => simp [intOf]; omega
    · obtain rfl : k = n := by omega
      have HRk := Lib.hid (show Calls Try.prog 22 #[.int .i64 a, .int .i64 (k : Int)] wr fun e w' => e = .returned (.int .i64 (pk a k : Int)) ∧ wr = w' from round_any a k wr (by omega) (by omega))
      have hx := pk_lt a (m := k) (by omega)
      generalize pk a k = r at HRk hx
      go_wp2_with (go_at_call 22; (with_reducible refine HRk.out.mono ?_); rintro e w' ⟨rfl, rfl⟩)
      clear HRk
      rw [show (1 : Int) + (r : Int) = ((r + 1 : Nat) : Int) from by omega]
      obtain ⟨d, hd⟩ : ∃ d, r + 1 = d := ⟨_, rfl⟩
      rw [hd]
      have d1 : (d : Int) - 1 = (r : Int) := by omega
      have d2 : (r : Int) < (k : Int) := by omega
      have d3 : (0 : Int) ≤ (r : Int) := by omega
      have d4 : (d : Int) ≤ 60 := by omega
      have d5 : (1 : Int) ≤ (d : Int) := by omega
      obtain ⟨S, hS⟩ : ∃ S, bt f (fun _ => true) k = S := ⟨_, rfl⟩
      have HL : Hid (LS W t S [] wr) := by rw [← hS]; exact hL.out
      have HSl : Hid (S.length = k + 1) := by rw [← hS]; exact bt_len k
      have HSd : Hid (S[d]? = some ((pk (f r) d : Int), true)) := by rw [← hS, ← hd]; exact bt_at hx
      have HD := Lib.hid hd
      clear hS hL hd
      refine (show Calls Try.prog 20 #[.pointer (some ⟨t, 0, none⟩), .int .i64 0] wr _ from walk_ls HL.out 0 (by rw [HSl.out]; omega)).mono ?_
      rintro e w3 ⟨Pa, ca, na, hna, rfl, HL3⟩
      clear HL
      go_wp2_with fail
      refine (walk_ls HL3.out d (by rw [HSl.out]; have := HD.out; omega)).mono ?_
      rintro e w4 ⟨Pw, cw, nw, hnw, rfl, HL4⟩
      clear HL3
      go_wp2_with fail
      refine (cut_ls HL4.out d HSd.out).mono ?_
      rintro e w5 ⟨rfl, HL5⟩
      clear HL4
      go_wp2_with fail
      refine (uncut_ls HL5.out d (p := (pk (f r) d : Int)) (by rw [cut_at, if_pos rfl, HSd.out]; rfl)).mono ?_
      rintro e w6 ⟨rfl, HL6⟩
      clear HL5
      go_wp2_with fail
      obtain ⟨AL, hAL⟩ : ∃ AL, nz (walk S 0) = AL := ⟨_, rfl⟩
      obtain ⟨WL, hWL⟩ : ∃ WL, nz (walk S d) = WL := ⟨_, rfl⟩
      have hwf : WF S := by
        have h1 := HL6.out.wf
        intro i p l hi
        by_cases e : i = d
        · subst e
          rw [HSd.out] at hi; simp at hi
          obtain ⟨rfl, rfl⟩ := hi
          have := pk_lt (f r) (m := i) (by omega)
          exact ⟨by omega, by omega, by omega⟩
        · exact h1 i p l (by rw [cut_at, if_neg e]; exact hi)
      have HEND : Hid (nz (walk (cut S d) 0) = kept AL WL AL.length) := by
        show _ = _
        rw [walk_cut_zero hwf d (by omega) (by rw [HSl.out]; have := HD.out; omega), ← nz_filter, hAL, hWL]
        unfold kept; rw [List.take_length]
      have hna2 : na ≤ 61 := by
        have h1 := walk_len hwf (i := 0) (by rw [HSl.out]; omega)
        have h2 := hna.out; rw [nz_len] at h2; rw [HSl.out] at h1; omega
      have hnw2 : nw ≤ 61 := by
        have h1 := walk_len hwf (i := d) (by rw [HSl.out]; have := HD.out; omega)
        have h2 := hnw.out; rw [nz_len] at h2; rw [HSl.out] at h1; omega
      rw [hAL] at hna HL6
      rw [hWL] at hnw HL6
      refine (walk_ls HL6.out d (by rw [cut_len, HSl.out]; have := HD.out; omega)).mono ?_
      rintro e w7 ⟨P9, c9, n9, hn9, rfl, HL7⟩
      rw [walk_cut_ge d _ d (Nat.lt_succ_self _) (Nat.le_refl _), hWL] at hn9 HL7
      have e9 : n9 = nw := by rw [hn9.out, hnw.out]
      rw [e9]
      clear e9 hn9 HL6 hAL hWL hwf
      have HI := Lib.hid (ints_eq (c1 := c9) (c2 := cw) (HL7.out.rn (i := 0) (r := ⟨P9, c9, WL⟩) rfl hnw.out) (HL7.out.rn (i := 1) (r := ⟨Pw, cw, WL⟩) rfl hnw.out) (by omega))
      go_wp2_with (go_at_call 17; (with_reducible refine HI.out.mono ?_); rintro e w' ⟨rfl, q, rfl⟩; have HL8 := Lib.hid ((HL7.out.sub (List.sublist_cons_self _ _)).drewN q).nilrow; clear HI HL7; revert HL8; generalize w7.drewN q = w8; intro HL8)
      go_loopw [14, 15] (fun s14 s15 w9 => ∃ (i c m : Nat) (P : Option Addr), i ≤ na ∧ s15 = .int .i64 i ∧ s14 = .slice P m c ∧ m ≤ i ∧ Hid (m = (kept AL WL i).length) ∧ Hid (LS W t (cut S d) [⟨P, c, kept AL WL i⟩, ⟨Pw, cw, WL⟩, ⟨Pa, ca, AL⟩] w9)) (fun _ s15 _ => na - (intOf s15).toNat)
      case atStart => exact ⟨0, 0, 0, none, by omega, rfl, rfl, by omega, rfl, HL8⟩
      case round =>
        clear HL8
        obtain ⟨i, c, m, P, hi, rfl, rfl, hmi, hm, hL⟩ := hrel
        by_cases hlt2 : i < na
        · have b1 : (i : Int) < (na : Int) := by omega
          have b2 : (0 : Int) ≤ (i : Int) := by omega
          obtain ⟨x, hx⟩ : ∃ x, AL[i]? = some x := ⟨_, List.getElem?_eq_getElem (by have := hna.out; omega)⟩
          have HX := Lib.hid hx
          have HL9 := hL
          clear hx hL
          go_wp2_with fail
          go_loopw [16, 17] (fun s16 s17 w9 => ∃ (j : Nat) (v : Bool), j ≤ nw ∧ s17 = .int .i64 j ∧ s16 = .bool v ∧ Hid (v = (WL.take j).contains x) ∧ Hid (LS W t (cut S d) [⟨P, c, kept AL WL i⟩, ⟨Pw, cw, WL⟩, ⟨Pa, ca, AL⟩] w9)) (fun _ s17 _ => nw - (intOf s17).toNat)
          case atStart => exact ⟨0, false, by omega, rfl, rfl, rfl, HL9⟩
          case round =>
            clear HL9
            obtain ⟨j, v, hj, rfl, rfl, hv, hL⟩ := hrel
            obtain ⟨ga, hga, hca⟩ := hL.out.at (i := 2) rfl HX.out
            have hga' : Pa = some ⟨ga, 0, none⟩ := hga
            subst hga'
            clear hga
            by_cases hlt3 : j < nw
            · have b3 : (j : Int) < (nw : Int) := by omega
              have b4 : (0 : Int) ≤ (j : Int) := by omega
              obtain ⟨y, hy⟩ : ∃ y, WL[j]? = some y := ⟨_, List.getElem?_eq_getElem (by have := hnw.out; omega)⟩
              obtain ⟨gw, hgw, hcw⟩ := hL.out.at (i := 1) rfl hy
              have hgw' : Pw = some ⟨gw, 0, none⟩ := hgw
              subst hgw'
              clear hgw
              have HV : Hid ((v || (y == x)) = (WL.take (j + 1)).contains x) := by rw [hv.out]; exact (has_next hy).symm
              have HL10 := hL
              clear hv hy hL
              cases v
              all_goals
                go_wp2_with fail
                go_quiet (fail)
                go_wp2_with fail
                go_roundw
                case rel => exact ⟨j + 1, _, by omega, by go_num, rfl, HV, HL10.out.drewN _⟩
                case measure => simp [intOf]; omega
            · obtain rfl : j = nw := by omega
              have hv2 := hv.out
              rw [show WL.take j = WL from by rw [hnw.out, List.take_length]] at hv2
              have HL10 := hL
              cases v with
              | true =>
                have HK : Hid (kept AL WL (i + 1) = kept AL WL i) := kept_in HX.out hv2.symm
                clear hv hv2 hL
                go_wp2_with fail
                go_roundw
                case rel => exact ⟨i + 1, c, m, P, by omega, by go_num, rfl, by omega, by rw [HK.out]; exact hm, by rw [HK.out]; exact HL10⟩
                case measure => simp [intOf]; omega
              | false =>
                have HK : Hid (kept AL WL (i + 1) = kept AL WL i ++ [x]) := kept_out HX.out hv2.symm
                clear hv hv2 hL
                go_wp2_with (at_builtin; go_loud (refine wpList_append_lies _ rfl (.tmp 113) (.tmp 118) 41 rfl 0 3 i3 _ 1 8 Try.underlying41 hi3 hy0 hy1 hy2 rfl (by omega) (.slice P m c) m (iV (kept AL WL i)) rfl ((HL10.out.alloc _).own' (i := 0) rfl hm.out) ⟨wr.heap.size, 0, none⟩ 1 1 [.int .i64 x] rfl rfl (World.news_of_block (cs := #[.int .i64 x]) (heap_alloc_new wr _)) (int_cell _) (by omega) (by unfold maxLen; omega) (by omega) (by omega) (wr.heap.size + 1) (by first | (simp; done) | (simp; rfl)) ?_; intro g cap w4 hown hgrow hat hlt1; have HL4 := Lib.hid (LS.app (HL10.out.alloc _) (i := 0) rfl hm.out hown hgrow (hat.imp id (fun e => by rw [e]; simp))); clear hown hgrow hat hlt1 HL10))
                go_roundw
                case rel => exact ⟨i + 1, cap, m + 1, _, by omega, by go_num, rfl, by omega, by rw [HK.out]; show _ = _; rw [hm.out]; simp, by rw [HK.out]; exact HL4.out⟩
                case measure => simp [intOf]; omega
        · obtain rfl : i = na := by omega
          go_wp2_with fail
          refine (par_ls hL.out d (p := (pk (f r) d : Int)) (l := false) (by rw [cut_at, if_pos rfl, HSd.out]; rfl)).mono ?_
          rintro e w10 ⟨rfl, HL10⟩
          clear hL
          go_wp2_with fail
          refine (show Calls Try.prog 20 #[.pointer (some ⟨t, 0, none⟩), .int .i64 0] w10 _ from walk_ls HL10.out 0 (by rw [cut_len, HSl.out]; omega)).mono ?_
          rintro e w11 ⟨Pz, cz, nz', hnz, rfl, HL11⟩
          clear HL10
          rw [HEND.out, ← hna.out] at hnz HL11
          have ez : nz' = m := by rw [hnz.out, hm.out]
          rw [ez]
          have HI := Lib.hid (ints_eq (c1 := cz) (c2 := c) (HL11.out.rn (i := 0) (r := ⟨Pz, cz, kept AL WL i⟩) rfl hm.out) (HL11.out.rn (i := 1) (r := ⟨P, c, kept AL WL i⟩) rfl hm.out) (by omega))
          clear ez hnz
          go_wp2_with fail
          refine HI.out.mono ?_
          rintro e w' ⟨rfl, q2, rfl⟩
          have HL12 := Lib.hid (HL11.out.drewN q2)
          clear HI HL11
          revert HL12
          generalize w11.drewN q2 = w12
          intro HL12
          obtain ⟨b, off, z, hAb, hbl, hz, hc⟩ := HRN.out.cell (w := w12) (k := r) HL12.out.bel (by omega)
          have hp : (pk (f r) d : Int) = (pk z d : Int) := by rw [hf.out]; simp [List.getD_eq_getElem?_getD, hz]
          rw [hp]
          have HRz := Lib.hid (round_any z d w12 (by omega) (by omega))
          have HLn : Hid (Calls Try.prog 14 #[.pointer (some ⟨t, 0, none⟩)] w12 fun e w' => e = .returned (.int .i64 ((k : Int) + 1)) ∧ w12 = w') := by
            have h := len_ls HL12.out
            rwa [cut_len, HSl.out, show ((k + 1 : Nat) : Int) = (k : Int) + 1 from by omega] at h
          have HB := Lib.hid HL12.out.bel
          subst hAb
          clear hp hz HL12 HRN HSd HSl HD
          go_wp2_with (first | (go_at_call 22; (with_reducible refine HRz.out.mono ?_); rintro e w' ⟨rfl, rfl⟩) | (go_at_call 14; (with_reducible refine HLn.out.mono ?_); rintro e w' ⟨rfl, rfl⟩) | (go_at_call 8; (with_reducible refine (HAW.out _).mono ?_); rintro e w' ⟨rfl, hb⟩; have HB2 := Lib.hid (HB.out.trans (hb.mono HB.out.size)); clear hb))
          go_ret
          exact ⟨rfl, HB2.out⟩
end Go.Proofs.Ytplckaodenpdbaa
