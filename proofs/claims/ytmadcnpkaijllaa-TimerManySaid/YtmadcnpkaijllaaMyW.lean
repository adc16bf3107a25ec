/- TimerMany says true. Condition: the slice reads as it came. -/
import Derived.Test.YtmadcnpkaijllaaLwk
import Derived.Test.YtmadcnpkaijllaaRnt
import Derived.Deep.CutRange
namespace Go.Proofs.Ytmadcnpkaijllaa
open Go.RowKit Ch
set_option linter.unusedVariables false
set_option maxRecDepth 100000
/-- So many functions. -/
def fO (i : Nat) : On := ⟨3, i, none, 1⟩
def fE (k : Nat) : List On := (List.range k).map fO
theorem fE_len (k : Nat) : (fE k).length = k := by simp [fE]
theorem fE_succ (k : Nat) : fE k ++ [fO k] = fE (k + 1) := by simp [fE, List.range_succ]
theorem fE_at {k i : Nat} (h : i < k) : (fE k)[i]? = some (fO i) := by simp [fE, h]
/-- When the one at a place is due. -/
def dW (l : List Int) (j : Nat) : Int := 10 + (pk (l.getD j 0) 100 : Int)
/-- What they are that are armed: each its own. -/
def Itm (l : List Int) (k : Nat) (S : List It) : Prop := (∀ x ∈ S, ∃ j : Nat, j < k ∧ x = ⟨j, dW l j, (j : Int) + 1⟩) ∧ S.length = k
theorem Itm.nid {l : List Int} {k : Nat} {S : List It} (h : Itm l k S) : (k : Int) ∉ ids S := by
  intro hk
  obtain ⟨p, x, hx, e⟩ := ids_mem hk
  obtain ⟨j, hj, e2⟩ := h.1 x (List.mem_of_getElem? hx)
  rw [e2] at e
  simp only at e
  omega
theorem Itm.add {l : List Int} {k : Nat} {S : List It} (h : Itm l k S) : Itm l (k + 1) (ins ⟨k, dW l k, (k : Int) + 1⟩ S) := by
  refine ⟨fun x hx => ?_, by rw [(ins_perm _ S).length_eq]; simp [h.2]⟩
  rcases ins_mem.1 hx with rfl | hx
  · exact ⟨k, by omega, rfl⟩
  · obtain ⟨j, hj, e⟩ := h.1 x hx
    exact ⟨j, by omega, e⟩
/-- The last one that fired. -/
def Lst (S : List It) (i : Nat) (lw li : Int) : Prop := (i = 0 ∧ lw = -1 ∧ li = -1) ∨ ∃ y, 0 < i ∧ S[i - 1]? = some y ∧ lw = y.w ∧ li = y.id
theorem lst_next {l : List Int} {n i : Nat} {S : List It} {lw li : Int} (h : Itm l n S) (hs : Srt S) (hl : Lst S i lw li) {j : Nat} (hx : S[i]? = some ⟨j, dW l j, (j : Int) + 1⟩) : ¬ dW l j < lw ∧ (dW l j = lw → ¬ (j : Int) < li) := by
  rcases hl with ⟨rfl, rfl, rfl⟩ | ⟨y, hi, hy, rfl, rfl⟩
  · have : 0 ≤ dW l j := by unfold dW; omega
    exact ⟨by omega, fun _ => by omega⟩
  · obtain ⟨j', hj', e⟩ := h.1 y (List.mem_of_getElem? hy)
    have h1 := (List.getElem?_eq_some_iff.1 hy)
    have h2 := (List.getElem?_eq_some_iff.1 hx)
    have hlt := List.pairwise_iff_getElem.1 hs (i - 1) i h1.1 h2.1 (by omega)
    rw [h1.2, h2.2, e] at hlt
    unfold It.lt at hlt
    simp only at hlt
    rw [e]
    simp only
    exact ⟨by omega, fun e9 => by omega⟩
def MnA (W : World) (t : Nat) (l : List Int) (k : Nat) (w : World) : Prop := ∃ S, Itm l k S ∧ SS W t (fE k) k k S (fun _ => 0) [] w
def MnB (W : World) (t : Nat) (l : List Int) (n : Nat) (S : List It) (i : Nat) (w : World) : Prop := SS W t (fE n) n n (S.drop i) (fun _ => 0) [] w
def MnC (W : World) (t : Nat) (m i : Nat) (w : World) : Prop := ∃ E n' S g L, E.length ≤ i ∧ S.length ≤ i ∧ n' ≤ i + 64 ∧ SS W t E m n' S g L w
set_option maxHeartbeats 16000000 in
theorem many_in (A0 : Option Addr) (n c0 : Nat) (l : List Int) (more : Nat) (W : World) (hR : Rn W A0 n l) (hn : n ≤ 64) (hmo : more ≤ 10) : Calls Try.prog 7 #[.slice A0 n c0, .int .i64 more] W (BoolR true W) := by
  have q0 : ¬ (64 : Int) < (n : Int) := by omega
  have q1 : ¬ (more : Int) < 0 := by omega
  have q2 : ¬ 10 < (more : Int) := by omega
  have R1 := Lib.hid hR
  clear hR
  go_enter Try.func7, Try.ntmps7
  go_wp2_with fail
  refine (ss_new (Below.refl _ W)).mono ?_
  rintro e w0 ⟨rfl, h0, -⟩
  have H0 : Hid (MnA W W.heap.size l 0 w0) := ⟨[], ⟨fun x hx => (by cases hx), rfl⟩, h0⟩
  clear h0
  go_wp2_with fail
  go_loopw [6] (fun i wr => ∃ k : Nat, k ≤ n ∧ i = .int .i64 k ∧ Hid (MnA W W.heap.size l k wr)) (fun i _ => n - (intOf i).toNat)
  case atStart => exact ⟨0, by omega, rfl, H0⟩
  case round =>
    clear H0
    obtain ⟨k, hk, rfl, hS⟩ := hrel
    by_cases hlt : k < n
    · as_aux_lemma =>
      obtain ⟨S, hI, hs⟩ := hS.out
      have HS := Lib.hid hs
      have HI := Lib.hid hI
      obtain ⟨bb, off, x, rfl, hbb, hzx, hcx⟩ := R1.out.cell hs.bel hlt
      have HX : Hid (l.getD k 0 = x) := by show _ = _; rw [List.getD_eq_getElem?_getD, hzx]; rfl
      have k3 : (k : Int) < (n : Int) := by omega
      have b1 : IntKind.i64.wrap ((k : Int) + 1) = (k : Int) + 1 := by rw [IntKind.wrap_i64]; omega
      have hr := round_any x 100 wr (by decide) (by decide)
      have hp := pk_lt x (m := 100) (by decide)
      have HW : Hid (10 + (pk x 100 : Int) = dW l k) := by show _ = _; unfold dW; rw [HX.out]
      clear hs hzx hS hI
      go_wp2_with fail
      refine hr.mono ?_
      rintro e w2 ⟨rfl, rfl⟩
      clear hr hcx
      generalize hpk : (pk x 100 : Int) = pv at *
      have hp0 : 0 ≤ pv := by omega
      have hp1 : pv < 100 := by omega
      clear hp hpk
      go_wp2_with fail
      refine (func_ok (now := 10) (d := pv) (p := (k : Int)) HS.out (by decide) (by omega) (by omega) (by rw [fE_len]; omega) (by omega) (by rw [HI.out.2]; omega)).mono ?_
      rintro e w3 hz
      unfold MkF at hz
      rw [fE_len, wn_small (by decide) (by decide) hp0 (by omega), HW.out, del_none HI.out.nid, fput_zero] at hz
      have HZ := Lib.hid hz
      obtain rfl := hz.1
      have H3 : Hid (MnA W W.heap.size l (k + 1) w3) := ⟨_, HI.out.add, by rw [← fE_succ]; exact HZ.out.2.1⟩
      clear hz HZ HS HI HW HX
      go_wp2_with fail
      go_roundw
      case rel => exact ⟨k + 1, by omega, by go_num, H3⟩
      case measure => simp [intOf]; omega
    · obtain rfl : k = n := by omega
      have k3 : ¬ (k : Int) < (k : Int) := by omega
      obtain ⟨S, hI, hs⟩ := hS.out
      have HI := Lib.hid hI
      have HO := Lib.hid hs.ok.srt
      have S0 : Hid (MnB W W.heap.size l k S 0 wr) := hs
      have hSl : S.length = k := hI.2
      clear hs hI hS
      go_wp2_with fail
      go_loopw [10, 11, 12] (fun x y i wr => ∃ (j : Nat) (lw li : Int), j ≤ k ∧ x = .int .i64 lw ∧ y = .int .i64 li ∧ i = .int .i64 j ∧ Hid (Lst S j lw li) ∧ Hid (MnB W W.heap.size l k S j wr)) (fun _ _ i _ => k - (intOf i).toNat)
      case atStart => exact ⟨0, -1, -1, by omega, rfl, rfl, rfl, .inl ⟨rfl, rfl, rfl⟩, S0⟩
      case round =>
        clear S0
        obtain ⟨j, lw, li, hj, rfl, rfl, rfl, hL, hB⟩ := hrel
        by_cases hlt2 : j < k
        · as_aux_lemma =>
          have j3 : (j : Int) < (k : Int) := by omega
          have b1 : IntKind.i64.wrap ((j : Int) + 1) = (j : Int) + 1 := by rw [IntKind.wrap_i64]; omega
          obtain ⟨x, hx⟩ := drop_cons (S := S) (i := j) (by omega)
          have hxS : S[j]? = some x := by
            have := congrArg (fun z => z[0]?) hx
            simpa using this
          obtain ⟨i, hi, rfl⟩ := HI.out.1 x (List.mem_of_getElem? hxS)
          have hn9 := lst_next HI.out HO.out hL.out hxS
          have hs := hB.out
          unfold MnB at hs
          rw [hx] at hs
          have HS := Lib.hid hs
          have HT := Lib.hid hx
          have HL2 : Hid (Lst S (j + 1) (dW l i) i) := .inr ⟨_, by omega, by rw [Nat.add_sub_cancel]; exact hxS, rfl, rfl⟩
          have hdl : (S.drop (j + 1)).length ≤ 64 := by rw [List.length_drop]; omega
          obtain ⟨bb, off, y, rfl, hbb, hzy, hcy⟩ := R1.out.cell (w := wr) hs.bel hi
          have HX : Hid (l.getD i 0 = y) := by show _ = _; rw [List.getD_eq_getElem?_getD, hzy]; rfl
          have hp := pk_lt y (m := 100) (by decide)
          have HW : Hid (dW l i = 10 + (pk y 100 : Int)) := by show _ = _; unfold dW; rw [HX.out]
          have hr := fun w => round_any y 100 w (by decide) (by decide)
          clear hs hx hxS hzy hL hB
          have dw1 : dW l i ≤ 200 := by rw [HW.out]; omega
          have hcy2 : ∀ w, Below W.heap.size W w → w.cell? ⟨bb, off + i, none⟩ = some (.int .i64 y) := fun w hb => by
            obtain ⟨bb', off', y', e, _, hz', hc'⟩ := R1.out.cell (w := w) hb hi
            injection e with e; injection e with e1 e2; subst e1; subst e2
            have e9 : y' = y := by
              have := HX.out
              rw [List.getD_eq_getElem?_getD, hz'] at this
              simpa using this
            rw [e9] at hc'; exact hc'
          clear hcy
          go_wp2_with fail
          refine (fire_some (i := i) (now := 200) HS.out (tk_end (x := ⟨i, dW l i, (i : Int) + 1⟩) dw1 not_gon) (fE_at hi) (Pt.none rfl) (by rw [fE_len]; omega) (by omega) (by rw [List.length_cons]; omega)).mono ?_
          rintro e w3 ⟨A, cap, he, -, h, -⟩
          rw [fput_zero] at h
          obtain rfl : e = .returned (.tuple #[.agg #[.int .i64 i, .int .i64 3, .int .i64 (dW l i), .int .i64 200, .int .i64 i, .slice A 0 cap, .bool false], .bool true]) := he
          have H4 : Hid (MnB W W.heap.size l k S (j + 1) (w3.alloc (.cells #[.int .i64 i, .int .i64 3, .int .i64 (dW l i), .int .i64 200, .int .i64 i, .slice A 0 cap, .bool false] 35))) := SS.box h _
          have F3 := Lib.hid (Fbk.new w3 i 3 (dW l i) 200 i A 0 cap false)
          clear h HS
          go_upto_region 18 with (fail)
          generalize w3.alloc (.cells #[.int .i64 i, .int .i64 3, .int .i64 (dW l i), .int .i64 200, .int .i64 i, .slice A 0 cap, .bool false] 35) = w4 at *
          generalize w3.heap.size = b at *
          obtain ⟨p0, p1, p2, p3, p4, p5, p6⟩ := F3.out.cells
          have hc9 := hcy2 w4 H4.out.bel
          clear F3 hcy2
          rw [HW.out] at p2 hn9 HL2
          generalize hpk : (pk y 100 : Int) = pv at *
          have hr2 : ∀ w, Calls Try.prog 14 #[.int .i64 y, .int .i64 100] w fun e w' => e = .returned (.int .i64 pv) ∧ w' = w := fun w => by
            have := hr w
            exact this.mono fun _ _ h => ⟨h.1, h.2.symm⟩
          have HR := Lib.hid hr2
          have hp0 : 0 ≤ pv := by omega
          have hp1 : pv < 100 := by omega
          have g0 : IntKind.i64.wrap (10 + pv) = 10 + pv := by rw [IntKind.wrap_i64]; omega
          have g1 : ¬ (i : Int) < 0 := by omega
          have g2 : ¬ (k : Int) ≤ (i : Int) := by omega
          have g3 := hn9.1
          have hn10 := Lib.hid hn9.2
          have HD := Lib.hid (And.intro hi hdl)
          clear hr hr2 hp hpk hn9 HW HX dw1 HT HI HO
          by_cases hq : 10 + pv = lw
          · have hq2 : (10 + pv == lw) = true := by simp [hq]
            have g4 := hn10.out hq
            clear hq hn10
            go_quiet (exact Calls.quiet_of_same (HR.out _))
            have H5 := Lib.hid (show MnB W W.heap.size l k S (j + 1) (w4.drewN nq) from SS.drewN H4.out nq)
            have p0' : (w4.drewN nq).cell? ⟨b, 0, none⟩ = some (.int .i64 i) := p0
            have p2' : (w4.drewN nq).cell? ⟨b, 2, none⟩ = some (.int .i64 (10 + pv)) := p2
            generalize w4.drewN nq = w5 at *
            clear H4 p0 p1 p2 p3 p4 p5 p6 hc9
            go_wp2_with fail
            go_quiet (fail)
            have H6 := Lib.hid (show MnB W W.heap.size l k S (j + 1) (w5.drewN nq) from SS.drewN H5.out nq)
            go_wp2_with fail
            go_roundw
            case rel => exact ⟨j + 1, 10 + pv, i, by omega, rfl, rfl, by go_num, HL2, H6⟩
            case measure => simp [intOf]; omega
          · have hq2 : (10 + pv == lw) = false := by simpa using hq
            clear hq hn10
            go_quiet (exact Calls.quiet_of_same (HR.out _))
            have H5 := Lib.hid (show MnB W W.heap.size l k S (j + 1) (w4.drewN nq) from SS.drewN H4.out nq)
            have p0' : (w4.drewN nq).cell? ⟨b, 0, none⟩ = some (.int .i64 i) := p0
            have p2' : (w4.drewN nq).cell? ⟨b, 2, none⟩ = some (.int .i64 (10 + pv)) := p2
            generalize w4.drewN nq = w5 at *
            clear H4 p0 p1 p2 p3 p4 p5 p6 hc9
            go_wp2_with fail
            go_quiet (fail)
            have H6 := Lib.hid (show MnB W W.heap.size l k S (j + 1) (w5.drewN nq) from SS.drewN H5.out nq)
            go_wp2_with fail
            go_roundw
            case rel => exact ⟨j + 1, 10 + pv, i, by omega, rfl, rfl, by go_num, HL2, H6⟩
            case measure => simp [intOf]; omega
        · as_aux_lemma =>
          obtain rfl : j = k := by omega
          have j3 : ¬ (j : Int) < (j : Int) := by omega
          have hs := hB.out
          unfold MnB at hs
          rw [List.drop_eq_nil_of_le (by omega)] at hs
          have HS := Lib.hid hs
          clear hs hB hL HI HO
          go_wp2_with fail
          refine (fire_no (now := 4611686018427387904) HS.out (tk_idle trivial) (by omega) (by simp)).mono ?_
          rintro e w3 ⟨he, h, -⟩
          obtain rfl : e = .returned (.tuple #[.agg #[.int .i64 0, .int .i64 0, .int .i64 0, .int .i64 0, .int .i64 0, .slice none 0 0, .bool false], .bool false]) := he
          have H4 : Hid (MnC W W.heap.size j j (w3.alloc (.cells #[.int .i64 0, .int .i64 0, .int .i64 0, .int .i64 0, .int .i64 0, .slice none 0 0, .bool false] 35))) := ⟨_, j, [], _, _, by rw [fE_len]; omega, by simp, by omega, SS.box h _⟩
          clear h HS
          go_upto_region 22 with (fail)
          generalize w3.alloc (.cells #[.int .i64 0, .int .i64 0, .int .i64 0, .int .i64 0, .int .i64 0, .slice none 0 0, .bool false] 35) = w4 at *
          have g0 : IntKind.i64.wrap (64 + (more : Int)) = 64 + (more : Int) := by rw [IntKind.wrap_i64]; omega
          go_wp2_with fail
          go_loopw [17] (fun i wr => ∃ k : Nat, k ≤ 64 + more ∧ i = .int .i64 k ∧ Hid (MnC W W.heap.size (min k 64) k wr)) (fun i _ => 64 + more - (intOf i).toNat)
          case atStart => exact ⟨j, by omega, rfl, by rw [Nat.min_eq_left hn]; exact H4⟩
          case round =>
            clear H4
            obtain ⟨k, hk9, rfl, hC⟩ := hrel
            have b1 : IntKind.i64.wrap ((k : Int) + 1) = (k : Int) + 1 := by rw [IntKind.wrap_i64]; omega
            by_cases hlt3 : k < 64 + more
            · have k4 : (k : Int) < 64 + (more : Int) := by omega
              obtain ⟨E, n', S', g, L, e1, e2, e3, hs⟩ := hC.out
              by_cases h64 : k < 64
              · rw [Nat.min_eq_left (by omega)] at hs
                have k5 : (k : Int) < 64 := by omega
                have HS := Lib.hid hs
                have HE := Lib.hid (And.intro e1 (And.intro e2 e3))
                clear hs hC e1 e2 e3
                go_wp2_with fail
                refine (timer_ok (now := 0) (d := 1) HS.out (by decide) h64 (by have := HE.out.1; omega) (by have := HE.out.2.2; omega) (by have := HE.out.2.1; omega)).mono ?_
                rintro e w5 ⟨c, rfl, h, -⟩
                have H5 : Hid (MnC W W.heap.size (min (k + 1) 64) (k + 1) w5) := by
                  rw [Nat.min_eq_left (by omega)]
                  refine ⟨_, _, _, _, _, ?_, ?_, ?_, h⟩
                  · have := HE.out.1; simp; omega
                  · have := HE.out.2.1
                    rw [(ins_perm _ _).length_eq, List.length_cons]
                    have := List.length_filter_le (fun x : It => decide (x.id ≠ (E.length : Int))) S'
                    unfold del; omega
                  · have := HE.out.2.2; omega
                clear h HS HE
                go_wp2_with fail
                go_roundw
                case rel => exact ⟨k + 1, by omega, by go_num, H5⟩
                case measure => simp [intOf]; omega
              · rw [Nat.min_eq_right (by omega)] at hs
                have k5 : ¬ (k : Int) < 64 := by omega
                have HS := Lib.hid hs
                have H5 : Hid (MnC W W.heap.size (min (k + 1) 64) (k + 1) wr) := by
                  rw [Nat.min_eq_right (by omega)]
                  exact ⟨E, n', S', g, L, by omega, by omega, by omega, hs⟩
                clear hs hC e1 e2 e3
                go_wp2_with fail
                refine (timer_no (a := 3) (some ⟨W.heap.size, 0, none⟩) _ (by decide) (start_full HS.out (by decide) (by decide))).mono ?_
                rintro e w5 ⟨rfl, rfl⟩
                clear HS
                go_wp2_with fail
                go_roundw
                case rel => exact ⟨k + 1, by omega, by go_num, H5⟩
                case measure => simp [intOf]; omega
            · have k4 : ¬ (k : Int) < 64 + (more : Int) := by omega
              obtain ⟨E, n', S', g, L, e1, e2, e3, hs⟩ := hC.out
              have HS := Lib.hid hs
              have HE := Lib.hid (And.intro e1 (And.intro e2 e3))
              clear hs hC e1 e2 e3
              go_wp2_with fail
              refine (lapse_ok (wh := 5) (p := 0) HS.out (by decide) (by have := HE.out.1; omega) (by have := HE.out.2.2; omega) (by have := HE.out.2.1; omega)).mono ?_
              rintro e w5 hz
              obtain rfl := hz.1
              have HB := Lib.hid hz.2.1.bel
              clear hz HS HE
              go_wp2_with fail
              refine (awakes_any _).mono ?_
              rintro e w2 ⟨rfl, hb⟩
              have HB2 := Lib.hid (HB.out.trans (hb.mono HB.out.size))
              clear hb
              go_wp2_with fail
              go_ret
              exact ⟨rfl, HB2.out⟩
set_option maxHeartbeats 4000000 in
theorem many_any (A0 : Option Addr) (n c0 : Nat) (l : List Int) (more : Int) (W : World) (hR : Rn W A0 n l) : Calls Try.prog 7 #[.slice A0 n c0, .int .i64 more] W (BoolR true W) := by
  by_cases q0 : (64 : Int) < (n : Int)
  ·
    go_enter Try.func7, Try.ntmps7
    go_wp2_with fail
    refine (awakes_any _).mono ?_
    rintro e w' ⟨rfl, hb⟩
    have HB := Lib.hid hb
    clear hb
    go_wp2_with fail
    go_ret
    exact ⟨rfl, HB.out⟩
  by_cases q1 : more < 0
  ·
    go_enter Try.func7, Try.ntmps7
    go_wp2_with fail
    refine (awakes_any _).mono ?_
    rintro e w' ⟨rfl, hb⟩
    have HB := Lib.hid hb
    clear hb
    go_wp2_with fail
    go_ret
    exact ⟨rfl, HB.out⟩
  by_cases q2 : 10 < more
  ·
    go_enter Try.func7, Try.ntmps7
    go_wp2_with fail
    refine (awakes_any _).mono ?_
    rintro e w' ⟨rfl, hb⟩
    have HB := Lib.hid hb
    clear hb
    go_wp2_with fail
    go_ret
    exact ⟨rfl, HB.out⟩
  obtain ⟨m, rfl⟩ : ∃ m : Nat, more = (m : Int) := ⟨more.toNat, by omega⟩
  exact many_in A0 n c0 l m W hR (by omega) (by omega)
end Go.Proofs.Ytmadcnpkaijllaa
