/- The walk of ChooseOne. Condition: the slice that came in reads as l. -/
import Derived.Test.YtmcacmbllpphiaaWe
import Derived.Test.YtmcacmbllpphiaaAwk
namespace Go.Proofs.Ytmcacmbllpphiaa
open Go.RowKit
set_option linter.unusedVariables false

def o0 : CS := ⟨0, false, 1, [], [], []⟩
def oF (l : List Bool) (i : Nat) : CS := ⟨0, false, 1, if l[i]? = some true then [100 + (i : Int)] else [], [], []⟩
def oP (i : Nat) : CS := ⟨0, false, 1, [], [], [⟨9, i, 0⟩]⟩
theorem oF_yes {l : List Bool} {i : Nat} (h : l[i]? = some true) : oF l i = ⟨0, false, 1, [100 + (i : Int)], [], []⟩ := by unfold oF; rw [if_pos h]
theorem oF_no {l : List Bool} {i : Nat} (h : l[i]? ≠ some true) : oF l i = o0 := by unfold oF; rw [if_neg h]; rfl
theorem oF_can (l : List Bool) (i : Nat) : can (oF l i) false = (l[i]? == some true) := by
  by_cases h : l[i]? = some true
  · rw [oF_yes h, h]; rfl
  · rw [oF_no h, beq_eq_false_iff_ne.2 h]; rfl
theorem o_wrg (n : Nat) (f : Nat → CS) : wrg (gS n f) (gL n false 0) (gL n false 0).length = none := wrg_all _ (Nat.le_refl _) (by
  intro x hx
  obtain ⟨i, hi, rfl⟩ := mem_gL hx
  rw [gknd hi]; rfl)
theorem o_rdy (l : List Bool) (n : Nat) : rdy (gS n (oF l)) (gL n false 0) (gL n false 0).length = wn l n := by
  rw [gL_len]; exact g_rdy fun i _ => oF_can l i
theorem o_none {l : List Bool} {n : Nat} (df : Bool) (draw : Int) (hn : n ≤ 16) (h : wn l n = []) : doS (gS n (oF l)) (gL n false 0) df draw 9 = (gS n (if df = true then fun _ => o0 else oP), ⟨-1, 0, false, false, !df, false⟩, [], 0) := by
  have hf : ∀ i, i < n → l[i]? ≠ some true := fun i hi e => by have := mem_wn hi e; rw [h] at this; cases this
  rw [doS_none df (by rw [gL_len]; exact hn) (by omega) (by
    intro x hx
    obtain ⟨i, hi, rfl⟩ := mem_gL hx
    rw [gcan hi, oF_can]
    exact beq_eq_false_iff_ne.2 (hf i hi)) (by
    intro x hx
    obtain ⟨i, hi, rfl⟩ := mem_gL hx
    rw [gknd hi]; rfl), gL_len]
  refine Prod.ext ?_ rfl
  cases df with
  | true => rw [if_pos rfl, if_pos rfl]; exact gS_ext fun i hi => oF_no (hf i hi)
  | false =>
    rw [if_neg (by simp), if_neg (by simp), g_pk n false 0 _ 9 n (Nat.le_refl _)]
    refine gS_ext fun i hi => ?_
    rw [if_pos hi, oF_no (hf i hi)]
    rfl
theorem o_one {l : List Bool} {n p q : Nat} (df : Bool) (draw : Int) (hn : n ≤ 16) (hq : draw % ((wn l n).length : Int) = (q : Int)) (hp : (wn l n)[q]? = some p) : doS (gS n (oF l)) (gL n false 0) df draw 9 = (gS n (fun i => if i = p then o0 else oF l i), ⟨p, 100 + (p : Int), true, false, false, false⟩, [], 0) := by
  obtain ⟨h1, h2⟩ := wn_mem (List.mem_of_getElem? hp)
  rw [doS_one (by rw [gL_len]; exact hn) (by omega) (o_wrg n _) (o_rdy l n) hq hp (gL_at false 0 h1)]
  have hd : doX (gS n (oF l)) ⟨some p, false, 0⟩ = (gS n (fun i => if i = p then o0 else oF l i), ⟨0, 100 + (p : Int), true, false, false, false⟩, []) := by
    unfold doX
    simp only
    rw [gS_at _ h1, oF_yes h2]
    simp only
    rw [if_neg (by simp), ← gS_set _ h1]
    rfl
  rw [hd]
def nZ (r : List Nat) : List Int := r.map fun i : Nat => (i : Int)
theorem nZ_len (r : List Nat) : (nZ r).length = r.length := by simp [nZ]
theorem nZ_at {r : List Nat} {i p : Nat} (h : r[i]? = some p) : (iV (nZ r))[i]? = some (.int .i64 (p : Int)) := by simp [nZ, iV, h]
theorem wI_succ (l : List Bool) (k : Nat) (h : l[k]? = some true) : nZ (wn l (k + 1)) = nZ (wn l k) ++ [(k : Int)] := by rw [wn_succ, if_pos h]; simp [nZ]
theorem set_last {α : Type} (l : List α) (x y : α) (k : Nat) (h : l.length = k) : (l ++ [x]).set k y = l ++ [y] := by subst h; simp
theorem o_park_leave {n : Nat} (hn : n ≤ 16) : lvS (gS n oP) (gL n false 0) 9 (gL n false 0).length = (gS n (fun _ => o0), (n : Int)) := g_leave false 0 _ _ 9 _ (fun _ => 1) (fun i _ => by simp [gone, oP, o0, isT]) (fun i _ => by simp [ctG, oP, isT]) (sm_one n)
theorem o_leave {n : Nat} : lvS (gS n (fun _ => o0)) (gL n false 0) 9 (gL n false 0).length = (gS n (fun _ => o0), 0) := g_leave false 0 _ _ 9 _ (fun _ => 0) (fun i _ => rfl) (fun i _ => rfl) (sm_zero n)
theorem inf3o : (Try.prog.info? 3).map (fun i => (i.zero, i.size, i.bytes)) = some (some (.int .i64 0), 1, 8) := by kernel_rfl
set_option maxRecDepth 100000 in
set_option maxHeartbeats 16000000 in
theorem one_in (A : Option Addr) (n cap : Nat) (l : List Bool) (draw : Int) (df : Bool) (W : World) (hA : IsB W A n cap l) (h1 : 1 ≤ n) (hn : n ≤ 16) : Calls Try.prog 4 #[.slice A n cap, .int .i64 draw, .bool df] W (BoolR true W) := by
  obtain ⟨i0, hi, hz0, hz1, hz2⟩ := info_parts inf65
  obtain ⟨j0, hj, hy0, hy1, hy2⟩ := info_parts inf3o
  have b1 : (n : Int) ≤ 16 := by omega
  have b2 : 1 ≤ (n : Int) := by omega
  have HA := Lib.hid hA
  have HLN := Lib.hid hA.2.2.1
  have S0 : Hid (RQ W [] (gS 0 (oF l)) (.slice none 0 0) (gL 0 false 0) (.slice none 0 0) (nZ (wn l 0)) W) := RQ.start W
  clear hA
  go_enter Try.func4, Try.ntmps4
  go_wp2_with fail
  go_loopw [7, 8, 9] (fun v u i wr => ∃ (k : Nat) (B : List Nat), k ≤ n ∧ i = .int .i64 k ∧ B.length = k ∧ Hid (RQ W B (gS k (oF l)) v (gL k false 0) u (nZ (wn l k)) wr)) (fun _ _ i _ => n - (intOf i).toNat)
  case atStart => exact ⟨0, [], by omega, rfl, rfl, S0⟩
  case round =>
    clear S0
    obtain ⟨k, B, hk, rfl, hBl, hS⟩ := hrel
    by_cases hlt : k < n
    · have k1 : (k : Int) < (n : Int) := by omega
      have k2 : 0 ≤ (k : Int) := by omega
      have hkl : k < l.length := by rw [HLN.out]; exact hlt
      go_wp2_with fail
      refine (rq_new hS.out 1 (by omega) (fun c => gptr_more hBl c)).mono ?_
      rintro e w1 ⟨c, rfl, z1, _⟩
      have HS1 := Lib.hid z1
      have hp : ptr (B ++ [c]) ⟨some k, false, 0⟩ = some ⟨c, 0, none⟩ := by simp [ptr, ← hBl]
      have hBc : (B ++ [c])[k]? = some c := by simp [← hBl]
      have HBL : Hid ((B ++ [c]).length = k + 1) := by show _ = _; rw [List.length_append, List.length_singleton, hBl]
      have HL : Hid ((gL k false 0).length = k) := gL_len _ _ _
      generalize B ++ [c] = B' at *
      obtain ⟨bb, off, rfl, hbb, d0⟩ := IsB.at HA.out z1.bel (List.getElem?_eq_getElem hkl)
      have HY := Lib.hid (List.getElem?_eq_getElem hkl)
      generalize l[k]'hkl = y at *
      clear hS z1 hBl hbb hkl
      cases y with
      | true =>
        go_wp2_with fail
        refine (rq_send (i := k) (s := o0) (s' := oF l k) (ws := []) (d := true) (n := 0) (100 + (k : Int)) HS1.out hBc (by rw [List.getElem?_append_right (by rw [gS_len]; exact Nat.le_refl _), gS_len, Nat.sub_self]; rfl) rfl rfl (by simp [o0]) (by rw [oF_yes HY.out]; rfl) rfl).mono ?_
        rintro e w2 ⟨A2, n2, rfl, z2, _⟩
        have HS2 : Hid (RQ W B' (gS (k + 1) (oF l)) u7 (gL k false 0) u8 (nZ (wn l k)) w2) := by rw [gS_succ, ← set_last _ (⟨0, false, 1, [], [], []⟩ : CS) _ k (gS_len _ _)]; exact z2
        have HWL : Hid ((wn l k).length ≤ 16) := by have := wn_len l k; show _ ≤ _; omega
        clear z2 HS1 hBc d0
        go_wp2_with (first
          | (at_builtin; go_loud (refine wpList_append_lies _ rfl (.tmp 52) (.tmp 54) 22 rfl W.heap.size 3 j0 (.int .i64 0) 1 8 Try.underlying22 hj hy0 hy1 hy2 rfl (by decide) u8 (nZ (wn l k)).length (iV (nZ (wn l k))) rfl (HS2.out.later (below_al _ _)).ints ⟨w2.heap.size, 0, none⟩ 1 1 [.int .i64 (k : Int)] rfl rfl (by intro j u hu; rw [add_plain, Nat.zero_add, cell_of_row _ _ _ _ _ _ (heap_alloc_new w2 (.cells #[.int .i64 (k : Int)] 3))]; simpa using hu) (by simp [Value.oneCell']) (by omega) (by have := HWL.out; rw [nZ_len]; unfold maxLen; omega) (by have := HWL.out; rw [nZ_len]; omega) (by have := HS2.out.size; simp; omega) _ rfl ?_; intro gb gc wA hoA hgA hat hlA; have HS3 : Hid (RQ W B' (gS (k + 1) (oF l)) u7 (gL k false 0) (.slice (some ⟨gb, 0, none⟩) ((nZ (wn l k)).length + 1) gc) (nZ (wn l (k + 1))) wA) := RQ.growU (HS2.out.later (below_al _ _)) hgA (by rw [wI_succ l k HY.out, List.length_append, List.length_singleton, iV_app]; exact hoA) (by intro b hb; cases hb; exact hat); have HSz := HS3.out.size; have HR := Lib.hid (HS3.out.later (below_al wA (.cells (caA B' ⟨some k, false, 0⟩) 65))); have HRd := Lib.hid (Rd.ca wA B' ⟨some k, false, 0⟩ _ rfl); unfold caA at HR HRd; rw [hp] at HR HRd; clear hoA hgA hat hlA))
          | (at_builtin; go_loud (refine app_wp rfl (.tmp 56) (.tmp 59) 38 rfl W.heap.size 65 3 24 i0 (.agg #[.pointer none, .bool false, .int .i64 0]) Try.underlying38 hi hz0 hz1 hz2 rfl (by decide) u7 (gL k false 0).length (caF B' (gL k false 0)) rfl HR.out.row _ (some ⟨wA.heap.size, 0, none⟩) 1 1 (caF B' [⟨some k, false, 0⟩]) rfl HRd.out (caF_one _ _) (by have := HL.out; unfold maxLen; omega) (by have := HL.out; omega) (by simp; omega) ?_; intro v1 w3 ho1 hg1; have HR1 : Hid (RQ W B' (gS (k + 1) (oF l)) v1 (gL (k + 1) false 0) (.slice (some ⟨gb, 0, none⟩) ((nZ (wn l k)).length + 1) gc) (nZ (wn l (k + 1))) w3) := HR.out.growV hg1 (by rw [gL_succ, List.length_append, List.length_singleton, caF_app]; exact ho1); clear ho1 hg1)))
        go_roundw
        case rel => exact ⟨k + 1, B', by omega, by go_num, HBL.out, HR1⟩
        case measure => simp [intOf]; omega
      | false =>
        have hno : l[k]? ≠ some true := by rw [HY.out]; simp
        have HS3 : Hid (RQ W B' (gS (k + 1) (oF l)) u7 (gL k false 0) u8 (nZ (wn l (k + 1))) w1) := by rw [gS_succ, oF_no hno, wn_succ, if_neg hno]; exact HS1.out
        have HSz := HS3.out.size
        have HR := Lib.hid (HS3.out.later (below_al w1 (.cells (caA B' ⟨some k, false, 0⟩) 65)))
        have HRd := Lib.hid (Rd.ca w1 B' ⟨some k, false, 0⟩ _ rfl)
        unfold caA at HR HRd
        rw [hp] at HR HRd
        clear HS1 hBc hno HS3
        go_wp2_with (at_builtin; go_loud (refine app_wp rfl (.tmp 56) (.tmp 59) 38 rfl W.heap.size 65 3 24 i0 (.agg #[.pointer none, .bool false, .int .i64 0]) Try.underlying38 hi hz0 hz1 hz2 rfl (by decide) u7 (gL k false 0).length (caF B' (gL k false 0)) rfl HR.out.row _ (some ⟨w1.heap.size, 0, none⟩) 1 1 (caF B' [⟨some k, false, 0⟩]) rfl HRd.out (caF_one _ _) (by have := HL.out; unfold maxLen; omega) (by have := HL.out; omega) (by simp; omega) ?_; intro v1 w3 ho1 hg1; have HR1 : Hid (RQ W B' (gS (k + 1) (oF l)) v1 (gL (k + 1) false 0) u8 (nZ (wn l (k + 1))) w3) := HR.out.growV hg1 (by rw [gL_succ, List.length_append, List.length_singleton, caF_app]; exact ho1); clear ho1 hg1))
        go_roundw
        case rel => exact ⟨k + 1, B', by omega, by go_num, HBL.out, HR1⟩
        case measure => simp [intOf]; omega
    · obtain rfl : k = n := by omega
      obtain ⟨A9, c9, hv, hX⟩ := hS.out.rd
      rw [gL_len] at hv hX
      subst hv
      obtain ⟨A8, c8, hu, _, _⟩ := own_cap hS.out.ints
      rw [nZ_len] at hu
      have HX := Lib.hid hX
      have HS := Lib.hid hS.out
      have HB9 : Hid (B.length = k) := hBl
      have HBN : Hid (BN 100 (gS k (oF l))) := BN_g _ fun i _ => by simp [nw, oF]
      clear hS hX hBl
      by_cases hw : wn l k = []
      · rw [hw, List.length_nil] at hu
        subst hu
        have c9' : ((k : Int) == 0) = false := by rw [beq_eq_false_iff_ne]; omega
        have HE := Lib.hid (o_none (l := l) df draw hn hw)
        clear hw
        cases df with
        | true =>
          simp only [if_true, Bool.not_true] at HE
          go_wp2_with fail
          refine (rq_do (m := 0) true draw 9 (by unfold Wf; decide) HS.out HBN.out HX.out (by omega) HE.out rfl).mono ?_
          rintro e w2 ⟨A2, k2, rfl, s2, ko2⟩
          have bl := below_al w2 (.cells #[.int .i64 (-1), .int .i64 0, .bool false, .bool false, .bool false, .bool false] 46)
          have HX2 := Lib.hid ((HX.out.ko o65 ko2).later bl)
          have HZ2 := Lib.hid (s2.later bl).zs
          clear s2 ko2 HS HX bl
          unfold reG
          go_wp2_with fail
          generalize w2.alloc (.cells #[.int .i64 (-1), .int .i64 0, .bool false, .bool false, .bool false, .bool false] 46) = w3 at *
          go_loopw [15] (fun i wr => ∃ k' : Nat, k' ≤ k ∧ i = .int .i64 k' ∧ Hid (ZS W B (gS k (fun _ => o0)) wr ∧ RdX 65 B wr A9 k (gL k false 0))) (fun i _ => k - (intOf i).toNat)
          case atStart => exact ⟨0, by omega, rfl, HZ2.out, HX2.out⟩
          case round =>
            clear HZ2 HX2
            obtain ⟨i, hi2, rfl, hT⟩ := hrel
            by_cases hlt3 : i < k
            · have k1 : (i : Int) < (k : Int) := by omega
              have k2 : 0 ≤ (i : Int) := by omega
              have hbc : B[i]? = some (B[i]'(by rw [HB9.out]; exact hlt3)) := List.getElem?_eq_getElem _
              generalize B[i]'(by rw [HB9.out]; exact hlt3) = c at *
              have hpt : ptr B ⟨some i, false, 0⟩ = some ⟨c, 0, none⟩ := by simp [ptr, hbc]
              obtain ⟨bx, ox, csx, rfl, hbx, x0, _, _⟩ := hT.out.2.at (gL_at false 0 hlt3)
              rw [hpt] at x0
              clear hbx hpt
              go_wp2_with fail
              refine (zs_waiting false hT.out.1 hbc (gS_at _ hlt3) (by simp [CS.q, o0])).mono ?_
              rintro e w5 ⟨A5, k5, rfl, _, hb5⟩
              have HT5 : Hid (ZS W B (gS k (fun _ => o0)) w5 ∧ RdX 65 B w5 (some ⟨bx, ox, none⟩) k (gL k false 0)) := ⟨hT.out.1.later hb5, hT.out.2.later hb5⟩
              clear hb5 hT x0 hbc
              simp only [CS.q, o0, List.length_nil] at *
              go_wp2_with fail
              go_roundw
              case rel => exact ⟨i + 1, by omega, by go_num, HT5⟩
              case measure => simp [intOf]; omega
            · obtain rfl : i = k := by omega
              go_wp2_with fail
              refine (zs_leave (k := 0) 9 hT.out.1 (BN_g _ fun i _ => by simp [nw, o0]) hT.out.2 (by omega) o_leave).mono ?_
              rintro e w5 ⟨rfl, s5, ko5⟩
              have HZ5 := Lib.hid s5
              have HX5 := Lib.hid (hT.out.2.ko o65 ko5)
              clear s5 ko5 hT
              go_wp2_with fail
              refine (zs_leave (k := 0) 9 HZ5.out (BN_g _ fun i _ => by simp [nw, o0]) HX5.out (by omega) o_leave).mono ?_
              rintro e w6 ⟨rfl, s6, _⟩
              have HZ6 := Lib.hid s6.bel
              clear s6 HZ5 HX5
              go_wp2_with fail
              refine (awake_any w6).mono ?_
              rintro e w10 ⟨rfl, hb⟩
              have HBB := Lib.hid (HZ6.out.trans (hb.mono HZ6.out.size))
              clear hb HZ6
              go_wp2_with fail
              go_ret
              exact ⟨rfl, HBB.out⟩
        | false =>
          simp only [Bool.false_eq_true, if_false, Bool.not_false] at HE
          go_wp2_with fail
          refine (rq_do (m := 0) false draw 9 (by unfold Wf; decide) HS.out HBN.out HX.out (by omega) HE.out rfl).mono ?_
          rintro e w2 ⟨A2, k2, rfl, s2, ko2⟩
          have bl := below_al w2 (.cells #[.int .i64 (-1), .int .i64 0, .bool false, .bool false, .bool true, .bool false] 46)
          have HX2 := Lib.hid ((HX.out.ko o65 ko2).later bl)
          have HZ2 := Lib.hid (s2.later bl).zs
          clear s2 ko2 HS HX bl
          unfold reG
          go_wp2_with fail
          generalize w2.alloc (.cells #[.int .i64 (-1), .int .i64 0, .bool false, .bool false, .bool true, .bool false] 46) = w3 at *
          go_loopw [15] (fun i wr => ∃ k' : Nat, k' ≤ k ∧ i = .int .i64 k' ∧ Hid (ZS W B (gS k oP) wr ∧ RdX 65 B wr A9 k (gL k false 0))) (fun i _ => k - (intOf i).toNat)
          case atStart => exact ⟨0, by omega, rfl, HZ2.out, HX2.out⟩
          case round =>
            clear HZ2 HX2
            obtain ⟨i, hi2, rfl, hT⟩ := hrel
            by_cases hlt3 : i < k
            · have k1 : (i : Int) < (k : Int) := by omega
              have k2 : 0 ≤ (i : Int) := by omega
              have hbc : B[i]? = some (B[i]'(by rw [HB9.out]; exact hlt3)) := List.getElem?_eq_getElem _
              generalize B[i]'(by rw [HB9.out]; exact hlt3) = c at *
              have hpt : ptr B ⟨some i, false, 0⟩ = some ⟨c, 0, none⟩ := by simp [ptr, hbc]
              obtain ⟨bx, ox, csx, rfl, hbx, x0, _, _⟩ := hT.out.2.at (gL_at false 0 hlt3)
              rw [hpt] at x0
              clear hbx hpt
              go_wp2_with fail
              refine (zs_waiting false hT.out.1 hbc (gS_at _ hlt3) (by simp [CS.q, oP])).mono ?_
              rintro e w5 ⟨A5, k5, rfl, _, hb5⟩
              have HT5 : Hid (ZS W B (gS k oP) w5 ∧ RdX 65 B w5 (some ⟨bx, ox, none⟩) k (gL k false 0)) := ⟨hT.out.1.later hb5, hT.out.2.later hb5⟩
              clear hb5 hT x0 hbc
              simp only [CS.q, oP, List.length_cons, List.length_nil] at *
              go_wp2_with fail
              go_roundw
              case rel => exact ⟨i + 1, by omega, by go_num, HT5⟩
              case measure => simp [intOf]; omega
            · obtain rfl : i = k := by omega
              go_wp2_with fail
              refine (zs_leave (k := (i : Int)) 9 hT.out.1 (BN_g _ fun i _ => by simp [nw, oP]) hT.out.2 (by omega) (o_park_leave hn)).mono ?_
              rintro e w5 ⟨rfl, s5, ko5⟩
              have HZ5 := Lib.hid s5
              have HX5 := Lib.hid (hT.out.2.ko o65 ko5)
              clear s5 ko5 hT
              go_wp2_with fail
              refine (zs_leave (k := 0) 9 HZ5.out (BN_g _ fun i _ => by simp [nw, o0]) HX5.out (by omega) o_leave).mono ?_
              rintro e w6 ⟨rfl, s6, _⟩
              have HZ6 := Lib.hid s6.bel
              clear s6 HZ5 HX5
              go_wp2_with fail
              refine (awake_any w6).mono ?_
              rintro e w10 ⟨rfl, hb⟩
              have HBB := Lib.hid (HZ6.out.trans (hb.mono HZ6.out.size))
              clear hb HZ6
              go_wp2_with fail
              go_ret
              exact ⟨rfl, HBB.out⟩
      · subst hu
        have hlen : 0 < (wn l k).length := List.length_pos_iff.2 hw
        have hle := wn_len l k
        have r0 : 0 ≤ draw % ((wn l k).length : Int) := Int.emod_nonneg _ (by omega)
        have r1 : draw % ((wn l k).length : Int) < ((wn l k).length : Int) := Int.emod_lt_of_pos _ (by omega)
        obtain ⟨q, hq⟩ := Int.eq_ofNat_of_zero_le r0
        have hql : q < (wn l k).length := by omega
        have hp : (wn l k)[q]? = some ((wn l k)[q]'hql) := List.getElem?_eq_getElem hql
        have HQ := Lib.hid (fun w' : World => round_any draw (wn l k).length w' (by omega) (by omega))
        rw [hq] at HQ
        have HE := Lib.hid (o_one df draw hn hq hp)
        have HPM := Lib.hid (wn_mem (List.mem_of_getElem? hp))
        have HPA := Lib.hid hp
        generalize (wn l k)[q]'hql = p at *
        generalize wn l k = r at *
        have c1 : 0 < (r.length : Int) := by omega
        have c2 : (r.length : Int) ≤ 16 := by omega
        have c3 : (q : Int) < (r.length : Int) := by omega
        have c4 : 0 ≤ (q : Int) := by omega
        have c5 : ((r.length : Int) == 0) = false := by rw [beq_eq_false_iff_ne]; omega
        have c6 : 0 ≤ (p : Int) := by omega
        have c7 : (p : Int) < 16 := by have := HPM.out.1; omega
        have c8 : ((p : Int) == -1) = false := by rw [beq_eq_false_iff_ne]; omega
        clear hw hlen hle r0 r1 hq hql hp
        go_wp2_with fail
        refine (rq_do (m := 0) df draw 9 (by unfold Wf; decide) HS.out HBN.out HX.out (by omega) HE.out rfl).mono ?_
        rintro e w2 ⟨A2, k2, rfl, s2, ko2⟩
        have bl := below_al w2 (.cells #[.int .i64 p, .int .i64 (100 + (p : Int)), .bool true, .bool false, .bool false, .bool false] 46)
        have HX2 := Lib.hid ((HX.out.ko o65 ko2).later bl)
        have HS2 := Lib.hid (s2.later bl)
        clear s2 ko2 HS HX bl
        unfold reG
        go_wp2_with fail
        refine (HQ.out _).mono ?_
        rintro e w' ⟨rfl, rfl⟩
        obtain ⟨b9, o9, rfl, hb9, d9⟩ := (Rd.of_own (n := r.length) (by have h9 := HS2.out.ints; rw [nZ_len] at h9; exact h9)).2 (by omega)
        have d0 := d9 q (.int .i64 (p : Int)) (nZ_at HPA.out)
        have HZ2 := Lib.hid HS2.out.zs
        clear d9 hb9 HQ HS2
        go_wp2_with fail
        clear d0
        generalize w2.alloc (.cells #[.int .i64 p, .int .i64 (100 + (p : Int)), .bool true, .bool false, .bool false, .bool false] 46) = w3 at *
        go_loopw [18] (fun i wr => ∃ k' : Nat, k' ≤ k ∧ i = .int .i64 k' ∧ Hid (ZS W B (gS k (fun i => if i = p then o0 else oF l i)) wr ∧ RdX 65 B wr A9 k (gL k false 0))) (fun i _ => k - (intOf i).toNat)
        case atStart => exact ⟨0, by omega, rfl, HZ2.out, HX2.out⟩
        case round =>
          clear HZ2 HX2
          obtain ⟨i, hi2, rfl, hT⟩ := hrel
          by_cases hlt3 : i < k
          · have k1 : (i : Int) < (k : Int) := by omega
            have k2 : 0 ≤ (i : Int) := by omega
            have hil : i < l.length := by rw [HLN.out]; exact hlt3
            have HY := Lib.hid (List.getElem?_eq_getElem hil)
            have hbc : B[i]? = some (B[i]'(by rw [HB9.out]; exact hlt3)) := List.getElem?_eq_getElem _
            generalize B[i]'(by rw [HB9.out]; exact hlt3) = c at *
            have hpt : ptr B ⟨some i, false, 0⟩ = some ⟨c, 0, none⟩ := by simp [ptr, hbc]
            obtain ⟨bx, ox, csx, rfl, hbx, x0, _, _⟩ := hT.out.2.at (gL_at false 0 hlt3)
            obtain ⟨bb, off, rfl, hbb, d0⟩ := IsB.at HA.out hT.out.1.bel HY.out
            rw [hpt] at x0
            generalize l[i]'hil = y at *
            have HC2 : Hid (∀ n, Calls Try.prog 24 #[.pointer (some ⟨c, 0, none⟩), .bool false] (wr.drewN n) fun e w'' => e = .returned (.slice none 0 0) ∧ w'' = wr.drewN n) := fun n =>
              (zs_waiting0 false (hT.out.1.drewN n) hbc (gS_at _ hlt3) (by split <;> rfl)).mono fun _ _ h => ⟨h.1, h.2.symm⟩
            clear hbx hbb hpt
            cases y with
            | true =>
              by_cases hip : i = p
              · subst hip
                have HC1 : Hid (∀ n, Calls Try.prog 26 #[.pointer (some ⟨c, 0, none⟩)] (wr.drewN n) fun e w'' => e = .returned (.int .i64 0) ∧ w'' = wr.drewN n) := by
                  intro n
                  refine (zs_len (hT.out.1.drewN n) hbc (gS_at _ hlt3)).mono ?_
                  rintro e w'' ⟨rfl, rfl⟩
                  exact ⟨ret_int (by rw [if_pos (show i = i from rfl)]; rfl), rfl⟩
                clear hbc
                go_wp2_with fail
                go_quiet (first | exact Calls.quiet_of_same (HC1.out _) | exact Calls.quiet_of_same (HC2.out _))
                have HT2 : Hid (ZS W B (gS k (fun j => if j = i then o0 else oF l j)) (wr.drewN nq) ∧ RdX 65 B (wr.drewN nq) (some ⟨bx, ox, none⟩) k (gL k false 0)) := ⟨hT.out.1.drewN nq, hT.out.2.later (below_drewN (Below.refl _ _) nq)⟩
                clear hT
                go_wp2_with fail
                go_roundw
                case rel => exact ⟨i + 1, by omega, by go_num, HT2⟩
                case measure => simp [intOf]; omega
              · have e1 : ((i : Int) == (p : Int)) = false := by rw [beq_eq_false_iff_ne]; omega
                have e2 : ((i : Int) != (p : Int)) = true := by rw [bne_iff_ne]; omega
                have HC1 : Hid (∀ n, Calls Try.prog 26 #[.pointer (some ⟨c, 0, none⟩)] (wr.drewN n) fun e w'' => e = .returned (.int .i64 1) ∧ w'' = wr.drewN n) := by
                  intro n
                  refine (zs_len (hT.out.1.drewN n) hbc (gS_at _ hlt3)).mono ?_
                  rintro e w'' ⟨rfl, rfl⟩
                  exact ⟨ret_int (by rw [if_neg hip, oF_yes HY.out]; rfl), rfl⟩
                clear hbc
                go_wp2_with fail
                go_quiet (first | exact Calls.quiet_of_same (HC1.out _) | exact Calls.quiet_of_same (HC2.out _))
                have HT2 : Hid (ZS W B (gS k (fun j => if j = p then o0 else oF l j)) (wr.drewN nq) ∧ RdX 65 B (wr.drewN nq) (some ⟨bx, ox, none⟩) k (gL k false 0)) := ⟨hT.out.1.drewN nq, hT.out.2.later (below_drewN (Below.refl _ _) nq)⟩
                clear hT
                go_wp2_with fail
                go_roundw
                case rel => exact ⟨i + 1, by omega, by go_num, HT2⟩
                case measure => simp [intOf]; omega
            | false =>
              have HC1 : Hid (∀ n, Calls Try.prog 26 #[.pointer (some ⟨c, 0, none⟩)] (wr.drewN n) fun e w'' => e = .returned (.int .i64 0) ∧ w'' = wr.drewN n) := by
                intro n
                refine (zs_len (hT.out.1.drewN n) hbc (gS_at _ hlt3)).mono ?_
                rintro e w'' ⟨rfl, rfl⟩
                exact ⟨ret_int (by rw [if_neg (show ¬ i = p by rintro rfl; have := HPM.out.2; rw [HY.out] at this; cases this), oF_no (by rw [HY.out]; simp)]; rfl), rfl⟩
              clear hbc
              go_wp2_with fail
              go_quiet (first | exact Calls.quiet_of_same (HC1.out _) | exact Calls.quiet_of_same (HC2.out _))
              have HT2 : Hid (ZS W B (gS k (fun j => if j = p then o0 else oF l j)) (wr.drewN nq) ∧ RdX 65 B (wr.drewN nq) (some ⟨bx, ox, none⟩) k (gL k false 0)) := ⟨hT.out.1.drewN nq, hT.out.2.later (below_drewN (Below.refl _ _) nq)⟩
              clear hT
              go_wp2_with fail
              go_roundw
              case rel => exact ⟨i + 1, by omega, by go_num, HT2⟩
              case measure => simp [intOf]; omega
          · obtain rfl : i = k := by omega
            have HZ := Lib.hid hT.out.1.bel
            clear hT
            go_wp2_with fail
            refine (awake_any wr).mono ?_
            rintro e w10 ⟨rfl, hb⟩
            have HBB := Lib.hid (HZ.out.trans (hb.mono HZ.out.size))
            clear hb HZ
            go_wp2_with fail
            go_ret
            exact ⟨rfl, HBB.out⟩
set_option maxRecDepth 100000 in
theorem one_walk (A : Option Addr) (n cap : Nat) (l : List Bool) (draw : Int) (df : Bool) (W : World) (hA : IsB W A n cap l) : Calls Try.prog 4 #[.slice A n cap, .int .i64 draw, .bool df] W (BoolR true W) := by
  by_cases h1 : 1 ≤ n ∧ n ≤ 16
  · exact one_in A n cap l draw df W hA h1.1 h1.2
  · have HW := Lib.hid (awake_any W)
    by_cases h2 : n < 1
    · have b1 : (n : Int) < 1 := by omega
      go_enter Try.func4, Try.ntmps4
      go_wp2_with fail
      refine HW.out.mono ?_
      rintro e w' ⟨rfl, hb⟩
      have HB := Lib.hid hb
      clear hb
      go_wp2_with fail
      go_ret
      exact ⟨rfl, HB.out⟩
    · have b1 : ¬ (n : Int) < 1 := by omega
      have b2 : 16 < (n : Int) := by omega
      go_enter Try.func4, Try.ntmps4
      go_wp2_with fail
      refine HW.out.mono ?_
      rintro e w' ⟨rfl, hb⟩
      have HB := Lib.hid hb
      clear hb
      go_wp2_with fail
      go_ret
      exact ⟨rfl, HB.out⟩
end Go.Proofs.Ytmcacmbllpphiaa
