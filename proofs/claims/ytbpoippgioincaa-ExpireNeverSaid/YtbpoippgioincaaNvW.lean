/- The walk of ExpireNever. Condition: the slices read as they came. -/
import Derived.Test.YtbpoippgioincaaRwb
import Derived.Test.YtbpoippgioincaaObl
namespace Go.Proofs.Ytbpoippgioincaa
open Go.RowKit
set_option linter.unusedVariables false
set_option maxRecDepth 100000
theorem never_out (A0 : Option Addr) (n c0 : Nat) (A1 : Option Addr) (m c1 : Nat) (now : Int) (W : World) (h : 40 < n ∨ m < n ∨ 60 < m) : Calls Try.prog 8 #[.slice A0 n c0, .slice A1 m c1, .int .i64 now] W (BoolR true W) := by
  by_cases h0 : 40 < n
  · have g0 : (40 : Int) < (n : Int) := by omega
    clear h
    go_enter Try.func8, Try.ntmps8
    go_wp2_with fail
    refine (awaket_any W).mono ?_
    rintro e w' ⟨rfl, hb⟩
    have HB := Lib.hid hb
    clear hb
    go_wp2_with fail
    go_ret
    exact ⟨rfl, HB.out⟩
  have n0 : ¬ ((40 : Int) < (n : Int)) := by omega
  by_cases h1 : m < n
  · have g1 : (m : Int) < (n : Int) := by omega
    clear h
    go_enter Try.func8, Try.ntmps8
    go_wp2_with fail
    refine (awaket_any W).mono ?_
    rintro e w' ⟨rfl, hb⟩
    have HB := Lib.hid hb
    clear hb
    go_wp2_with fail
    go_ret
    exact ⟨rfl, HB.out⟩
  have n1 : ¬ ((m : Int) < (n : Int)) := by omega
  by_cases h2 : 60 < m
  · have g2 : (60 : Int) < (m : Int) := by omega
    clear h
    go_enter Try.func8, Try.ntmps8
    go_wp2_with fail
    refine (awaket_any W).mono ?_
    rintro e w' ⟨rfl, hb⟩
    have HB := Lib.hid hb
    clear hb
    go_wp2_with fail
    go_ret
    exact ⟨rfl, HB.out⟩
  have n2 : ¬ ((60 : Int) < (m : Int)) := by omega
  exact absurd h (by omega)

/-- The time of the first; -1: of none. -/
def lw : List It → Int
  | [] => -1
  | x :: _ => x.w
/-- Those of the first k that were not stopped, each at its time. -/
def Nv (l : List Int) (b : List Bool) (k : Nat) (S : List It) : Prop := ∀ x ∈ S, ∃ i : Nat, i < k ∧ x.id = (i : Int) ∧ x.w = (pk (l.getD i 0) 1000 : Int) ∧ b.getD i false = false
theorem Nv.ids {l : List Int} {b : List Bool} {k : Nat} {S : List It} (h : Nv l b k S) : (k : Int) ∉ ids S := fun e => by
  obtain ⟨p, x, hx, he⟩ := ids_mem e
  obtain ⟨i, h1, h2, _⟩ := h x (at_mem hx)
  omega
theorem Nv.up {l : List Int} {b : List Bool} {k : Nat} {S : List It} (h : Nv l b k S) : Nv l b (k + 1) S := fun x hx => by
  obtain ⟨i, h1, h2⟩ := h x hx
  exact ⟨i, by omega, h2⟩
theorem Nv.on {l : List Int} {b : List Bool} {k : Nat} {S : List It} (h : Nv l b k S) {v : Int} {y : Bool} {s : Int} (hv : l[k]? = some v) (hy : b[k]? = some y) (hf : y = false) : Nv l b (k + 1) (ins ⟨(k : Int), (pk v 1000 : Int), s⟩ S) := fun x hx => by
  rcases ins_mem.1 hx with rfl | hx
  · exact ⟨k, by omega, rfl, by rw [List.getD_eq_getElem?_getD, hv]; rfl, by rw [List.getD_eq_getElem?_getD, hy]; exact hf⟩
  · exact h.up x hx
theorem lw_pos {l : List Int} {b : List Bool} {k : Nat} {S : List It} (h : Nv l b k S) : lw S < 0 ↔ S = [] := by
  cases S with
  | nil => simp [lw]
  | cons x S =>
    obtain ⟨i, _, _, h3, _⟩ := h x (by simp)
    simp [lw]
    omega
theorem lw_ins (x : It) (S : List It) (hS : lw S < 0 ↔ S = []) : lw (ins x S) = if lw S < 0 ∨ x.w < lw S then x.w else lw S := by
  cases S with
  | nil => simp [lw, ins]
  | cons y S =>
    have h1 : ¬ lw (y :: S) < 0 := by rw [hS]; simp
    by_cases h : x.w < y.w
    · rw [ins, if_pos h]
      have h2 : x.w < lw (y :: S) := h
      rw [if_pos (Or.inr h2)]; rfl
    · rw [ins, if_neg h]
      rw [if_neg (fun e => e.elim h1 h)]; rfl
theorem del_ins {x : It} {S : List It} (h : x.id ∉ ids S) : ∀ {T : List It}, T = S → del x.id (ins x T) = S := by
  intro T e
  subst e
  induction T with
  | nil => simp [del, ins]
  | cons y T ih =>
    have h1 : y.id ≠ x.id := fun e => h (by rw [← e]; exact mem_ids (by simp))
    have h2 : x.id ∉ ids T := fun e => h (List.mem_cons_of_mem _ e)
    unfold ins
    split
    · rw [del, List.filter_cons_of_neg (by simp), List.filter_cons_of_pos (by simpa using h1)]
      congr 1
      exact del_none h2
    · rw [del, List.filter_cons_of_pos (by simpa using h1)]
      congr 1
      exact ih h2
theorem gon_zero {wh now : Int} : ¬ Gon wh 0 now := fun e => by have := (nxB_all e.1).1; omega
theorem fput_zero (k : Int) : fput (fun _ => (0 : Int)) k 0 = fun _ => 0 := by funext z; unfold fput; split <;> rfl
set_option maxHeartbeats 16000000 in
theorem never_in (A0 : Option Addr) (n c0 : Nat) (A1 : Option Addr) (m c1 : Nat) (now : Int) (W : World) (l : List Int) (b : List Bool) (hR : Rn W A0 n l) (hZ : Rb W A1 m b) (h1 : n ≤ 40) (h2 : n ≤ m) (h3 : m ≤ 60) : Calls Try.prog 8 #[.slice A0 n c0, .slice A1 m c1, .int .i64 now] W (BoolR true W) := by
  have c1' : ¬ (40 : Int) < (n : Int) := by omega
  have c2' : ¬ (m : Int) < (n : Int) := by omega
  have c3' : ¬ (60 : Int) < (m : Int) := by omega
  have R1 := Lib.hid hR
  have R2 := Lib.hid hZ
  clear hR hZ
  go_enter Try.func8, Try.ntmps8
  go_wp2_with fail
  refine (xs_new (Below.refl _ W)).mono ?_
  rintro e w0 ⟨rfl, h0, -⟩
  have H0 : Hid (XS W (W.heap.size + 3) (W.heap.size + 1) W.heap.size (W.heap.size + 2) 0 [] (fun _ => 0) w0 ∧ Nv l b 0 []) := ⟨h0, fun x h => by cases h⟩
  clear h0
  go_wp2_with fail
  generalize W.heap.size + 3 = t at *
  go_loopw [8, 9, 10] (fun la nn i wr => ∃ (k : Nat) (S : List It), k ≤ n ∧ la = .int .i64 (lw S) ∧ nn = .int .i64 (S.length : Int) ∧ i = .int .i64 (k : Int) ∧ S.length ≤ k ∧ Hid (XS W t (W.heap.size + 1) W.heap.size (W.heap.size + 2) k S (fun _ => 0) wr ∧ Nv l b k S)) (fun _ _ i _ => n - (intOf i).toNat)
  case atStart => exact ⟨0, [], by omega, rfl, rfl, rfl, by simp, H0⟩
  case round =>
    clear H0
    obtain ⟨k, S, hk, rfl, rfl, rfl, hlS, hS⟩ := hrel
    by_cases hlt : k < n
    · obtain ⟨bb, off, x, rfl, hbb, hzx, hcx⟩ := R1.out.cell hS.out.1.bel hlt
      obtain ⟨bc, off2, y, rfl, hbc, hzy, hcy0⟩ := R2.out.cell (Below.refl _ _) (show k < m by omega)
      have k3 : (k : Int) < (n : Int) := by omega
      have k4 : (k : Int) < (m : Int) := by omega
      have b4 : IntKind.i64.wrap ((k : Int) + 1) = (k : Int) + 1 := by rw [IntKind.wrap_i64]; omega
      have b5 : IntKind.i64.wrap ((S.length : Int) + 1) = (S.length : Int) + 1 := by rw [IntKind.wrap_i64]; omega
      have HX := Lib.hid hzx
      have HY := Lib.hid hzy
      have hv := pk_lt x (m := 1000) (by decide)
      have HRd := Lib.hid (round_any x 1000 wr (by decide) (by decide))
      have hfit : Fit (pk x 1000 : Int) := ⟨by omega, by omega⟩
      have H2 := Lib.hid (hS.out.1.run (tn_arm (k : Int) (pk x 1000 : Int) 0 hS.out.1.tn (wf_small (by omega) (by omega)) hfit (by decide) (by omega) (by omega)))
      rw [del_none hS.out.2.ids, fput_zero] at H2
      have HNv := Lib.hid hS.out.2
      clear hzx hzy hS hfit
      go_wp2_with fail
      refine HRd.out.mono ?_
      rintro e w2 ⟨rfl, rfl⟩
      go_wp2_with fail
      refine H2.out.mono ?_
      rintro e w3 ⟨rfl, h, -⟩
      have H3 := Lib.hid h
      have hcy : w3.cell? ⟨bc, off2 + k, none⟩ = some (.bool y) := (cell_blk (h.bel.block bc hbc) _).trans hcy0
      clear h HRd H2 hcx hcy0
      have hil := ins_len ⟨(k : Int), (pk x 1000 : Int), (k : Int) + 1⟩ S
      have hmem : (⟨(k : Int), (pk x 1000 : Int), (k : Int) + 1⟩ : It) ∈ ins ⟨(k : Int), (pk x 1000 : Int), (k : Int) + 1⟩ S := ins_mem.2 (.inl rfl)
      cases y with
      | true =>
        have hdi : del (⟨(k : Int), (pk x 1000 : Int), (k : Int) + 1⟩ : It).id (ins ⟨(k : Int), (pk x 1000 : Int), (k : Int) + 1⟩ S) = S := del_ins HNv.out.ids rfl
        have H4 := Lib.hid (H3.out.run (tn_stop_yes H3.out.tn hmem (by omega)))
        rw [hdi, fput_zero] at H4
        clear H3
        go_wp2_with fail
        refine H4.out.mono ?_
        rintro e w4 ⟨rfl, h, -⟩
        have H5 := Lib.hid h
        clear h H4
        have H6 := Lib.hid (H5.out.run (tn_stop_no (k := (k : Int)) H5.out.tn (wf_small (by omega) (by omega)) HNv.out.ids))
        rw [fput_zero] at H6
        clear H5 hcy
        go_wp2_with fail
        refine H6.out.mono ?_
        rintro e w5 ⟨rfl, h, -⟩
        have H7 := Lib.hid h
        clear h H6
        go_wp2_with fail
        go_roundw
        case rel => exact ⟨k + 1, S, by omega, rfl, rfl, by go_num, by omega, ⟨H7.out, HNv.out.up⟩⟩
        case measure => simp [intOf]; omega
      | false =>
        have hli := lw_ins ⟨(k : Int), (pk x 1000 : Int), (k : Int) + 1⟩ S (lw_pos HNv.out)
        have HN2 : Hid (Nv l b (k + 1) (ins ⟨(k : Int), (pk x 1000 : Int), (k : Int) + 1⟩ S)) := HNv.out.on HX.out HY.out rfl
        simp only at hli
        clear hmem HNv
        generalize ins ⟨(k : Int), (pk x 1000 : Int), (k : Int) + 1⟩ S = S2 at *
        have e7 : (S2.length : Int) = (S.length : Int) + 1 := by omega
        have HE7 := Lib.hid e7
        clear e7
        generalize (pk x 1000 : Int) = v at *
        by_cases l1 : lw S < 0
        · rw [if_pos (Or.inl l1)] at hli
          have HL := Lib.hid hli
          clear hli
          generalize lw S = la at *
          go_wp2_with fail
          go_roundw
          case rel => exact ⟨k + 1, S2, by omega, by rw [HL.out], by rw [HE7.out], by go_num, by omega, ⟨H3.out, HN2.out⟩⟩
          case measure => simp [intOf]; omega
        · by_cases l2 : v < lw S
          · rw [if_pos (Or.inr l2)] at hli
            have HL := Lib.hid hli
            clear hli
            generalize lw S = la at *
            go_wp2_with fail
            go_roundw
            case rel => exact ⟨k + 1, S2, by omega, by rw [HL.out], by rw [HE7.out], by go_num, by omega, ⟨H3.out, HN2.out⟩⟩
            case measure => simp [intOf]; omega
          · rw [if_neg (by omega)] at hli
            have HL := Lib.hid hli
            clear hli
            generalize lw S = la at *
            go_wp2_with fail
            go_roundw
            case rel => exact ⟨k + 1, S2, by omega, by rw [HL.out], by rw [HE7.out], by go_num, by omega, ⟨H3.out, HN2.out⟩⟩
            case measure => simp [intOf]; omega
    · obtain rfl : k = n := by omega
      have k3 : ¬ (k : Int) < (k : Int) := by omega
      have HNv := Lib.hid hS.out.2
      have HX := Lib.hid hS.out.1
      have hb3 : (S.length : Int) ≤ (k : Int) := by omega
      clear hS
      have HEX : Hid (∃ (dn : Bool) (v : Int), Calls Try.prog 38 #[pT t] wr (fun e w' => e = .returned (.tuple #[.int .i64 v, .bool dn]) ∧ XS W t (W.heap.size + 1) W.heap.size (W.heap.size + 2) k S (fun _ => 0) w' ∧ OX wr w') ∧ (dn = false ∧ S = [] ∨ dn = true ∧ v = lw S ∧ 0 < S.length)) := by
        cases S with
        | nil => exact ⟨_, _, HX.out.run (tn_next_no HX.out.tn), .inl ⟨rfl, rfl⟩⟩
        | cons x S => exact ⟨_, _, HX.out.run (tn_next HX.out.tn (by omega)), .inr ⟨rfl, rfl, by simp⟩⟩
      obtain ⟨dn, v, hc, hor⟩ := HEX.out
      have HC := Lib.hid hc
      clear hc HEX
      rcases hor with ⟨rfl, rfl⟩ | ⟨rfl, rfl, hpos⟩
      · have f0 : (([] : List It).length : Int) = 0 := rfl
        have f1 : lw [] = -1 := rfl
        rw [f0, f1]
        go_wp2_with fail
        refine HC.out.mono ?_
        rintro e w2 ⟨rfl, h, -⟩
        have H2 := Lib.hid h
        clear h HC
        go_wp2_with fail
        refine (tn_len H2.out.tn).mono ?_
        rintro e w3 ⟨rfl, rfl⟩
        rw [f0]
        go_wp2_with fail
        generalize w2 = wq at *
        go_loopw [14] (fun i wr => i = .int .i64 0 ∧ Hid (XS W t (W.heap.size + 1) W.heap.size (W.heap.size + 2) k [] (fun _ => 0) wr)) (fun i _ => 0)
        case atStart => exact ⟨rfl, H2⟩
        case round =>
          clear H2
          obtain ⟨rfl, HQ⟩ := hrel
          have q3 : (0 : Int) ≤ (k : Int) := by omega
          have HK := Lib.hid (HQ.out.run (tn_take_no (now := now) HQ.out.tn (by simp) trivial))
          clear HQ
          go_wp2_with fail
          refine HK.out.mono ?_
          rintro e w3 ⟨rfl, h, -⟩
          have H3 := Lib.hid (XS.box h (.cells #[.int .i64 0, .int .i64 0, .int .i64 0] 63))
          clear h HK
          go_wp2_with fail
          generalize w3.alloc (.cells #[.int .i64 0, .int .i64 0, .int .i64 0] 63) = w4 at *
          refine (awaket_any _).mono ?_
          rintro e w9 ⟨rfl, hb⟩
          have H9 := Lib.hid (H3.out.later hb).bel
          clear hb H3
          go_wp2_with fail
          go_ret
          exact ⟨rfl, H9.out⟩
      · have HLen : Hid (S.length ≤ k) := hlS
        have hp2 : (0 : Int) < (S.length : Int) := by omega
        go_wp2_with fail
        refine HC.out.mono ?_
        rintro e w2 ⟨rfl, h, -⟩
        have H2 := Lib.hid h
        clear h HC
        go_wp2_with fail
        refine (tn_len H2.out.tn).mono ?_
        rintro e w3 ⟨rfl, rfl⟩
        have hp3 : ((S.length : Int) == 0) = false := beq_eq_false_iff_ne.2 (by omega)
        generalize hN : S.length = N at *
        generalize hla : lw S = la at *
        have HL := Lib.hid hla
        have HNe := Lib.hid hN
        clear hN hla
        have H3 : Hid (XS W t (W.heap.size + 1) W.heap.size (W.heap.size + 2) k (S.drop 0) (fun _ => 0) w2) := H2.out
        clear H2
        go_wp2_with fail
        generalize w2 = wq at *
        go_loopw [14] (fun i wr => ∃ j : Nat, j ≤ N ∧ i = .int .i64 (j : Int) ∧ Hid (XS W t (W.heap.size + 1) W.heap.size (W.heap.size + 2) k (S.drop j) (fun _ => 0) wr)) (fun i _ => k + 1 - (intOf i).toNat)
        case atStart => exact ⟨0, by omega, rfl, H3⟩
        case round =>
          clear H3
          obtain ⟨j, hj, rfl, HQ⟩ := hrel
          have q3 : (j : Int) ≤ (k : Int) := by omega
          have q4 : (j : Int) ≤ (N : Int) := by omega
          have q5 : ¬ (k : Int) < (j : Int) := by omega
          by_cases hcase : ∃ x, S[j]? = some x ∧ x.w ≤ now
          · obtain ⟨x, hxj, hxw⟩ := hcase
            have hd : S.drop j = x :: S.drop (j + 1) := by
              obtain ⟨h1, h2⟩ := List.getElem?_eq_some_iff.1 hxj
              rw [← h2]; exact List.drop_eq_getElem_cons h1
            have hjl := at_lt hxj
            rw [HNe.out] at hjl
            rw [hd] at HQ
            obtain ⟨i, hi1, hi2, hi3, hi4⟩ := HNv.out x (at_mem hxj)
            have hdl : (x :: S.drop (j + 1)).length ≤ 1000 := by have := HNe.out; simp; omega
            have HK := Lib.hid (HQ.out.run (tn_take_end (now := now) HQ.out.tn hdl hxw gon_zero))
            rw [fput_zero] at HK
            obtain ⟨bb, off, y, rfl, hbb, hzy, hcy⟩ := R1.out.cell (Below.refl _ _) hi1
            obtain ⟨bc, off2, u, rfl, hbc, hzu, hcu⟩ := R2.out.cell (Below.refl _ _) (show i < m by omega)
            rw [List.getD_eq_getElem?_getD, hzy] at hi3
            rw [List.getD_eq_getElem?_getD, hzu] at hi4
            have hi3 : x.w = (pk y 1000 : Int) := hi3
            obtain rfl : u = false := hi4
            clear hd HQ hxj hzy hzu
            obtain ⟨xi, xw, xs⟩ := x
            simp only at hi2 hi3 hxw HK
            subst hi2
            subst hi3
            have q6 : ¬ (i : Int) < 0 := by omega
            have q7 : (0 : Int) ≤ (i : Int) := by omega
            have q8 : (i : Int) < (k : Int) := by omega
            have q9 : ¬ (k : Int) ≤ (i : Int) := by omega
            have q10 : (i : Int) < (m : Int) := by omega
            have q11 : ¬ now < (pk y 1000 : Int) := by omega
            have b5 : IntKind.i64.wrap ((j : Int) + 1) = (j : Int) + 1 := by rw [IntKind.wrap_i64]; omega
            go_wp2_with fail
            refine HK.out.mono ?_
            rintro e w3 ⟨rfl, h, -⟩
            have H3 := Lib.hid (XS.box h (.cells #[.int .i64 (i : Int), .int .i64 (pk y 1000 : Int), .int .i64 now] 63))
            have D3 := Lib.hid (Dbk.new w3 (i : Int) (pk y 1000 : Int) now)
            clear h HK
            go_upto_region 26 with (fail)
            generalize w3.alloc (.cells #[.int .i64 (i : Int), .int .i64 (pk y 1000 : Int), .int .i64 now] 63) = w4 at *
            generalize w3.heap.size = r at *
            obtain ⟨r0, r1, r2, -⟩ := D3.out.cells
            have hcy4 := (cell_blk (H3.out.bel.block bb hbb) (off + i)).trans hcy
            have hcu4 := (cell_blk (H3.out.bel.block bc hbc) (off2 + i)).trans hcu
            have HRd := Lib.hid (round_any y 1000 w4 (by decide) (by decide))
            clear hcy hcu D3
            go_wp2_with fail
            refine HRd.out.mono ?_
            rintro e w5 ⟨rfl, rfl⟩
            clear HRd
            go_wp2_with fail
            go_roundw
            case rel => exact ⟨j + 1, by omega, by go_num, H3⟩
            case measure => simp [intOf]; omega
          · have hidle : Idle now (S.drop j) := by
              rcases Nat.lt_or_ge j S.length with h | h
              · obtain ⟨x, hx⟩ := ex_at h
                obtain ⟨h1, h2⟩ := List.getElem?_eq_some_iff.1 hx
                rw [List.drop_eq_getElem_cons h1, h2]
                have h9 : ¬ x.w ≤ now := fun e => hcase ⟨x, hx, e⟩
                show now < x.w
                omega
              · rw [List.drop_eq_nil_of_le h]; trivial
            have hor : (0 : Int) < (j : Int) ∨ ¬ (0 : Int) < (j : Int) ∧ now < la := by
              by_cases h : j = 0
              · subst h
                right
                have h9 := hidle
                rw [List.drop_zero] at h9
                rw [← HL.out]
                refine ⟨by omega, ?_⟩
                cases S with
                | nil => have h8 : (0 : Nat) = N := HNe.out; omega
                | cons x S => exact h9
              · left; omega
            have HK := Lib.hid (HQ.out.run (tn_take_no (now := now) HQ.out.tn (by have := HNe.out; simp; omega) hidle))
            clear HQ hcase hidle
            rcases hor with ho | ⟨ho, ho2⟩
            · go_wp2_with fail
              refine HK.out.mono ?_
              rintro e w3 ⟨rfl, h, -⟩
              have H3 := Lib.hid (XS.box h (.cells #[.int .i64 0, .int .i64 0, .int .i64 0] 63))
              clear h HK
              go_wp2_with fail
              generalize w3.alloc (.cells #[.int .i64 0, .int .i64 0, .int .i64 0] 63) = w4 at *
              refine (awaket_any _).mono ?_
              rintro e w9 ⟨rfl, hb⟩
              have H9 := Lib.hid (H3.out.later hb).bel
              clear hb H3
              go_wp2_with fail
              go_ret
              exact ⟨rfl, H9.out⟩
            · go_wp2_with fail
              refine HK.out.mono ?_
              rintro e w3 ⟨rfl, h, -⟩
              have H3 := Lib.hid (XS.box h (.cells #[.int .i64 0, .int .i64 0, .int .i64 0] 63))
              clear h HK
              go_wp2_with fail
              generalize w3.alloc (.cells #[.int .i64 0, .int .i64 0, .int .i64 0] 63) = w4 at *
              refine (awaket_any _).mono ?_
              rintro e w9 ⟨rfl, hb⟩
              have H9 := Lib.hid (H3.out.later hb).bel
              clear hb H3
              go_wp2_with fail
              go_ret
              exact ⟨rfl, H9.out⟩
theorem never_walk (A0 : Option Addr) (n c0 : Nat) (A1 : Option Addr) (m c1 : Nat) (now : Int) (W : World) (l : List Int) (b : List Bool) (hR : Rn W A0 n l) (hZ : Rb W A1 m b) : Calls Try.prog 8 #[.slice A0 n c0, .slice A1 m c1, .int .i64 now] W (BoolR true W) := by
  by_cases h : 40 < n ∨ m < n ∨ 60 < m
  · exact never_out A0 n c0 A1 m c1 now W h
  · exact never_in A0 n c0 A1 m c1 now W l b hR hZ (by omega) (by omega) (by omega)
end Go.Proofs.Ytbpoippgioincaa
