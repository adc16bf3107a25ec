/- The walk of RingActs. Condition: the list reads as it came. -/
import Derived.Test.YtmjogkjdjhhilaaWnt
namespace Go.Proofs.Ytmjogkjdjhhilaa
open Go.RowKit
set_option linter.unusedVariables false

set_option maxRecDepth 100000 in
set_option maxHeartbeats 1000000 in
theorem acts_out (size : Int) (A1 : Option Addr) (n1 c1 : Nat) (W : World) (h : 150 < n1 ∨ size < 0 ∨ 64 < size) : Calls Try.prog 3 #[.int .i64 size, .slice A1 n1 c1] W (BoolR true W) := by
  by_cases d1 : (150 : Int) < (n1 : Int)
  · go_enter Try.func3, Try.ntmps3
    go_wp2_with fail
    refine (awake_any W).mono ?_
    rintro e w' ⟨rfl, hb⟩
    have HB := Lib.hid hb
    clear hb
    go_wp2_with fail
    go_ret
    exact ⟨rfl, HB.out⟩
  by_cases d2 : size < 0
  · go_enter Try.func3, Try.ntmps3
    go_wp2_with fail
    refine (new_no size W (.inl d2)).mono ?_
    rintro e w' ⟨rfl, rfl⟩
    go_wp2_with fail
    refine (awake_any W).mono ?_
    rintro e w' ⟨rfl, hb⟩
    have HB := Lib.hid hb
    clear hb
    go_wp2_with fail
    go_ret
    exact ⟨rfl, HB.out⟩
  have d3 : 64 < size := by omega
  clear h
  go_enter Try.func3, Try.ntmps3
  go_wp2_with fail
  refine (new_no size W (.inr d3)).mono ?_
  rintro e w' ⟨rfl, rfl⟩
  go_wp2_with fail
  refine (awake_any W).mono ?_
  rintro e w' ⟨rfl, hb⟩
  have HB := Lib.hid hb
  clear hb
  go_wp2_with fail
  go_ret
  exact ⟨rfl, HB.out⟩

set_option maxRecDepth 100000 in
set_option maxHeartbeats 4000000 in
theorem acts_in (sz : Nat) (A1 : Option Addr) (n1 c1 : Nat) (l1 : List Int) (W : World) (h1 : Rn W W.heap.size A1 n1 l1) (hz : sz ≤ 64) (hn1 : n1 ≤ 150) : Calls Try.prog 3 #[.int .i64 sz, .slice A1 n1 c1] W (BoolR true W) := by
  have b1 : (sz : Int) ≤ 64 := by omega
  have b2 : (n1 : Int) ≤ 150 := by omega
  have R1 := Lib.hid h1
  clear h1
  go_enter Try.func3, Try.ntmps3
  go_wp2_with fail
  refine (new_yes sz W hz).mono ?_
  rintro e w1 q1
  obtain rfl := q1.1
  have S0 : Hid (AS W sz [] none 0 w1) := ⟨ST.start q1, Wn.nil _ _ _⟩
  clear q1
  go_wp2_with fail
  go_loopw [7, 8] (fun v i wr => ∃ (k : Nat) (l : List Int) (A : Option Addr) (c : Nat), k ≤ n1 ∧ v = .slice A l.length c ∧ i = .int .i64 k ∧ Hid (AS W sz l A c wr)) (fun _ i _ => n1 - (intOf i).toNat)
  case atStart => exact ⟨0, [], none, 0, by omega, rfl, rfl, S0⟩
  case round =>
    clear S0
    obtain ⟨k, l, A, c, hk, rfl, rfl, hS⟩ := hrel
    have hle := hS.out.1.rg.le
    by_cases hlt : k < n1
    · obtain ⟨bb, off, x, rfl, _, _, hc⟩ := R1.out.cell hS.out.1.bel hlt
      by_cases d0 : x = 0
      · subst d0
        cases l with
        | nil =>
          have HL : Hid (([] : List Int).length = 0) := rfl
          rw [HL.out]
          go_wp2_with fail
          refine (pop_none wr hS.out.1.rg).mono ?_
          rintro e w2 ⟨rfl, r2, o2⟩
          have S2 : Hid (AS W sz [] A c w2) := hS.out.goBoth r2 o2
          clear r2 o2 hS
          go_wp2_with fail
          refine (all_any w2 S2.out.1.rg hz).mono ?_
          rintro e wa ⟨Aa, ca, rfl, ra, hba⟩
          have Sa := Lib.hid (S2.out.later hba)
          have RA := Lib.hid ra
          clear hba ra S2
          rw [HL.out] at RA ⊢
          go_wp2_with fail
          refine (ints_eq RA.out (HL.out ▸ Sa.out.2.rn) (by omega)).mono ?_
          rintro e w' ⟨rfl, q8, rfl⟩
          have Sb := Lib.hid (Sa.out.drewN q8)
          generalize wa.drewN q8 = wb at *
          clear Sa RA
          go_wp2_with fail
          refine (len_any wb Sb.out.1.rg).mono ?_
          rintro e w' ⟨rfl, rfl⟩
          rw [HL.out]
          go_wp2_with fail
          refine (size_any wb Sb.out.1.rg).mono ?_
          rintro e w' ⟨rfl, rfl⟩
          go_wp2_with fail
          go_roundw
          case rel => exact ⟨k + 1, [], A, c, by omega, by rw [HL.out], by go_num, Sb⟩
          case measure => simp [intOf]; omega
        | cons y l =>
          obtain ⟨m, HL⟩ : ∃ m, Hid (l.length = m) := ⟨_, rfl⟩
          have HL1 : Hid ((y :: l).length = m + 1) := by show _ = _; rw [List.length_cons, HL.out]
          rw [HL1.out]
          rw [HL1.out] at hle
          have hW := hS.out.2
          rw [HL1.out] at hW
          obtain ⟨c, rfl⟩ : ∃ c', c = c' + 1 := ⟨c - 1, by have := hW.2.1; omega⟩
          obtain ⟨g, of, rfl, hg1, hg2, hg3, _⟩ := hW.2.2 (by omega)
          have hm : m ≤ c := by have := hW.2.1; omega
          have hy := hg3 0 y rfl
          have HW := Lib.hid hW
          have m1 : (0 : Int) < (m : Int) + 1 := by omega
          clear hW hg3
          go_wp2_with fail
          refine (pop_some wr hS.out.1.rg hz).mono ?_
          rintro e w2 ⟨rfl, r2, o2⟩
          have hy2 : w2.cell? ⟨g, of, none⟩ = some (.int .i64 y) := (cell_blk (o2.block g (by omega) (by omega)) of).trans hy
          have S2 := Lib.hid (hS.out.1.go r2 o2)
          have HW2 := Lib.hid (HW.out.only o2 (by omega) (by omega))
          clear r2 o2 hS hy HW
          by_cases hcc : c = 0
          · subst hcc
            obtain rfl : m = 0 := by omega
            obtain rfl : l = [] := List.eq_nil_of_length_eq_zero HL.out
            have S3 : Hid (AS W sz [] (some ⟨g, of, none⟩) 0 w2) := ⟨S2.out, Wn.nil _ _ _⟩
            clear S2 HW2
            go_wp2_with fail
            refine (all_any w2 S3.out.1.rg hz).mono ?_
            rintro e wa ⟨Aa, ca, rfl, ra, hba⟩
            have Sa := Lib.hid (S3.out.later hba)
            have RA := Lib.hid ra
            clear hba ra S3
            rw [HL.out] at RA ⊢
            go_wp2_with fail
            refine (ints_eq RA.out (HL.out ▸ Sa.out.2.rn) (by omega)).mono ?_
            rintro e w' ⟨rfl, q8, rfl⟩
            have Sb := Lib.hid (Sa.out.drewN q8)
            generalize wa.drewN q8 = wb at *
            clear Sa RA
            go_wp2_with fail
            refine (len_any wb Sb.out.1.rg).mono ?_
            rintro e w' ⟨rfl, rfl⟩
            rw [HL.out]
            go_wp2_with fail
            refine (size_any wb Sb.out.1.rg).mono ?_
            rintro e w' ⟨rfl, rfl⟩
            go_wp2_with fail
            go_roundw
            case rel => exact ⟨k + 1, [], (some ⟨g, of, none⟩), 0, by omega, by rw [HL.out], by go_num, Sb⟩
            case measure => simp [intOf]; omega
          · have S3 : Hid (AS W sz l (some ⟨g, of + 1, none⟩) c w2) := ⟨S2.out, HL.out ▸ HW2.out.tail⟩
            clear S2 HW2
            have cc1 : (0 : Int) < (c : Int) := by omega
            go_wp2_with fail
            refine (all_any w2 S3.out.1.rg hz).mono ?_
            rintro e wa ⟨Aa, ca, rfl, ra, hba⟩
            have Sa := Lib.hid (S3.out.later hba)
            have RA := Lib.hid ra
            clear hba ra S3
            rw [HL.out] at RA ⊢
            go_wp2_with fail
            refine (ints_eq RA.out (HL.out ▸ Sa.out.2.rn) (by omega)).mono ?_
            rintro e w' ⟨rfl, q8, rfl⟩
            have Sb := Lib.hid (Sa.out.drewN q8)
            generalize wa.drewN q8 = wb at *
            clear Sa RA
            go_wp2_with fail
            refine (len_any wb Sb.out.1.rg).mono ?_
            rintro e w' ⟨rfl, rfl⟩
            rw [HL.out]
            go_wp2_with fail
            refine (size_any wb Sb.out.1.rg).mono ?_
            rintro e w' ⟨rfl, rfl⟩
            go_wp2_with fail
            go_roundw
            case rel => exact ⟨k + 1, l, (some ⟨g, of + 1, none⟩), c, by omega, by rw [HL.out], by go_num, Sb⟩
            case measure => simp [intOf]; omega
      · obtain ⟨m, HL⟩ : ∃ m, Hid (l.length = m) := ⟨_, rfl⟩
        rw [HL.out] at hle ⊢
        by_cases d1 : x = -1
        · subst d1
          go_wp2_with fail
          refine (clear_any wr hS.out.1.rg).mono ?_
          rintro e w2 ⟨rfl, r2, o2⟩
          have S2 : Hid (AS W sz [] none 0 w2) := ⟨hS.out.1.go r2 o2, Wn.nil _ _ _⟩
          rw [HL.out]
          clear r2 o2 hS HL
          have HL : Hid (([] : List Int).length = 0) := rfl
          go_wp2_with fail
          refine (all_any w2 S2.out.1.rg hz).mono ?_
          rintro e wa ⟨Aa, ca, rfl, ra, hba⟩
          have Sa := Lib.hid (S2.out.later hba)
          have RA := Lib.hid ra
          clear hba ra S2
          rw [HL.out] at RA ⊢
          go_wp2_with fail
          refine (ints_eq RA.out (HL.out ▸ Sa.out.2.rn) (by omega)).mono ?_
          rintro e w' ⟨rfl, q8, rfl⟩
          have Sb := Lib.hid (Sa.out.drewN q8)
          generalize wa.drewN q8 = wb at *
          clear Sa RA
          go_wp2_with fail
          refine (len_any wb Sb.out.1.rg).mono ?_
          rintro e w' ⟨rfl, rfl⟩
          rw [HL.out]
          go_wp2_with fail
          refine (size_any wb Sb.out.1.rg).mono ?_
          rintro e w' ⟨rfl, rfl⟩
          go_wp2_with fail
          go_roundw
          case rel => exact ⟨k + 1, [], none, 0, by omega, by rw [HL.out], by go_num, Sb⟩
          case measure => simp [intOf]; omega
        · by_cases d2 : m < sz
          · have d3 : (m : Int) < (sz : Int) := by omega
            go_wp2_with fail
            refine (push_room x wr hS.out.1.rg hz (by rw [HL.out]; exact d2)).mono ?_
            rintro e w2 ⟨rfl, r2, o2⟩
            have hc2 : w2.cell? ⟨bb, off + k, none⟩ = some (.int .i64 x) := (cell_blk (o2.block bb (by omega) (by omega)) _).trans hc
            have S2 := Lib.hid (hS.out.goBoth r2 o2)
            have HZ := Lib.hid S2.out.1.rg.la
            clear r2 o2 hS hc
            go_wp2_with (at_builtin; (refine wp_app_wn rfl (.tmp 62) (.tmp 67) rfl (W.heap.size + 2) m c 1 A l x ⟨w2.heap.size, 0, none⟩ rfl rfl (HL.out ▸ S2.out.2.later (below_al _ _)) (news_al rfl) (by omega) (by have := HZ.out; simp; omega) ?_; intro A3 c3 w3 hw3 hg3; have S3 : Hid (AS W sz (l ++ [x]) A3 c3 w3) := ⟨(S2.out.1.alloc _).grw hg3, (by rw [List.length_append, HL.out]; exact hw3)⟩; clear hw3 hg3))
            have HL0 := HL
            clear HL S2
            have HL : Hid ((l ++ [x]).length = m + 1) := by show _ = _; rw [List.length_append, HL0.out]; rfl
            clear HL0
            go_wp2_with fail
            refine (all_any w3 S3.out.1.rg hz).mono ?_
            rintro e wa ⟨Aa, ca, rfl, ra, hba⟩
            have Sa := Lib.hid (S3.out.later hba)
            have RA := Lib.hid ra
            clear hba ra S3
            rw [HL.out] at RA ⊢
            go_wp2_with fail
            refine (ints_eq RA.out (HL.out ▸ Sa.out.2.rn) (by omega)).mono ?_
            rintro e w' ⟨rfl, q8, rfl⟩
            have Sb := Lib.hid (Sa.out.drewN q8)
            generalize wa.drewN q8 = wb at *
            clear Sa RA
            go_wp2_with fail
            refine (len_any wb Sb.out.1.rg).mono ?_
            rintro e w' ⟨rfl, rfl⟩
            rw [HL.out]
            go_wp2_with fail
            refine (size_any wb Sb.out.1.rg).mono ?_
            rintro e w' ⟨rfl, rfl⟩
            go_wp2_with fail
            go_roundw
            case rel => exact ⟨k + 1, (l ++ [x]), A3, c3, by omega, by rw [HL.out], by go_num, Sb⟩
            case measure => simp [intOf]; omega
          · have d3 : ¬ (m : Int) < (sz : Int) := by omega
            go_wp2_with fail
            refine (push_full x wr hS.out.1.rg (by rw [HL.out]; omega)).mono ?_
            rintro e w2 ⟨rfl, r2, o2⟩
            have S2 : Hid (AS W sz l A c w2) := hS.out.goBoth r2 o2
            clear r2 o2 hS
            go_wp2_with fail
            refine (all_any w2 S2.out.1.rg hz).mono ?_
            rintro e wa ⟨Aa, ca, rfl, ra, hba⟩
            have Sa := Lib.hid (S2.out.later hba)
            have RA := Lib.hid ra
            clear hba ra S2
            rw [HL.out] at RA ⊢
            go_wp2_with fail
            refine (ints_eq RA.out (HL.out ▸ Sa.out.2.rn) (by omega)).mono ?_
            rintro e w' ⟨rfl, q8, rfl⟩
            have Sb := Lib.hid (Sa.out.drewN q8)
            generalize wa.drewN q8 = wb at *
            clear Sa RA
            go_wp2_with fail
            refine (len_any wb Sb.out.1.rg).mono ?_
            rintro e w' ⟨rfl, rfl⟩
            rw [HL.out]
            go_wp2_with fail
            refine (size_any wb Sb.out.1.rg).mono ?_
            rintro e w' ⟨rfl, rfl⟩
            go_wp2_with fail
            go_roundw
            case rel => exact ⟨k + 1, l, A, c, by omega, by rw [HL.out], by go_num, Sb⟩
            case measure => simp [intOf]; omega
    · obtain rfl : k = n1 := by omega
      go_wp2_with fail
      refine (awake_any wr).mono ?_
      rintro e w2 ⟨rfl, hb⟩
      have HB := Lib.hid (hS.out.1.later hb)
      clear hb
      go_wp2_with fail
      go_ret
      exact ⟨rfl, HB.out.bel⟩
theorem acts_walk (size : Int) (A1 : Option Addr) (n1 c1 : Nat) (l1 : List Int) (W : World) (h1 : Rn W W.heap.size A1 n1 l1) : Calls Try.prog 3 #[.int .i64 size, .slice A1 n1 c1] W (BoolR true W) := by
  by_cases h : 150 < n1 ∨ size < 0 ∨ 64 < size
  · exact acts_out size A1 n1 c1 W h
  · obtain ⟨sz, rfl⟩ := Int.eq_ofNat_of_zero_le (show 0 ≤ size by omega)
    exact acts_in sz A1 n1 c1 l1 W h1 (by omega) (by omega)

end Go.Proofs.Ytmjogkjdjhhilaa
