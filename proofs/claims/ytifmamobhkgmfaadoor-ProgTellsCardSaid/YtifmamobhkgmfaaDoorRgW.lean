/- The law ProgRegs, walked. Conditions: the table lies in its variable; the cases lie where the instruction says. -/
import Derived.Test.YtifmamobhkgmfaaDoorAwk
namespace Go.Proofs.YtifmamobhkgmfaaDoor
open Go.RowKit
set_option linter.unusedVariables false

theorem fits_ins {i j pr n k : Int} (h : k ≠ 2) : fitsB i pr n k = fitsB j pr n k := by
  unfold fitsB mostB; simp [h]
theorem row_two : ∀ k : Fin 33, ((row k.val).a = 2 → k.val = 4) ∧ ((row k.val).b = 2 → k.val = 5) ∧ (row k.val).c ≠ 2 := by decide +kernel
theorem regs_ok {e : In} (h : mayB 100 16 e = true) (h4 : e.op ≠ 4) (h5 : e.op ≠ 5) : checkB [e] 16 = true := by
  have ho := may_op h
  obtain ⟨op, a, b, c, A, n, cap, d, cs⟩ := e
  simp only at ho h4 h5
  obtain ⟨k, rfl⟩ := Int.eq_ofNat_of_zero_le (show 0 ≤ op by omega)
  obtain ⟨q1, q2, q3⟩ := row_two ⟨k, by omega⟩
  simp only at q1 q2 q3
  rw [mayB_in 100 16 k (by omega) (by omega)] at h
  unfold checkB
  simp only [List.length_cons, List.length_nil, List.all_cons, List.all_nil, Bool.and_true]
  rw [mayB_in _ 16 k (by omega) (by omega), fits_ins (j := 100) (fun e => by have := q1 e; omega), fits_ins (j := 100) (n := b) (fun e => by have := q2 e; omega), fits_ins (j := 100) (n := c) q3, h]
  rfl
theorem ris_zero (k : Nat) : risP (Nat.testBit 0) k = [] := by
  unfold risP; simp
theorem use_ok {e : In} {l : List Int} (hl : l = readL e ∨ l = writeL e) (h0 : l ≠ []) : checkB [e] 16 = true ∨ e.op = 5 := by
  by_cases h : mayB 100 16 e = true
  · by_cases h5 : e.op = 5
    · exact .inr h5
    · by_cases h4 : e.op = 4
      · exfalso
        apply h0
        rcases hl with rfl | rfl
        · unfold readL readM
          rw [if_pos h, h4]
          exact ris_zero 8
        · unfold writeL writeM
          rw [if_pos h, h4]
          exact ris_zero 8
      · exact .inl (regs_ok h h4 h5)
  · exfalso
    apply h0
    rcases hl with rfl | rfl
    · exact if_neg h
    · exact if_neg h
/-- Registers, rising. -/
def RegsUp (l : List Int) : Prop := (∀ (i : Nat) (x : Int), l[i]? = some x → 0 ≤ x ∧ x < 8) ∧ ∀ (i : Nat) (x y : Int), l[i]? = some x → l[i + 1]? = some y → x < y
theorem ris_up (f : Nat → Bool) : RegsUp (risP f 8) := by
  have hp : (risP f 8).Pairwise (· < ·) := by
    unfold risP
    rw [List.pairwise_map]
    exact (List.pairwise_lt_range.filter _).imp fun h => by show (Int.ofNat _) < Int.ofNat _; simp only [Int.ofNat_eq_natCast]; omega
  refine ⟨fun i x hx => ?_, fun i x y hx hy => ?_⟩
  · have hm := List.mem_of_getElem? hx
    unfold risP at hm
    obtain ⟨k, hk, rfl⟩ := List.mem_map.1 hm
    have := List.mem_range.1 (List.mem_filter.1 hk).1
    simp only [Int.ofNat_eq_natCast]; omega
  · obtain ⟨h1, rfl⟩ := List.getElem?_eq_some_iff.1 hx
    obtain ⟨h2, rfl⟩ := List.getElem?_eq_some_iff.1 hy
    exact List.pairwise_iff_getElem.1 hp i (i + 1) h1 h2 (by omega)
theorem nil_up : RegsUp [] := ⟨fun i x h => by simp at h, fun i x y h => by simp at h⟩
theorem use_up {e : In} {l : List Int} (hl : l = readL e ∨ l = writeL e) : RegsUp l ∧ l.length ≤ 8 := by
  rcases hl with rfl | rfl
  · unfold readL; split
    · exact ⟨ris_up _, risP_len _ _⟩
    · exact ⟨nil_up, by simp⟩
  · unfold writeL; split
    · exact ⟨ris_up _, risP_len _ _⟩
    · exact ⟨nil_up, by simp⟩

structure RgS (W wr : World) (e : In) : Prop where
  bel : Below W.heap.size W wr
  ft : FT wr
  rd : In.At wr e
  lt : W.heap.size < wr.heap.size
  ce : ∀ j, wr.cell? ⟨W.heap.size, j, none⟩ = (#[Value.int .i64 e.op, .int .i64 e.a, .int .i64 e.b, .int .i64 e.c, .slice e.A e.n e.cap, .bool e.d])[j]?
theorem RgS.later {W wr w' : World} {e : In} (h : RgS W wr e) (hb : Below wr.heap.size wr w') : RgS W w' e :=
  ⟨h.bel.trans (hb.mono h.bel.size), h.ft.later hb, h.rd.later hb, Nat.lt_of_lt_of_le h.lt hb.size, fun j => (cell_blk (hb.block _ h.lt) j).trans (h.ce j)⟩
theorem RgS.mk0 (W : World) (e : In) (hF : FT W) (hR : In.At W e) : RgS W (W.alloc (.cells #[Value.int .i64 e.op, .int .i64 e.a, .int .i64 e.b, .int .i64 e.c, .slice e.A e.n e.cap, .bool e.d] 36)) e := by
  have hb := below_al W (.cells #[Value.int .i64 e.op, .int .i64 e.a, .int .i64 e.b, .int .i64 e.c, .slice e.A e.n e.cap, .bool e.d] 36)
  exact ⟨hb, hF.later hb, hR.later hb, by simp, fun j => by rw [World.cell?_alloc_at _ _ _ _ rfl]⟩
theorem Reads_use {e : In} {w : World} (hF : FT w) (hR : In.At w e) : Calls Tryd.prog 17 #[vI e] w (fun x w' => Below w.heap.size w w' ∧ ∃ A n c l, n ≤ c ∧ c ≤ 9223372036854775807 ∧ x = .returned (.slice A n c) ∧ RdN w' A n l ∧ (l = readL e ∨ l = writeL e)) :=
  (Reads_any e w hF hR.2.2).mono fun x w' ⟨hb, A, c, h1, h2, h3, h4⟩ => ⟨hb, A, _, c, _, h1, h2, h3, h4, .inl rfl⟩
theorem Writes_use {e : In} {w : World} (hF : FT w) (hR : In.At w e) : Calls Tryd.prog 19 #[vI e] w (fun x w' => Below w.heap.size w w' ∧ ∃ A n c l, n ≤ c ∧ c ≤ 9223372036854775807 ∧ x = .returned (.slice A n c) ∧ RdN w' A n l ∧ (l = readL e ∨ l = writeL e)) :=
  (Writes_any e w hF hR.2.2).mono fun x w' ⟨hb, A, c, h1, h2, h3, h4⟩ => ⟨hb, A, _, c, _, h1, h2, h3, h4, .inr rfl⟩
/-- Check of one instruction alone, in a new slice. -/
theorem Check_one {e : In} {w : World} (hF : FT w) (hR : In.At w e) : Calls Tryd.prog 14 #[.slice (some ⟨w.heap.size, 0, none⟩) 1 1] (w.alloc (.cells #[.int .i64 e.op, .int .i64 e.a, .int .i64 e.b, .int .i64 e.c, .slice e.A e.n e.cap, .bool e.d] 36)) (fun x w' => x = .returned (.int .i64 (eN (checkB [e] 16))) ∧ Below w.heap.size w w') :=
  Check_new hF [e] 1 _ rfl rfl (fun x hx => by simp only [List.mem_cons, List.not_mem_nil, or_false] at hx; subst hx; exact hR) _ rfl _ rfl
theorem Check_one_yes {e : In} {w : World} (hF : FT w) (hR : In.At w e) (h : checkB [e] 16 = true) : Calls Tryd.prog 14 #[.slice (some ⟨w.heap.size, 0, none⟩) 1 1] (w.alloc (.cells #[.int .i64 e.op, .int .i64 e.a, .int .i64 e.b, .int .i64 e.c, .slice e.A e.n e.cap, .bool e.d] 36)) (fun x w' => x = .returned (.int .i64 0) ∧ Below w.heap.size w w') := by
  have h1 := Check_one hF hR
  rwa [h] at h1
theorem Check_one_no {e : In} {w : World} (hF : FT w) (hR : In.At w e) (h : checkB [e] 16 = false) : Calls Tryd.prog 14 #[.slice (some ⟨w.heap.size, 0, none⟩) 1 1] (w.alloc (.cells #[.int .i64 e.op, .int .i64 e.a, .int .i64 e.b, .int .i64 e.c, .slice e.A e.n e.cap, .bool e.d] 36)) (fun x w' => x = .returned (.int .i64 1) ∧ Below w.heap.size w w') := by
  have h1 := Check_one hF hR
  rwa [h] at h1

theorem regs_long (op a b c : Int) (A : Option Addr) (n cap : Nat) (d : Bool) (cs : List Ca) (W : World) (hF : Hid (FT W)) (h : 20 < n) : Calls Tryd.prog 6 #[vI ⟨op, a, b, c, A, n, cap, d, cs⟩] W (BoolR true W) := by
  have HB := Lib.hid (below_al W (.cells #[.int .i64 op, .int .i64 a, .int .i64 b, .int .i64 c, .slice A n cap, .bool d] 36))
  go_enter Tryd.func6, Tryd.ntmps6
  go_wp2_with fail
  refine (awake_any _ (hF.out.later HB.out)).mono ?_
  rintro e w1 ⟨rfl, hb⟩
  have HB1 := Lib.hid (HB.out.trans (hb.mono HB.out.size))
  clear hb
  go_wp2_with fail
  go_ret
  exact ⟨rfl, HB1.out⟩
set_option maxHeartbeats 2000000 in
theorem regs_short (op a b c : Int) (A : Option Addr) (n cap : Nat) (d : Bool) (cs : List Ca) (W : World) (hF : Hid (FT W)) (hR : Hid (In.At W ⟨op, a, b, c, A, n, cap, d, cs⟩)) (h : n ≤ 20) : Calls Tryd.prog 6 #[vI ⟨op, a, b, c, A, n, cap, d, cs⟩] W (BoolR true W) := by
  have HS := Lib.hid (RgS.mk0 W ⟨op, a, b, c, A, n, cap, d, cs⟩ hF.out hR.out)
  go_enter Tryd.func6, Tryd.ntmps6
  go_wp2_with fail
  go_loopw [3] (fun i wr => ∃ k : Nat, k ≤ 2 ∧ i = .int .i64 k ∧ Hid (RgS W wr ⟨op, a, b, c, A, n, cap, d, cs⟩)) (fun i _ => 2 - (intOf i).toNat)
  case atStart => exact ⟨0, by omega, rfl, HS.out⟩
  case round =>
    obtain ⟨k, hk, rfl, hS⟩ := hrel
    by_cases hlt : k < 2
    · have hs : W.heap.size < wr.heap.size := hS.out.lt
      have i0 : wr.cell? ⟨W.heap.size, 0, none⟩ = some (.int .i64 op) := hS.out.ce 0
      have i1 : wr.cell? ⟨W.heap.size, 1, none⟩ = some (.int .i64 a) := hS.out.ce 1
      have i2 : wr.cell? ⟨W.heap.size, 2, none⟩ = some (.int .i64 b) := hS.out.ce 2
      have i3 : wr.cell? ⟨W.heap.size, 3, none⟩ = some (.int .i64 c) := hS.out.ce 3
      have i4 : wr.cell? ⟨W.heap.size, 4, none⟩ = some (.slice A n cap) := hS.out.ce 4
      have i5 : wr.cell? ⟨W.heap.size, 5, none⟩ = some (.bool d) := hS.out.ce 5
      go_wp2_with fail
      refine (Reads_use (e := ⟨op, a, b, c, A, n, cap, d, cs⟩) hS.out.ft hS.out.rd).mono ?_
      rintro x w1 ⟨hb, L, ln, lc, l, hc1, hc2, rfl, hL, hUse⟩
      have HS1 := Lib.hid (hS.out.later hb)
      have HL := Lib.hid hL
      have HU := Lib.hid hUse
      clear hb hL hUse hS hs i0 i1 i2 i3 i4 i5
      have HSw1 := HS1
      clear HS1
      by_cases hk0 : k = 0
      · subst hk0
        go_wp2_with fail
        go_loopw [5] (fun i wr => ∃ j : Nat, j ≤ ln ∧ i = .int .i64 j ∧ Hid (RgS W wr ⟨op, a, b, c, A, n, cap, d, cs⟩) ∧ Hid (RdN wr L ln l)) (fun i _ => ln - (intOf i).toNat)
        case atStart => exact ⟨0, by omega, rfl, HSw1.out, HL.out⟩
        case round =>
          obtain ⟨j, hj, rfl, hS, hL⟩ := hrel
          clear HSw1 HL
          by_cases hlj : j < ln
          · obtain ⟨b1, o1, rfl, hb1, hc1⟩ := hL.out.cells (by omega)
            have hjl : j < l.length := by rw [hL.out.1]; exact hlj
            have d1 := hc1 j (l[j]'hjl) (List.getElem?_eq_getElem hjl)
            have hx := (use_up HU.out).1.1 j (l[j]'hjl) (List.getElem?_eq_getElem hjl)
            have HL2 : Hid (∀ q, RgS W (wr.drewN q) ⟨op, a, b, c, A, n, cap, d, cs⟩) := fun q => hS.out.later ⟨rfl, rfl, rfl, Nat.le_refl _, fun _ _ => rfl⟩
            have HL3 : Hid (∀ q, RdN (wr.drewN q) (some ⟨b1, o1, none⟩) ln l) := fun q => hL.out.later ⟨rfl, rfl, rfl, Nat.le_refl _, fun _ _ => rfl⟩
            cases j with
            | zero =>
              have hx0 := hx.1
              have hx7 := hx.2
              rw [Nat.add_zero] at d1
              generalize l[0]'hjl = x at *
              have hd1 : decide (x < 0) = false := by simp; omega
              have hd2 : decide (8 ≤ x) = false := by simp; omega
              clear hx hc1 hjl hx0 hx7
              go_wp2_with fail
              go_quiet (fail)
              go_wp2_with fail
              go_roundw
              case rel => exact ⟨1, by omega, by go_num, HL2.out _, HL3.out _⟩
              case measure => simp [intOf]; omega
            | succ m =>
              have hml : m < l.length := by omega
              have d0 := hc1 m (l[m]'hml) (List.getElem?_eq_getElem hml)
              have hy := (use_up HU.out).1.2 m (l[m]'hml) (l[m + 1]'hjl) (List.getElem?_eq_getElem hml) (List.getElem?_eq_getElem hjl)
              have hx0 := hx.1
              have hx7 := hx.2
              generalize l[m + 1]'hjl = x at *
              generalize l[m]'hml = y at *
              have hd1 : decide (x < 0) = false := by simp; omega
              have hd2 : decide (8 ≤ x) = false := by simp; omega
              have hd3 : decide (x ≤ y) = false := by simp; omega
              clear hx hc1 hjl hml hx0 hx7 hy
              go_wp2_with fail
              go_quiet (fail)
              go_wp2_with fail
              go_roundw
              case rel => exact ⟨m + 1 + 1, by omega, by go_num, HL2.out _, HL3.out _⟩
              case measure => simp [intOf]; omega
          · obtain rfl : j = ln := by omega
            have HSwr := Lib.hid hS.out
            by_cases hn0 : j = 0
            · subst hn0
              go_wp2_with fail
              go_roundw
              case rel => exact ⟨1, by omega, by go_num, hS.out⟩
              case measure => simp [intOf]
            · have hpos : 0 < j := by omega
              have hs : W.heap.size < wr.heap.size := HSwr.out.lt
              have i0 : wr.cell? ⟨W.heap.size, 0, none⟩ = some (.int .i64 op) := HSwr.out.ce 0
              have i1 : wr.cell? ⟨W.heap.size, 1, none⟩ = some (.int .i64 a) := HSwr.out.ce 1
              have i2 : wr.cell? ⟨W.heap.size, 2, none⟩ = some (.int .i64 b) := HSwr.out.ce 2
              have i3 : wr.cell? ⟨W.heap.size, 3, none⟩ = some (.int .i64 c) := HSwr.out.ce 3
              have i4 : wr.cell? ⟨W.heap.size, 4, none⟩ = some (.slice A n cap) := HSwr.out.ce 4
              have i5 : wr.cell? ⟨W.heap.size, 5, none⟩ = some (.bool d) := HSwr.out.ce 5
              have hl0 : l ≠ [] := fun e => by have h9 := hL.out.1; rw [e] at h9; exact hn0 h9.symm
              clear hS
              cases hck : checkB [⟨op, a, b, c, A, n, cap, d, cs⟩] 16 with
              | true =>
                have HCK := Lib.hid hck
                clear hck hl0
                go_wp2_with fail
                refine (Check_one_yes (e := ⟨op, a, b, c, A, n, cap, d, cs⟩) HSwr.out.ft HSwr.out.rd HCK.out).mono ?_
                rintro x w9 ⟨rfl, hb⟩
                have HS9 := Lib.hid (HSwr.out.later hb)
                clear hb hs i0 i1 i2 i3 i4 i5 HSwr
                go_wp2_with fail
                go_roundw
                case rel => exact ⟨1, by omega, by go_num, HS9.out⟩
                case measure => simp [intOf]
              | false =>
                have h5 : op = 5 := by
                  rcases use_ok HU.out hl0 with h9 | h9
                  · rw [hck] at h9; cases h9
                  · exact h9
                subst h5
                have HCK := Lib.hid hck
                clear hck hl0
                go_wp2_with fail
                refine (Check_one_no (e := ⟨5, a, b, c, A, n, cap, d, cs⟩) HSwr.out.ft HSwr.out.rd HCK.out).mono ?_
                rintro x w9 ⟨rfl, hb⟩
                have HS9 := Lib.hid (HSwr.out.later hb)
                have j0 : w9.cell? ⟨W.heap.size, 0, none⟩ = some (.int .i64 5) := HS9.out.ce 0
                clear hb hs i0 i1 i2 i3 i4 i5 HSwr
                go_wp2_with fail
                go_roundw
                case rel => exact ⟨1, by omega, by go_num, HS9.out⟩
                case measure => simp [intOf]
      · obtain rfl : k = 1 := by omega
        clear HL HU
        have hs : W.heap.size < w1.heap.size := HSw1.out.lt
        have i0 : w1.cell? ⟨W.heap.size, 0, none⟩ = some (.int .i64 op) := HSw1.out.ce 0
        have i1 : w1.cell? ⟨W.heap.size, 1, none⟩ = some (.int .i64 a) := HSw1.out.ce 1
        have i2 : w1.cell? ⟨W.heap.size, 2, none⟩ = some (.int .i64 b) := HSw1.out.ce 2
        have i3 : w1.cell? ⟨W.heap.size, 3, none⟩ = some (.int .i64 c) := HSw1.out.ce 3
        have i4 : w1.cell? ⟨W.heap.size, 4, none⟩ = some (.slice A n cap) := HSw1.out.ce 4
        have i5 : w1.cell? ⟨W.heap.size, 5, none⟩ = some (.bool d) := HSw1.out.ce 5
        go_wp2_with fail
        refine (Writes_use (e := ⟨op, a, b, c, A, n, cap, d, cs⟩) HSw1.out.ft HSw1.out.rd).mono ?_
        rintro x w2 ⟨hb, L, ln, lc, l, hc1, hc2, rfl, hL, hUse⟩
        have HSw2 := Lib.hid (HSw1.out.later hb)
        have HL := Lib.hid hL
        have HU := Lib.hid hUse
        clear hb hL hUse hs i0 i1 i2 i3 i4 i5 HSw1
        go_wp2_with fail
        go_loopw [5] (fun i wr => ∃ j : Nat, j ≤ ln ∧ i = .int .i64 j ∧ Hid (RgS W wr ⟨op, a, b, c, A, n, cap, d, cs⟩) ∧ Hid (RdN wr L ln l)) (fun i _ => ln - (intOf i).toNat)
        case atStart => exact ⟨0, by omega, rfl, HSw2.out, HL.out⟩
        case round =>
          obtain ⟨j, hj, rfl, hS, hL⟩ := hrel
          clear HSw2 HL
          by_cases hlj : j < ln
          · obtain ⟨b1, o1, rfl, hb1, hc1⟩ := hL.out.cells (by omega)
            have hjl : j < l.length := by rw [hL.out.1]; exact hlj
            have d1 := hc1 j (l[j]'hjl) (List.getElem?_eq_getElem hjl)
            have hx := (use_up HU.out).1.1 j (l[j]'hjl) (List.getElem?_eq_getElem hjl)
            have HL2 : Hid (∀ q, RgS W (wr.drewN q) ⟨op, a, b, c, A, n, cap, d, cs⟩) := fun q => hS.out.later ⟨rfl, rfl, rfl, Nat.le_refl _, fun _ _ => rfl⟩
            have HL3 : Hid (∀ q, RdN (wr.drewN q) (some ⟨b1, o1, none⟩) ln l) := fun q => hL.out.later ⟨rfl, rfl, rfl, Nat.le_refl _, fun _ _ => rfl⟩
            cases j with
            | zero =>
              have hx0 := hx.1
              have hx7 := hx.2
              rw [Nat.add_zero] at d1
              generalize l[0]'hjl = x at *
              have hd1 : decide (x < 0) = false := by simp; omega
              have hd2 : decide (8 ≤ x) = false := by simp; omega
              clear hx hc1 hjl hx0 hx7
              go_wp2_with fail
              go_quiet (fail)
              go_wp2_with fail
              go_roundw
              case rel => exact ⟨1, by omega, by go_num, HL2.out _, HL3.out _⟩
              case measure => simp [intOf]; omega
            | succ m =>
              have hml : m < l.length := by omega
              have d0 := hc1 m (l[m]'hml) (List.getElem?_eq_getElem hml)
              have hy := (use_up HU.out).1.2 m (l[m]'hml) (l[m + 1]'hjl) (List.getElem?_eq_getElem hml) (List.getElem?_eq_getElem hjl)
              have hx0 := hx.1
              have hx7 := hx.2
              generalize l[m + 1]'hjl = x at *
              generalize l[m]'hml = y at *
              have hd1 : decide (x < 0) = false := by simp; omega
              have hd2 : decide (8 ≤ x) = false := by simp; omega
              have hd3 : decide (x ≤ y) = false := by simp; omega
              clear hx hc1 hjl hml hx0 hx7 hy
              go_wp2_with fail
              go_quiet (fail)
              go_wp2_with fail
              go_roundw
              case rel => exact ⟨m + 1 + 1, by omega, by go_num, HL2.out _, HL3.out _⟩
              case measure => simp [intOf]; omega
          · obtain rfl : j = ln := by omega
            have HSwr := Lib.hid hS.out
            by_cases hn0 : j = 0
            · subst hn0
              go_wp2_with fail
              go_roundw
              case rel => exact ⟨2, by omega, by go_num, hS.out⟩
              case measure => simp [intOf]
            · have hpos : 0 < j := by omega
              have hs : W.heap.size < wr.heap.size := HSwr.out.lt
              have i0 : wr.cell? ⟨W.heap.size, 0, none⟩ = some (.int .i64 op) := HSwr.out.ce 0
              have i1 : wr.cell? ⟨W.heap.size, 1, none⟩ = some (.int .i64 a) := HSwr.out.ce 1
              have i2 : wr.cell? ⟨W.heap.size, 2, none⟩ = some (.int .i64 b) := HSwr.out.ce 2
              have i3 : wr.cell? ⟨W.heap.size, 3, none⟩ = some (.int .i64 c) := HSwr.out.ce 3
              have i4 : wr.cell? ⟨W.heap.size, 4, none⟩ = some (.slice A n cap) := HSwr.out.ce 4
              have i5 : wr.cell? ⟨W.heap.size, 5, none⟩ = some (.bool d) := HSwr.out.ce 5
              have hl0 : l ≠ [] := fun e => by have h9 := hL.out.1; rw [e] at h9; exact hn0 h9.symm
              clear hS
              cases hck : checkB [⟨op, a, b, c, A, n, cap, d, cs⟩] 16 with
              | true =>
                have HCK := Lib.hid hck
                clear hck hl0
                go_wp2_with fail
                refine (Check_one_yes (e := ⟨op, a, b, c, A, n, cap, d, cs⟩) HSwr.out.ft HSwr.out.rd HCK.out).mono ?_
                rintro x w9 ⟨rfl, hb⟩
                have HS9 := Lib.hid (HSwr.out.later hb)
                clear hb hs i0 i1 i2 i3 i4 i5 HSwr
                go_wp2_with fail
                go_roundw
                case rel => exact ⟨2, by omega, by go_num, HS9.out⟩
                case measure => simp [intOf]
              | false =>
                have h5 : op = 5 := by
                  rcases use_ok HU.out hl0 with h9 | h9
                  · rw [hck] at h9; cases h9
                  · exact h9
                subst h5
                have HCK := Lib.hid hck
                clear hck hl0
                go_wp2_with fail
                refine (Check_one_no (e := ⟨5, a, b, c, A, n, cap, d, cs⟩) HSwr.out.ft HSwr.out.rd HCK.out).mono ?_
                rintro x w9 ⟨rfl, hb⟩
                have HS9 := Lib.hid (HSwr.out.later hb)
                have j0 : w9.cell? ⟨W.heap.size, 0, none⟩ = some (.int .i64 5) := HS9.out.ce 0
                clear hb hs i0 i1 i2 i3 i4 i5 HSwr
                go_wp2_with fail
                go_roundw
                case rel => exact ⟨2, by omega, by go_num, HS9.out⟩
                case measure => simp [intOf]
    · obtain rfl : k = 2 := by omega
      go_wp2_with fail
      refine (awake_any _ hS.out.ft).mono ?_
      rintro e w1 ⟨rfl, hb⟩
      have HB1 := Lib.hid (hS.out.bel.trans (hb.mono hS.out.bel.size))
      clear hb
      go_wp2_with fail
      go_ret
      exact ⟨rfl, HB1.out⟩
theorem regs_any (e : In) (W : World) (hF : FT W) (hR : In.At W e) : Calls Tryd.prog 6 #[vI e] W (BoolR true W) := by
  obtain ⟨op, a, b, c, A, n, cap, d, cs⟩ := e
  by_cases h : n ≤ 20
  · exact regs_short op a b c A n cap d cs W hF hR h
  · exact regs_long op a b c A n cap d cs W hF (by omega)
end Go.Proofs.YtifmamobhkgmfaaDoor
