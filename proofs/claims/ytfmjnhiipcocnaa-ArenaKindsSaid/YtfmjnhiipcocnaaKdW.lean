/- The walk of ArenaKinds. Condition: the list of texts reads as it came. -/
import Derived.Test.YtfmjnhiipcocnaaKdS
import Derived.Deep.RegionHeld3
import Derived.ChangeKeysEq
import Derived.Laws.StructEq
namespace Go.Proofs.Ytfmjnhiipcocnaa
open Go.RowKit
set_option linter.unusedVariables false

theorem part0 (a b : Int) (w : World) : (part 3 #[.int .i64 a, .int .i64 b] 0).run Try.prog w = .ok (.int .i64 a) w := by kernel_rfl
theorem part1 (a b : Int) (w : World) : (part 3 #[.int .i64 a, .int .i64 b] 1).run Try.prog w = .ok (.int .i64 b) w := by kernel_rfl
theorem eq_pair (a b : Int) (w : World) : (Op.equalIn 10000 29 (.agg #[.int .i64 a, .int .i64 b]) (.agg #[.int .i64 a, .int .i64 b])).run Try.prog w = .ok true w := by
  obtain ⟨i0, hi, _⟩ := info_parts I.inf
  rw [run_equalIn_array w 9999 _ _ Try.underlying29 hi, cells3, show List.range 2 = [0, 1] from rfl]
  simp [Op.eqItems, part0, part1, run_equalIn_int _ _ _ _ _ _ _ Try.underlying3]

set_option maxRecDepth 100000 in
set_option maxHeartbeats 1000000 in
theorem kinds_out (A1 : Option Addr) (n1 c1 : Nat) (at_ : Int) (W : World) (h : 40 < n1) : Calls Try.prog 4 #[.slice A1 n1 c1, .int .i64 at_] W (BoolR true W) := by
  have d1 : (40 : Int) < (n1 : Int) := by omega
  go_enter Try.func4, Try.ntmps4
  go_wp2_with fail
  refine (awake_any W).mono ?_
  rintro e w' ⟨rfl, hb⟩
  have HB := Lib.hid hb
  clear hb
  go_wp2_with fail
  go_ret
  exact ⟨rfl, HB.out⟩

set_option maxRecDepth 100000 in
set_option maxHeartbeats 4000000 in
theorem kinds_in (A1 : Option Addr) (n1 c1 : Nat) (at_ : Int) (f : Nat → ByteArray) (W : World) (h1 : RdS W A1 n1 f) (hf : ∀ i, i < n1 → (f i).size ≤ maxLen) (hn1 : n1 ≤ 40) : Calls Try.prog 4 #[.slice A1 n1 c1, .int .i64 at_] W (BoolR true W) := by
  have b3 : (n1 : Int) ≤ 40 := by omega
  have b4 : (0 : Int) ≤ (n1 : Int) := by omega
  have R1 := Lib.hid h1
  have F1 := Lib.hid hf
  clear h1 hf
  go_enter Try.func4, Try.ntmps4
  go_wp2_with fail
  refine (S.new_yes 40 W (by omega) (by omega)).mono ?_
  rintro e w1 q1
  obtain rfl := q1.1
  go_wp2_with fail
  refine (P.new_yes 40 w1 (by omega) (by omega)).mono ?_
  rintro e w2 q2
  obtain rfl := q2.1
  have S0 := Lib.hid (KS.start q1 q2).1
  have hs := (KS.start q1 q2).2
  clear q1 q2
  rw [hs]
  clear hs
  go_wp2_with fail
  go_loopw [9] (fun i wr => ∃ (k : Nat) (P1 : Option Addr) (c1 : Nat) (P2 : Option Addr) (c2 : Nat), k ≤ n1 ∧ i = .int .i64 (k : Int) ∧ Hid (KS W k P1 c1 (sV f k) k P2 c2 (pV f k) wr)) (fun i _ => n1 - (intOf i).toNat)
  case atStart => exact ⟨0, none, 0, none, 0, by omega, rfl, S0⟩
  case round =>
    clear S0
    obtain ⟨k, P1, cc1, P2, cc2, hk, rfl, hS⟩ := hrel
    have k4 : (0 : Int) ≤ (k : Int) := by omega
    have k5 : (k : Int) ≤ 40 := by omega
    by_cases hlt : k < n1
    · obtain ⟨bb, off, rfl, hbb, hcx⟩ := R1.out.cell hS.out.bel hlt
      have e1 := Lib.hid (sV_snoc f k)
      have e2 := Lib.hid (pV_snoc f k)
      have hsz := F1.out k hlt
      generalize f k = x at *
      have k3 : (k : Int) < (n1 : Int) := by omega
      by_cases h100 : (100 : Int) < (x.size : Int)
      · go_wp2_with fail
        refine (awake_any wr).mono ?_
        rintro e w4 ⟨rfl, hb⟩
        have HB := Lib.hid (hS.out.later hb)
        clear hb
        go_wp2_with fail
        go_ret
        exact ⟨rfl, HB.out.bel⟩
      · go_wp2_with fail
        refine (S.add_room x wr hS.out.a1 (by omega) (by omega) hS.out.bel.size).mono ?_
        rintro e w3 ⟨rfl, g, c3, r3⟩
        rw [e1.out] at r3
        have S3 := Lib.hid (hS.out.go1 r3)
        have hcx : w3.cell? ⟨bb, off + k, none⟩ = some (.string x) := (cell_blk ((S3.out.bel.block bb hbb).trans (hS.out.bel.block bb hbb).symm) _).trans hcx
        clear r3 hS
        go_wp2_with fail
        refine (P.add_room (x.size : Int) (k : Int) w3 S3.out.a2 (by omega) (by omega) S3.out.bel.size).mono ?_
        rintro e w4 ⟨rfl, g4, c4, r4⟩
        rw [e2.out] at r4
        have S4 := Lib.hid (S3.out.go2 r4)
        clear r4 S3 hcx
        go_wp2_with fail
        go_roundw
        case rel => exact ⟨k + 1, _, _, _, _, by omega, by go_num, S4⟩
        case measure => simp [intOf]; omega
    · obtain rfl : k = n1 := by omega
      clear hk hlt
      by_cases h0 : k = 0
      · subst h0
        go_wp2_with fail
        refine (S.left_any wr hS.out.a1 (by omega)).mono ?_
        rintro e w' ⟨rfl, q, rfl⟩
        have S3 := Lib.hid (hS.out.later (below_drewN wr q))
        generalize wr.drewN q = w3 at *
        clear hS
        go_wp2_with fail
        refine (awake_any w3).mono ?_
        rintro e w4 ⟨rfl, hb⟩
        have HB := Lib.hid (S3.out.later hb)
        clear hb
        go_wp2_with fail
        go_ret
        exact ⟨rfl, HB.out.bel⟩
      · have k6 : ¬ (k : Int) = 0 := by omega
        have k7 : (0 : Int) < (k : Int) := by omega
        go_wp2_with fail
        refine (round_any at_ k wr (by omega) hn1).mono ?_
        rintro e w' ⟨r, hr, rfl, rfl⟩
        have r1 : (0 : Int) ≤ (r : Int) := by omega
        have r2 : (r : Int) < (k : Int) := by omega
        obtain ⟨bb, off, rfl, hbb, hcx⟩ := R1.out.cell hS.out.bel hr
        have e1 := Lib.hid (sV_at f hr)
        have e2 := Lib.hid (pV_at f hr)
        have hsz := F1.out r hr
        generalize f r = x at *
        go_wp2_with fail
        refine (S.get_yes x wr hS.out.a1 r hr e1.out).mono ?_
        rintro e w' ⟨rfl, rfl⟩
        go_wp2_with fail
        refine (P.get_yes (x.size : Int) (r : Int) wr hS.out.a2 r hr e2.out.1 e2.out.2).mono ?_
        rintro e w3 ⟨rfl, hb⟩
        have S3 := Lib.hid (hS.out.later hb)
        have hcx : w3.cell? ⟨bb, off + r, none⟩ = some (.string x) := (cell_blk ((S3.out.bel.block bb hbb).trans (hS.out.bel.block bb hbb).symm) _).trans hcx
        clear hb hS
        have hbb3 : bb < w3.heap.size := by have := S3.out.bel.size; omega
        have S5 := Lib.hid (S3.out.later (below_al w3 (.cells #[.int .i64 (x.size : Int), .int .i64 (r : Int)] 29)))
        have y0 : (w3.alloc (.cells #[.int .i64 (x.size : Int), .int .i64 (r : Int)] 29)).cell? ⟨w3.heap.size, 0, none⟩ = some (.int .i64 (x.size : Int)) := by rw [World.cell?_alloc_at _ _ _ _ rfl]; rfl
        have y1 : (w3.alloc (.cells #[.int .i64 (x.size : Int), .int .i64 (r : Int)] 29)).cell? ⟨w3.heap.size, 1, none⟩ = some (.int .i64 (r : Int)) := by rw [World.cell?_alloc_at _ _ _ _ rfl]; rfl
        have hc5 : (w3.alloc (.cells #[.int .i64 (x.size : Int), .int .i64 (r : Int)] 29)).cell? ⟨bb, off + r, none⟩ = some (.string x) := (cell_blk (Below.heap_alloc w3 _ _ hbb3) _).trans hcx
        have hl5 : w3.heap.size < (w3.alloc (.cells #[.int .i64 (x.size : Int), .int .i64 (r : Int)] 29)).heap.size := by simp
        have hl6 : bb < (w3.alloc (.cells #[.int .i64 (x.size : Int), .int .i64 (r : Int)] 29)).heap.size := by omega
        go_wp2_with fail
        generalize w3.alloc (.cells #[.int .i64 (x.size : Int), .int .i64 (r : Int)] 29) = w5 at *
        generalize w3.heap.size = p at *
        clear S3 hcx hbb3
        have KP : Hid (∀ w', Below w5.heap.size w5 w' → w'.cell? ⟨p, 0, none⟩ = some (.int .i64 (x.size : Int)) ∧ w'.cell? ⟨p, 1, none⟩ = some (.int .i64 (r : Int)) ∧ w'.cell? ⟨bb, off + r, none⟩ = some (.string x) ∧ Hid (Below w5.heap.size w5 w')) := fun w' hb => ⟨(cell_blk (hb.block _ hl5) _).trans y0, (cell_blk (hb.block _ hl5) _).trans y1, (cell_blk (hb.block _ hl6) _).trans hc5, hb⟩
        have HV0 : Hid (Below w5.heap.size w5 w5.drew) := (Below.refl _ _).drew
        obtain ⟨z, hz0⟩ : ∃ z, z = 40 - (k : Int) := ⟨_, rfl⟩
        have hz : IntKind.i64.wrap (40 - (k : Int)) = z := by rw [IntKind.wrap_i64]; omega
        have HC1 : Hid (∀ w', Below w5.heap.size w5 w' → Calls Try.prog 17 #[.pointer (some ⟨W.heap.size, 0, none⟩)] w' fun e w'' => e = .returned (.int .i64 z) ∧ Below w'.heap.size w' w'') := fun w' hb => (S.left_any w' (S5.out.later hb).a1 (by omega)).mono (by rintro e w'' ⟨rfl, q, rfl⟩; exact ⟨by rw [hz0]; rfl, below_drewN _ _⟩)
        clear hz0
        have HC2 : Hid (∀ w', Calls Try.prog 6 #[] w' (BoolR true w')) := awake_any
        have HB5 := Lib.hid S5.out.bel
        have hep := eq_pair (x.size : Int) (r : Int)
        clear y0 y1 hc5 S5
        go_region_held3 (fun w' => w'.cell? ⟨p, 0, none⟩ = some (.int .i64 (x.size : Int)) ∧ w'.cell? ⟨p, 1, none⟩ = some (.int .i64 (r : Int)) ∧ w'.cell? ⟨bb, off + r, none⟩ = some (.string x) ∧ Hid (Below w5.heap.size w5 w'))
          (first
            | exact KP.out _ HV0.out
            | exact KP.out _ HV1.out
            | exact KP.out _ HV2.out)
          (first
            | (go_at_call 17; (with_reducible refine (HC1.out _ HV0.out).mono ?_); rintro e v1 ⟨rfl, hb1⟩; have HV1 : Hid (Below w5.heap.size w5 v1) := HV0.out.trans (hb1.mono HV0.out.size); clear hb1)
            | (go_at_call 6; (with_reducible refine (HC2.out _).mono ?_); rintro e v2 ⟨rfl, hb2⟩; have HV2 : Hid (Below w5.heap.size w5 v2) := HV1.out.trans (hb2.mono HV1.out.size); clear hb2))
        all_goals
          go_wp2_with fail
          go_ret
          exact ⟨rfl, HB5.out.trans (HV2.out.mono HB5.out.size)⟩
theorem kinds_walk (A1 : Option Addr) (n1 c1 : Nat) (at_ : Int) (f : Nat → ByteArray) (W : World) (h1 : RdS W A1 n1 f) (hf : ∀ i, i < n1 → (f i).size ≤ maxLen) : Calls Try.prog 4 #[.slice A1 n1 c1, .int .i64 at_] W (BoolR true W) := by
  by_cases h : 40 < n1
  · exact kinds_out A1 n1 c1 at_ W h
  · exact kinds_in A1 n1 c1 at_ f W h1 hf (by omega)
end Go.Proofs.Ytfmjnhiipcocnaa
