/- The laws' own examples hold. No condition. -/
import Derived.Test.YtfjphbljdijceaaCor
namespace Go.Proofs.Ytfjphbljdijceaa
open Go.RowKit
set_option linter.unusedVariables false

def es0 : List En := [⟨2, 1, 0⟩, ⟨1, -1, 2⟩]
theorem es0_len : (enL es0).length = 26 := by simp [es0, enL, eb, lo]
theorem es0_ok : allOk es0 := by
  intro e he
  simp [es0] at he
  rcases he with rfl | rfl
  · exact .inr ⟨rfl, rfl⟩
  · exact .inl rfl
theorem es0_in : allIn es0 := by
  intro e he
  simp [es0] at he
  rcases he with rfl | rfl <;> (unfold eIn In64; simp)
theorem es0_dec : dec (enL es0) = some es0 := by
  unfold dec
  rw [if_neg (by rw [es0_len]; omega)]
  exact decF_back es0 2000 es0_ok es0_in (by simp [es0])
theorem awk1 (w : World) : Calls Try.prog 10 #[.slice (some ⟨w.heap.size, 0, none⟩) 2 2] (w.alloc (.cells #[.int .i64 2, .int .i64 1, .int .i64 0, .int .i64 1, .int .i64 (-1), .int .i64 2] 35)) (EncY es0 (w.alloc (.cells #[.int .i64 2, .int .i64 1, .int .i64 0, .int .i64 1, .int .i64 (-1), .int .i64 2] 35))) :=
  enc_yes (RdE.new w es0 2 _ 35 rfl rfl) (by omega) es0_ok
theorem awk3 (w : World) : Calls Try.prog 11 #[.slice (some ⟨w.heap.size, 0, none⟩) 1 1] (w.alloc (.cells #[.int .u8 3] 5)) (DecN (w.alloc (.cells #[.int .u8 3] 5))) :=
  dec_not (RdB.new w [3] 1 _ 5 rfl (by intro b hb; simp at hb; omega) rfl) (by omega) (by omega) (by omega) (by simp [dec, decF, sz])
theorem awk4 (w : World) : Calls Try.prog 10 #[.slice (some ⟨w.heap.size, 0, none⟩) 1 1] (w.alloc (.cells #[.int .i64 0, .int .i64 0, .int .i64 0] 35)) (EncN (w.alloc (.cells #[.int .i64 0, .int .i64 0, .int .i64 0] 35))) :=
  enc_no (RdE.new w [⟨0, 0, 0⟩] 1 _ 35 rfl rfl) (by omega) (fun h => by rcases h.2 ⟨0, 0, 0⟩ (by simp) with h | ⟨h, _⟩ <;> simp at h)

theorem pick23 (w : World) : Calls Try.prog 15 #[.int .i64 (-1), .int .i64 3] w fun e w' => e = .returned (.int .i64 2) ∧ w = w' := pick_any (-1) 3 w (by omega) (by omega)

set_option maxRecDepth 100000 in
set_option maxHeartbeats 1000000 in
theorem awake_any (w : World) : Calls Try.prog 9 #[] w (BoolR true w) := by
  go_enter Try.func9, Try.ntmps9
  go_wp2_with fail
  refine (awk1 w).mono ?_
  rintro e w1 ⟨hb1, A, c, hc1, hc2, rfl, hR⟩
  have HB1 := Lib.hid ((below_al w (.cells #[.int .i64 2, .int .i64 1, .int .i64 0, .int .i64 1, .int .i64 (-1), .int .i64 2] 35)).trans (hb1.mono (by simp)))
  rw [es0_len] at hc1 hR ⊢
  have HR := Lib.hid hR
  clear hR hb1
  go_wp2_with fail
  refine (dec_yes HR.out hc1 hc2 (by omega) es0_dec).mono ?_
  rintro e w2 ⟨hb2, A2, c2, rfl, hE⟩
  have HB2 := Lib.hid (HB1.out.trans (hb2.mono HB1.out.size))
  have HR2 := Lib.hid (HR.out.later hb2)
  have HE : Hid (RdE w2 A2 2 es0) := hE
  rw [show es0.length = 2 from rfl]
  clear HR hb2 hE HB1
  go_wp2_with fail
  refine (awk3 w2).mono ?_
  rintro e w3 ⟨hb3, rfl⟩
  have hb3' := (below_al w2 (.cells #[.int .u8 3] 5)).trans (hb3.mono (by simp))
  have HB3 := Lib.hid (HB2.out.trans (hb3'.mono HB2.out.size))
  have HR3 := Lib.hid (HR2.out.later hb3')
  have HE3 := Lib.hid (HE.out.later hb3')
  clear HR2 hb3 hb3' HE HB2
  go_wp2_with fail
  refine (awk4 w3).mono ?_
  rintro e w4 ⟨hb4, rfl⟩
  have hb4' := (below_al w3 (.cells #[.int .i64 0, .int .i64 0, .int .i64 0] 35)).trans (hb4.mono (by simp))
  have HB4 := Lib.hid (HB3.out.trans (hb4'.mono HB3.out.size))
  have HR4 := Lib.hid (HR3.out.later hb4')
  have HE4 := Lib.hid (HE3.out.later hb4')
  clear HR3 hb4 hb4' HE3 HB3
  obtain ⟨b, off, rfl, hb, hc⟩ := HR4.out.2.2 (by omega)
  have c0 := hc 0 2 rfl
  have c1 := hc 1 1 rfl
  rw [Nat.add_zero] at c0
  obtain ⟨b', off', rfl, hb', hd⟩ := HE4.out.cells (by omega)
  obtain ⟨d0, d1, d2⟩ := hd 0 ⟨2, 1, 0⟩ rfl
  obtain ⟨f0, f1, f2⟩ := hd 1 ⟨1, -1, 2⟩ rfl
  simp only [Nat.zero_mul, Nat.add_zero, Nat.one_mul] at d0 d1 d2 f0 f1 f2
  clear hc hd HR4 HE4
  go_wp2_with fail
  refine (check_adv 1 w4 (by omega)).mono ?_
  rintro e w5 ⟨rfl, hb5⟩
  have HB5 := Lib.hid (HB4.out.trans (hb5.mono HB4.out.size))
  clear hb5 c0 c1 d0 d1 d2 f0 f1 f2
  go_wp2_with fail
  refine (check_neg (-1) w5 (by omega)).mono ?_
  rintro e w6 ⟨rfl, hb6⟩
  have HB6 := Lib.hid (HB5.out.trans (hb6.mono HB5.out.size))
  clear hb6
  go_wp2_with fail
  refine (pick23 w6).mono ?_
  rintro e w7 ⟨rfl, rfl⟩
  go_wp2_with fail
  refine (pick_low 5 0 w6 (by omega)).mono ?_
  rintro e w7 ⟨rfl, rfl⟩
  go_wp2_with fail
  go_ret
  exact ⟨rfl, HB6.out⟩
end Go.Proofs.Ytfjphbljdijceaa
