/- Both show the same. Conditions: each theorem's own premises. -/
import Derived.Test.YtmcacmbllpphiaaJo
import Derived.Deep.RegionHeld3
namespace Go.Proofs.Ytmcacmbllpphiaa
open Go.RowKit
set_option linter.unusedVariables false

section
variable {W w : World} {c m : Nat} {s : CS}
set_option maxRecDepth 100000 in
set_option maxHeartbeats 16000000 in
theorem shows_any (h : JS W c m s s w) (hn : nw s ≤ 100) : Calls Try.prog 19 #[.pointer (some ⟨c, 0, none⟩), .pointer (some ⟨m, 0, none⟩)] w fun e w' => e = .returned (.bool true) ∧ Below w.heap.size w w' := by
  obtain ⟨n1, n2, n3, n4⟩ := ms_bound hn
  obtain ⟨ok, ⟨vb, q, r, hx⟩, _⟩ := h.model
  obtain ⟨F, hc, _⟩ := h.chan
  have c3 := hx.c3
  have hml := hx.lt
  have HJ : Hid (∀ wr, Below w.heap.size w wr → JS W c m s s wr) := fun wr hb => h.later hb
  have HX : Hid (∀ wr, Below w.heap.size w wr → MX wr ok m s vb q r) := fun wr hb => hx.later hb
  have H1 : Hid (∀ wr, Below w.heap.size w wr → Calls Try.prog 26 #[.pointer (some ⟨c, 0, none⟩)] wr fun e w' => e = .returned (.int .i64 (if s.kd = 1 then 0 else s.l.length)) ∧ Below wr.heap.size wr w') := fun wr hb => (len_chan (hc.later hb)).mono fun _ _ h => ⟨h.1, by rw [← h.2]; exact Below.refl _ _⟩
  have H2 : Hid (∀ wr, Below w.heap.size w wr → Calls Try.prog 54 #[.pointer (some ⟨m, 0, none⟩)] wr fun e w' => e = .returned (.int .i64 (if s.kd = 1 then 0 else s.l.length)) ∧ Below wr.heap.size wr w') := fun wr hb => (mlen ⟨_, _, _, hx.later hb⟩).mono fun _ _ h => ⟨h.1, by rw [← h.2]; exact Below.refl _ _⟩
  have H3 : Hid (∀ wr, Below w.heap.size w wr → Calls Try.prog 51 #[.pointer (some ⟨c, 0, none⟩)] wr fun e w' => e = .returned (.int .i64 (if s.kd = 1 then 0 else s.sz)) ∧ Below wr.heap.size wr w') := fun wr hb => (cap_chan (hc.later hb)).mono fun _ _ h => ⟨h.1, by rw [← h.2]; exact Below.refl _ _⟩
  have H4 : Hid (∀ wr, Below w.heap.size w wr → Calls Try.prog 55 #[.pointer (some ⟨m, 0, none⟩)] wr fun e w' => e = .returned (.int .i64 (if s.kd = 1 then 0 else s.sz)) ∧ Below wr.heap.size wr w') := fun wr hb => (mcap ⟨_, _, _, hx.later hb⟩).mono fun _ _ h => ⟨h.1, by rw [← h.2]; exact Below.refl _ _⟩
  have H5 : Hid (∀ wr, Below w.heap.size w wr → Calls Try.prog 52 #[.pointer (some ⟨c, 0, none⟩)] wr fun e w' => e = .returned (.bool s.cl) ∧ Below wr.heap.size wr w') := fun wr hb => (closed_chan (hc.later hb)).mono fun _ _ h => ⟨h.1, by rw [← h.2]; exact Below.refl _ _⟩
  have H6 : Hid (∀ wr, Below w.heap.size w wr → Calls Try.prog 53 #[.pointer (some ⟨c, 0, none⟩), .bool true] wr fun e w' => e = .returned (.bool (can s true)) ∧ Below wr.heap.size wr w') := fun wr hb => (can_any true (hc.later hb)).mono fun _ _ h => ⟨h.1, by obtain ⟨_, n, h⟩ := h; rw [h]; exact below_drewN (Below.refl _ _) n⟩
  have H7 : Hid (∀ wr, Below w.heap.size w wr → Calls Try.prog 46 #[.pointer (some ⟨m, 0, none⟩), .bool true] wr fun e w' => e = .returned (.bool (can s true)) ∧ Below wr.heap.size wr w') := fun wr hb => (mcan true ⟨_, _, _, hx.later hb⟩ h.kd).mono fun _ _ h => ⟨h.1, by obtain ⟨_, n, h⟩ := h; rw [h]; exact below_drewN (Below.refl _ _) n⟩
  have H8 : Hid (∀ wr, Below w.heap.size w wr → Calls Try.prog 53 #[.pointer (some ⟨c, 0, none⟩), .bool false] wr fun e w' => e = .returned (.bool (can s false)) ∧ Below wr.heap.size wr w') := fun wr hb => (can_any false (hc.later hb)).mono fun _ _ h => ⟨h.1, by obtain ⟨_, n, h⟩ := h; rw [h]; exact below_drewN (Below.refl _ _) n⟩
  have H9 : Hid (∀ wr, Below w.heap.size w wr → Calls Try.prog 46 #[.pointer (some ⟨m, 0, none⟩), .bool false] wr fun e w' => e = .returned (.bool (can s false)) ∧ Below wr.heap.size wr w') := fun wr hb => (mcan false ⟨_, _, _, hx.later hb⟩ h.kd).mono fun _ _ h => ⟨h.1, by obtain ⟨_, n, h⟩ := h; rw [h]; exact below_drewN (Below.refl _ _) n⟩
  have H10 : Hid (∀ wr, Below w.heap.size w wr → Calls Try.prog 24 #[.pointer (some ⟨c, 0, none⟩), .bool true] wr fun e w' => ∃ A cap, e = .returned (.slice A s.ss.length cap) ∧ Hid (RdW w' A s.ss.length s.ss) ∧ Below wr.heap.size wr w') := by
    intro wr hb
    refine (waiting_any true (hc.later hb) (by simp only [CS.q]; omega)).mono ?_
    rintro e w' ⟨A, cap, rfl, h1, h2⟩
    exact ⟨A, cap, rfl, h1, h2⟩
  have H11 : Hid (∀ A (cap : Nat) (wr : World), Below w.heap.size w wr → Hid (RdW wr A s.ss.length s.ss) → Calls Try.prog 56 #[.slice A s.ss.length cap, .slice q.1 s.ss.length q.2] wr fun e w' => e = .returned (.bool true) ∧ Below wr.heap.size wr w') := by
    intro A cap wr hb h1
    refine (waits_yes A q.1 s.ss.length cap q.2 s.ss wr h1 ⟨rfl, (hx.later hb).rq.rd⟩ (by omega)).mono ?_
    rintro e w' ⟨rfl, n, rfl⟩
    exact ⟨rfl, below_drewN (Below.refl _ _) n⟩
  have H12 : Hid (∀ wr, Below w.heap.size w wr → Calls Try.prog 24 #[.pointer (some ⟨c, 0, none⟩), .bool false] wr fun e w' => ∃ A cap, e = .returned (.slice A s.rs.length cap) ∧ Hid (RdW w' A s.rs.length s.rs) ∧ Below wr.heap.size wr w') := by
    intro wr hb
    refine (waiting_any false (hc.later hb) (by simp only [CS.q]; omega)).mono ?_
    rintro e w' ⟨A, cap, rfl, h1, h2⟩
    exact ⟨A, cap, rfl, h1, h2⟩
  have H13 : Hid (∀ A (cap : Nat) (wr : World), Below w.heap.size w wr → Hid (RdW wr A s.rs.length s.rs) → Calls Try.prog 56 #[.slice A s.rs.length cap, .slice r.1 s.rs.length r.2] wr fun e w' => e = .returned (.bool true) ∧ Below wr.heap.size wr w') := by
    intro A cap wr hb h1
    refine (waits_yes A r.1 s.rs.length cap r.2 s.rs wr h1 ⟨rfl, (hx.later hb).rr.rd⟩ (by omega)).mono ?_
    rintro e w' ⟨rfl, n, rfl⟩
    exact ⟨rfl, below_drewN (Below.refl _ _) n⟩
  have c5 := hx.c5
  have c6 := hx.c6
  have b1 : (s.ss.length : Int) ≤ 1000 := by omega
  have b2 : (s.rs.length : Int) ≤ 1000 := by omega
  clear h hx hc hn n1 n2 n3 n4
  generalize (if s.kd = 1 then (0 : Int) else (s.l.length : Int)) = L at *
  generalize (if s.kd = 1 then (0 : Int) else (s.sz : Int)) = P at *
  generalize can s true = ct at *
  generalize can s false = cf at *
  have HKP : Hid (∀ w', Below w.heap.size w w' → w'.cell? ⟨m, 3, none⟩ = some (.bool s.cl) ∧ w'.cell? ⟨m, 5, none⟩ = some (.slice q.1 s.ss.length q.2) ∧ w'.cell? ⟨m, 6, none⟩ = some (.slice r.1 s.rs.length r.2) ∧ Hid (Below w.heap.size w w')) := fun w' hb => ⟨(HX.out w' hb).c3, (HX.out w' hb).c5, (HX.out w' hb).c6, hb⟩
  generalize s.cl = cl at *
  have HV0 : Hid (Below w.heap.size w w.drew) := (Below.refl _ _).drew
  go_enter Try.func19, Try.ntmps19
  go_wp2_with fail
  clear c3 c5 c6 HX
  go_region_held3 (fun w' => w'.cell? ⟨m, 3, none⟩ = some (.bool cl) ∧ w'.cell? ⟨m, 5, none⟩ = some (.slice q.1 s.ss.length q.2) ∧ w'.cell? ⟨m, 6, none⟩ = some (.slice r.1 s.rs.length r.2) ∧ Hid (Below w.heap.size w w'))
    (first
      | exact HKP.out _ HV0.out
      | exact HKP.out _ HV1.out
      | exact HKP.out _ HV2.out
      | exact HKP.out _ HV3.out
      | exact HKP.out _ HV4.out
      | exact HKP.out _ HV5.out
      | exact HKP.out _ HV6.out
      | exact HKP.out _ HV7.out
      | exact HKP.out _ HV8.out
      | exact HKP.out _ HV9.out
      | exact HKP.out _ HV10.out
      | exact HKP.out _ HV11.out
      | exact HKP.out _ HV12.out
      | exact HKP.out _ HV13.out)
    (first
      | (go_at_call 26; (with_reducible refine (H1.out _ HV0.out).mono ?_); rintro e v1 ⟨rfl, hb1⟩; have HV1 : Hid (Below w.heap.size w v1) := HV0.out.trans (hb1.mono HV0.out.size); clear hb1)
      | (go_at_call 54; (with_reducible refine (H2.out _ HV1.out).mono ?_); rintro e v2 ⟨rfl, hb2⟩; have HV2 : Hid (Below w.heap.size w v2) := HV1.out.trans (hb2.mono HV1.out.size); clear hb2)
      | (go_at_call 51; (with_reducible refine (H3.out _ HV2.out).mono ?_); rintro e v3 ⟨rfl, hb3⟩; have HV3 : Hid (Below w.heap.size w v3) := HV2.out.trans (hb3.mono HV2.out.size); clear hb3)
      | (go_at_call 55; (with_reducible refine (H4.out _ HV3.out).mono ?_); rintro e v4 ⟨rfl, hb4⟩; have HV4 : Hid (Below w.heap.size w v4) := HV3.out.trans (hb4.mono HV3.out.size); clear hb4)
      | (go_at_call 52; (with_reducible refine (H5.out _ HV4.out).mono ?_); rintro e v5 ⟨rfl, hb5⟩; have HV5 : Hid (Below w.heap.size w v5) := HV4.out.trans (hb5.mono HV4.out.size); clear hb5)
      | (go_at_call 53; (with_reducible refine (H6.out _ HV5.out).mono ?_); rintro e v6 ⟨rfl, hb6⟩; have HV6 : Hid (Below w.heap.size w v6) := HV5.out.trans (hb6.mono HV5.out.size); clear hb6)
      | (go_at_call 46; (with_reducible refine (H7.out _ HV6.out).mono ?_); rintro e v7 ⟨rfl, hb7⟩; have HV7 : Hid (Below w.heap.size w v7) := HV6.out.trans (hb7.mono HV6.out.size); clear hb7)
      | (go_at_call 53; (with_reducible refine (H8.out _ HV7.out).mono ?_); rintro e v8 ⟨rfl, hb8⟩; have HV8 : Hid (Below w.heap.size w v8) := HV7.out.trans (hb8.mono HV7.out.size); clear hb8)
      | (go_at_call 46; (with_reducible refine (H9.out _ HV8.out).mono ?_); rintro e v9 ⟨rfl, hb9⟩; have HV9 : Hid (Below w.heap.size w v9) := HV8.out.trans (hb9.mono HV8.out.size); clear hb9)
      | (go_at_call 24; (with_reducible refine (H10.out _ HV9.out).mono ?_); rintro e v10 ⟨A10, p10, rfl, hw10, hb10⟩; have HV10 : Hid (Below w.heap.size w v10) := HV9.out.trans (hb10.mono HV9.out.size); clear hb10)
      | (go_at_call 56; (with_reducible refine (H11.out _ _ _ HV10.out hw10).mono ?_); rintro e v11 ⟨rfl, hb11⟩; have HV11 : Hid (Below w.heap.size w v11) := HV10.out.trans (hb11.mono HV10.out.size); clear hb11)
      | (go_at_call 24; (with_reducible refine (H12.out _ HV11.out).mono ?_); rintro e v12 ⟨A12, p12, rfl, hw12, hb12⟩; have HV12 : Hid (Below w.heap.size w v12) := HV11.out.trans (hb12.mono HV11.out.size); clear hb12)
      | (go_at_call 56; (with_reducible refine (H13.out _ _ _ HV12.out hw12).mono ?_); rintro e v13 ⟨rfl, hb13⟩; have HV13 : Hid (Below w.heap.size w v13) := HV12.out.trans (hb13.mono HV12.out.size); clear hb13))
  all_goals
    go_wp2_with fail
    go_ret
    exact ⟨rfl, HV13.out⟩
end
end Go.Proofs.Ytmcacmbllpphiaa
