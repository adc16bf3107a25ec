/- The walk of the law on reading back. Condition: the entries lie there, of numbers that fit. -/
import Derived.Test.YtfjphbljdijceaaAwk
namespace Go.Proofs.Ytfjphbljdijceaa
open Go.RowKit
set_option linter.unusedVariables false

def EncYN (l : List En) (N : Nat) (w : World) (e : Ending) (w' : World) : Prop :=
  Below w.heap.size w w' ∧ ∃ A c, N ≤ c ∧ c ≤ 9223372036854775807 ∧ e = .returned (.tuple #[.slice A N c, .int .i64 0]) ∧ RdB w' w'.heap.size A N (enL l)
theorem enc_yesN {A : Option Addr} {n cap N : Nat} {l : List En} {w : World} (hN : (enL l).length = N) (hR : RdE w A n l) (hn : n ≤ 2000) (ho : allOk l) : Calls Try.prog 10 #[.slice A n cap] w (EncYN l N w) := by
  subst hN; exact enc_yes hR hn ho
def DecYN (o : List En) (m : Nat) (w : World) (e : Ending) (w' : World) : Prop := Below w.heap.size w w' ∧ ∃ A c, e = .returned (.tuple #[.slice A m c, .int .i64 0]) ∧ RdE w' A m o
theorem dec_yesN {A : Option Addr} {n cap m : Nat} {l : List Int} {o : List En} {w : World} (hm : o.length = m) (hR : RdB w w.heap.size A n l) (hn : n ≤ cap) (hc : cap ≤ 9223372036854775807) (hn2 : n ≤ 4611686018427387904) (hd : dec l = some o) : Calls Try.prog 11 #[.slice A n cap] w (DecYN o m w) := by
  subst hm; exact dec_yes hR hn hc hn2 hd
theorem RdE.take {w : World} {A : Option Addr} {n : Nat} {l : List En} (h : RdE w A n l) (k : Nat) (hk : k ≤ n) : RdE w A k (l.take k) := by
  refine ⟨by rw [List.length_take, h.1]; omega, by rw [flV_len, List.length_take, h.1, Nat.min_eq_left hk], fun h0 => ?_⟩
  obtain ⟨b, off, e, hl, hc⟩ := h.2.2 (by omega)
  refine ⟨b, off, e, hl, fun j u hu => hc j u ?_⟩
  have e1 : flV l = flV (l.take k) ++ flV (l.drop k) := by unfold flV; rw [← List.flatMap_append, List.take_append_drop]
  rw [e1, List.getElem?_append_left (List.getElem?_eq_some_iff.1 hu).1]
  exact hu
theorem RdB.take {w : World} {B : Nat} {A : Option Addr} {n : Nat} {l : List Int} (h : RdB w B A n l) (k : Nat) (hk : k ≤ n) : RdB w B A k (l.take k) := by
  refine ⟨by rw [List.length_take, h.1]; omega, byt_take h.2.1 k, fun h0 => ?_⟩
  obtain ⟨b, off, e, hl, hc⟩ := h.2.2 (by omega)
  exact ⟨b, off, e, hl, hc.take k⟩
theorem dec_back {l : List En} (ho : allOk l) (hi : allIn l) (hl : l.length ≤ 2000) : dec (enL l) = some l := by
  have := enL_len ho
  unfold dec
  rw [if_neg (by omega)]
  exact decF_back l 2000 ho hi hl
theorem dec_takes {l o : List En} {k : Nat} (ho : allOk l) (hi : allIn l) (hl : l.length ≤ 2000) (hk : k < (enL l).length) (hd : dec ((enL l).take k) = some o) :
    enL o = (enL l).take k ∧ allOk o ∧ allIn o ∧ o.length < l.length ∧ o = l.take o.length := by
  unfold dec at hd
  split at hd
  · cases hd
  · exact dec_cut l o 2000 k ho hi hl hk hd

theorem back_long (A : Option Addr) (n cap : Nat) (k : Int) (w : World) (h : 100 < n) (hn : n ≤ 9223372036854775807) : Calls Try.prog 3 #[.slice A n cap, .int .i64 k] w (BoolR true w) := by
  go_enter Try.func3, Try.ntmps3
  go_wp2_with fail
  refine (awake_any _).mono ?_
  rintro e w1 ⟨rfl, hb⟩
  go_wp2_with fail
  go_ret
  exact ⟨rfl, hb⟩
theorem back_no (A : Option Addr) (n cap : Nat) (k : Int) (l : List En) (w : World) (h : n ≤ 100) (hR : Hid (RdE w A n l)) (ho : Hid (¬ allOk l)) : Calls Try.prog 3 #[.slice A n cap, .int .i64 k] w (BoolR true w) := by
  go_enter Try.func3, Try.ntmps3
  go_wp2_with fail
  refine (enc_no hR.out (by omega) (fun h => ho.out h.2)).mono ?_
  rintro e w1 ⟨hb1, rfl⟩
  go_wp2_with fail
  refine (awake_any _).mono ?_
  rintro e w2 ⟨rfl, hb2⟩
  go_wp2_with fail
  go_ret
  exact ⟨rfl, hb1.trans (hb2.mono hb1.size)⟩
theorem back_none (A : Option Addr) (cap : Nat) (k : Int) (l : List En) (w : World) (hR : Hid (RdE w A 0 l)) : Calls Try.prog 3 #[.slice A 0 cap, .int .i64 k] w (BoolR true w) := by
  have hl : l = [] := List.eq_nil_of_length_eq_zero hR.out.1
  subst hl
  have HO : Hid (allOk []) := fun e he => by simp at he
  go_enter Try.func3, Try.ntmps3
  go_wp2_with fail
  refine (enc_yesN (N := 0) rfl hR.out (by omega) HO.out).mono ?_
  rintro e w1 ⟨hb1, A1, c1, h1, h2, rfl, hR1⟩
  have HB1 := Lib.hid hb1
  have HE1 := Lib.hid (hR.out.later hb1)
  have HR1 := Lib.hid hR1
  clear hb1 hR1
  go_wp2_with fail
  refine (dec_yesN (m := 0) (o := []) rfl HR1.out h1 h2 (by omega) (dec_back HO.out (fun e he => by simp at he) (by simp))).mono ?_
  rintro e w2 ⟨hb2, A2, c2, rfl, hE2⟩
  have HB2 := Lib.hid (HB1.out.trans (hb2.mono HB1.out.size))
  have HE1b := Lib.hid (HE1.out.later hb2)
  have HE2 := Lib.hid hE2
  clear hb2 hE2 HE1 HR1 HB1
  go_wp2_with fail
  refine (same_yes _ _ 0 _ _ [] w2 HE1b HE2 (by omega)).mono ?_
  rintro e w3 ⟨rfl, hb3⟩
  have HB3 := Lib.hid (HB2.out.trans (hb3.mono HB2.out.size))
  clear hb3
  go_wp2_with fail
  refine (awake_any _).mono ?_
  rintro e w4 ⟨rfl, hb4⟩
  go_wp2_with fail
  go_ret
  exact ⟨rfl, HB3.out.trans (hb4.mono HB3.out.size)⟩

set_option maxRecDepth 100000 in
set_option maxHeartbeats 1000000 in
theorem back_yes (A : Option Addr) (n cap : Nat) (cut : Int) (l : List En) (w : World) (h0 : 0 < n) (h : n ≤ 100) (hcap : n ≤ cap) (hcap2 : cap ≤ 9223372036854775807) (hR : Hid (RdE w A n l)) (ho : Hid (allOk l)) (hi : Hid (allIn l)) : Calls Try.prog 3 #[.slice A n cap, .int .i64 cut] w (BoolR true w) := by
  obtain ⟨ab, ao, rfl, _⟩ := hR.out.2.2 h0
  obtain ⟨N, hN⟩ : ∃ N, (enL l).length = N := ⟨_, rfl⟩
  have hl := enL_len ho.out
  have hn := hR.out.1
  rw [hN, hn] at hl
  have hN0 : 0 < N := by omega
  have hN1 : N ≤ 1700 := by omega
  obtain ⟨k, hk⟩ := Int.eq_ofNat_of_zero_le (Int.emod_nonneg cut (show (N : Int) ≠ 0 by omega))
  have hkN : k < N := by have := Int.emod_lt_of_pos cut (show (0 : Int) < (N : Int) by omega); omega
  have HK : Hid (∀ w, Calls Try.prog 13 #[.int .i64 cut, .int .i64 (N : Int)] w fun e w' => e = .returned (.int .i64 (k : Int)) ∧ w = w') := fun w => by rw [← show cut % (N : Int) = (k : Int) from hk]; exact round_any cut N w (by omega) (by omega)
  have HN := Lib.hid hN
  have HL := Lib.hid hn
  clear hl hk hN hn
  go_enter Try.func3, Try.ntmps3
  go_wp2_with fail
  refine (enc_yesN HN.out hR.out (by omega) ho.out).mono ?_
  rintro e w1 ⟨hb1, A1, c1, h1, h2, rfl, hR1⟩
  have HB1 := Lib.hid hb1
  have HE1 := Lib.hid (hR.out.later hb1)
  obtain ⟨bb, bo, rfl, _⟩ := hR1.2.2 hN0
  have HR1 := Lib.hid hR1
  clear hb1 hR1
  go_wp2_with fail
  refine (dec_yesN HL.out HR1.out h1 h2 (by omega) (dec_back ho.out hi.out (by rw [HL.out]; omega))).mono ?_
  rintro e w2 ⟨hb2, A2, c2, rfl, hE2⟩
  have HB2 := Lib.hid (HB1.out.trans (hb2.mono HB1.out.size))
  have HE1b := Lib.hid (HE1.out.later hb2)
  have HR2 := Lib.hid (HR1.out.later hb2)
  have HE2 := Lib.hid hE2
  clear hb2 hE2 HE1 HR1 HB1
  go_wp2_with fail
  refine (same_yes _ _ n _ _ l w2 HE1b HE2 (by omega)).mono ?_
  rintro e w3 ⟨rfl, hb3⟩
  have HB3 := Lib.hid (HB2.out.trans (hb3.mono HB2.out.size))
  have HE3 := Lib.hid (HE1b.out.later hb3)
  have HR3 := Lib.hid (HR2.out.later hb3)
  clear hb3 HE1b HE2 HR2 HB2
  have hNz : ((N : Int) == 0) = false := by rw [beq_eq_false_iff_ne]; omega
  go_wp2_with fail
  refine (HK.out _).mono ?_
  rintro e w4 ⟨rfl, rfl⟩
  cases hd : dec ((enL l).take k) with
  | none =>
    have HD := Lib.hid hd
    clear hd
    go_wp2_with fail
    refine (dec_not (HR3.out.take k (by omega)) (by omega) h2 (by omega) HD.out).mono ?_
    rintro e w4 ⟨hb4, rfl⟩
    have HB4 := Lib.hid (HB3.out.trans (hb4.mono HB3.out.size))
    clear hb4
    go_wp2_with fail
    refine (awake_any _).mono ?_
    rintro e w5 ⟨rfl, hb5⟩
    go_wp2_with fail
    go_ret
    exact ⟨rfl, HB4.out.trans (hb5.mono HB4.out.size)⟩
  | some o =>
    obtain ⟨g1, g2, g3, g4, g5⟩ := dec_takes ho.out hi.out (by rw [HL.out]; omega) (by rw [HN.out]; exact hkN) hd
    rw [HL.out] at g4
    have HD := Lib.hid hd
    obtain ⟨m, hm⟩ : ∃ m, o.length = m := ⟨_, rfl⟩
    rw [hm] at g4 g5
    have HM := Lib.hid hm
    have G1 := Lib.hid g1
    have G2 := Lib.hid g2
    have G5 := Lib.hid g5
    have HEO : Hid ((enL o).length = k) := by show _ = _; rw [g1, List.length_take, HN.out]; omega
    clear hd hm g1 g2 g3 g5
    go_wp2_with fail
    refine (dec_yesN HM.out (HR3.out.take k (by omega)) (by omega) h2 (by omega) HD.out).mono ?_
    rintro e w4 ⟨hb4, A4, c4, rfl, hE4⟩
    have HB4 := Lib.hid (HB3.out.trans (hb4.mono HB3.out.size))
    have HE4 := Lib.hid (HE3.out.later hb4)
    have HR4 := Lib.hid (HR3.out.later hb4)
    have HO4 := Lib.hid hE4
    clear hb4 hE4 HE3 HR3 HB3
    go_wp2_with fail
    refine (enc_yesN HEO.out HO4.out (by omega) G2.out).mono ?_
    rintro e w5 ⟨hb5, A5, c5, h3, h4, rfl, hR5⟩
    have HB5 := Lib.hid (HB4.out.trans (hb5.mono HB4.out.size))
    have HE5 := Lib.hid (HE4.out.later hb5)
    have HR5 := Lib.hid (HR4.out.later hb5)
    have HO5 := Lib.hid (HO4.out.later hb5)
    have HQ5 : Hid (RdB w5 w5.heap.size A5 k ((enL l).take k)) := by rw [← G1.out]; exact hR5
    clear hb5 hR5 HE4 HR4 HO4 HB4
    go_wp2_with fail
    refine (bytes_yes _ _ _ _ _ _ _ _ _ w5 HQ5.out (HR5.out.take k (by omega))).mono ?_
    rintro e w6 ⟨rfl, rfl⟩
    go_wp2_with fail
    have HT : Hid (RdE w5 (some ⟨ab, ao, none⟩) m o) := by have h9 := HE5.out.take m (by omega); rw [← G5.out] at h9; exact h9
    refine (same_yes _ _ m _ _ o w5 HO5 HT (by omega)).mono ?_
    rintro e w6 ⟨rfl, hb6⟩
    have HB6 := Lib.hid (HB5.out.trans (hb6.mono HB5.out.size))
    clear hb6
    go_wp2_with fail
    refine (awake_any _).mono ?_
    rintro e w7 ⟨rfl, hb7⟩
    go_wp2_with fail
    go_ret
    exact ⟨rfl, HB6.out.trans (hb7.mono HB6.out.size)⟩
theorem back_any (A : Option Addr) (n cap : Nat) (cut : Int) (l : List En) (w : World) (hcap : n ≤ cap) (hcap2 : cap ≤ 9223372036854775807) (hR : RdE w A n l) (hi : allIn l) : Calls Try.prog 3 #[.slice A n cap, .int .i64 cut] w (BoolR true w) := by
  by_cases h : 100 < n
  · exact back_long A n cap cut w h (by omega)
  · by_cases ho : allOk l
    · rcases Nat.eq_zero_or_pos n with h0 | h0
      · subst h0
        exact back_none A cap cut l w hR
      · exact back_yes A n cap cut l w h0 (by omega) hcap hcap2 hR ho hi
    · exact back_no A n cap cut l w (by omega) hR ho
end Go.Proofs.Ytfjphbljdijceaa
