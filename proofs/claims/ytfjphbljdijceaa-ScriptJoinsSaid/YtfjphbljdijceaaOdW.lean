/- The walk of the law on odd bytes. Condition: the entries and bytes lie there. -/
import Derived.Test.YtfjphbljdijceaaBkW
import Derived.Test.YtfjphbljdijceaaApp
namespace Go.Proofs.Ytfjphbljdijceaa
open Go.RowKit
set_option linter.unusedVariables false

theorem odd_long (A A' : Option Addr) (n cap n' cap' : Nat) (k : Int) (w : World) (h : 50 < n) (hn : n ≤ 9223372036854775807) : Calls Try.prog 8 #[.slice A n cap, .int .i64 k, .slice A' n' cap'] w (BoolR true w) := by
  go_enter Try.func8, Try.ntmps8
  go_wp2_with fail
  refine (awake_any _).mono ?_
  rintro e w1 ⟨rfl, hb⟩
  go_wp2_with fail
  go_ret
  exact ⟨rfl, hb⟩
theorem odd_more (A A' : Option Addr) (n cap n' cap' : Nat) (k : Int) (w : World) (h : n ≤ 50) (h' : 20 < n') (hn : n' ≤ 9223372036854775807) : Calls Try.prog 8 #[.slice A n cap, .int .i64 k, .slice A' n' cap'] w (BoolR true w) := by
  go_enter Try.func8, Try.ntmps8
  go_wp2_with fail
  refine (awake_any _).mono ?_
  rintro e w1 ⟨rfl, hb⟩
  go_wp2_with fail
  go_ret
  exact ⟨rfl, hb⟩
theorem odd_bad (A A' : Option Addr) (n cap n' cap' : Nat) (k : Int) (l : List En) (w : World) (h : n ≤ 50) (h' : n' ≤ 20) (hR : Hid (RdE w A n l)) (ho : Hid (¬ allOk l)) : Calls Try.prog 8 #[.slice A n cap, .int .i64 k, .slice A' n' cap'] w (BoolR true w) := by
  go_enter Try.func8, Try.ntmps8
  go_wp2_with fail
  refine (enc_no hR.out (by omega) (fun h => ho.out h.2)).mono ?_
  rintro e w1 ⟨hb1, rfl⟩
  go_wp2_with fail
  refine (awake_any _).mono ?_
  rintro e w2 ⟨rfl, hb2⟩
  go_wp2_with fail
  go_ret
  exact ⟨rfl, hb1.trans (hb2.mono hb1.size)⟩

theorem below_app {B : Nat} {W w w' : World} {base e size n : Nat} {v : Value} {xs : List Value} (hb : Below B W w) (hB : B ≤ base) (hs : B ≤ w.heap.size) (ho : w.ownsRow base e size v n xs) (hg : w.grownBy w' v.ownBlock) : Below B W w' :=
  hb.grown hg hs (fun k hk => Nat.le_trans hB (ho.lt k hk).1)
theorem Rd_new (w : World) (cs : Array Value) (t N n s : Nat) (h : N = w.heap.size) (hn : cs.size = n * s) : Rd (w.alloc (.cells cs t)) (w.alloc (.cells cs t)).heap.size (some ⟨N, 0, none⟩) n s cs.toList := by
  subst h
  refine ⟨by simpa using hn, fun _ => ⟨_, 0, rfl, by simp, fun j u hu => ?_⟩⟩
  rw [Nat.zero_add, World.cell?_alloc_at _ _ _ _ rfl, ← Array.getElem?_toList]
  exact hu

set_option maxRecDepth 100000 in
set_option maxHeartbeats 1000000 in
theorem odd_yes (A A' : Option Addr) (n cap n' cap' : Nat) (kind : Int) (l : List En) (ys : List Int) (w : World) (h : n ≤ 50) (h' : n' ≤ 20) (hR : Hid (RdE w A n l)) (ho : Hid (allOk l)) (hi : Hid (allIn l)) (hY : Hid (RdB w w.heap.size A' n' ys)) : Calls Try.prog 8 #[.slice A n cap, .int .i64 kind, .slice A' n' cap'] w (BoolR true w) := by
  obtain ⟨N, hN⟩ : ∃ N, (enL l).length = N := ⟨_, rfl⟩
  have hl := enL_len ho.out
  have hn := hR.out.1
  rw [hN, hn] at hl
  have hN1 : N ≤ 850 := by omega
  obtain ⟨k, hk⟩ := Int.eq_ofNat_of_zero_le (Int.emod_nonneg kind (show (253 : Int) ≠ 0 by omega))
  have hk2 : k < 253 := by have := Int.emod_lt_of_pos kind (show (0 : Int) < 253 by omega); omega
  have HK : Hid (∀ w, Calls Try.prog 13 #[.int .i64 kind, .int .i64 253] w fun e w' => e = .returned (.int .i64 (k : Int)) ∧ w = w') := fun w => by rw [← show kind % 253 = (k : Int) from hk]; exact round_any kind 253 w (by omega) (by omega)
  have HN := Lib.hid hN
  have HL := Lib.hid hn
  clear hl hk hN hn
  go_enter Try.func8, Try.ntmps8
  go_wp2_with fail
  refine (enc_yesN HN.out hR.out (by omega) ho.out).mono ?_
  rintro e w1 ⟨hb1, A1, c1, h1, h2, rfl, hR1⟩
  have HB1 := Lib.hid hb1
  have HY1 := Lib.hid (hY.out.later hb1)
  have HR1 := Lib.hid hR1
  clear hb1 hR1
  go_wp2_with fail
  refine (HK.out _).mono ?_
  rintro e w4 ⟨rfl, rfl⟩
  obtain ⟨i5, hi5, hz50, hz51, hz52⟩ := info_parts Try.info5
  have hE := own_empty w1 5 1 w1.heap.size w1.heap.size rfl (Nat.le_refl _)
  have HRa := Lib.hid (Rd.of_B (HR1.out.later (below_al w1 (.cells #[] 5))))
  go_wp2_with (first | (at_builtin; refine app_wp rfl (.tmp 39) (.tmp 40) 24 rfl w1.heap.size 5 1 1 i5 (.int .u8 0) Try.underlying24 hi5 hz50 hz51 hz52 rfl (by decide) _ 0 [] rfl hE _ A1 N c1 _ rfl HRa.out (bV_one _) (by unfold maxLen; omega) (by omega) (by simp) ?_; intro v2 w2 ho2 hg2; have HB2 := Lib.hid (below_app (below_al w1 (.cells #[] 5)) (Nat.le_refl _) (by simp) hE hg2); have HO2 := Lib.hid ho2; have hs2 := HB2.out.size; clear hE HRa ho2 hg2) | (at_builtin; refine app_wp rfl (.tmp 41) (.tmp 43) 24 rfl w1.heap.size 5 1 1 i5 (.int .u8 0) Try.underlying24 hi5 hz50 hz51 hz52 rfl (by decide) v2 _ _ rfl (HO2.out.alloc _) _ (some ⟨w2.heap.size, 0, none⟩) 9 9 _ rfl (Rd_new w2 #[.int .u8 (3 + (k : Int)), .int .u8 0, .int .u8 0, .int .u8 0, .int .u8 0, .int .u8 0, .int .u8 0, .int .u8 0, .int .u8 0] 5 _ 9 1 rfl rfl) (by intro u hu; simp at hu; rcases hu with rfl | rfl <;> rfl) (by unfold maxLen; omega) (by omega) (by simp; omega) ?_; intro v3 w3 ho3 hg3))
  have HB3 := Lib.hid (HB1.out.trans ((below_app (HB2.out.trans ((below_al w2 (.cells #[.int .u8 (3 + (k : Int)), .int .u8 0, .int .u8 0, .int .u8 0, .int .u8 0, .int .u8 0, .int .u8 0, .int .u8 0, .int .u8 0] 5)).mono hs2)) (Nat.le_refl _) (by simp; omega) (HO2.out.alloc _) hg3).mono HB1.out.size))
  have HC3 := Lib.hid (below_app (HB2.out.trans ((below_al w2 (.cells #[.int .u8 (3 + (k : Int)), .int .u8 0, .int .u8 0, .int .u8 0, .int .u8 0, .int .u8 0, .int .u8 0, .int .u8 0, .int .u8 0] 5)).mono hs2)) (Nat.le_refl _) (by simp; omega) (HO2.out.alloc _) hg3)
  obtain ⟨A3, c3, rfl, h3, h4⟩ := own_cap ho3
  rw [List.nil_append, Nat.zero_add] at ho3
  rw [Nat.zero_add] at h3 ⊢
  have HR3 : Hid (RdB w3 w3.heap.size A3 (N + 9) (enL l ++ ((3 + (k : Int)) :: [0, 0, 0, 0, 0, 0, 0, 0]))) := by
    refine RdB.of ?_ (Rd.of_own (by rw [bV_app]; exact ho3))
    intro b hb
    rcases List.mem_append.1 hb with hb | hb
    · exact enL_byt ho.out b hb
    · simp at hb; omega
  have HD3 : Hid (dec (enL l ++ ((3 + (k : Int)) :: [0, 0, 0, 0, 0, 0, 0, 0])) = none) := by
    show _ = _
    unfold dec
    rw [dec_odd l 2000 _ _ ho.out hi.out (by rw [HL.out]; omega) (by unfold sz; rw [if_neg (by omega), if_neg (by omega)])]
    split <;> rfl
  have HR1b := Lib.hid (HR1.out.later HC3.out)
  have HY3 := Lib.hid (HY1.out.later HC3.out)
  clear ho3 hg3 HB2 HO2 HC3 HR1 HY1 hs2 HB1
  refine (dec_not HR3.out h3 h4 (by omega) HD3.out).mono ?_
  rintro e w4 ⟨hb4, rfl⟩
  have HB4 := Lib.hid (HB3.out.trans (hb4.mono HB3.out.size))
  have HR4 := Lib.hid (HR1b.out.later hb4)
  have HY4 := Lib.hid (HY3.out.later hb4)
  clear hb4 HB3 HR3 HD3 HR1b HY3
  have hE := own_empty w4 5 1 w4.heap.size w4.heap.size rfl (Nat.le_refl _)
  have HRa := Lib.hid (Rd.of_B (HR4.out.later (below_al w4 (.cells #[] 5))))
  go_wp2_with (first | (at_builtin; refine app_wp rfl (.tmp 50) (.tmp 51) 24 rfl w4.heap.size 5 1 1 i5 (.int .u8 0) Try.underlying24 hi5 hz50 hz51 hz52 rfl (by decide) _ 0 [] rfl hE _ A1 N c1 _ rfl HRa.out (bV_one _) (by unfold maxLen; omega) (by omega) (by simp) ?_; intro v5 w5 ho5 hg5; have HB5 := Lib.hid (below_app (below_al w4 (.cells #[] 5)) (Nat.le_refl _) (by simp) hE hg5); have HO5 := Lib.hid ho5; have hs5 := HB5.out.size; have HY5 := Lib.hid (Rd.of_B (HY4.out.later HB5.out)); clear hE HRa ho5 hg5) | (at_builtin; refine app_wp rfl (.tmp 52) (.tmp 53) 24 rfl w4.heap.size 5 1 1 i5 (.int .u8 0) Try.underlying24 hi5 hz50 hz51 hz52 rfl (by decide) v5 _ _ rfl HO5.out _ A' n' cap' _ rfl HY5.out (bV_one _) (by unfold maxLen; omega) (by omega) (by omega) ?_; intro v6 w6 ho6 hg6))
  have HC6 := Lib.hid (below_app HB5.out (Nat.le_refl _) hs5 HO5.out hg6)
  have HB6 := Lib.hid (HB4.out.trans (HC6.out.mono HB4.out.size))
  obtain ⟨A6, c6, rfl, h5, h6⟩ := own_cap ho6
  rw [List.nil_append, Nat.zero_add] at ho6
  rw [Nat.zero_add] at h5 ⊢
  have HR6 : Hid (RdB w6 w6.heap.size A6 (N + n') (enL l ++ ys)) := by
    refine RdB.of ?_ (Rd.of_own (by rw [bV_app]; exact ho6))
    intro b hb
    rcases List.mem_append.1 hb with hb | hb
    · exact enL_byt ho.out b hb
    · exact hY.out.2.1 b hb
  clear ho6 hg6 HB5 HO5 HC6 HR4 HY4 hs5 HY5 HB4
  cases hd : dec (enL l ++ ys) with
  | none =>
    have HD := Lib.hid hd
    clear hd
    refine (dec_not HR6.out h5 h6 (by omega) HD.out).mono ?_
    rintro e w7 ⟨hb7, rfl⟩
    have HB7 := Lib.hid (HB6.out.trans (hb7.mono HB6.out.size))
    clear hb7
    go_wp2_with fail
    refine (awake_any _).mono ?_
    rintro e w8 ⟨rfl, hb8⟩
    go_wp2_with fail
    go_ret
    exact ⟨rfl, HB7.out.trans (hb8.mono HB7.out.size)⟩
  | some y =>
    obtain ⟨m, hm⟩ : ∃ m, y.length = m := ⟨_, rfl⟩
    have hy : enL y = enL l ++ ys ∧ allOk y ∧ m ≤ 2000 := by
      unfold dec at hd
      split at hd
      · cases hd
      · obtain ⟨g1, g2, _, g4⟩ := decF_of 2000 _ y HR6.out.2.1 hd
        exact ⟨g1, g2, by omega⟩
    have HD := Lib.hid hd
    have HM := Lib.hid hm
    have G1 := Lib.hid hy.1
    have G2 := Lib.hid hy.2.1
    have g4 := hy.2.2
    have HEY : Hid ((enL y).length = N + n') := by show _ = _; rw [hy.1, List.length_append, HN.out, hY.out.1]
    clear hd hm hy
    refine (dec_yesN HM.out HR6.out h5 h6 (by omega) HD.out).mono ?_
    rintro e w7 ⟨hb7, A7, c7, rfl, hE7⟩
    have HB7 := Lib.hid (HB6.out.trans (hb7.mono HB6.out.size))
    have HR7 := Lib.hid (HR6.out.later hb7)
    have HE7 := Lib.hid hE7
    clear hb7 hE7 HB6 HR6
    go_wp2_with fail
    refine (enc_yesN HEY.out HE7.out g4 G2.out).mono ?_
    rintro e w8 ⟨hb8, A8, c8, h7, h8, rfl, hR8⟩
    have HB8 := Lib.hid (HB7.out.trans (hb8.mono HB7.out.size))
    have HR8 := Lib.hid (HR7.out.later hb8)
    have HE8 := Lib.hid (HE7.out.later hb8)
    have HQ8 : Hid (RdB w8 w8.heap.size A8 (N + n') (enL l ++ ys)) := by rw [← G1.out]; exact hR8
    clear hb8 hR8 HB7 HR7 HE7
    go_wp2_with fail
    refine (bytes_yes _ _ _ _ _ _ _ _ _ w8 HQ8.out HR8.out).mono ?_
    rintro e w9 ⟨rfl, rfl⟩
    go_wp2_with fail
    refine (odd_no _ _ _ y w8 HE8 G2 (by omega)).mono ?_
    rintro e w9 ⟨rfl, rfl⟩
    go_wp2_with fail
    refine (awake_any _).mono ?_
    rintro e w10 ⟨rfl, hb10⟩
    go_wp2_with fail
    go_ret
    exact ⟨rfl, HB8.out.trans (hb10.mono HB8.out.size)⟩
theorem odd_any (A A' : Option Addr) (n cap n' cap' : Nat) (kind : Int) (l : List En) (ys : List Int) (w : World) (hcap : n ≤ cap) (hcap2 : cap ≤ 9223372036854775807) (hR : RdE w A n l) (hi : allIn l) (hc' : n' ≤ cap') (hc2 : cap' ≤ 9223372036854775807) (hY : RdB w w.heap.size A' n' ys) : Calls Try.prog 8 #[.slice A n cap, .int .i64 kind, .slice A' n' cap'] w (BoolR true w) := by
  by_cases h : 50 < n
  · exact odd_long A A' n cap n' cap' kind w h (by omega)
  · by_cases h' : 20 < n'
    · exact odd_more A A' n cap n' cap' kind w (by omega) h' (by omega)
    · by_cases ho : allOk l
      · exact odd_yes A A' n cap n' cap' kind l ys w (by omega) (by omega) hR ho hi hY
      · exact odd_bad A A' n cap n' cap' kind l w (by omega) (by omega) hR ho
end Go.Proofs.Ytfjphbljdijceaa
