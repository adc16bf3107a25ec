/- The walk of ChanSignal. No condition. -/
import Derived.Test.YtnldodpmfkekbaaAwk
namespace Go.Proofs.Ytnldodpmfkekbaa
open Go.RowKit
set_option linter.unusedVariables false

/-! Rows that are told by their place. -/
def rowW (f : Nat → Wt) (k : Nat) : List Wt := (List.range k).map f
def rowK (f : Nat → Wk) (k : Nat) : List Wk := (List.range k).map f
theorem rowW_succ (f : Nat → Wt) (k : Nat) : rowW f k ++ [f k] = rowW f (k + 1) := by simp [rowW, List.range_succ]
theorem rowW_len (f : Nat → Wt) (k : Nat) : (rowW f k).length = k := by simp [rowW]
theorem rowK_len (f : Nat → Wk) (k : Nat) : (rowK f k).length = k := by simp [rowK]
theorem rowK_at (f : Nat → Wk) {k n : Nat} (h : k < n) : (rowK f n)[k]? = some (f k) := by simp [rowK, h]
theorem rowW_at (f : Nat → Wt) {k n : Nat} (h : k < n) : (rowW f n)[k]? = some (f k) := by simp [rowW, h]
theorem row_nodup {f : Nat → Wt} (hf : ∀ i j, (f i).t = (f j).t → i = j) (n : Nat) : ((rowW f n).map (·.t)).Nodup := by
  unfold rowW
  rw [List.map_map]
  exact List.Pairwise.map _ (fun a b h e => h (hf a b e)) List.nodup_range
theorem shp_nodup (p : Bool) : ∀ (l : List Wt) (acc : List Wk), (acc.map (·.t) ++ l.map (·.t)).Nodup → shp acc l p = acc ++ l.map fun x => ⟨x.t, x.c, 0, false, p⟩
  | [], acc, _ => by simp [shp]
  | x :: r, acc, h => by
    have h1 : x.t ∉ acc.map (·.t) := fun hx => by
      rw [List.map_cons, List.nodup_append] at h
      exact h.2.2 _ hx _ (List.mem_cons_self ..) rfl
    show shp (one acc x p) r p = _
    unfold one
    rw [if_neg h1, shp_nodup p r _ (by rw [List.map_append]; simpa using h)]
    simp
theorem tot_recv {f : Nat → Wt} (hf : ∀ i j, (f i).t = (f j).t → i = j) (n kd sz : Nat) (cl : Bool) (l : List Int) : tot ⟨kd, cl, sz, l, [], rowW f n⟩ = rowK (fun i => ⟨(f i).t, (f i).c, 0, false, false⟩) n := by
  unfold tot
  simp only [shp]
  rw [shp_nodup false _ _ (by simpa using row_nodup hf n)]
  simp [rowW, rowK]
theorem tot_send {f : Nat → Wt} (hf : ∀ i j, (f i).t = (f j).t → i = j) (n kd sz : Nat) (cl : Bool) (l : List Int) : tot ⟨kd, cl, sz, l, rowW f n, []⟩ = rowK (fun i => ⟨(f i).t, (f i).c, 0, false, true⟩) n := by
  unfold tot
  simp only [shp]
  rw [shp_nodup true _ _ (by simpa using row_nodup hf n)]
  simp [rowW, rowK]
theorem RdK.at_ {w : World} {A : Option Addr} {n k : Nat} {l : List Wk} {x : Wk} (h : RdK w A n l) (hx : l[k]? = some x) : ∃ b cs, A = some ⟨b, 0, none⟩ ∧ w.heap[b]? = some (.cells cs 45 (0, 0)) ∧ w.cell? ⟨b, k * 5, none⟩ = some (.int .i64 x.t) ∧ w.cell? ⟨b, k * 5 + 1, none⟩ = some (.int .i64 x.c) ∧ w.cell? ⟨b, k * 5 + 2, none⟩ = some (.int .i64 x.v) ∧ w.cell? ⟨b, k * 5 + 3, none⟩ = some (.bool x.ok) ∧ w.cell? ⟨b, k * 5 + 4, none⟩ = some (.bool x.pn) := by
  have hk : k < l.length := (List.getElem?_eq_some_iff.1 hx).1
  obtain ⟨b, cs, e, hb, hc⟩ := h.2 (by have := h.1; omega)
  exact ⟨b, cs, e, hb, hc k x hx⟩

theorem ms_canB {W w : World} {L : List (Nat × CS)} {i c : Nat} {s : CS} (b : Bool) (h : MS W L w) (hi : L[i]? = some (c, s)) : Calls Try.prog 27 #[.pointer (some ⟨c, 0, none⟩), .bool b] w fun e w' => e = .returned (.bool (can s b)) ∧ MS W L w' := by
  refine (ms_can b h hi).mono ?_
  rintro e w' ⟨rfl, n, rfl⟩
  exact ⟨rfl, h.drewN n⟩
def fS (i : Nat) : Wt := ⟨i, i, 0⟩
theorem fS_inj : ∀ i j, (fS i).t = (fS j).t → i = j := fun i j h => by simp only [fS] at h; omega
set_option maxRecDepth 100000 in
set_option maxHeartbeats 4000000 in
theorem signal_in (n m : Nat) (W : World) (hn : n ≤ 20) (hm : m ≤ 10) : Calls Try.prog 9 #[.int .i64 n, .int .i64 m] W (BoolR true W) := by
  have b1 : (n : Int) ≤ 20 := by omega
  have b2 : (m : Int) ≤ 10 := by omega
  have b3 : 0 ≤ (n : Int) := by omega
  have b4 : 0 ≤ (m : Int) := by omega
  go_enter Try.func9, Try.ntmps9
  go_wp2_with fail
  refine (ms_signal (MS.nil W)).mono ?_
  rintro e w1 ⟨c, rfl, s1, _⟩
  have S1 : Hid (MS W [(c, ⟨2, false, 0, [], [], rowW fS 0⟩)] w1) := s1
  clear s1
  go_wp2_with fail
  go_loopw [6] (fun i wr => ∃ k : Nat, k ≤ n ∧ i = .int .i64 k ∧ Hid (MS W [(c, ⟨2, false, 0, [], [], rowW fS k⟩)] wr)) (fun i _ => n - (intOf i).toNat)
  case atStart => exact ⟨0, by omega, rfl, S1⟩
  case round =>
    clear S1
    obtain ⟨k, hk, rfl, hS⟩ := hrel
    by_cases hlt : k < n
    · have k1 : (k : Int) < (n : Int) := by omega
      go_wp2_with fail
      have hw := (ms_wait (i := 0) (fS k) false (wf_of (by simp only [fS]; omega) (by simp only [fS]; omega)) hS.out rfl (by intro b; cases b <;> simp [CS.q, rowW_len] <;> omega) rfl)
      refine hw.mono ?_
      rintro e w2 ⟨rfl, s2, _⟩
      have S2 : Hid (MS W [(c, ⟨2, false, 0, [], [], rowW fS (k + 1)⟩)] w2) := by rw [← rowW_succ]; exact s2
      clear s2 hS hw
      go_wp2_with fail
      go_roundw
      case rel => exact ⟨k + 1, by omega, by go_num, S2⟩
      case measure => simp [intOf]; omega
    · obtain rfl : k = n := by omega
      go_wp2_with fail
      refine (ms_send_kind (i := 0) 1 hS.out rfl (by simp)).mono ?_
      rintro e w' ⟨rfl, rfl⟩
      go_wp2_with fail
      refine (ms_wait (i := 0) ⟨99, 0, 0⟩ true (by unfold Wf; decide) hS.out rfl (by intro b; cases b <;> simp [CS.q, rowW_len] <;> omega) rfl).mono ?_
      rintro e w2 ⟨rfl, s2, _⟩
      have S2 : Hid (MS W [(c, ⟨2, false, 0, [], [], rowW fS k⟩)] w2) := s2
      clear s2 hS
      go_wp2_with fail
      refine (ms_put_kind (i := 0) 5 S2.out rfl (by simp)).mono ?_
      rintro e w' ⟨rfl, rfl⟩
      go_wp2_with fail
      refine (ms_end (i := 0) (n := k) S2.out rfl rfl rfl (by simp) (by simp [rowW_len]; omega) (tot_recv fS_inj k 2 0 false []) (rowK_len _ _)).mono ?_
      rintro e w3 ⟨A, cap, rfl, r3, s3, _⟩
      have S3 : Hid (MS W [(c, ⟨2, true, 0, [], [], []⟩)] w3) := s3
      have R3 := Lib.hid r3
      clear s3 S2 r3
      go_wp2_with fail
      refine (ms_end_not (i := 0) S3.out rfl (.inr rfl)).mono ?_
      rintro e w' ⟨rfl, rfl⟩
      go_wp2_with fail
      go_loopw [14] (fun i wr => ∃ j : Nat, j ≤ k ∧ i = .int .i64 j ∧ wr = w3) (fun i _ => k - (intOf i).toNat)
      case atStart => exact ⟨0, by omega, rfl, rfl⟩
      case round =>
        obtain ⟨j, hj, rfl, rfl⟩ := hrel
        by_cases hlt2 : j < k
        · obtain ⟨b, cs, rfl, hb, c0, c1, c2, c3, c4⟩ := R3.out.at_ (rowK_at _ hlt2)
          simp only [fS] at c0 c1 c2 c3 c4
          clear hb
          go_wp2_with fail
          go_roundw
          case rel => exact ⟨j + 1, by omega, by go_num, trivial⟩
          case measure => simp [intOf]; omega
        · obtain rfl : j = k := by omega
          go_wp2_with fail
          go_loopw [15] (fun i wr => ∃ j : Nat, j ≤ m ∧ i = .int .i64 j ∧ Hid (MS W [(c, ⟨2, true, 0, [], [], []⟩)] wr)) (fun i _ => m - (intOf i).toNat)
          case atStart => exact ⟨0, by omega, rfl, S3⟩
          case round =>
            clear S3 R3
            obtain ⟨i, hi, rfl, hS⟩ := hrel
            by_cases hlt3 : i < m
            · go_wp2_with fail
              refine (ms_recv (i := 0) hS.out rfl (by simp) rfl rfl).mono ?_
              rintro e w2 ⟨A, n, rfl, _, s2, _⟩
              have S2 : Hid (MS W [(c, ⟨2, true, 0, [], [], []⟩)] w2) := s2
              clear s2 hS
              go_wp2_with fail
              go_roundw
              case rel => exact ⟨i + 1, by omega, by go_num, S2⟩
              case measure => simp [intOf]; omega
            · obtain rfl : i = m := by omega
              go_wp2_with fail
              refine (ms_closed (i := 0) hS.out rfl).mono ?_
              rintro e w' ⟨rfl, rfl⟩
              go_wp2_with fail
              refine (ms_canB (i := 0) false hS.out rfl).mono ?_
              rintro e w4 ⟨rfl, s4⟩
              have S4 := Lib.hid s4
              clear s4 hS
              rw [show can ⟨2, true, 0, [], [], []⟩ false = true from rfl]
              go_wp2_with fail
              refine (ms_canB (i := 0) true S4.out rfl).mono ?_
              rintro e w5 ⟨rfl, s5⟩
              have S5 := Lib.hid s5
              clear s5 S4
              rw [show can ⟨2, true, 0, [], [], []⟩ true = false from rfl]
              go_wp2_with fail
              refine (ms_cap (i := 0) S5.out rfl).mono ?_
              rintro e w' ⟨rfl, rfl⟩
              go_wp2_with fail
              refine (ms_drop_kind (i := 0) S5.out rfl (by simp)).mono ?_
              rintro e w' ⟨rfl, rfl⟩
              go_wp2_with fail
              refine (awake_any _).mono ?_
              rintro e w' ⟨rfl, hb⟩
              have HB := Lib.hid (S5.out.bel.trans (hb.mono S5.out.bel.size))
              clear hb S5
              go_wp2_with fail
              go_ret
              exact ⟨rfl, HB.out⟩
theorem signal_out (n m : Int) (W : World) (h : n < 0 ∨ 20 < n ∨ m < 0 ∨ 10 < m) : Calls Try.prog 9 #[.int .i64 n, .int .i64 m] W (BoolR true W) := by
  by_cases d1 : n < 0
  · clear h
    go_enter Try.func9, Try.ntmps9
    go_wp2_with fail
    refine (awake_any W).mono ?_
    rintro e w' ⟨rfl, hb⟩
    have HB := Lib.hid hb
    clear hb
    go_wp2_with fail
    go_ret
    exact ⟨rfl, HB.out⟩
  by_cases d2 : 20 < n
  · clear h
    go_enter Try.func9, Try.ntmps9
    go_wp2_with fail
    refine (awake_any W).mono ?_
    rintro e w' ⟨rfl, hb⟩
    have HB := Lib.hid hb
    clear hb
    go_wp2_with fail
    go_ret
    exact ⟨rfl, HB.out⟩
  by_cases d3 : m < 0
  · clear h
    go_enter Try.func9, Try.ntmps9
    go_wp2_with fail
    refine (awake_any W).mono ?_
    rintro e w' ⟨rfl, hb⟩
    have HB := Lib.hid hb
    clear hb
    go_wp2_with fail
    go_ret
    exact ⟨rfl, HB.out⟩
  · have d4 : 10 < m := by omega
    clear h
    go_enter Try.func9, Try.ntmps9
    go_wp2_with fail
    refine (awake_any W).mono ?_
    rintro e w' ⟨rfl, hb⟩
    have HB := Lib.hid hb
    clear hb
    go_wp2_with fail
    go_ret
    exact ⟨rfl, HB.out⟩
theorem signal_walk (n m : Int) (W : World) : Calls Try.prog 9 #[.int .i64 n, .int .i64 m] W (BoolR true W) := by
  by_cases h : n < 0 ∨ 20 < n ∨ m < 0 ∨ 10 < m
  · exact signal_out n m W h
  · obtain ⟨n, rfl⟩ := Int.eq_ofNat_of_zero_le (show 0 ≤ n by omega)
    obtain ⟨m, rfl⟩ := Int.eq_ofNat_of_zero_le (show 0 ≤ m by omega)
    exact signal_in n m W (by omega) (by omega)
end Go.Proofs.Ytnldodpmfkekbaa
