/- The document's own Do. Conditions: each theorem's own premises. -/
import Derived.Test.YtmcacmbllpphiaaMq
import Derived.Test.YtmcacmbllpphiaaDd
import Derived.Deep.RegionHeld3
namespace Go.Proofs.Ytmcacmbllpphiaa
open Go.RowKit
set_option linter.unusedVariables false

theorem wrg_none {T : List CS} {l : List Ca} : ∀ n, n ≤ l.length → wrg T l n = none → ∀ k x, k < n → l[k]? = some x → kndO T x = false
  | 0, _, _, k, x, hk, _ => by omega
  | n + 1, hn, h, k, x, hk, hx => by
    have hy : l[n]? = some l[n] := List.getElem?_eq_getElem (by omega)
    have h0 : wrg T l n = none := by
      cases hw : wrg T l n with
      | none => rfl
      | some i => rw [wrg_some hw] at h; cases h
    have h1 : kndO T l[n] = false := by
      cases hq : kndO T l[n] with
      | false => rfl
      | true => rw [wrg_set hy hq h0] at h; cases h
    by_cases e : k = n
    · subst e; rw [hy] at hx; cases hx; exact h1
    · exact wrg_none n (by omega) h0 k x (by omega) hx
theorem wrg_at {T : List CS} {l : List Ca} {i : Nat} : ∀ n, n ≤ l.length → wrg T l n = some i → i < n ∧ (∃ x, l[i]? = some x ∧ kndO T x = true) ∧ ∀ k x, k < i → l[k]? = some x → kndO T x = false
  | 0, _, h => by cases h
  | n + 1, hn, h => by
    have hy : l[n]? = some l[n] := List.getElem?_eq_getElem (by omega)
    cases hw : wrg T l n with
    | some j =>
      rw [wrg_some hw] at h
      cases h
      obtain ⟨h1, h2, h3⟩ := wrg_at n (by omega) hw
      exact ⟨by omega, h2, h3⟩
    | none =>
      cases hq : kndO T l[n] with
      | false => rw [wrg_same hy hq, hw] at h; cases h
      | true =>
        rw [wrg_set hy hq hw] at h
        cases h
        exact ⟨by omega, ⟨_, hy, hq⟩, fun k x hk hx => wrg_none _ (by omega) hw k x hk hx⟩
theorem al51 (w : World) : (w.alloc (.cells #[.int .i64 0, .int .i64 0, .bool false, .bool false, .bool false, .bool false] 51)).heap[w.heap.size]? = some (.cells #[.int .i64 0, .int .i64 0, .bool false, .bool false, .bool false, .bool false] 51 (0, 0)) := heap_alloc_new _ _
section
variable {W w w' : World} {B C : List Nat} {S T : List CS} {F : Nat → Prop} {X : List Nat} {A : Option Addr} {n : Nat} {l : List Ca}
theorem rdk_set51 {A : Option Addr} {n : Nat} {l : List Wk} {g i : Nat} {cs : Array Value} (h : RdK w A n l) (hg : w.heap[g]? = some (.cells cs 51 (0, 0))) (v : Value) : RdK (w.setCell ⟨g, i, none⟩ v) A n l :=
  h.keep fun b ds e => Below.heap_setCell _ _ _ _ (tag_ne e hg (by decide))
/-- A Result is written whole. -/
theorem PX.res {N : Nat} {a0 a1 a2 a3 a4 a5 b0 b1 b2 b3 b4 b5 : Value} {A : Option Addr} {n : Nat} {l : List Wk} (h : PX W B S C T F X w) (hr : RdK w A n l) (hg : w.heap[N]? = some (.cells #[a0, a1, a2, a3, a4, a5] 51 (0, 0))) (hN : N ∈ X) (hW : W.heap.size ≤ N) :
    PX W B S C T F X ((((((w.setCell ⟨N, 0, none⟩ b0).setCell ⟨N, 1, none⟩ b1).setCell ⟨N, 2, none⟩ b2).setCell ⟨N, 3, none⟩ b3).setCell ⟨N, 4, none⟩ b4).setCell ⟨N, 5, none⟩ b5) ∧
    RdK ((((((w.setCell ⟨N, 0, none⟩ b0).setCell ⟨N, 1, none⟩ b1).setCell ⟨N, 2, none⟩ b2).setCell ⟨N, 3, none⟩ b3).setCell ⟨N, 4, none⟩ b4).setCell ⟨N, 5, none⟩ b5) A n l := by
  have g1 := heap_setCell_same w N 0 _ _ b0 hg
  have g2 := heap_setCell_same _ N 1 _ _ b1 g1
  have g3 := heap_setCell_same _ N 2 _ _ b2 g2
  have g4 := heap_setCell_same _ N 3 _ _ b3 g3
  have g5 := heap_setCell_same _ N 4 _ _ b4 g4
  exact ⟨(((((h.set hN hW _).set hN hW _).set hN hW _).set hN hW _).set hN hW _).set hN hW _, rdk_set51 (rdk_set51 (rdk_set51 (rdk_set51 (rdk_set51 (rdk_set51 hr hg _) g1 _) g2 _) g3 _) g4 _) g5 _⟩
theorem Kf.set {g i : Nat} {v : Value} (h : Kf F C w w') (hg : w.heap.size ≤ g) : Kf F C w (w'.setCell ⟨g, i, none⟩ v) :=
  ⟨by rw [size_set]; exact h.1, fun k hk hf hc => (Below.heap_setCell _ _ _ _ (by show k ≠ g; omega)).trans (h.2 k hk hf hc)⟩
theorem Kf.res {N : Nat} {b0 b1 b2 b3 b4 b5 : Value} (h : Kf F C w w') (hg : w.heap.size ≤ N) : Kf F C w ((((((w'.setCell ⟨N, 0, none⟩ b0).setCell ⟨N, 1, none⟩ b1).setCell ⟨N, 2, none⟩ b2).setCell ⟨N, 3, none⟩ b3).setCell ⟨N, 4, none⟩ b4).setCell ⟨N, 5, none⟩ b5) :=
  (((((h.set hg).set hg).set hg).set hg).set hg).set hg
/-- What a case's channel shows of its kind. -/
theorem px_kind (x : Ca) (h : PC W B S C T F w) (hg : GdT 1000 T) (hs : x.s = true) : (ptr C x = none ∧ kndO T x = false) ∨ ∃ (c : Nat) (s : CS), ptr C x = some ⟨c, 0, none⟩ ∧ s.kd ≤ 2 ∧ kndO T x = !(s.kd == 0) ∧ w.cell? ⟨c, 1, none⟩ = some (.bool (s.kd == 1)) ∧ w.cell? ⟨c, 2, none⟩ = some (.bool (s.kd == 2)) ∧ c < w.heap.size := by
  rcases h.caseM x with ⟨h1, h2⟩ | ⟨j, c, s, _, hb, hS, h1, h2⟩
  · exact .inl ⟨h1, by unfold kndO; rw [h2]⟩
  · obtain ⟨_, vb, q, r, hx⟩ := h.md j c s hb hS
    exact .inr ⟨c, s, h1, (hg.at hS).1, by unfold kndO; rw [h2, hs]; rfl, hx.c1, hx.c2, hx.lt⟩
def MDR (W : World) (B : List Nat) (S : List CS) (C : List Nat) (F : Nat → Prop) (g : List CS × Re × List Wk × Int) (w : World) (e : Ending) (w' : World) : Prop :=
  ∃ A cap, e = .returned (.tuple #[reG g.2.1, .slice A g.2.2.1.length cap, .int .i64 g.2.2.2]) ∧ RdK w' A g.2.2.1.length g.2.2.1 ∧ PC W B S C g.1 F w' ∧ Kf F C w w'
set_option maxRecDepth 100000 in
set_option maxHeartbeats 4000000 in
theorem mDo_arg {cap : Nat} (df : Bool) (draw task : Int) (h : PC W B S C T F w) (hn : 16 < n ∨ task < 0) (hn2 : n ≤ 1000) : Calls Try.prog 17 #[.slice A n cap, .bool df, .int .i64 draw, .int .i64 task] w (MDR W B S C F (T, ⟨0, 0, false, false, false, false⟩, [], 1) w) := by
  have HP := Lib.hid (h.later (below_al w (.cells #[.int .i64 0, .int .i64 0, .bool false, .bool false, .bool false, .bool false] 51)))
  have HK := Lib.hid (Kf.of_below (F := F) (C := C) (below_al w (.cells #[.int .i64 0, .int .i64 0, .bool false, .bool false, .bool false, .bool false] 51)))
  by_cases h1 : 16 < n
  · have b1 : 16 < (n : Int) := by omega
    clear h hn
    go_enter Try.func17, Try.ntmps17
    go_wp2_with fail
    refine bodyPost_ret (v := .tuple #[reG ⟨0, 0, false, false, false, false⟩, .slice none 0 0, .int .i64 1]) ?_ rfl ⟨none, 0, rfl, RdK.nil _ _, HP.out, HK.out⟩
    rw [results_cell_tmp2 rfl]; go_simp; rfl
  · have b1 : ¬ 16 < (n : Int) := by omega
    have b2 : task < 0 := by omega
    clear h hn
    go_enter Try.func17, Try.ntmps17
    go_wp2_with fail
    refine bodyPost_ret (v := .tuple #[reG ⟨0, 0, false, false, false, false⟩, .slice none 0 0, .int .i64 1]) ?_ rfl ⟨none, 0, rfl, RdK.nil _ _, HP.out, HK.out⟩
    rw [results_cell_tmp2 rfl]; go_simp; rfl
set_option maxRecDepth 100000 in
set_option maxHeartbeats 8000000 in
theorem mDo_wrong {cap i : Nat} (df : Bool) (draw task : Int) (h : PC W B S C T F w) (hg : GdT 100 T) (hl : RdX 97 C w A n l) (hn : n ≤ 16) (ht : 0 ≤ task) (hw : wrg T l l.length = some i) : Calls Try.prog 17 #[.slice A n cap, .bool df, .int .i64 draw, .int .i64 task] w (MDR W B S C F (T, ⟨i, 0, false, false, false, true⟩, [], 0) w) := by
  have HN0 := Lib.hid hl.1
  have HX1 := Lib.hid (hl.later (below_al w (.cells #[.int .i64 0, .int .i64 0, .bool false, .bool false, .bool false, .bool false] 51)))
  have HP1 := Lib.hid ((PX.start h).add (.cells #[.int .i64 0, .int .i64 0, .bool false, .bool false, .bool false, .bool false] 51))
  have HK1 := Lib.hid (Kf.of_below (F := F) (C := C) (below_al w (.cells #[.int .i64 0, .int .i64 0, .bool false, .bool false, .bool false, .bool false] 51)))
  have HR1 := Lib.hid (al51 w)
  have HW := Lib.hid h.bel.size
  have HG := Lib.hid hg
  have b1 : ¬ 16 < (n : Int) := by omega
  have b2 : ¬ task < 0 := by omega
  have b3 : (n : Int) ≤ 16 := by omega
  have b4 : 0 ≤ (n : Int) := by omega
  obtain ⟨hi1, ⟨y, hy, hyk⟩, hlow⟩ := wrg_at _ (Nat.le_refl _) hw
  have hin : i < n := by rw [← hl.1]; exact hi1
  have HQ := Lib.hid hlow
  have HY := Lib.hid hy
  have HYK := Lib.hid hyk
  clear h hl hw hy hyk hlow hi1 hg
  go_enter Try.func17, Try.ntmps17
  go_wp2_with fail
  go_loopw [11] (fun z wr => ∃ k : Nat, k ≤ i ∧ z = .int .i64 k ∧ wr = w.alloc (.cells #[.int .i64 0, .int .i64 0, .bool false, .bool false, .bool false, .bool false] 51)) (fun z _ => i - (intOf z).toNat)
  case atStart => exact ⟨0, by omega, rfl, rfl⟩
  case round =>
    obtain ⟨k, hk, rfl, rfl⟩ := hrel
    by_cases hlt : k < i
    · have k1 : (k : Int) < (n : Int) := by omega
      have k2 : 0 ≤ (k : Int) := by omega
      have hkl : k < l.length := by rw [HN0.out]; omega
      have hx : l[k]? = some (l[k]'hkl) := List.getElem?_eq_getElem hkl
      obtain ⟨bb, off, cs, rfl, hbb, c0, c1, _⟩ := HX1.out.at hx
      have HKN := Lib.hid (HQ.out k _ hlt hx)
      generalize l[k]'hkl = x at *
      have hkn := HKN.out
      cases hs : x.s with
      | false =>
        rw [hs] at c1
        clear hx hkl hbb hkn
        go_wp2_with fail
        go_roundw
        case rel => exact ⟨k + 1, by omega, by go_num, trivial⟩
        case measure => simp [intOf]; omega
      | true =>
        rw [hs] at c1
        rcases px_kind x HP1.out.pc (HG.out.mono (by omega)) hs with ⟨e0, _⟩ | ⟨c, s, e0, hk2, hk3, d1, d2, d3⟩
        · rw [e0] at c0
          clear hx hkl hbb hkn
          go_wp2_with fail
          go_roundw
          case rel => exact ⟨k + 1, by omega, by go_num, trivial⟩
          case measure => simp [intOf]; omega
        · rw [e0] at c0
          rw [hk3] at hkn
          have hk0 : s.kd = 0 := by simpa using hkn
          rw [hk0] at d1 d2
          have d1 : (w.alloc (.cells #[.int .i64 0, .int .i64 0, .bool false, .bool false, .bool false, .bool false] 51)).cell? ⟨c, 1, none⟩ = some (.bool false) := d1
          have d2 : (w.alloc (.cells #[.int .i64 0, .int .i64 0, .bool false, .bool false, .bool false, .bool false] 51)).cell? ⟨c, 2, none⟩ = some (.bool false) := d2
          clear hx hkl hbb hkn hk3 hk2 hk0
          go_wp2_with fail
          go_roundw
          case rel => exact ⟨k + 1, by omega, by go_num, trivial⟩
          case measure => simp [intOf]; omega
    · obtain rfl : k = i := by omega
      have k1 : (k : Int) < (n : Int) := by omega
      have k2 : 0 ≤ (k : Int) := by omega
      obtain ⟨bb, off, cs, rfl, hbb, c0, c1, _⟩ := HX1.out.at HY.out
      have hs : y.s = true := by
        cases hq : y.s with
        | true => rfl
        | false => have := HYK.out; unfold kndO at this; cases hc : chO T y <;> rw [hc] at this <;> simp [hq] at this
      rw [hs] at c1
      rcases px_kind y HP1.out.pc (HG.out.mono (by omega)) hs with ⟨_, e1⟩ | ⟨c, s, e0, hk2, hk3, d1, d2, d3⟩
      · rw [HYK.out] at e1; cases e1
      rw [e0] at c0
      have hk0 : s.kd = 1 ∨ s.kd = 2 := by
        have := HYK.out
        rw [hk3] at this
        have : s.kd ≠ 0 := by simpa using this
        omega
      have hkN := HR1.out
      have HR := Lib.hid (HP1.out.res (b0 := .int .i64 k) (b1 := .int .i64 0) (b2 := .bool false) (b3 := .bool false) (b4 := .bool false) (b5 := .bool true) (RdK.nil _ none) hkN (by simp) HW.out)
      have HKR := Lib.hid (HK1.out.res (N := w.heap.size) (b0 := .int .i64 k) (b1 := .int .i64 0) (b2 := .bool false) (b3 := .bool false) (b4 := .bool false) (b5 := .bool true) (Nat.le_refl _))
      generalize w.alloc (.cells #[.int .i64 0, .int .i64 0, .bool false, .bool false, .bool false, .bool false] 51) = w1 at *
      generalize w.heap.size = N at *
      have fN0 := frozen_of_row w1 N 0 _ _ hkN
      have fN1 := frozen_of_row w1 N 1 _ _ hkN
      have fN2 := frozen_of_row w1 N 2 _ _ hkN
      have fN3 := frozen_of_row w1 N 3 _ _ hkN
      have fN4 := frozen_of_row w1 N 4 _ _ hkN
      have fN5 := frozen_of_row w1 N 5 _ _ hkN
      have aN0 := cell_of_row w1 N 0 _ _ _ hkN
      have aN1 := cell_of_row w1 N 1 _ _ _ hkN
      have aN2 := cell_of_row w1 N 2 _ _ _ hkN
      have aN3 := cell_of_row w1 N 3 _ _ _ hkN
      have aN4 := cell_of_row w1 N 4 _ _ _ hkN
      have aN5 := cell_of_row w1 N 5 _ _ _ hkN
      simp only [List.getElem?_toArray, List.getElem?_cons_succ, List.getElem?_cons_zero] at aN0 aN1 aN2 aN3 aN4 aN5
      have hNsN := lt_of_blk hkN
      clear hkN hbb hk3 hk2 HP1 HK1 HR1 HX1
      rcases hk0 with hk0 | hk0
      · rw [hk0] at d1
        have d1 : w1.cell? ⟨c, 1, none⟩ = some (.bool true) := d1
        clear d2
        go_wp2_with fail
        refine bodyPost_ret (v := .tuple #[reG ⟨k, 0, false, false, false, true⟩, .slice none 0 0, .int .i64 0]) ?_ rfl ⟨none, 0, rfl, HR.out.2, HR.out.1.pc, HKR.out⟩
        rw [results_cell_tmp2 rfl]; go_simp; rfl
      · rw [hk0] at d1 d2
        have d1 : w1.cell? ⟨c, 1, none⟩ = some (.bool false) := d1
        have d2 : w1.cell? ⟨c, 2, none⟩ = some (.bool true) := d2
        go_wp2_with fail
        refine bodyPost_ret (v := .tuple #[reG ⟨k, 0, false, false, false, true⟩, .slice none 0 0, .int .i64 0]) ?_ rfl ⟨none, 0, rfl, HR.out.2, HR.out.1.pc, HKR.out⟩
        rw [results_cell_tmp2 rfl]; go_simp; rfl
set_option maxRecDepth 100000 in
set_option maxHeartbeats 8000000 in
theorem mDo_def {cap : Nat} (draw task : Int) (h : PC W B S C T F w) (hg : GdT 100 T) (hl : RdX 97 C w A n l) (hn : n ≤ 16) (ht : 0 ≤ task) (hw : wrg T l l.length = none) (hr : rdy T l l.length = []) : Calls Try.prog 17 #[.slice A n cap, .bool true, .int .i64 draw, .int .i64 task] w (MDR W B S C F (T, ⟨-1, 0, false, false, false, false⟩, [], 0) w) := by
  have HN0 := Lib.hid hl.1
  have HX1 := Lib.hid (hl.later (below_al w (.cells #[.int .i64 0, .int .i64 0, .bool false, .bool false, .bool false, .bool false] 51)))
  have HP1 := Lib.hid ((PX.start h).add (.cells #[.int .i64 0, .int .i64 0, .bool false, .bool false, .bool false, .bool false] 51))
  have HK1 := Lib.hid (Kf.of_below (F := F) (C := C) (below_al w (.cells #[.int .i64 0, .int .i64 0, .bool false, .bool false, .bool false, .bool false] 51)))
  have HR1 := Lib.hid (al51 w)
  have HW := Lib.hid h.bel.size
  have HG := Lib.hid hg
  have b1 : ¬ 16 < (n : Int) := by omega
  have b2 : ¬ task < 0 := by omega
  have b3 : (n : Int) ≤ 16 := by omega
  have b4 : 0 ≤ (n : Int) := by omega
  have HQ := Lib.hid (fun k x (hk : k < n) hx => wrg_none _ (Nat.le_refl _) hw k x (by rw [hl.1]; exact hk) hx)
  have HE := Lib.hid hr
  clear h hl hw hr hg
  go_enter Try.func17, Try.ntmps17
  go_wp2_with fail
  go_loopw [11] (fun z wr => ∃ k : Nat, k ≤ n ∧ z = .int .i64 k ∧ wr = w.alloc (.cells #[.int .i64 0, .int .i64 0, .bool false, .bool false, .bool false, .bool false] 51)) (fun z _ => n - (intOf z).toNat)
  case atStart => exact ⟨0, by omega, rfl, rfl⟩
  case round =>
    obtain ⟨k, hk, rfl, rfl⟩ := hrel
    by_cases hlt : k < n
    · have k1 : (k : Int) < (n : Int) := by omega
      have k2 : 0 ≤ (k : Int) := by omega
      have hkl : k < l.length := by rw [HN0.out]; omega
      have hx : l[k]? = some (l[k]'hkl) := List.getElem?_eq_getElem hkl
      obtain ⟨bb, off, cs, rfl, hbb, c0, c1, _⟩ := HX1.out.at hx
      have HKN := Lib.hid (HQ.out k _ (by omega) hx)
      generalize l[k]'hkl = x at *
      have hkn := HKN.out
      cases hs : x.s with
      | false =>
        rw [hs] at c1
        clear hx hkl hbb hkn
        go_wp2_with fail
        go_roundw
        case rel => exact ⟨k + 1, by omega, by go_num, trivial⟩
        case measure => simp [intOf]; omega
      | true =>
        rw [hs] at c1
        rcases px_kind x HP1.out.pc (HG.out.mono (by omega)) hs with ⟨e0, _⟩ | ⟨c, s, e0, hk2, hk3, d1, d2, d3⟩
        · rw [e0] at c0
          clear hx hkl hbb hkn
          go_wp2_with fail
          go_roundw
          case rel => exact ⟨k + 1, by omega, by go_num, trivial⟩
          case measure => simp [intOf]; omega
        · rw [e0] at c0
          rw [hk3] at hkn
          have hk0 : s.kd = 0 := by simpa using hkn
          rw [hk0] at d1 d2
          have d1 : (w.alloc (.cells #[.int .i64 0, .int .i64 0, .bool false, .bool false, .bool false, .bool false] 51)).cell? ⟨c, 1, none⟩ = some (.bool false) := d1
          have d2 : (w.alloc (.cells #[.int .i64 0, .int .i64 0, .bool false, .bool false, .bool false, .bool false] 51)).cell? ⟨c, 2, none⟩ = some (.bool false) := d2
          clear hx hkl hbb hkn hk3 hk2 hk0
          go_wp2_with fail
          go_roundw
          case rel => exact ⟨k + 1, by omega, by go_num, trivial⟩
          case measure => simp [intOf]; omega
    · obtain rfl : k = n := by omega
      have HRD := Lib.hid (mready_any (cap := cap) HP1.out.pc (HG.out.mono (by omega)) HX1.out (by omega))
      rw [HE.out] at HRD
      simp only [List.length_nil] at HRD
      clear HQ
      go_wp2_with fail
      refine HRD.out.mono ?_
      rintro e w2 ⟨A2, k2, rfl, _, hb2⟩
      have HP2 := Lib.hid (HP1.out.later hb2)
      have HK2 := Lib.hid (HK1.out.trans (fun b hb => .inl hb) (Kf.of_below (F := F) hb2))
      have HX2 := Lib.hid (HX1.out.later hb2)
      have HR2 := Lib.hid ((hb2.block _ (lt_of_blk HR1.out)).trans HR1.out)
      clear hb2 HRD HP1 HK1 HX1 HR1
      have hkN := HR2.out
      have HR := Lib.hid (HP2.out.res (b0 := .int .i64 (-1)) (b1 := .int .i64 0) (b2 := .bool false) (b3 := .bool false) (b4 := .bool false) (b5 := .bool false) (RdK.nil _ none) hkN (by simp) HW.out)
      have HKR := Lib.hid (HK2.out.res (N := w.heap.size) (b0 := .int .i64 (-1)) (b1 := .int .i64 0) (b2 := .bool false) (b3 := .bool false) (b4 := .bool false) (b5 := .bool false) (Nat.le_refl _))
      generalize w.heap.size = N at *
      have fN0 := frozen_of_row w2 N 0 _ _ hkN
      have fN1 := frozen_of_row w2 N 1 _ _ hkN
      have fN2 := frozen_of_row w2 N 2 _ _ hkN
      have fN3 := frozen_of_row w2 N 3 _ _ hkN
      have fN4 := frozen_of_row w2 N 4 _ _ hkN
      have fN5 := frozen_of_row w2 N 5 _ _ hkN
      have aN0 := cell_of_row w2 N 0 _ _ _ hkN
      have aN1 := cell_of_row w2 N 1 _ _ _ hkN
      have aN2 := cell_of_row w2 N 2 _ _ _ hkN
      have aN3 := cell_of_row w2 N 3 _ _ _ hkN
      have aN4 := cell_of_row w2 N 4 _ _ _ hkN
      have aN5 := cell_of_row w2 N 5 _ _ _ hkN
      simp only [List.getElem?_toArray, List.getElem?_cons_succ, List.getElem?_cons_zero] at aN0 aN1 aN2 aN3 aN4 aN5
      have hNsN := lt_of_blk hkN
      clear hkN HP2 HK2 HR2 HX2
      go_wp2_with fail
      refine bodyPost_ret (v := .tuple #[reG ⟨-1, 0, false, false, false, false⟩, .slice none 0 0, .int .i64 0]) ?_ rfl ⟨none, 0, rfl, HR.out.2, HR.out.1.pc, HKR.out⟩
      rw [results_cell_tmp2 rfl]; go_simp; rfl
set_option maxRecDepth 100000 in
set_option maxHeartbeats 8000000 in
theorem mDo_park {cap : Nat} (draw task : Int) (h : PC W B S C T F w) (hg : GdT 100 T) (hl : RdX 97 C w A n l) (hn : n ≤ 16) (ht : 0 ≤ task) (hw : wrg T l l.length = none) (hr : rdy T l l.length = []) : Calls Try.prog 17 #[.slice A n cap, .bool false, .int .i64 draw, .int .i64 task] w (MDR W B S C F (pkS T l task l.length, ⟨-1, 0, false, false, true, false⟩, [], 0) w) := by
  have HN0 := Lib.hid hl.1
  have HX1 := Lib.hid (hl.later (below_al w (.cells #[.int .i64 0, .int .i64 0, .bool false, .bool false, .bool false, .bool false] 51)))
  have HP1 := Lib.hid ((PX.start h).add (.cells #[.int .i64 0, .int .i64 0, .bool false, .bool false, .bool false, .bool false] 51))
  have HK1 := Lib.hid (Kf.of_below (F := F) (C := C) (below_al w (.cells #[.int .i64 0, .int .i64 0, .bool false, .bool false, .bool false, .bool false] 51)))
  have HR1 := Lib.hid (al51 w)
  have HW := Lib.hid h.bel.size
  have HG := Lib.hid hg
  have b1 : ¬ 16 < (n : Int) := by omega
  have b2 : ¬ task < 0 := by omega
  have b3 : (n : Int) ≤ 16 := by omega
  have b4 : 0 ≤ (n : Int) := by omega
  have HQ := Lib.hid (fun k x (hk : k < n) hx => wrg_none _ (Nat.le_refl _) hw k x (by rw [hl.1]; exact hk) hx)
  have HE := Lib.hid hr
  clear h hl hw hr hg
  go_enter Try.func17, Try.ntmps17
  go_wp2_with fail
  go_loopw [11] (fun z wr => ∃ k : Nat, k ≤ n ∧ z = .int .i64 k ∧ wr = w.alloc (.cells #[.int .i64 0, .int .i64 0, .bool false, .bool false, .bool false, .bool false] 51)) (fun z _ => n - (intOf z).toNat)
  case atStart => exact ⟨0, by omega, rfl, rfl⟩
  case round =>
    obtain ⟨k, hk, rfl, rfl⟩ := hrel
    by_cases hlt : k < n
    · have k1 : (k : Int) < (n : Int) := by omega
      have k2 : 0 ≤ (k : Int) := by omega
      have hkl : k < l.length := by rw [HN0.out]; omega
      have hx : l[k]? = some (l[k]'hkl) := List.getElem?_eq_getElem hkl
      obtain ⟨bb, off, cs, rfl, hbb, c0, c1, _⟩ := HX1.out.at hx
      have HKN := Lib.hid (HQ.out k _ (by omega) hx)
      generalize l[k]'hkl = x at *
      have hkn := HKN.out
      cases hs : x.s with
      | false =>
        rw [hs] at c1
        clear hx hkl hbb hkn
        go_wp2_with fail
        go_roundw
        case rel => exact ⟨k + 1, by omega, by go_num, trivial⟩
        case measure => simp [intOf]; omega
      | true =>
        rw [hs] at c1
        rcases px_kind x HP1.out.pc (HG.out.mono (by omega)) hs with ⟨e0, _⟩ | ⟨c, s, e0, hk2, hk3, d1, d2, d3⟩
        · rw [e0] at c0
          clear hx hkl hbb hkn
          go_wp2_with fail
          go_roundw
          case rel => exact ⟨k + 1, by omega, by go_num, trivial⟩
          case measure => simp [intOf]; omega
        · rw [e0] at c0
          rw [hk3] at hkn
          have hk0 : s.kd = 0 := by simpa using hkn
          rw [hk0] at d1 d2
          have d1 : (w.alloc (.cells #[.int .i64 0, .int .i64 0, .bool false, .bool false, .bool false, .bool false] 51)).cell? ⟨c, 1, none⟩ = some (.bool false) := d1
          have d2 : (w.alloc (.cells #[.int .i64 0, .int .i64 0, .bool false, .bool false, .bool false, .bool false] 51)).cell? ⟨c, 2, none⟩ = some (.bool false) := d2
          clear hx hkl hbb hkn hk3 hk2 hk0
          go_wp2_with fail
          go_roundw
          case rel => exact ⟨k + 1, by omega, by go_num, trivial⟩
          case measure => simp [intOf]; omega
    · obtain rfl : k = n := by omega
      have HRD := Lib.hid (mready_any (cap := cap) HP1.out.pc (HG.out.mono (by omega)) HX1.out (by omega))
      rw [HE.out] at HRD
      simp only [List.length_nil] at HRD
      clear HQ
      go_wp2_with fail
      refine HRD.out.mono ?_
      rintro e w2 ⟨A2, k2, rfl, _, hb2⟩
      have HP2 := Lib.hid (HP1.out.later hb2)
      have HK2 := Lib.hid (HK1.out.trans (fun b hb => .inl hb) (Kf.of_below (F := F) hb2))
      have HX2 := Lib.hid (HX1.out.later hb2)
      have HR2 := Lib.hid ((hb2.block _ (lt_of_blk HR1.out)).trans HR1.out)
      clear hb2 HRD HP1 HK1 HX1 HR1
      go_wp2_with fail
      go_loopw [22] (fun i wr => ∃ i' : Nat, i' ≤ k ∧ i = .int .i64 i' ∧ Hid (PL W B S C (pkS T l task i') F [w.heap.size] w A k l wr ∧ wr.heap[w.heap.size]? = some (.cells #[.int .i64 0, .int .i64 0, .bool false, .bool false, .bool false, .bool false] 51 (0, 0)))) (fun i _ => k - (intOf i).toNat)
      case atStart => exact ⟨0, by omega, rfl, ⟨HP2.out, HK2.out, HX2.out⟩, HR2.out⟩
      case round =>
      clear HP2 HK2 HX2 HR2
      obtain ⟨i, hi2, rfl, hT⟩ := hrel
      by_cases hlt2 : i < k
      · have k1 : (i : Int) < (k : Int) := by omega
        have k2 : 0 ≤ (i : Int) := by omega
        have hil : i < l.length := by rw [HN0.out]; omega
        have hx : l[i]? = some (l[i]'hil) := List.getElem?_eq_getElem hil
        have HK := Lib.hid hx
        obtain ⟨bb, off, cs, rfl, hbb, c0, c1, c2⟩ := hT.out.1.rd.at hx
        have hbs := lt_of_blk hbb
        generalize l[i]'hil = x at *
        cases hs : x.s with
        | true =>
         rw [hs] at c1
         have HS1 := Lib.hid (PL.later hT.out.1 (below_al wr (.cells #[.int .i64 task, .int .i64 i, .int .i64 x.v] 35)))
         have HA1 : Hid ((wr.alloc (.cells #[.int .i64 task, .int .i64 i, .int .i64 x.v] 35)).heap[wr.heap.size]? = some (.cells #[.int .i64 task, .int .i64 i, .int .i64 x.v] 35 (0, 0))) := heap_alloc_new _ _
         have HB1 := Lib.hid (below_al wr (.cells #[.int .i64 task, .int .i64 i, .int .i64 x.v] 35))
         have HR3 := Lib.hid ((HB1.out.block _ (lt_of_blk hT.out.2)).trans hT.out.2)
         clear hT hbb hx
         go_wp2_with fail
         generalize hM : wr.heap.size = M at *
         generalize wr.alloc (.cells #[.int .i64 task, .int .i64 i, .int .i64 x.v] 35) = w3 at *
         obtain ⟨bb', off', cs', e', hbb', c0, c1, _⟩ := HS1.out.rd.at HK.out
         cases e'
         rw [hs] at c1
         have a0 := cell_of_row w3 M 0 _ _ _ HA1.out
         have a1 := cell_of_row w3 M 1 _ _ _ HA1.out
         have a2 := cell_of_row w3 M 2 _ _ _ HA1.out
         simp only [List.getElem?_toArray, List.getElem?_cons_succ, List.getElem?_cons_zero] at a0 a1 a2
         have HKP : Hid (∀ w', Hid (RdX 97 C w' (some ⟨bb, off, none⟩) k l ∧ w'.heap[M]? = some (.cells #[.int .i64 task, .int .i64 i, .int .i64 x.v] 35 (0, 0))) → w'.cell? ⟨bb, off + i * 3, none⟩ = some (.pointer (ptr C x)) ∧ w'.cell? ⟨bb, off + i * 3 + 1, none⟩ = some (.bool true) ∧ w'.cell? ⟨M, 0, none⟩ = some (.int .i64 task) ∧ w'.cell? ⟨M, 1, none⟩ = some (.int .i64 i) ∧ w'.cell? ⟨M, 2, none⟩ = some (.int .i64 x.v)) := by
           intro w' h
           obtain ⟨h1, h2⟩ := h.out
           obtain ⟨b9, o9, cs9, e9, _, q0, q1, _⟩ := h1.at HK.out
           cases e9
           rw [hs] at q1
           exact ⟨q0, q1, by rw [cell_of_row _ _ _ _ _ _ h2]; rfl, by rw [cell_of_row _ _ _ _ _ _ h2]; rfl, by rw [cell_of_row _ _ _ _ _ _ h2]; rfl⟩
         have HV0 : Hid (RdX 97 C w3.drew (some ⟨bb, off, none⟩) k l ∧ w3.drew.heap[M]? = some (.cells #[.int .i64 task, .int .i64 i, .int .i64 x.v] 35 (0, 0))) := ⟨HS1.out.rd.later (below_drewN (Below.refl _ _) 1), HA1.out⟩
         have HS2 := Lib.hid (HS1.out.later (below_drewN (Below.refl _ _) 1))
         have HR4 : Hid ((w3.drewN 1).heap[w.heap.size]? = some (.cells #[.int .i64 0, .int .i64 0, .bool false, .bool false, .bool false, .bool false] 51 (0, 0))) := HR3.out
         have HC : Hid (Calls Try.prog 36 #[.pointer (ptr C x), wG ⟨task, i, x.v⟩, .bool true] w3.drew fun e w' => (∃ r, e = .returned (.int .i64 r)) ∧ Hid (PL W B S C (pk1 (pkS T l task i) x task i) F [w.heap.size] w (some ⟨bb, off, none⟩) k l w' ∧ w'.heap[w.heap.size]? = some (.cells #[.int .i64 0, .int .i64 0, .bool false, .bool false, .bool false, .bool false] 51 (0, 0))) ∧ Hid (RdX 97 C w' (some ⟨bb, off, none⟩) k l ∧ w'.heap[M]? = some (.cells #[.int .i64 task, .int .i64 i, .int .i64 x.v] 35 (0, 0)))) := by
           have hc := px_wait x task i HS2.out.px ((HG.out.pS l task i).mono (by omega))
           rw [hs] at hc
           simp only [if_true] at hc
           refine hc.mono ?_
           rintro e w' ⟨hr, p, kf⟩
           exact ⟨hr, ⟨HS2.out.to p kf, HS2.out.px.row kf HR4.out o51⟩, ⟨(HS2.out.to p kf).rd, HS2.out.px.row kf HA1.out o35⟩⟩
         unfold wG at HC
         have hMs := lt_of_blk HA1.out
         clear HS1 HS2 HR3 HR4 HA1 HB1 hbb'
         go_wp2_with fail
         go_region_held3 (fun w' => w'.cell? ⟨bb, off + i * 3, none⟩ = some (.pointer (ptr C x)) ∧ w'.cell? ⟨bb, off + i * 3 + 1, none⟩ = some (.bool true) ∧ w'.cell? ⟨M, 0, none⟩ = some (.int .i64 task) ∧ w'.cell? ⟨M, 1, none⟩ = some (.int .i64 i) ∧ w'.cell? ⟨M, 2, none⟩ = some (.int .i64 x.v))
           (first
             | exact HKP.out _ HV0
             | exact HKP.out _ HV1)
           (first
             | (go_at_call 36; (with_reducible refine HC.out.mono ?_); rintro e v1 ⟨⟨r9, rfl⟩, HT1, HV1⟩))
         all_goals
           have HT2 : Hid (PL W B S C (pkS T l task (i + 1)) F [w.heap.size] w (some ⟨bb, off, none⟩) k l v1 ∧ v1.heap[w.heap.size]? = some (.cells #[.int .i64 0, .int .i64 0, .bool false, .bool false, .bool false, .bool false] 51 (0, 0))) := by rw [pkS_succ HK.out]; exact HT1
           clear HT1 HKP HC
           go_wp2_with fail
           go_roundw
           case rel => exact ⟨i + 1, by omega, by go_num, HT2⟩
           case measure => simp [intOf]; omega
        | false =>
         rw [hs] at c1
         have HS1 := Lib.hid (PL.later hT.out.1 (below_al wr (.cells #[.int .i64 task, .int .i64 i, .int .i64 0] 35)))
         have HA1 : Hid ((wr.alloc (.cells #[.int .i64 task, .int .i64 i, .int .i64 0] 35)).heap[wr.heap.size]? = some (.cells #[.int .i64 task, .int .i64 i, .int .i64 0] 35 (0, 0))) := heap_alloc_new _ _
         have HB1 := Lib.hid (below_al wr (.cells #[.int .i64 task, .int .i64 i, .int .i64 0] 35))
         have HR3 := Lib.hid ((HB1.out.block _ (lt_of_blk hT.out.2)).trans hT.out.2)
         clear hT hbb hx
         go_wp2_with fail
         generalize hM : wr.heap.size = M at *
         generalize wr.alloc (.cells #[.int .i64 task, .int .i64 i, .int .i64 0] 35) = w3 at *
         obtain ⟨bb', off', cs', e', hbb', c0, c1, _⟩ := HS1.out.rd.at HK.out
         cases e'
         rw [hs] at c1
         have a0 := cell_of_row w3 M 0 _ _ _ HA1.out
         have a1 := cell_of_row w3 M 1 _ _ _ HA1.out
         have a2 := cell_of_row w3 M 2 _ _ _ HA1.out
         simp only [List.getElem?_toArray, List.getElem?_cons_succ, List.getElem?_cons_zero] at a0 a1 a2
         have HKP : Hid (∀ w', Hid (RdX 97 C w' (some ⟨bb, off, none⟩) k l ∧ w'.heap[M]? = some (.cells #[.int .i64 task, .int .i64 i, .int .i64 0] 35 (0, 0))) → w'.cell? ⟨bb, off + i * 3, none⟩ = some (.pointer (ptr C x)) ∧ w'.cell? ⟨bb, off + i * 3 + 1, none⟩ = some (.bool false) ∧ w'.cell? ⟨M, 0, none⟩ = some (.int .i64 task) ∧ w'.cell? ⟨M, 1, none⟩ = some (.int .i64 i) ∧ w'.cell? ⟨M, 2, none⟩ = some (.int .i64 0)) := by
           intro w' h
           obtain ⟨h1, h2⟩ := h.out
           obtain ⟨b9, o9, cs9, e9, _, q0, q1, _⟩ := h1.at HK.out
           cases e9
           rw [hs] at q1
           exact ⟨q0, q1, by rw [cell_of_row _ _ _ _ _ _ h2]; rfl, by rw [cell_of_row _ _ _ _ _ _ h2]; rfl, by rw [cell_of_row _ _ _ _ _ _ h2]; rfl⟩
         have HV0 : Hid (RdX 97 C w3.drew (some ⟨bb, off, none⟩) k l ∧ w3.drew.heap[M]? = some (.cells #[.int .i64 task, .int .i64 i, .int .i64 0] 35 (0, 0))) := ⟨HS1.out.rd.later (below_drewN (Below.refl _ _) 1), HA1.out⟩
         have HS2 := Lib.hid (HS1.out.later (below_drewN (Below.refl _ _) 1))
         have HR4 : Hid ((w3.drewN 1).heap[w.heap.size]? = some (.cells #[.int .i64 0, .int .i64 0, .bool false, .bool false, .bool false, .bool false] 51 (0, 0))) := HR3.out
         have HC : Hid (Calls Try.prog 36 #[.pointer (ptr C x), wG ⟨task, i, 0⟩, .bool false] w3.drew fun e w' => (∃ r, e = .returned (.int .i64 r)) ∧ Hid (PL W B S C (pk1 (pkS T l task i) x task i) F [w.heap.size] w (some ⟨bb, off, none⟩) k l w' ∧ w'.heap[w.heap.size]? = some (.cells #[.int .i64 0, .int .i64 0, .bool false, .bool false, .bool false, .bool false] 51 (0, 0))) ∧ Hid (RdX 97 C w' (some ⟨bb, off, none⟩) k l ∧ w'.heap[M]? = some (.cells #[.int .i64 task, .int .i64 i, .int .i64 0] 35 (0, 0)))) := by
           have hc := px_wait x task i HS2.out.px ((HG.out.pS l task i).mono (by omega))
           rw [hs] at hc
           simp only [Bool.false_eq_true, if_false] at hc
           refine hc.mono ?_
           rintro e w' ⟨hr, p, kf⟩
           exact ⟨hr, ⟨HS2.out.to p kf, HS2.out.px.row kf HR4.out o51⟩, ⟨(HS2.out.to p kf).rd, HS2.out.px.row kf HA1.out o35⟩⟩
         unfold wG at HC
         have hMs := lt_of_blk HA1.out
         clear HS1 HS2 HR3 HR4 HA1 HB1 hbb'
         go_wp2_with fail
         go_region_held3 (fun w' => w'.cell? ⟨bb, off + i * 3, none⟩ = some (.pointer (ptr C x)) ∧ w'.cell? ⟨bb, off + i * 3 + 1, none⟩ = some (.bool false) ∧ w'.cell? ⟨M, 0, none⟩ = some (.int .i64 task) ∧ w'.cell? ⟨M, 1, none⟩ = some (.int .i64 i) ∧ w'.cell? ⟨M, 2, none⟩ = some (.int .i64 0))
           (first
             | exact HKP.out _ HV0
             | exact HKP.out _ HV1)
           (first
             | (go_at_call 36; (with_reducible refine HC.out.mono ?_); rintro e v1 ⟨⟨r9, rfl⟩, HT1, HV1⟩))
         all_goals
           have HT2 : Hid (PL W B S C (pkS T l task (i + 1)) F [w.heap.size] w (some ⟨bb, off, none⟩) k l v1 ∧ v1.heap[w.heap.size]? = some (.cells #[.int .i64 0, .int .i64 0, .bool false, .bool false, .bool false, .bool false] 51 (0, 0))) := by rw [pkS_succ HK.out]; exact HT1
           clear HT1 HKP HC
           go_wp2_with fail
           go_roundw
           case rel => exact ⟨i + 1, by omega, by go_num, HT2⟩
           case measure => simp [intOf]; omega
      · obtain rfl : i = k := by omega
        have hkN := hT.out.2
        have HT9 := Lib.hid hT.out.1
        have HR := Lib.hid (HT9.out.px.res (b0 := .int .i64 (-1)) (b1 := .int .i64 0) (b2 := .bool false) (b3 := .bool false) (b4 := .bool true) (b5 := .bool false) (RdK.nil _ none) hkN (by simp) HW.out)
        have HKR := Lib.hid (HT9.out.kf.res (N := w.heap.size) (b0 := .int .i64 (-1)) (b1 := .int .i64 0) (b2 := .bool false) (b3 := .bool false) (b4 := .bool true) (b5 := .bool false) (Nat.le_refl _))
        generalize w.heap.size = N at *
        have fN0 := frozen_of_row wr N 0 _ _ hkN
        have fN1 := frozen_of_row wr N 1 _ _ hkN
        have fN2 := frozen_of_row wr N 2 _ _ hkN
        have fN3 := frozen_of_row wr N 3 _ _ hkN
        have fN4 := frozen_of_row wr N 4 _ _ hkN
        have fN5 := frozen_of_row wr N 5 _ _ hkN
        have aN0 := cell_of_row wr N 0 _ _ _ hkN
        have aN1 := cell_of_row wr N 1 _ _ _ hkN
        have aN2 := cell_of_row wr N 2 _ _ _ hkN
        have aN3 := cell_of_row wr N 3 _ _ _ hkN
        have aN4 := cell_of_row wr N 4 _ _ _ hkN
        have aN5 := cell_of_row wr N 5 _ _ _ hkN
        simp only [List.getElem?_toArray, List.getElem?_cons_succ, List.getElem?_cons_zero] at aN0 aN1 aN2 aN3 aN4 aN5
        have hNsN := lt_of_blk hkN
        clear hkN hT HT9
        go_wp2_with fail
        refine bodyPost_ret (v := .tuple #[reG ⟨-1, 0, false, false, true, false⟩, .slice none 0 0, .int .i64 0]) ?_ rfl ⟨none, 0, rfl, HR.out.2, by rw [HN0.out]; exact HR.out.1.pc, HKR.out⟩
        rw [results_cell_tmp2 rfl]; go_simp; rfl
set_option maxRecDepth 100000 in
set_option maxHeartbeats 8000000 in
theorem mDo_send {cap q p : Nat} {x : Ca} (df : Bool) (draw task : Int) (h : PC W B S C T F w) (hg : GdT 100 T) (hl : RdX 97 C w A n l) (hn : n ≤ 16) (ht : 0 ≤ task) (hw : wrg T l l.length = none) (hq : draw % ((rdy T l l.length).length : Int) = (q : Int)) (hp : (rdy T l l.length)[q]? = some p) (hx : l[p]? = some x) (hc : canO T x = true) (hs : x.s = true) :
    Calls Try.prog 17 #[.slice A n cap, .bool df, .int .i64 draw, .int .i64 task] w (MDR W B S C F ((doX T x).1, { (doX T x).2.1 with i := p }, (doX T x).2.2, 0) w) := by
  have HN0 := Lib.hid hl.1
  have HX1 := Lib.hid (hl.later (below_al w (.cells #[.int .i64 0, .int .i64 0, .bool false, .bool false, .bool false, .bool false] 51)))
  have HP1 := Lib.hid ((PX.start h).add (.cells #[.int .i64 0, .int .i64 0, .bool false, .bool false, .bool false, .bool false] 51))
  have HK1 := Lib.hid (Kf.of_below (F := F) (C := C) (below_al w (.cells #[.int .i64 0, .int .i64 0, .bool false, .bool false, .bool false, .bool false] 51)))
  have HR1 := Lib.hid (al51 w)
  have HW := Lib.hid h.bel.size
  have HG := Lib.hid hg
  have b1 : ¬ 16 < (n : Int) := by omega
  have b2 : ¬ task < 0 := by omega
  have b3 : (n : Int) ≤ 16 := by omega
  have b4 : 0 ≤ (n : Int) := by omega
  have HQ := Lib.hid (fun k x (hk : k < n) hx => wrg_none _ (Nat.le_refl _) hw k x (by rw [hl.1]; exact hk) hx)
  have hlen := rdy_len T l l.length
  have hln : l.length = n := hl.1
  have hql : q < (rdy T l l.length).length := (List.getElem?_eq_some_iff.1 hp).1
  have hpl : p < n := by rw [← hln]; exact (List.getElem?_eq_some_iff.1 hx).1
  have HQP := Lib.hid (mpick_any draw (rdy T l l.length).length)
  have HRD := Lib.hid (mready_any (cap := cap) HP1.out.pc (HG.out.mono (by omega)) HX1.out (by omega))
  have HPP := Lib.hid hp
  have HXX := Lib.hid hx
  have HCC := Lib.hid hc
  have HSS := Lib.hid hs
  generalize rdy T l l.length = r at *
  rw [hq] at HQP
  have g1 : 0 < (r.length : Int) := by omega
  have g2 : (r.length : Int) ≤ 16 := by omega
  have g3 : (q : Int) < (r.length : Int) := by omega
  have g4 : (p : Int) < (n : Int) := by omega
  have g5 : 0 ≤ (q : Int) := by omega
  have g6 : 0 ≤ (p : Int) := by omega
  clear h hl hw hp hx hc hs hq hg
  go_enter Try.func17, Try.ntmps17
  go_wp2_with fail
  go_loopw [11] (fun z wr => ∃ k : Nat, k ≤ n ∧ z = .int .i64 k ∧ wr = w.alloc (.cells #[.int .i64 0, .int .i64 0, .bool false, .bool false, .bool false, .bool false] 51)) (fun z _ => n - (intOf z).toNat)
  case atStart => exact ⟨0, by omega, rfl, rfl⟩
  case round =>
    obtain ⟨k, hk, rfl, rfl⟩ := hrel
    by_cases hlt : k < n
    · have k1 : (k : Int) < (n : Int) := by omega
      have k2 : 0 ≤ (k : Int) := by omega
      have hkl : k < l.length := by rw [HN0.out]; omega
      have hx : l[k]? = some (l[k]'hkl) := List.getElem?_eq_getElem hkl
      obtain ⟨bb, off, cs, rfl, hbb, c0, c1, _⟩ := HX1.out.at hx
      have HKN := Lib.hid (HQ.out k _ (by omega) hx)
      generalize l[k]'hkl = x at *
      have hkn := HKN.out
      cases hs : x.s with
      | false =>
        rw [hs] at c1
        clear hx hkl hbb hkn
        go_wp2_with fail
        go_roundw
        case rel => exact ⟨k + 1, by omega, by go_num, trivial⟩
        case measure => simp [intOf]; omega
      | true =>
        rw [hs] at c1
        rcases px_kind x HP1.out.pc (HG.out.mono (by omega)) hs with ⟨e0, _⟩ | ⟨c, s, e0, hk2, hk3, d1, d2, d3⟩
        · rw [e0] at c0
          clear hx hkl hbb hkn
          go_wp2_with fail
          go_roundw
          case rel => exact ⟨k + 1, by omega, by go_num, trivial⟩
          case measure => simp [intOf]; omega
        · rw [e0] at c0
          rw [hk3] at hkn
          have hk0 : s.kd = 0 := by simpa using hkn
          rw [hk0] at d1 d2
          have d1 : (w.alloc (.cells #[.int .i64 0, .int .i64 0, .bool false, .bool false, .bool false, .bool false] 51)).cell? ⟨c, 1, none⟩ = some (.bool false) := d1
          have d2 : (w.alloc (.cells #[.int .i64 0, .int .i64 0, .bool false, .bool false, .bool false, .bool false] 51)).cell? ⟨c, 2, none⟩ = some (.bool false) := d2
          clear hx hkl hbb hkn hk3 hk2 hk0
          go_wp2_with fail
          go_roundw
          case rel => exact ⟨k + 1, by omega, by go_num, trivial⟩
          case measure => simp [intOf]; omega
    · obtain rfl : k = n := by omega
      clear HQ
      go_wp2_with fail
      refine HRD.out.mono ?_
      rintro e w2 ⟨A2, k2, rfl, hr2, hb2⟩
      have HP2 := Lib.hid ((HP1.out.later hb2).add (.cells #[.int .i64 p, .int .i64 0, .bool false, .bool false, .bool false, .bool false] 51))
      have HK2 := Lib.hid (HK1.out.trans (fun b hb => .inl hb) (Kf.of_below (F := F) (hb2.trans ((below_al w2 (.cells #[.int .i64 p, .int .i64 0, .bool false, .bool false, .bool false, .bool false] 51)).mono hb2.size))))
      have HX2 := Lib.hid ((HX1.out.later hb2).later (below_al w2 (.cells #[.int .i64 p, .int .i64 0, .bool false, .bool false, .bool false, .bool false] 51)))
      have hR2 := (hb2.block _ (lt_of_blk HR1.out)).trans HR1.out
      have HR2 := Lib.hid (((below_al w2 (.cells #[.int .i64 p, .int .i64 0, .bool false, .bool false, .bool false, .bool false] 51)).block _ (lt_of_blk hR2)).trans hR2)
      have HM2 : Hid ((w2.alloc (.cells #[.int .i64 p, .int .i64 0, .bool false, .bool false, .bool false, .bool false] 51)).heap[w2.heap.size]? = some (.cells #[.int .i64 p, .int .i64 0, .bool false, .bool false, .bool false, .bool false] 51 (0, 0))) := heap_alloc_new _ _
      have HNM : Hid (w.heap.size ≠ w2.heap.size) := by have := lt_of_blk hR2; show _ ≠ _; omega
      have HWM : Hid (W.heap.size ≤ w2.heap.size ∧ w.heap.size ≤ w2.heap.size) := ⟨by have := HW.out; have := lt_of_blk hR2; omega, by have := lt_of_blk hR2; omega⟩
      clear hb2 HRD HP1 HK1 HX1 HR1 hR2
      go_wp2_with fail
      refine (HQP.out w2 (by omega) (by omega)).mono ?_
      rintro e w' ⟨rfl, rfl⟩
      obtain ⟨b9, o9, rfl, hb9, d9⟩ := hr2.2 (by omega)
      have d0 := d9 q _ (nI_at HPP.out)
      clear d9 hr2 HQP
      obtain ⟨bb, off, cs, rfl, hbb, x0, x1, x2⟩ := HX2.out.at HXX.out
      rw [HSS.out] at x1
      have hbs := lt_of_blk hbb
      go_upto_region 13 with (fail)
      generalize hM : w2.heap.size = M at *
      generalize w2.alloc (.cells #[.int .i64 p, .int .i64 0, .bool false, .bool false, .bool false, .bool false] 51) = w3 at *
      generalize hNN : w.heap.size = N at *
      have HRX0 : Hid (RdX 97 C w3.drew (some ⟨bb, off, none⟩) k l) := HX2.out.later (below_drewN (Below.refl _ _) 1)
      have HP3 := Lib.hid (HP2.out.later (below_drewN (Below.refl _ _) 1))
      have HR3 : Hid (w3.drew.heap[N]? = some (.cells #[.int .i64 0, .int .i64 0, .bool false, .bool false, .bool false, .bool false] 51 (0, 0))) := HR2.out
      have HM3 : Hid (w3.drew.heap[M]? = some (.cells #[.int .i64 p, .int .i64 0, .bool false, .bool false, .bool false, .bool false] 51 (0, 0))) := HM2.out
      have HK3 : Hid (Kf F C w w3.drew) := HK2.out.trans (fun b hb => .inl hb) (Kf.of_below (F := F) (below_drewN (Below.refl _ _) 1))
      obtain ⟨j, s, e1, e2, hcs, hcall⟩ := px_send x HP3.out (HG.out.mono (by omega)) HSS.out HCC.out
      have HE : Hid (doX T x = (T.set j (sn s x.v).1, ⟨0, 0, (sn s x.v).2.2.1, (sn s x.v).2.2.2 == 5, false, false⟩, (sn s x.v).2.1)) := by
        show _ = _
        unfold doX; rw [e1]; simp only; rw [e2]; simp only; rw [if_pos HSS.out]
      have hok := sn_ok x.v hcs
      rw [HE.out]
      simp only
      generalize sn s x.v = g at *
      obtain ⟨s', ws, d, code⟩ := g
      simp only at hok hcall ⊢
      subst hok
      have HC : Hid (Calls Try.prog 31 #[.pointer (ptr C x), .int .i64 x.v] w3.drew fun e w' => ∃ A cap, e = .returned (.tuple #[.bool (code == 0), .slice A ws.length cap, .int .i64 code]) ∧ Hid (RdX 97 C w' (some ⟨bb, off, none⟩) k l) ∧ Hid (RdK w' A ws.length ws ∧ PX W B S C (T.set j s') F [M, N] w' ∧ Kf F C w w' ∧ w'.heap[N]? = some (.cells #[.int .i64 0, .int .i64 0, .bool false, .bool false, .bool false, .bool false] 51 (0, 0)) ∧ w'.heap[M]? = some (.cells #[.int .i64 p, .int .i64 0, .bool false, .bool false, .bool false, .bool false] 51 (0, 0)))) := by
        refine hcall.mono ?_
        rintro e w' ⟨A, cap, rfl, hr, hp, kf⟩
        exact ⟨A, cap, rfl, HRX0.out.kf o97 HP3.out.pc kf, hr, hp, HK3.out.trans (fun b hb => .inl hb) kf, HP3.out.row kf HR3.out o51, HP3.out.row kf HM3.out o51⟩
      have HKP : Hid (∀ w', Hid (RdX 97 C w' (some ⟨bb, off, none⟩) k l) → w'.cell? ⟨bb, off + p * 3, none⟩ = some (.pointer (ptr C x)) ∧ w'.cell? ⟨bb, off + p * 3 + 2, none⟩ = some (.int .i64 x.v)) := by
        intro w' h
        obtain ⟨b8, o8, cs8, e8, _, q0, _, q2⟩ := h.out.at HXX.out
        cases e8
        exact ⟨q0, q2⟩
      clear hcall hcs e1 e2 HP3 HR3 HM3 HK3 HX2 HP2 HK2 HR2 HM2 hbb x1
      go_wp2_with fail
      go_region_held3 (fun w' => w'.cell? ⟨bb, off + p * 3, none⟩ = some (.pointer (ptr C x)) ∧ w'.cell? ⟨bb, off + p * 3 + 2, none⟩ = some (.int .i64 x.v))
        (first
          | exact HKP.out _ HRX0
          | exact HKP.out _ HRX1)
        (first
          | (go_at_call 31; (with_reducible refine HC.out.mono ?_); rintro e w4 ⟨A4, k4, rfl, HRX1, HB4⟩))
      have HRK4 := Lib.hid HB4.out.1
      have HP4 := Lib.hid HB4.out.2.1
      have HK4 := Lib.hid HB4.out.2.2.1
      have hkN0 := HB4.out.2.2.2.1
      have hkM := HB4.out.2.2.2.2
      clear HB4 HRX1 HRX0 HC HKP x0 x2 hbs
      have fM0 := frozen_of_row w4 M 0 _ _ hkM
      have fM1 := frozen_of_row w4 M 1 _ _ hkM
      have fM2 := frozen_of_row w4 M 2 _ _ hkM
      have fM3 := frozen_of_row w4 M 3 _ _ hkM
      have aM0 := cell_of_row w4 M 0 _ _ _ hkM
      have aM1 := cell_of_row w4 M 1 _ _ _ hkM
      have aM2 := cell_of_row w4 M 2 _ _ _ hkM
      have aM3 := cell_of_row w4 M 3 _ _ _ hkM
      have aM4 := cell_of_row w4 M 4 _ _ _ hkM
      have aM5 := cell_of_row w4 M 5 _ _ _ hkM
      simp only [List.getElem?_toArray, List.getElem?_cons_succ, List.getElem?_cons_zero] at aM0 aM1 aM2 aM3 aM4 aM5
      have hMs := lt_of_blk hkM
      have hNs' := lt_of_blk hkN0
      have hNM1 : ¬ N = M := HNM.out
      have hNM2 : ¬ M = N := fun e => HNM.out e.symm
      have HP5 := Lib.hid ((HP4.out.set (g := M) (k := 2) (by simp) HWM.out.1 (.bool (code == 0))).set (g := M) (k := 3) (by simp) HWM.out.1 (.bool (code == 5)))
      have HK5 := Lib.hid ((HK4.out.set (i := 2) (v := .bool (code == 0)) (by rw [hNN]; exact HWM.out.2)).set (i := 3) (v := .bool (code == 5)) (by rw [hNN]; exact HWM.out.2))
      have hM1 := heap_setCell_same w4 M 2 _ _ (.bool (code == 0)) hkM
      have HR5 := Lib.hid (rdk_set51 (i := 3) (rdk_set51 (i := 2) HRK4.out hkM (.bool (code == 0))) hM1 (.bool (code == 5)))
      have hkN : ((w4.setCell ⟨M, 2, none⟩ (.bool (code == 0))).setCell ⟨M, 3, none⟩ (.bool (code == 5))).heap[N]? = some (.cells #[.int .i64 0, .int .i64 0, .bool false, .bool false, .bool false, .bool false] 51 (0, 0)) := (Below.heap_setCell _ _ _ _ hNM1).trans ((Below.heap_setCell _ _ _ _ hNM1).trans hkN0)
      have HR := Lib.hid (HP5.out.res (b0 := .int .i64 p) (b1 := .int .i64 0) (b2 := .bool (code == 0)) (b3 := .bool (code == 5)) (b4 := .bool false) (b5 := .bool false) HR5.out hkN (by simp) HW.out)
      have HKR := Lib.hid (HK5.out.res (N := N) (b0 := .int .i64 p) (b1 := .int .i64 0) (b2 := .bool (code == 0)) (b3 := .bool (code == 5)) (b4 := .bool false) (b5 := .bool false) (by omega))
      have fN0 := frozen_of_row w4 N 0 _ _ hkN0
      have fN1 := frozen_of_row w4 N 1 _ _ hkN0
      have fN2 := frozen_of_row w4 N 2 _ _ hkN0
      have fN3 := frozen_of_row w4 N 3 _ _ hkN0
      have fN4 := frozen_of_row w4 N 4 _ _ hkN0
      have fN5 := frozen_of_row w4 N 5 _ _ hkN0
      have aN0 := cell_of_row w4 N 0 _ _ _ hkN0
      have aN1 := cell_of_row w4 N 1 _ _ _ hkN0
      have aN2 := cell_of_row w4 N 2 _ _ _ hkN0
      have aN3 := cell_of_row w4 N 3 _ _ _ hkN0
      have aN4 := cell_of_row w4 N 4 _ _ _ hkN0
      have aN5 := cell_of_row w4 N 5 _ _ _ hkN0
      simp only [List.getElem?_toArray, List.getElem?_cons_succ, List.getElem?_cons_zero] at aN0 aN1 aN2 aN3 aN4 aN5
      clear hkN hkN0 hkM hM1 HP4 HK4 HRK4 HP5 HK5 HR5
      go_wp2_with fail
      refine bodyPost_ret (v := .tuple #[reG ⟨p, 0, code == 0, code == 5, false, false⟩, .slice A4 ws.length k4, .int .i64 0]) ?_ rfl (by rw [HE.out]; exact ⟨A4, k4, rfl, HR.out.2, HR.out.1.pc, HKR.out⟩)
      rw [results_cell_tmp2 rfl]; go_simp; rfl
set_option maxRecDepth 100000 in
set_option maxHeartbeats 8000000 in
theorem mDo_recv {cap q p : Nat} {x : Ca} (df : Bool) (draw task : Int) (h : PC W B S C T F w) (hg : GdT 100 T) (hl : RdX 97 C w A n l) (hn : n ≤ 16) (ht : 0 ≤ task) (hw : wrg T l l.length = none) (hq : draw % ((rdy T l l.length).length : Int) = (q : Int)) (hp : (rdy T l l.length)[q]? = some p) (hx : l[p]? = some x) (hc : canO T x = true) (hs : x.s = false) :
    Calls Try.prog 17 #[.slice A n cap, .bool df, .int .i64 draw, .int .i64 task] w (MDR W B S C F ((doX T x).1, { (doX T x).2.1 with i := p }, (doX T x).2.2, 0) w) := by
  have HN0 := Lib.hid hl.1
  have HX1 := Lib.hid (hl.later (below_al w (.cells #[.int .i64 0, .int .i64 0, .bool false, .bool false, .bool false, .bool false] 51)))
  have HP1 := Lib.hid ((PX.start h).add (.cells #[.int .i64 0, .int .i64 0, .bool false, .bool false, .bool false, .bool false] 51))
  have HK1 := Lib.hid (Kf.of_below (F := F) (C := C) (below_al w (.cells #[.int .i64 0, .int .i64 0, .bool false, .bool false, .bool false, .bool false] 51)))
  have HR1 := Lib.hid (al51 w)
  have HW := Lib.hid h.bel.size
  have HG := Lib.hid hg
  have b1 : ¬ 16 < (n : Int) := by omega
  have b2 : ¬ task < 0 := by omega
  have b3 : (n : Int) ≤ 16 := by omega
  have b4 : 0 ≤ (n : Int) := by omega
  have HQ := Lib.hid (fun k x (hk : k < n) hx => wrg_none _ (Nat.le_refl _) hw k x (by rw [hl.1]; exact hk) hx)
  have hlen := rdy_len T l l.length
  have hln : l.length = n := hl.1
  have hql : q < (rdy T l l.length).length := (List.getElem?_eq_some_iff.1 hp).1
  have hpl : p < n := by rw [← hln]; exact (List.getElem?_eq_some_iff.1 hx).1
  have HQP := Lib.hid (mpick_any draw (rdy T l l.length).length)
  have HRD := Lib.hid (mready_any (cap := cap) HP1.out.pc (HG.out.mono (by omega)) HX1.out (by omega))
  have HPP := Lib.hid hp
  have HXX := Lib.hid hx
  have HCC := Lib.hid hc
  have HSS := Lib.hid hs
  generalize rdy T l l.length = r at *
  rw [hq] at HQP
  have g1 : 0 < (r.length : Int) := by omega
  have g2 : (r.length : Int) ≤ 16 := by omega
  have g3 : (q : Int) < (r.length : Int) := by omega
  have g4 : (p : Int) < (n : Int) := by omega
  have g5 : 0 ≤ (q : Int) := by omega
  have g6 : 0 ≤ (p : Int) := by omega
  clear h hl hw hp hx hc hs hq hg
  go_enter Try.func17, Try.ntmps17
  go_wp2_with fail
  go_loopw [11] (fun z wr => ∃ k : Nat, k ≤ n ∧ z = .int .i64 k ∧ wr = w.alloc (.cells #[.int .i64 0, .int .i64 0, .bool false, .bool false, .bool false, .bool false] 51)) (fun z _ => n - (intOf z).toNat)
  case atStart => exact ⟨0, by omega, rfl, rfl⟩
  case round =>
    obtain ⟨k, hk, rfl, rfl⟩ := hrel
    by_cases hlt : k < n
    · have k1 : (k : Int) < (n : Int) := by omega
      have k2 : 0 ≤ (k : Int) := by omega
      have hkl : k < l.length := by rw [HN0.out]; omega
      have hx : l[k]? = some (l[k]'hkl) := List.getElem?_eq_getElem hkl
      obtain ⟨bb, off, cs, rfl, hbb, c0, c1, _⟩ := HX1.out.at hx
      have HKN := Lib.hid (HQ.out k _ (by omega) hx)
      generalize l[k]'hkl = x at *
      have hkn := HKN.out
      cases hs : x.s with
      | false =>
        rw [hs] at c1
        clear hx hkl hbb hkn
        go_wp2_with fail
        go_roundw
        case rel => exact ⟨k + 1, by omega, by go_num, trivial⟩
        case measure => simp [intOf]; omega
      | true =>
        rw [hs] at c1
        rcases px_kind x HP1.out.pc (HG.out.mono (by omega)) hs with ⟨e0, _⟩ | ⟨c, s, e0, hk2, hk3, d1, d2, d3⟩
        · rw [e0] at c0
          clear hx hkl hbb hkn
          go_wp2_with fail
          go_roundw
          case rel => exact ⟨k + 1, by omega, by go_num, trivial⟩
          case measure => simp [intOf]; omega
        · rw [e0] at c0
          rw [hk3] at hkn
          have hk0 : s.kd = 0 := by simpa using hkn
          rw [hk0] at d1 d2
          have d1 : (w.alloc (.cells #[.int .i64 0, .int .i64 0, .bool false, .bool false, .bool false, .bool false] 51)).cell? ⟨c, 1, none⟩ = some (.bool false) := d1
          have d2 : (w.alloc (.cells #[.int .i64 0, .int .i64 0, .bool false, .bool false, .bool false, .bool false] 51)).cell? ⟨c, 2, none⟩ = some (.bool false) := d2
          clear hx hkl hbb hkn hk3 hk2 hk0
          go_wp2_with fail
          go_roundw
          case rel => exact ⟨k + 1, by omega, by go_num, trivial⟩
          case measure => simp [intOf]; omega
    · obtain rfl : k = n := by omega
      clear HQ
      go_wp2_with fail
      refine HRD.out.mono ?_
      rintro e w2 ⟨A2, k2, rfl, hr2, hb2⟩
      have HP2 := Lib.hid ((HP1.out.later hb2).add (.cells #[.int .i64 p, .int .i64 0, .bool false, .bool false, .bool false, .bool false] 51))
      have HK2 := Lib.hid (HK1.out.trans (fun b hb => .inl hb) (Kf.of_below (F := F) (hb2.trans ((below_al w2 (.cells #[.int .i64 p, .int .i64 0, .bool false, .bool false, .bool false, .bool false] 51)).mono hb2.size))))
      have HX2 := Lib.hid ((HX1.out.later hb2).later (below_al w2 (.cells #[.int .i64 p, .int .i64 0, .bool false, .bool false, .bool false, .bool false] 51)))
      have hR2 := (hb2.block _ (lt_of_blk HR1.out)).trans HR1.out
      have HR2 := Lib.hid (((below_al w2 (.cells #[.int .i64 p, .int .i64 0, .bool false, .bool false, .bool false, .bool false] 51)).block _ (lt_of_blk hR2)).trans hR2)
      have HM2 : Hid ((w2.alloc (.cells #[.int .i64 p, .int .i64 0, .bool false, .bool false, .bool false, .bool false] 51)).heap[w2.heap.size]? = some (.cells #[.int .i64 p, .int .i64 0, .bool false, .bool false, .bool false, .bool false] 51 (0, 0))) := heap_alloc_new _ _
      have HNM : Hid (w.heap.size ≠ w2.heap.size) := by have := lt_of_blk hR2; show _ ≠ _; omega
      have HWM : Hid (W.heap.size ≤ w2.heap.size ∧ w.heap.size ≤ w2.heap.size) := ⟨by have := HW.out; have := lt_of_blk hR2; omega, by have := lt_of_blk hR2; omega⟩
      clear hb2 HRD HP1 HK1 HX1 HR1 hR2
      go_wp2_with fail
      refine (HQP.out w2 (by omega) (by omega)).mono ?_
      rintro e w' ⟨rfl, rfl⟩
      obtain ⟨b9, o9, rfl, hb9, d9⟩ := hr2.2 (by omega)
      have d0 := d9 q _ (nI_at HPP.out)
      clear d9 hr2 HQP
      obtain ⟨bb, off, cs, rfl, hbb, x0, x1, x2⟩ := HX2.out.at HXX.out
      rw [HSS.out] at x1
      have hbs := lt_of_blk hbb
      go_upto_region 16 with (fail)
      generalize hM : w2.heap.size = M at *
      generalize w2.alloc (.cells #[.int .i64 p, .int .i64 0, .bool false, .bool false, .bool false, .bool false] 51) = w3 at *
      generalize hNN : w.heap.size = N at *
      obtain ⟨j, s, e1, e2, hcall⟩ := px_recv x HP2.out (HG.out.mono (by omega)) HCC.out
      have HE : Hid (doX T x = (T.set j (rc s).1, ⟨0, (rc s).2.1, (rc s).2.2.1, false, false, false⟩, (rc s).2.2.2.2)) := by
        show _ = _
        unfold doX; rw [e1]; simp only; rw [e2]; simp only; rw [if_neg (by rw [HSS.out]; simp)]
      rw [HE.out]
      simp only
      generalize rc s = g at *
      obtain ⟨s', v, ok, dn, ws⟩ := g
      simp only at hcall ⊢
      have HC := Lib.hid hcall
      clear hcall e1 e2 hbb
      go_wp2_with fail
      refine HC.out.mono ?_
      rintro e w4 ⟨A4, k4, rfl, hr4, hp4, kf4⟩
      have HRK4 := Lib.hid hr4
      have HP4 := Lib.hid hp4
      have HK4 := Lib.hid (HK2.out.trans (fun b hb => .inl hb) kf4)
      have hkN0 := HP2.out.row kf4 HR2.out o51
      have hkM := HP2.out.row kf4 HM2.out o51
      clear hr4 hp4 kf4 HC HX2 HP2 HK2 HR2 HM2 x0 x1 x2 hbs
      have fM0 := frozen_of_row w4 M 0 _ _ hkM
      have fM1 := frozen_of_row w4 M 1 _ _ hkM
      have fM2 := frozen_of_row w4 M 2 _ _ hkM
      have fM3 := frozen_of_row w4 M 3 _ _ hkM
      have aM0 := cell_of_row w4 M 0 _ _ _ hkM
      have aM1 := cell_of_row w4 M 1 _ _ _ hkM
      have aM2 := cell_of_row w4 M 2 _ _ _ hkM
      have aM3 := cell_of_row w4 M 3 _ _ _ hkM
      have aM4 := cell_of_row w4 M 4 _ _ _ hkM
      have aM5 := cell_of_row w4 M 5 _ _ _ hkM
      simp only [List.getElem?_toArray, List.getElem?_cons_succ, List.getElem?_cons_zero] at aM0 aM1 aM2 aM3 aM4 aM5
      have hMs := lt_of_blk hkM
      have hNs' := lt_of_blk hkN0
      have hNM1 : ¬ N = M := HNM.out
      have hNM2 : ¬ M = N := fun e => HNM.out e.symm
      have HP5 := Lib.hid ((HP4.out.set (g := M) (k := 1) (by simp) HWM.out.1 (.int .i64 v)).set (g := M) (k := 2) (by simp) HWM.out.1 (.bool ok))
      have HK5 := Lib.hid ((HK4.out.set (i := 1) (v := .int .i64 v) (by rw [hNN]; exact HWM.out.2)).set (i := 2) (v := .bool ok) (by rw [hNN]; exact HWM.out.2))
      have hM1 := heap_setCell_same w4 M 1 _ _ (.int .i64 v) hkM
      have HR5 := Lib.hid (rdk_set51 (i := 2) (rdk_set51 (i := 1) HRK4.out hkM (.int .i64 v)) hM1 (.bool ok))
      have hkN : ((w4.setCell ⟨M, 1, none⟩ (.int .i64 v)).setCell ⟨M, 2, none⟩ (.bool ok)).heap[N]? = some (.cells #[.int .i64 0, .int .i64 0, .bool false, .bool false, .bool false, .bool false] 51 (0, 0)) := (Below.heap_setCell _ _ _ _ hNM1).trans ((Below.heap_setCell _ _ _ _ hNM1).trans hkN0)
      have HR := Lib.hid (HP5.out.res (b0 := .int .i64 p) (b1 := .int .i64 v) (b2 := .bool ok) (b3 := .bool false) (b4 := .bool false) (b5 := .bool false) HR5.out hkN (by simp) HW.out)
      have HKR := Lib.hid (HK5.out.res (N := N) (b0 := .int .i64 p) (b1 := .int .i64 v) (b2 := .bool ok) (b3 := .bool false) (b4 := .bool false) (b5 := .bool false) (by omega))
      have fN0 := frozen_of_row w4 N 0 _ _ hkN0
      have fN1 := frozen_of_row w4 N 1 _ _ hkN0
      have fN2 := frozen_of_row w4 N 2 _ _ hkN0
      have fN3 := frozen_of_row w4 N 3 _ _ hkN0
      have fN4 := frozen_of_row w4 N 4 _ _ hkN0
      have fN5 := frozen_of_row w4 N 5 _ _ hkN0
      have aN0 := cell_of_row w4 N 0 _ _ _ hkN0
      have aN1 := cell_of_row w4 N 1 _ _ _ hkN0
      have aN2 := cell_of_row w4 N 2 _ _ _ hkN0
      have aN3 := cell_of_row w4 N 3 _ _ _ hkN0
      have aN4 := cell_of_row w4 N 4 _ _ _ hkN0
      have aN5 := cell_of_row w4 N 5 _ _ _ hkN0
      simp only [List.getElem?_toArray, List.getElem?_cons_succ, List.getElem?_cons_zero] at aN0 aN1 aN2 aN3 aN4 aN5
      clear hkN hkN0 hkM hM1 HP4 HK4 HRK4 HP5 HK5 HR5
      go_wp2_with fail
      refine bodyPost_ret (v := .tuple #[reG ⟨p, v, ok, false, false, false⟩, .slice A4 ws.length k4, .int .i64 0]) ?_ rfl (by rw [HE.out]; exact ⟨A4, k4, rfl, HR.out.2, HR.out.1.pc, HKR.out⟩)
      rw [results_cell_tmp2 rfl]; go_simp; rfl
end
section
variable {W w w' : World} {B C : List Nat} {S T : List CS} {F : Nat → Prop} {A : Option Addr} {n : Nat} {l : List Ca}
/-- The document's own Do. -/
theorem mDo_any {cap : Nat} (df : Bool) (draw task : Int) (h : PC W B S C T F w) (hg : GdT 100 T) (hl : RdX 97 C w A n l) (hn : n ≤ 1000) : Calls Try.prog 17 #[.slice A n cap, .bool df, .int .i64 draw, .int .i64 task] w (MDR W B S C F (doS T l df draw task) w) := by
  have hln : l.length = n := hl.1
  unfold doS
  by_cases h1 : 16 < l.length ∨ task < 0
  · rw [if_pos h1]
    exact mDo_arg df draw task h (by rw [← hln]; exact h1) hn
  · rw [if_neg h1]
    have hn16 : n ≤ 16 := by omega
    have ht : 0 ≤ task := by omega
    cases hw : wrg T l l.length with
    | some i => exact mDo_wrong df draw task h hg hl hn16 ht hw
    | none =>
      simp only
      cases hr : (rdy T l l.length)[(draw % ((rdy T l l.length).length : Int)).toNat]? with
      | some p =>
        have hql := (List.getElem?_eq_some_iff.1 hr).1
        obtain ⟨hpl, x, hx, hc⟩ := rdy_mem (List.mem_of_getElem? hr)
        simp only
        rw [hx]
        have hq : draw % ((rdy T l l.length).length : Int) = (((draw % ((rdy T l l.length).length : Int)).toNat : Nat) : Int) := (Int.toNat_of_nonneg (Int.emod_nonneg _ (by omega))).symm
        cases hs : x.s with
        | true => exact mDo_send df draw task h hg hl hn16 ht hw hq hr hx hc hs
        | false => exact mDo_recv df draw task h hg hl hn16 ht hw hq hr hx hc hs
      | none =>
        have hr0 : rdy T l l.length = [] := by
          rw [List.getElem?_eq_none_iff] at hr
          by_cases h0 : (rdy T l l.length).length = 0
          · exact List.eq_nil_of_length_eq_zero h0
          · have h2 := Int.emod_lt_of_pos draw (show (0 : Int) < ((rdy T l l.length).length : Int) by omega)
            have h3 := Int.emod_nonneg draw (show ((rdy T l l.length).length : Int) ≠ 0 by omega)
            omega
        simp only
        cases df with
        | true => rw [if_pos rfl]; exact mDo_def draw task h hg hl hn16 ht hw hr0
        | false => rw [if_neg (by simp)]; exact mDo_park draw task h hg hl hn16 ht hw hr0
end
end Go.Proofs.Ytmcacmbllpphiaa
