/- A list by what it holds; two slices that read alike are told alike; the laws' own examples hold. Conditions: each theorem's own premises. -/
import Derived.Test.YtbgllnooodhgpaaChg
namespace Go.Proofs.Ytbgllnooodhgpaa
open Go.RowKit
set_option linter.unusedVariables false

section
variable {B o b c : Nat} {P : Option Addr} {l : List Int} {w : World}
theorem g_add_old {x : Int} (h : RG B w o b P c l) (hx : Wf x) (hm : x ∈ l) : Calls Try.prog 10 #[.pointer (some ⟨o, 0, none⟩), .int .i64 x] w fun e w' => e = .returned (.int .i64 1) ∧ w = w' := by
  obtain ⟨f, h1, _⟩ := h
  exact add_old x w h1 hx hm
theorem g_add_new {x : Int} (h : RG B w o b P c l) (hx : 0 ≤ x ∧ Wf x) (hm : x ∉ l) (hl : l.length ≤ 1000) (hB : B ≤ w.heap.size) : Calls Try.prog 10 #[.pointer (some ⟨o, 0, none⟩), .int .i64 x] w (AddR B o b P (l ++ [x]) w) := by
  obtain ⟨f, h1, h2⟩ := h
  exact add_new x w h1 h2 hx hm hl hB
theorem g_remove_no {x : Int} (h : RG B w o b P c l) (hx : Wf x) (hm : x ∉ l) : Calls Try.prog 11 #[.pointer (some ⟨o, 0, none⟩), .int .i64 x] w fun e w' => e = .returned (.bool false) ∧ w = w' := by
  obtain ⟨f, h1, _⟩ := h
  exact remove_no x w h1 hx hm
theorem g_remove_yes {p : Nat} {x : Int} (h : RG B w o b P c l) (hp : l[p]? = some x) (hl : l.length ≤ 1000) : Calls Try.prog 11 #[.pointer (some ⟨o, 0, none⟩), .int .i64 x] w (RemR B o b P c (l.eraseIdx p) w) := by
  obtain ⟨f, h1, h2⟩ := h
  exact remove_yes x w h1 h2 hp hl
theorem g_pick_none {n : Int} (h : RG B w o b P c []) : Calls Try.prog 12 #[.pointer (some ⟨o, 0, none⟩), .int .i64 n] w fun e w' => e = .returned (.tuple #[.int .i64 0, .bool false]) ∧ w = w' := by
  obtain ⟨f, h1, _⟩ := h
  exact pick_none n w h1
theorem g_pick_any {n x : Int} (h : RG B w o b P c l) (hm : l.length ≤ 1000) (hx : l[pk n l.length]? = some x) : Calls Try.prog 12 #[.pointer (some ⟨o, 0, none⟩), .int .i64 n] w fun e w' => e = .returned (.tuple #[.int .i64 x, .bool true]) ∧ ∃ q, w' = w.drewN q := by
  obtain ⟨f, h1, _⟩ := h
  have := at_lt hx
  exact pick_any n x w h1 (by omega) hm hx
theorem g_len {P : Option Addr} (h : RG B w o b P c l) : Calls Try.prog 16 #[.pointer (some ⟨o, 0, none⟩)] w fun e w' => e = .returned (.int .i64 (l.length : Int)) ∧ w = w' := by
  obtain ⟨f, h1, _⟩ := h
  exact len_any w h1
theorem g_all (h : RG B w o b P c l) (hl : l.length ≤ 1000) : Calls Try.prog 15 #[.pointer (some ⟨o, 0, none⟩)] w (AllR l w) := by
  obtain ⟨f, h1, _⟩ := h
  exact all_any w h1 hl
theorem RG.nd (h : RG B w o b P c l) : l.Nodup := by obtain ⟨f, h1, _⟩ := h; exact h1.nd
theorem RG.wf (h : RG B w o b P c l) : ∀ x ∈ l, 0 ≤ x ∧ Wf x := by obtain ⟨f, h1, _⟩ := h; exact h1.wf
end

theorem ints_eq {w : World} {A1 A2 : Option Addr} {n c1 c2 : Nat} {l : List Int} (h1 : Rn w A1 n l) (h2 : Rn w A2 n l) (hn : n ≤ 1000) :
    Calls Try.prog 14 #[.slice A1 n c1, .slice A2 n c2] w fun e w' => e = .returned (.bool true) ∧ ∃ q, w' = w.drewN q := by
  have hn1 : (n : Int) ≤ 1000 := by omega
  have hl := h1.1
  have H1 := Lib.hid h1
  have H2 := Lib.hid h2
  have HL := Lib.hid hl
  clear h1 h2 hl
  go_enter Try.func14, Try.ntmps14
  go_wp2_with fail
  go_loopw [5] (fun i wr => ∃ k q : Nat, k ≤ n ∧ i = .int .i64 k ∧ wr = w.drewN q) (fun i _ => n - (intOf i).toNat)
  case atStart => exact ⟨0, 0, by omega, rfl, rfl⟩
  case round =>
    obtain ⟨k, q, hk, rfl, rfl⟩ := hrel
    by_cases hlt : k < n
    · obtain ⟨b1, o1, rfl, _, d1⟩ := H1.out.at (by omega)
      obtain ⟨b2, o2, rfl, _, d2⟩ := H2.out.at (by omega)
      have hkl : k < l.length := by rw [HL.out]; exact hlt
      have e1 := d1 k _ (List.getElem?_eq_getElem hkl)
      have e2 := d2 k _ (List.getElem?_eq_getElem hkl)
      generalize l[k] = x at *
      clear d1 d2 hkl
      go_wp2_with fail
      go_quiet (fail)
      go_wp2_with fail
      go_roundw
      case rel => exact ⟨k + 1, _, by omega, by go_num, rfl⟩
      case measure => simp [intOf]; omega
    · obtain rfl : k = n := by omega
      go_wp2_with fail
      go_ret
      exact ⟨rfl, _, rfl⟩
theorem rn_blk {w : World} {N : Nat} {x : Int} (h : w.heap[N]? = some (.cells #[.int .i64 x] 3 (0, 0))) : Rn w (some ⟨N, 0, none⟩) 1 [x] := by
  refine ⟨rfl, fun _ => ⟨N, 0, rfl, lt_of_blk h, fun j y hy => ?_⟩⟩
  have hj := at_lt hy
  simp at hj
  subst hj
  simp at hy
  subst hy
  rw [cell_of_row w N 0 _ _ _ h]; rfl

theorem start {W w' : World} {e : Ending} (h : NewR W e w') : ST W none 0 [] w' := ⟨h.2.2, h.2.1 _ (Nat.le_refl _)⟩
theorem ST.add {W w w' : World} {P : Option Addr} {c : Nat} {l l' : List Int} {e : Ending} (h : ST W P c l w) (r : AddR W.heap.size (W.heap.size + 1) W.heap.size P l' w e w') : ∃ P' c', ST W P' c' l' w' := by
  obtain ⟨_, g, c', r1, r2⟩ := r
  exact ⟨_, _, h.go ⟨r1, r2⟩⟩

set_option maxRecDepth 100000 in
set_option maxHeartbeats 2000000 in
theorem awake_any (W : World) : Calls Try.prog 7 #[] W (BoolR true W) := by
  go_enter Try.func7, Try.ntmps7
  go_wp2_with fail
  refine (new_any W).mono ?_
  rintro e w1 h1
  obtain rfl := h1.1
  have S1 := Lib.hid (start h1)
  clear h1
  go_wp2_with fail
  refine (g_add_new (x := 5) S1.out.rg ⟨by omega, wf_of (by omega) (by omega)⟩ (by simp) (by simp) S1.out.bel.size).mono ?_
  rintro e w2 r2
  obtain rfl := r2.1
  obtain ⟨P2, c2, S2⟩ := S1.out.add r2
  replace S2 : Hid (ST W P2 c2 [5] w2) := S2
  clear r2 S1
  go_wp2_with fail
  refine (g_add_new (x := 7) S2.out.rg ⟨by omega, wf_of (by omega) (by omega)⟩ (by simp) (by simp) S2.out.bel.size).mono ?_
  rintro e w3 r3
  obtain rfl := r3.1
  obtain ⟨P3, c3, S3⟩ := S2.out.add r3
  replace S3 : Hid (ST W P3 c3 [5, 7] w3) := S3
  clear r3 S2
  go_wp2_with fail
  refine (g_add_old (x := 5) S3.out.rg (wf_of (by omega) (by omega)) (by simp)).mono ?_
  rintro e w' ⟨rfl, rfl⟩
  go_wp2_with fail
  refine (g_pick_any (n := 3) (x := 7) S3.out.rg (by simp) (by rfl)).mono ?_
  rintro e w' ⟨rfl, q, rfl⟩
  have S4 := Lib.hid (S3.out.drewN q)
  generalize w3.drewN q = w4 at *
  clear S3
  go_wp2_with fail
  refine (g_remove_yes (x := 5) (p := 0) S4.out.rg rfl (by simp)).mono ?_
  rintro e w5 ⟨rfl, r1, r2⟩
  have S5 : Hid (ST W P3 c3 [7] w5) := S4.out.go ⟨r1, r2⟩
  clear r1 r2 S4
  go_wp2_with fail
  refine (add_low (-1) w5 (by omega)).mono ?_
  rintro e w' ⟨rfl, rfl⟩
  go_wp2_with fail
  refine (pick_nil 0 w5).mono ?_
  rintro e w' ⟨rfl, rfl⟩
  go_wp2_with fail
  refine (g_all S5.out.rg (by simp)).mono ?_
  rintro e w6 ⟨A, c6, rfl, r1, r2⟩
  have S6 := Lib.hid (S5.out.later r2)
  have R6 : Hid (Rn w6 A 1 [7]) := r1
  clear r1 r2 S5
  go_wp2_with fail
  have S7 := Lib.hid (S6.out.later (below_al w6 (.cells #[.int .i64 7] 3)))
  have R7 := Lib.hid (R6.out.later (below_al w6 (.cells #[.int .i64 7] 3)))
  have Q7 := Lib.hid (rn_blk (heap_alloc_new w6 (.cells #[.int .i64 7] 3)))
  refine (ints_eq R7.out Q7.out (by omega)).mono ?_
  rintro e w' ⟨rfl, q, rfl⟩
  have S8 := Lib.hid (S7.out.drewN q)
  generalize (w6.alloc (.cells #[.int .i64 7] 3)).drewN q = w8 at *
  clear S6 R6 S7 R7 Q7
  go_wp2_with fail
  refine (g_len S8.out.rg).mono ?_
  rintro e w' ⟨rfl, rfl⟩
  go_wp2_with fail
  refine (add_nil 1 w8).mono ?_
  rintro e w' ⟨rfl, rfl⟩
  go_wp2_with fail
  go_ret
  exact ⟨rfl, S8.out.bel⟩
end Go.Proofs.Ytbgllnooodhgpaa
