/- The document's own channel: Len, Cap, Can, others, Wait. Conditions: each theorem's own premises. -/
import Derived.Test.YtmadcnpkaijllaaGreatCPcm
import Derived.Test.YtmadcnpkaijllaaGreatCWaim
import Derived.Deep.CutRange
namespace Go.Proofs.YtmadcnpkaijllaaGreat.Ch
open Go.RowKit
set_option linter.unusedVariables false
set_option maxRecDepth 100000

section
variable {w : World} {ok : Nat → Prop} {m : Nat} {s : CS}
theorem can_as (s : CS) (b : Bool) (h : ¬ (b = true ∧ s.kd ≠ 0)) : can s b = (s.cl || decide (0 < (s.q (!b)).length) || fr s b) := by
  unfold can
  rw [if_neg h]
  cases s.cl <;> cases fr s b <;> simp
set_option maxRecDepth 100000 in
theorem mcan (b : Bool) (h : MD w ok m s) (hk2 : s.kd ≤ 2) : Calls Tryz.prog 38 #[.pointer (some ⟨m, 0, none⟩), .bool b] w fun e w' => e = .returned (.bool (can s b)) ∧ ∃ n, w' = w.drewN n := by
  obtain ⟨vb, q, r, hx⟩ := h
  by_cases hk : b = true ∧ s.kd ≠ 0
  · have e : can s b = false := by unfold can; rw [if_pos hk]
    rw [e]
    obtain ⟨rfl, hk⟩ := hk
    by_cases h1 : s.kd = 1
    · have c1 : w.cell? ⟨m, 1, none⟩ = some (.bool true) := hx.k1 h1
      clear hx e hk hk2
      go_enter Tryz.func38, Tryz.ntmps38
      go_wp2
      go_ret
      exact ⟨rfl, 0, rfl⟩
    · have h2 : s.kd = 2 := by omega
      have c1 : w.cell? ⟨m, 1, none⟩ = some (.bool false) := hx.k1 h2
      have c2 : w.cell? ⟨m, 2, none⟩ = some (.bool true) := hx.k2 h2
      clear hx e hk hk2 h1
      go_enter Tryz.func38, Tryz.ntmps38
      go_wp2
      go_ret
      exact ⟨rfl, 0, rfl⟩
  · rw [can_as s b hk]
    have c0 := hx.c0
    have c3 := hx.c3
    have c4 := hx.c4
    have c5 := hx.c5
    have c6 := hx.c6
    cases b with
    | true =>
      have h0 : s.kd = 0 := by
        by_cases h0 : s.kd = 0
        · exact h0
        · exact absurd ⟨rfl, h0⟩ hk
      have c1 : w.cell? ⟨m, 1, none⟩ = some (.bool false) := hx.k1 h0
      have c2 : w.cell? ⟨m, 2, none⟩ = some (.bool false) := hx.k2 h0
      clear hx hk hk2
      show Calls _ _ _ _ fun e w' => e = .returned (.bool (s.cl || decide (0 < s.rs.length) || decide (s.l.length < s.sz))) ∧ _
      generalize s.cl = cl at *
      cases cl with
      | true =>
        simp only [Bool.true_or]
        go_enter Tryz.func38, Tryz.ntmps38
        go_wp2_with fail
        go_quiet (fail)
        go_wp2_with fail
        go_ret
        exact ⟨rfl, _, rfl⟩
      | false =>
        simp only [Bool.false_or]
        by_cases hr : 0 < s.rs.length
        · have p1 : 0 < (s.rs.length : Int) := by omega
          rw [decide_eq_true hr]
          simp only [Bool.true_or]
          go_enter Tryz.func38, Tryz.ntmps38
          go_wp2_with fail
          go_quiet (fail)
          go_wp2_with fail
          go_ret
          exact ⟨rfl, _, rfl⟩
        · have p1 : ¬ 0 < (s.rs.length : Int) := by omega
          have p2 : s.rs.length = 0 := by omega
          rw [p2] at c6
          rw [decide_eq_false hr]
          simp only [Bool.false_or]
          clear p1 p2 hr
          by_cases hl : s.l.length < s.sz
          · have p3 : (s.l.length : Int) < (s.sz : Int) := by omega
            rw [decide_eq_true hl]
            go_enter Tryz.func38, Tryz.ntmps38
            go_wp2_with fail
            go_quiet (fail)
            go_wp2_with fail
            go_ret
            exact ⟨rfl, _, rfl⟩
          · have p3 : ¬ (s.l.length : Int) < (s.sz : Int) := by omega
            rw [decide_eq_false hl]
            go_enter Tryz.func38, Tryz.ntmps38
            go_wp2_with fail
            go_quiet (fail)
            go_wp2_with fail
            go_ret
            exact ⟨rfl, _, rfl⟩
    | false =>
      clear hx hk hk2
      show Calls _ _ _ _ fun e w' => e = .returned (.bool (s.cl || decide (0 < s.ss.length) || decide (0 < s.l.length))) ∧ _
      generalize s.cl = cl at *
      cases cl with
      | true =>
        simp only [Bool.true_or]
        go_enter Tryz.func38, Tryz.ntmps38
        go_wp2_with fail
        go_ret
        exact ⟨rfl, 0, rfl⟩
      | false =>
        simp only [Bool.false_or]
        by_cases hr : 0 < s.ss.length
        · have p1 : 0 < (s.ss.length : Int) := by omega
          rw [decide_eq_true hr]
          simp only [Bool.true_or]
          go_enter Tryz.func38, Tryz.ntmps38
          go_wp2_with fail
          go_ret
          exact ⟨rfl, 0, rfl⟩
        · have p2 : s.ss.length = 0 := by omega
          rw [p2] at c5
          rw [decide_eq_false hr]
          simp only [Bool.false_or]
          clear p2 hr
          by_cases hl : 0 < s.l.length
          · have p3 : 0 < (s.l.length : Int) := by omega
            rw [decide_eq_true hl]
            go_enter Tryz.func38, Tryz.ntmps38
            go_wp2_with fail
            go_ret
            exact ⟨rfl, 0, rfl⟩
          · have p4 : s.l.length = 0 := by omega
            rw [p4] at c4
            rw [decide_eq_false hl]
            clear p4 hl
            go_enter Tryz.func38, Tryz.ntmps38
            go_wp2_with fail
            go_ret
            exact ⟨rfl, 0, rfl⟩
end
theorem others_any {w : World} {A : Option Addr} {n c : Nat} {l : List Wt} (t : Int) (h : RdW w A n l) (hn : n ≤ 1000000) : Calls Tryz.prog 70 #[.slice A n c, .int .i64 t] w fun e w' => e = .returned (.bool (meet t l)) ∧ w = w' := by
  have H := Lib.hid h
  have b1 : (n : Int) ≤ 1000000 := by omega
  clear h
  go_enter Tryz.func70, Tryz.ntmps70
  go_wp2_with fail
  go_loopw [5] (fun i wr => ∃ k : Nat, k ≤ n ∧ i = .int .i64 k ∧ wr = w ∧ Hid (∀ x ∈ l.take k, isT t x = true)) (fun i _ => n - (intOf i).toNat)
  case atStart => exact ⟨0, by omega, rfl, rfl, by show ∀ _ ∈ _, _; simp⟩
  case round =>
    obtain ⟨k, hk, rfl, rfl, hT⟩ := hrel
    by_cases hlt : k < n
    · have k1 : (k : Int) < (n : Int) := by omega
      have k2 : 0 ≤ (k : Int) := by omega
      have hkl : k < l.length := by rw [H.out.1]; exact hlt
      have hx : l[k]? = some (l[k]'hkl) := List.getElem?_eq_getElem hkl
      have HT : Hid (l.take (k + 1) = l.take k ++ [l[k]'hkl]) := List.take_succ_eq_append_getElem hkl
      obtain ⟨bb, o, e0, hb, hc⟩ := H.out.cells (by omega)
      subst e0
      have c0 := (hc k _ hx).1
      generalize l[k]'hkl = x at *
      have HX : Hid (x ∈ l) := List.mem_of_getElem? hx
      clear hc hb hx hkl
      by_cases d : x.t = t
      · have HT2 : Hid (∀ x ∈ l.take (k + 1), isT t x = true) := by
          show ∀ _ ∈ _, _
          rw [HT.out]
          intro y hy
          rcases List.mem_append.1 hy with hy | hy
          · exact hT.out y hy
          · simp at hy; subst hy; simp [isT, d]
        clear hT HT
        go_wp2_with fail
        go_roundw
        case rel => exact ⟨k + 1, by omega, by go_num, trivial, HT2⟩
        case measure => simp [intOf]; omega
      · have HE : Hid (meet t l = true) := by
          show _ = _
          unfold meet
          rw [List.any_eq_true]
          exact ⟨x, HX.out, by simp [isT, d]⟩
        have d2 : ¬ x.t = t := d
        clear hT HT
        go_wp2_with fail
        go_ret
        exact ⟨ret_bool HE.out.symm, rfl⟩
    · obtain rfl : k = n := by omega
      have HE : Hid (meet t l = false) := by
        show _ = _
        unfold meet
        rw [List.any_eq_false]
        intro x hx
        have h9 := hT.out
        rw [List.take_of_length_le (by rw [H.out.1]; exact Nat.le_refl _)] at h9
        simp [h9 x hx]
      clear hT
      go_wp2_with fail
      go_ret
      exact ⟨ret_bool HE.out.symm, rfl⟩
end Go.Proofs.YtmadcnpkaijllaaGreat.Ch
