/- The document's own answer whether a program, and whether programs, may be. Conditions: the instructions lie where the slices say, with few cases each. -/
import Derived.Test.YtgojnhbmelnpnaaDoorOne
namespace Go.Proofs.YtgojnhbmelnpnaaDoor.Pg
open Go.RowKit
set_option linter.unusedVariables false
set_option maxRecDepth 100000

set_option maxHeartbeats 1000000 in
theorem prog_ref (A : Option Addr) (n cap : Nat) (l : List In) (w : World) (hR : Hid (RdI w A n l)) (hsm : Hid (∀ e ∈ l, e.n ≤ 20)) : Calls Tryd.prog 18 #[.slice A n cap] w (BoolR (checkB l 16) w) := by
  by_cases hlen : 100 < n
  · have HC : Hid (checkB l 16 = false) := by show _ = _; unfold checkB; rw [decide_eq_false (by rw [hR.out.1]; omega)]; rfl
    go_enter Tryd.func18, Tryd.ntmps18
    go_wp2
    go_ret
    exact ⟨ret_bool HC.out.symm, Below.refl _ _⟩
  · have HC : Hid (checkB l 16 = l.all (mayB n 16)) := by show _ = _; unfold checkB; rw [decide_eq_true (by rw [hR.out.1]; omega), hR.out.1]; rfl
    go_enter Tryd.func18, Tryd.ntmps18
    go_wp2
    go_loopw [3] (fun i wr => ∃ k : Nat, k ≤ n ∧ i = .int .i64 k ∧ Hid (Below w.heap.size w wr) ∧ Hid ((l.take k).all (mayB n 16) = true)) (fun i _ => n - (intOf i).toNat)
    case atStart => exact ⟨0, by omega, rfl, Below.refl _ _, rfl⟩
    case round =>
      obtain ⟨k, hk, rfl, hB, hA⟩ := hrel
      by_cases hlt : k < n
      · obtain ⟨bb, off, rfl, hb, hc⟩ := hR.out.cells (by omega)
        have hky : k < l.length := by rw [hR.out.1]; exact hlt
        obtain ⟨c0, c1, c2, c3, c4, c5⟩ := hc k (l[k]'hky) (List.getElem?_eq_getElem hky)
        have htk : l.take (k + 1) = l.take k ++ [l[k]'hky] := List.take_succ_eq_append_getElem hky
        have HM : Hid (l[k]'hky ∈ l) := List.getElem_mem hky
        have HAt := Lib.hid ((hR.out.2.2 _ HM.out).later hB.out)
        have hxn := hsm.out _ HM.out
        rw [← cell_blk (hB.out.block bb hb)] at c0 c1 c2 c3 c4 c5
        generalize l[k]'hky = x at *
        obtain ⟨op, a, b, c, A, nn, cp, d, cs⟩ := x
        simp only at c0 c1 c2 c3 c4 c5 hxn
        have HTK := Lib.hid htk
        clear htk hc hky
        by_cases hm : mayB n 16 ⟨op, a, b, c, A, nn, cp, d, cs⟩ = true
        · have HX := Lib.hid hm
          clear hm
          go_wp2_with fail
          refine (one_yes HX.out wr (by show nn ≤ _; omega) HAt.out.2.2).mono ?_
          rintro e w1 ⟨rfl, hb1⟩
          have HB4 := Lib.hid (hB.out.trans (hb1.mono hB.out.size))
          clear hb1 c0 c1 c2 c3 c4 c5
          go_wp2_with fail
          go_roundw
          case rel => exact ⟨k + 1, by omega, by go_num, HB4.out, all_next HTK.out hA.out HX.out⟩
          case measure => simp [intOf]; omega
        · have HX := Lib.hid (eq_false_of_ne_true hm)
          clear hm
          go_wp2_with fail
          refine (one_no HX.out wr (by show nn ≤ _; omega) HAt.out.2.2).mono ?_
          rintro e w1 ⟨rfl, hb1⟩
          have HB4 := Lib.hid (hB.out.trans (hb1.mono hB.out.size))
          clear hb1 c0 c1 c2 c3 c4 c5
          go_wp2_with fail
          go_ret
          exact ⟨ret_bool (by rw [HC.out, all_no HM.out HX.out]), HB4.out⟩
      · obtain rfl : k = n := by omega
        go_wp2
        go_ret
        exact ⟨ret_bool (by have h := hA.out; rw [List.take_of_length_le (by rw [hR.out.1]; omega)] at h; rw [HC.out, h]), hB.out⟩
theorem prog_yes {A : Option Addr} {n cap : Nat} {l : List In} {w : World} (hR : RdI w A n l) (hsm : ∀ e ∈ l, e.n ≤ 20) (h : checkB l 16 = true) : Calls Tryd.prog 18 #[.slice A n cap] w (BoolR true w) := by
  have h1 := prog_ref A n cap l w hR hsm
  rwa [h] at h1
theorem prog_no {A : Option Addr} {n cap : Nat} {l : List In} {w : World} (hR : RdI w A n l) (hsm : ∀ e ∈ l, e.n ≤ 20) (h : checkB l 16 = false) : Calls Tryd.prog 18 #[.slice A n cap] w (BoolR false w) := by
  have h1 := prog_ref A n cap l w hR hsm
  rwa [h] at h1

/-- Does an instruction name programs that are there? -/
def thereB (pr : Int) (e : In) : Bool := !(decide (e.op = 8 ∧ pr ≤ e.b) || decide ((e.op = 19 ∨ e.op = 31) ∧ pr ≤ e.c))
theorem row_three : ∀ k : Fin 33, (row k.val).a ≠ 3 ∧ ((row k.val).b = 3 ↔ k.val = 8) ∧ ((row k.val).c = 3 ↔ k.val = 19 ∨ k.val = 31) := by decide +kernel
theorem fits_pr {i pr qr n k : Int} (h : k ≠ 3) : fitsB i pr n k = fitsB i qr n k := by
  unfold fitsB mostB; simp [h]
theorem fits_3 (i n : Int) {pr : Int} (hp : pr ≤ 16) : fitsB i pr n 3 = (fitsB i 16 n 3 && decide (n < pr)) := by
  unfold fitsB mostB
  rw [← Bool.decide_and]
  congr 1
  simp; omega
theorem may_there {ins pr : Int} (hp : pr ≤ 16) (e : In) : mayB ins pr e = (mayB ins 16 e && thereB pr e) := by
  by_cases ho : 1 ≤ e.op ∧ e.op ≤ 32
  · obtain ⟨op, a, b, c, A, n, cap, d, cs⟩ := e
    simp only at ho
    obtain ⟨k, rfl⟩ := Int.eq_ofNat_of_zero_le (show 0 ≤ op by omega)
    obtain ⟨q1, q2, q3⟩ := row_three ⟨k, by omega⟩
    simp only at q1 q2 q3
    rw [mayB_in ins pr k (by omega) (by omega), mayB_in ins 16 k (by omega) (by omega), fits_pr (qr := 16) (n := a) q1]
    have hb : fitsB ins pr b (row k).b = (fitsB ins 16 b (row k).b && !decide ((k : Int) = 8 ∧ pr ≤ b)) := by
      by_cases h8 : k = 8
      · rw [q2.2 h8, fits_3 ins b hp]; subst h8
        congr 1
        rw [← decide_not]; congr 1; simp
      · rw [fits_pr (qr := 16) (fun h => h8 (q2.1 h)), decide_eq_false (by omega)]; simp
    have hc : fitsB ins pr c (row k).c = (fitsB ins 16 c (row k).c && !decide (((k : Int) = 19 ∨ (k : Int) = 31) ∧ pr ≤ c)) := by
      by_cases h8 : k = 19 ∨ k = 31
      · rw [q3.2 h8, fits_3 ins c hp]
        congr 1
        rw [← decide_not]; congr 1; simp; omega
      · rw [fits_pr (qr := 16) (fun h => h8 (q3.1 h)), decide_eq_false (by omega)]; simp
    rw [hb, hc]
    unfold thereB
    simp only [Bool.not_or]
    generalize fitsB ins 16 a (row k).a = x1
    generalize fitsB ins 16 b (row k).b = x2
    generalize fitsB ins 16 c (row k).c = x3
    generalize casB _ = x4
    generalize decide ((k : Int) = 8 ∧ pr ≤ b) = x5
    generalize decide (((k : Int) = 19 ∨ (k : Int) = 31) ∧ pr ≤ c) = x6
    cases x1 <;> cases x2 <;> cases x3 <;> cases x4 <;> cases x5 <;> cases x6 <;> rfl
  · rw [mayB_out _ _ _ ho, mayB_out _ _ _ ho]; rfl
theorem check_there {pr : Int} (hp : pr ≤ 16) (l : List In) : checkB l pr = (checkB l 16 && l.all (thereB pr)) := by
  unfold checkB
  rw [Bool.and_assoc]
  congr 1
  rw [show mayB l.length pr = fun e => mayB l.length 16 e && thereB pr e from funext fun e => may_there hp e]
  induction l.length generalizing l with
  | _ => 
    induction l with
    | nil => rfl
    | cons a l ih => simp only [List.all_cons, ih]; cases mayB _ 16 a <;> cases thereB pr a <;> simp
end Go.Proofs.YtgojnhbmelnpnaaDoor.Pg
