/- check, Check, All and Name tell what they say. Conditions: the table lies in its variable; the instructions lie where the slices say. -/
import Derived.Test.YtgojnhbmelnpnaaDoorPMay
namespace Go.Proofs.YtgojnhbmelnpnaaDoor.Pg
open Go.RowKit
set_option linter.unusedVariables false
set_option maxRecDepth 100000

def eN (b : Bool) : Int := if b then 0 else 1
set_option maxHeartbeats 1000000 in
theorem check_any (pr : Int) (hp : 0 ≤ pr) (hp2 : pr ≤ 1000) (A : Option Addr) (n cap : Nat) (l : List In) (w : World) (hF : Hid (FT w)) (hR : Hid (RdI w A n l)) :
    Calls Tryd.prog 20 #[.slice A n cap, .int .i64 pr] w (IntR (eN (checkB l pr)) w) := by
  by_cases hlen : 100 < n
  · have HC : Hid (checkB l pr = false) := by show _ = _; unfold checkB; rw [decide_eq_false (by rw [hR.out.1]; omega)]; rfl
    go_enter Tryd.func20, Tryd.ntmps20
    go_wp2
    go_ret
    exact ⟨by rw [HC.out]; rfl, Below.refl _ _⟩
  · have HC : Hid (checkB l pr = l.all (mayB n pr)) := by show _ = _; unfold checkB; rw [decide_eq_true (by rw [hR.out.1]; omega), hR.out.1]; rfl
    have HB0 := Lib.hid (below_al w (.cells #[.int .i64 n, .int .i64 pr] 54))
    have HS0 : Hid ((bxA w n pr).heap.size = w.heap.size + 1) := by show _ = _; simp
    have HD : Hid (∀ j, (bxA w n pr).cell? ⟨w.heap.size, j, none⟩ = (#[Value.int .i64 n, .int .i64 pr])[j]?) := fun j => by rw [World.cell?_alloc_at _ _ _ _ rfl]
    go_enter Tryd.func20, Tryd.ntmps20
    go_wp2
    go_loopw [17] (fun i wr => ∃ k : Nat, k ≤ n ∧ i = .int .i64 k ∧ Hid (Below (w.heap.size + 1) (bxA w n pr) wr) ∧ Hid ((l.take k).all (mayB n pr) = true)) (fun i _ => n - (intOf i).toNat)
    case atStart => exact ⟨0, by omega, rfl, Below.refl _ _, rfl⟩
    case round =>
      obtain ⟨k, hk, rfl, hB, hA⟩ := hrel
      have hBw : Hid (Below w.heap.size w wr) := HB0.out.trans (hB.out.mono (by omega))
      by_cases hlt : k < n
      · obtain ⟨bb, off, rfl, hb, hc⟩ := hR.out.cells (by omega)
        have hky : k < l.length := by rw [hR.out.1]; exact hlt
        obtain ⟨c0, c1, c2, c3, c4, c5⟩ := hc k (l[k]'hky) (List.getElem?_eq_getElem hky)
        have htk : l.take (k + 1) = l.take k ++ [l[k]'hky] := List.take_succ_eq_append_getElem hky
        have HM : Hid (l[k]'hky ∈ l) := List.getElem_mem hky
        have HAt := Lib.hid ((hR.out.2.2 _ HM.out).later hBw.out)
        have hbw : bb < wr.heap.size := Nat.lt_of_lt_of_le hb hBw.out.size
        rw [← cell_blk (hBw.out.block bb hb)] at c0 c1 c2 c3 c4 c5
        generalize l[k]'hky = x at *
        obtain ⟨op, a, b, c, A, nn, cp, d, cs⟩ := x
        simp only at c0 c1 c2 c3 c4 c5
        have HTK := Lib.hid htk
        have hs : w.heap.size + 1 ≤ wr.heap.size := by have := hB.out.size; rw [HS0.out] at this; exact this
        have hs1 : w.heap.size < wr.heap.size := hs
        have d0 : wr.cell? ⟨w.heap.size, 0, none⟩ = some (.int .i64 n) := (cell_blk (hB.out.block _ (by omega)) 0).trans (HD.out 0)
        have d1 : wr.cell? ⟨w.heap.size, 1, none⟩ = some (.int .i64 pr) := (cell_blk (hB.out.block _ (by omega)) 1).trans (HD.out 1)
        have HB1 : Hid (Below wr.heap.size wr (wr.alloc (.cells #[.int .i64 op, .int .i64 a, .int .i64 b, .int .i64 c, .slice A nn cp, .bool d] 39))) := below_al wr _
        have HB2 := Lib.hid (hBw.out.trans (HB1.out.mono hBw.out.size))
        have HB3 := Lib.hid (hB.out.trans (HB1.out.mono hs))
        have HF2 := Lib.hid (hF.out.later HB2.out)
        have HC2 := Lib.hid (HAt.out.2.2.later HB1.out)
        clear htk hc hky hs
        by_cases hm : mayB n pr ⟨op, a, b, c, A, nn, cp, d, cs⟩ = true
        · have HX := Lib.hid hm
          clear hm
          go_wp2_with fail
          refine (mayBe_yes HX.out hp hp2 _ HF2.out HC2.out).mono ?_
          rintro e w1 ⟨rfl, hb1⟩
          have HB4 := Lib.hid (HB3.out.trans (hb1.mono (by simp; omega)))
          clear hb1 c0 c1 c2 c3 c4 c5 d0 d1
          go_wp2_with fail
          go_roundw
          case rel => exact ⟨k + 1, by omega, by go_num, HB4.out, all_next HTK.out hA.out HX.out⟩
          case measure => simp [intOf]; omega
        · have HX := Lib.hid (eq_false_of_ne_true hm)
          clear hm
          go_wp2_with fail
          refine (mayBe_no HX.out hp hp2 _ HF2.out HC2.out).mono ?_
          rintro e w1 ⟨rfl, hb1⟩
          have HB4 := Lib.hid (HB2.out.trans (hb1.mono HB2.out.size))
          clear hb1 c0 c1 c2 c3 c4 c5 d0 d1
          go_wp2_with fail
          go_ret
          exact ⟨by rw [HC.out, all_no HM.out HX.out]; rfl, HB4.out⟩
      · obtain rfl : k = n := by omega
        go_wp2
        go_ret
        exact ⟨by have h := hA.out; rw [List.take_of_length_le (by rw [hR.out.1]; omega)] at h; rw [HC.out, h]; rfl, hBw.out⟩
theorem Check_any (A : Option Addr) (n cap : Nat) (l : List In) (w : World) (hF : Hid (FT w)) (hR : Hid (RdI w A n l)) : Calls Tryd.prog 15 #[.slice A n cap] w (IntR (eN (checkB l 16)) w) := by
  have HK := Lib.hid (check_any 16 (by omega) (by omega) A n cap l w hF hR)
  go_enter Tryd.func15, Tryd.ntmps15
  go_wp2_with fail
  refine HK.out.mono ?_
  rintro e w1 ⟨rfl, hb1⟩
  have HB1 := Lib.hid hb1
  clear hb1
  generalize eN _ = z at *
  go_wp2_with fail
  go_ret
  exact ⟨rfl, HB1.out⟩
theorem Check_yes {A : Option Addr} {n cap : Nat} {l : List In} {w : World} (hF : FT w) (hR : RdI w A n l) (h : checkB l 16 = true) : Calls Tryd.prog 15 #[.slice A n cap] w (IntR 0 w) := by
  have h1 := Check_any A n cap l w hF hR
  rwa [h] at h1
theorem Check_no {A : Option Addr} {n cap : Nat} {l : List In} {w : World} (hF : FT w) (hR : RdI w A n l) (h : checkB l 16 = false) : Calls Tryd.prog 15 #[.slice A n cap] w (IntR 1 w) := by
  have h1 := Check_any A n cap l w hF hR
  rwa [h] at h1
theorem check_yes {pr : Int} (hp : 0 ≤ pr) (hp2 : pr ≤ 1000) {A : Option Addr} {n cap : Nat} {l : List In} {w : World} (hF : FT w) (hR : RdI w A n l) (h : checkB l pr = true) : Calls Tryd.prog 20 #[.slice A n cap, .int .i64 pr] w (IntR 0 w) := by
  have h1 := check_any pr hp hp2 A n cap l w hF hR
  rwa [h] at h1
theorem check_no {pr : Int} (hp : 0 ≤ pr) (hp2 : pr ≤ 1000) {A : Option Addr} {n cap : Nat} {l : List In} {w : World} (hF : FT w) (hR : RdI w A n l) (h : checkB l pr = false) : Calls Tryd.prog 20 #[.slice A n cap, .int .i64 pr] w (IntR 1 w) := by
  have h1 := check_any pr hp hp2 A n cap l w hF hR
  rwa [h] at h1
end Go.Proofs.YtgojnhbmelnpnaaDoor.Pg
