/- The document's own registers of an instruction. Condition: the cases lie where the instruction says. -/
import Derived.Test.YtifmamobhkgmfaaDoorRwA
import Derived.Deep.RegionHeld3
import Derived.Deep.CutRange
import Derived.Deep.DeepCutAuto
namespace Go.Proofs.YtifmamobhkgmfaaDoor
open Go.RowKit
set_option linter.unusedVariables false

structure RwS (w wr : World) (B I F X : Nat) (k a b c : Int) (A : Option Addr) (n cap : Nat) (d : Bool) (f : Rf) (g : Nat → Bool) : Prop where
  bel : Below w.heap.size w wr
  lI : w.heap.size ≤ I
  lB : B < wr.heap.size
  lF : F < wr.heap.size
  lX : X < wr.heap.size
  nB : B ≠ I
  nF : F ≠ I
  nX : X ≠ I
  own : Own wr I 8
  ci : ∀ j, wr.cell? ⟨B, j, none⟩ = (#[Value.int .i64 k, .int .i64 a, .int .i64 b, .int .i64 c, .slice A n cap, .bool d])[j]?
  cf : ∀ j, wr.cell? ⟨F, j, none⟩ = (#[Value.int .i64 f.a, .int .i64 f.b, .int .i64 f.c])[j]?
  cx : ∀ j, wr.cell? ⟨X, j, none⟩ = (#[Value.int .i64 a, .int .i64 b, .int .i64 c])[j]?
  cg : ∀ j, j < 8 → wr.cell? ⟨I, j, none⟩ = some (.bool (g j))
theorem RwS.mark {w wr : World} {B I F X : Nat} {k a b c : Int} {A : Option Addr} {n cap : Nat} {d : Bool} {f : Rf} {g : Nat → Bool} (h : RwS w wr B I F X k a b c A n cap d f g) (y : Nat) (hy : y < 8) (g' : Nat → Bool) (hg : ∀ j, j < 8 → g' j = (g j || decide ((j : Int) = (y : Int)))) : RwS w (wr.setCell ⟨I, y, none⟩ (.bool true)) B I F X k a b c A n cap d f g' := by
  refine ⟨h.bel.setCell (p := ⟨I, y, none⟩) h.lI _, h.lI, by simpa [World.setCell] using h.lB, by simpa [World.setCell] using h.lF, by simpa [World.setCell] using h.lX, h.nB, h.nF, h.nX, h.own.set _ _, fun j => ?_, fun j => ?_, fun j => ?_, fun j hj => ?_⟩
  · rw [cell_set_other (.inl (fun e => h.nB e.symm))]; exact h.ci j
  · rw [cell_set_other (.inl (fun e => h.nF e.symm))]; exact h.cf j
  · rw [cell_set_other (.inl (fun e => h.nX e.symm))]; exact h.cx j
  · rw [hg j hj]
    by_cases hjy : j = y
    · subst hjy
      rw [cell_set_same h.own hy]; simp
    · rw [cell_set_other (.inr (fun e => hjy e.symm)), h.cg j hj, decide_eq_false (by omega), Bool.or_false]
theorem RwS.same {w wr : World} {B I F X : Nat} {k a b c : Int} {A : Option Addr} {n cap : Nat} {d : Bool} {f : Rf} {g g' : Nat → Bool} (h : RwS w wr B I F X k a b c A n cap d f g) (hg : ∀ j, j < 8 → g' j = g j) : RwS w wr B I F X k a b c A n cap d f g' :=
  ⟨h.bel, h.lI, h.lB, h.lF, h.lX, h.nB, h.nF, h.nX, h.own, h.ci, h.cf, h.cx, fun j hj => by rw [hg j hj]; exact h.cg j hj⟩
theorem field_reg {ins : Int} {f x : Rf} (h : fieldsB ins f x = true) (m : Nat) (hm : m < 3) (hc : rfAt f m = 1 ∨ rfAt f m = 2 ∨ rfAt f m = 6) : regB (rfAt x m) = true := by
  have h9 : okC ins (rfAt f m) (rfAt x m) = true := by
    unfold fieldsB at h
    simp only [Bool.and_eq_true] at h
    match m, hm with
    | 0, _ => exact h.1
    | 1, _ => exact h.2.1
    | 2, _ => exact h.2.2
  rcases hc with e | e | e <;> (rw [e] at h9; exact h9)
theorem al3_0' (w : World) (cs : Array Value) (t : TypeId) (o2 o3 : Obj) (j : Nat) : (((w.alloc (.cells cs t)).alloc o2).alloc o3).drew.cell? ⟨w.heap.size, j, none⟩ = cs[j]? := al3_0 w cs t o2 o3 j

set_option maxRecDepth 100000 in
set_option maxHeartbeats 4000000 in
theorem writes_ref (k : Nat) (h1 : 1 ≤ k) (h2 : k ≤ 32) (a b c : Int) (A : Option Addr) (n cap : Nat) (d : Bool) (cs : List Ca) (w : World) (hn : n ≤ 4611686018427387904) (hR : Hid (RdC w A n cs)) :
    Calls Tryd.prog 20 #[vI ⟨k, a, b, c, A, n, cap, d, cs⟩] w (ListR (writeL ⟨k, a, b, c, A, n, cap, d, cs⟩) w) := by
  have HX0 : Hid (∀ j, ((w.alloc (.cells #[.int .i64 k, .int .i64 a, .int .i64 b, .int .i64 c, .slice A n cap, .bool d] 36)).alloc (.cells #[.bool false, .bool false, .bool false, .bool false, .bool false, .bool false, .bool false, .bool false] 54)).cell? ⟨w.heap.size, j, none⟩ = (#[Value.int .i64 k, .int .i64 a, .int .i64 b, .int .i64 c, .slice A n cap, .bool d])[j]?) := fun j => by
    rw [World.cell?_alloc_past _ _ _ (by simp), World.cell?_alloc_at _ _ _ _ rfl]
  have HI0 : Hid (∀ j, j < 8 → ((w.alloc (.cells #[.int .i64 k, .int .i64 a, .int .i64 b, .int .i64 c, .slice A n cap, .bool d] 36)).alloc (.cells #[.bool false, .bool false, .bool false, .bool false, .bool false, .bool false, .bool false, .bool false] 54)).cell? ⟨w.heap.size + 1, j, none⟩ = some (.bool false)) := fun j hj => by
    rw [World.cell?_alloc_at _ _ _ _ (by simp)]
    match j, hj with
    | 0, _ => rfl
    | 1, _ => rfl
    | 2, _ => rfl
    | 3, _ => rfl
    | 4, _ => rfl
    | 5, _ => rfl
    | 6, _ => rfl
    | 7, _ => rfl
  have HO0 : Hid (Own ((w.alloc (.cells #[.int .i64 k, .int .i64 a, .int .i64 b, .int .i64 c, .slice A n cap, .bool d] 36)).alloc (.cells #[.bool false, .bool false, .bool false, .bool false, .bool false, .bool false, .bool false, .bool false] 54)) (w.heap.size + 1) 8) := by
    have h9 := heap_alloc_new (w.alloc (.cells #[.int .i64 k, .int .i64 a, .int .i64 b, .int .i64 c, .slice A n cap, .bool d] 36)) (.cells #[.bool false, .bool false, .bool false, .bool false, .bool false, .bool false, .bool false, .bool false] 54)
    rw [World.size_alloc] at h9
    exact ⟨_, _, h9, Nat.le_refl _⟩
  have HB0 := Lib.hid (two_box w (.cells #[.int .i64 k, .int .i64 a, .int .i64 b, .int .i64 c, .slice A n cap, .bool d] 36) (.cells #[.bool false, .bool false, .bool false, .bool false, .bool false, .bool false, .bool false, .bool false] 54))
  have hsz : ((w.alloc (.cells #[.int .i64 k, .int .i64 a, .int .i64 b, .int .i64 c, .slice A n cap, .bool d] 36)).alloc (.cells #[.bool false, .bool false, .bool false, .bool false, .bool false, .bool false, .bool false, .bool false] 54)).heap.size = w.heap.size + 2 := by simp
  have HSZ := Lib.hid hsz
  clear hsz
  by_cases hm : mayB 100 16 ⟨k, a, b, c, A, n, cap, d, cs⟩ = true
  · have HH := Lib.hid hm
    have HL : Hid (writeL ⟨k, a, b, c, A, n, cap, d, cs⟩ = risP (writeM ⟨k, a, b, c, A, n, cap, d, cs⟩).testBit 8) := if_pos hm
    have HFl : Hid (fieldsB 100 (rf k) ⟨a, b, c⟩ = true) := by have h := hm; rw [may_ref 100 k h1 h2] at h; simp only [Bool.and_eq_true] at h; exact h.1
    have HEq : Hid (∀ j, (writeM ⟨k, a, b, c, A, n, cap, d, cs⟩).testBit j = mk pW (rf k) ⟨a, b, c⟩ 3 j) := write_eq k h1 h2 a b c A n cap d cs hm
    have HF := Lib.hid (form_ref k h1 h2)
    clear hm
    go_enter Tryd.func20, Tryd.ntmps20
    go_wp2_with fail
    refine (one_yes (e := ⟨k, a, b, c, A, n, cap, d, cs⟩) HH.out _ hn (hR.out.later HB0.out)).mono ?_
    rintro e w1 ⟨rfl, hb⟩
    have HB1 := Lib.hid (HB0.out.trans (hb.mono HB0.out.size))
    have HCi : Hid (∀ j, w1.cell? ⟨w.heap.size, j, none⟩ = (#[Value.int .i64 k, .int .i64 a, .int .i64 b, .int .i64 c, .slice A n cap, .bool d])[j]?) := fun j => (cell_blk (hb.block _ (by rw [HSZ.out]; omega)) j).trans (HX0.out j)
    have HIi : Hid (∀ j, j < 8 → w1.cell? ⟨w.heap.size + 1, j, none⟩ = some (.bool false)) := fun j hj => (cell_blk (hb.block _ (by rw [HSZ.out]; omega)) j).trans (HI0.out j hj)
    have HOi : Hid (Own w1 (w.heap.size + 1) 8) := HO0.out.eq (hb.block _ (by rw [HSZ.out]; omega))
    have hN1 : w.heap.size + 1 < w1.heap.size := by have h9 := hb.size; rw [HSZ.out] at h9; omega
    clear hb HX0 HI0 HO0 HB0 HSZ
    go_wp2_with fail
    generalize rf k = f at *
    have KP : Hid (∀ w', Below w1.heap.size w1 w' → w'.cell? ⟨w.heap.size, 0, none⟩ = some (.int .i64 k) ∧ w'.cell? ⟨w.heap.size, 1, none⟩ = some (.int .i64 a) ∧ w'.cell? ⟨w.heap.size, 2, none⟩ = some (.int .i64 b) ∧ w'.cell? ⟨w.heap.size, 3, none⟩ = some (.int .i64 c) ∧ Hid (Below w1.heap.size w1 w')) :=
      fun w' hb => ⟨(cell_blk (hb.block _ (by omega)) 0).trans (HCi.out 0), (cell_blk (hb.block _ (by omega)) 1).trans (HCi.out 1), (cell_blk (hb.block _ (by omega)) 2).trans (HCi.out 2), (cell_blk (hb.block _ (by omega)) 3).trans (HCi.out 3), hb⟩
    go_cut [4, 5] (fun s4 s5 wx => ∃ F X : Nat, s4 = .pointer (some ⟨F, 0, none⟩) ∧ s5 = .pointer (some ⟨X, 0, none⟩) ∧ Hid (Below w1.heap.size w1 wx) ∧ (w1.heap.size ≤ F ∧ F < wx.heap.size) ∧ (w1.heap.size ≤ X ∧ X < wx.heap.size) ∧ Hid (∀ j, wx.cell? ⟨F, j, none⟩ = (#[Value.int .i64 f.a, .int .i64 f.b, .int .i64 f.c])[j]?) ∧ Hid (∀ j, wx.cell? ⟨X, j, none⟩ = (#[Value.int .i64 a, .int .i64 b, .int .i64 c])[j]?))
    case first =>
      go_region_held3 (fun w' => w'.cell? ⟨w.heap.size, 0, none⟩ = some (.int .i64 k) ∧ w'.cell? ⟨w.heap.size, 1, none⟩ = some (.int .i64 a) ∧ w'.cell? ⟨w.heap.size, 2, none⟩ = some (.int .i64 b) ∧ w'.cell? ⟨w.heap.size, 3, none⟩ = some (.int .i64 c) ∧ Hid (Below w1.heap.size w1 w'))
        (first
          | exact KP.out _ (by repeat' (first | exact Below.refl _ _ | refine Below.drew ?_ | refine Below.alloc ?_ (by simp <;> omega) _ | refine Below.setCell ?_ (by simp <;> omega) _)))
        (first | (go_at_call 28; (with_reducible refine (HF.out _).mono ?_); rintro e w' ⟨rfl, rfl⟩))
      all_goals (go_wp2_with fail)
      all_goals go_meet
      all_goals (exact ⟨_, _, rfl, rfl, (by repeat' (first | exact Below.refl _ _ | refine Below.drew ?_ | refine Below.alloc ?_ (by simp <;> omega) _)), ⟨by omega, by simp <;> omega⟩, ⟨by omega, by simp <;> omega⟩,
        fun j => by first | exact al3_0 _ _ _ _ _ j | exact al3_1 _ _ _ _ _ j | exact al3_2 _ _ _ _ _ j,
        fun j => by first | exact al3_0 _ _ _ _ _ j | exact al3_1 _ _ _ _ _ j | exact al3_2 _ _ _ _ _ j⟩)
    case rest =>
      obtain ⟨F, X, rfl, rfl, hB, ⟨hF1, hF⟩, ⟨hX1, hX⟩, hcf, hcx⟩ := hcut
      have HS : Hid (RwS w wc w.heap.size (w.heap.size + 1) F X k a b c A n cap d f (mk pW f ⟨a, b, c⟩ 0)) := by
        have hbw := HB1.out.trans (hB.out.mono (by omega))
        refine ⟨hbw, by omega, by have := hB.out.size; omega, hF, hX, by omega, by omega, by omega, HOi.out.eq (hB.out.block _ hN1), fun j => ?_, hcf.out, hcx.out, fun j hj => ?_⟩
        · rw [cell_blk (hB.out.block _ (by omega)) j]; exact HCi.out j
        · rw [cell_blk (hB.out.block _ hN1) j]; exact HIi.out j hj
      clear hB hF hX hF1 hX1 hcf hcx KP HB1 HF HCi HIi HOi hN1
      generalize hB : w.heap.size = B at *
      generalize hI : B + 1 = I at *
      go_wp2_with fail
      go_loopw [6] (fun i wr => ∃ m : Nat, m ≤ 3 ∧ i = .int .i64 m ∧ Hid (RwS w wr B I F X k a b c A n cap d f (mk pW f ⟨a, b, c⟩ m))) (fun i _ => 3 - (intOf i).toNat)
      case atStart => exact ⟨0, by omega, rfl, HS.out⟩
      case round =>
        obtain ⟨m, hm, rfl, hS⟩ := hrel
        clear HS
        by_cases hm3 : m < 3
        · have hF : F < wr.heap.size := hS.out.lF
          have hX : X < wr.heap.size := hS.out.lX
          have hI : I < wr.heap.size := hS.out.own.lt
          have cf := rf_cell hS.out.cf m hm3
          have cx := rf_cell (f := ⟨a, b, c⟩) hS.out.cx m hm3
          have HReg := Lib.hid (field_reg HFl.out m hm3)
          have HNx : Hid (∀ j, mk pW f ⟨a, b, c⟩ (m + 1) j = (mk pW f ⟨a, b, c⟩ m j || (pW (rfAt f m) && decide ((j : Int) = rfAt ⟨a, b, c⟩ m)))) := fun j => rfl
          generalize rfAt f m = fc at *
          generalize rfAt ⟨a, b, c⟩ m = xv at *
          by_cases e1 : fc = 2
          · obtain ⟨y, hy, rfl⟩ := reg_nat (HReg.out (by omega))
            subst e1
            have HMk := Lib.hid (hS.out.mark y hy (mk pW f ⟨a, b, c⟩ (m + 1)) (fun j _ => by rw [HNx.out j]; rfl))
            obtain ⟨v0, hv0⟩ := hS.out.own.cell y hy
            have hfz := hS.out.own.frz y
            go_wp2_with fail
            go_roundw
            case rel => exact ⟨m + 1, by omega, by go_num, HMk.out⟩
            case measure => simp [intOf]; omega
          · have g1 : (fc == 2) = false := by simpa using e1
            by_cases e2 : fc = 6
            · obtain ⟨y, hy, rfl⟩ := reg_nat (HReg.out (by omega))
              subst e2
              have HMk := Lib.hid (hS.out.mark y hy (mk pW f ⟨a, b, c⟩ (m + 1)) (fun j _ => by rw [HNx.out j]; rfl))
              obtain ⟨v0, hv0⟩ := hS.out.own.cell y hy
              have hfz := hS.out.own.frz y
              go_wp2_with fail
              go_roundw
              case rel => exact ⟨m + 1, by omega, by go_num, HMk.out⟩
              case measure => simp [intOf]; omega
            · have g2 : (fc == 6) = false := by simpa using e2
              have HMk := Lib.hid (hS.out.same (g' := mk pW f ⟨a, b, c⟩ (m + 1)) (fun j _ => by rw [HNx.out j]; unfold pW; rw [decide_eq_false e1, decide_eq_false e2]; simp))
              clear e1 e2
              go_wp2_with fail
              go_roundw
              case rel => exact ⟨m + 1, by omega, by go_num, HMk.out⟩
              case measure => simp [intOf]; omega
        · have hm33 : m = 3 := by omega
          have hge : ¬ ((m : Int) < 3) := by omega
          have HS3 : Hid (RwS w wr B I F X k a b c A n cap d f (mk pW f ⟨a, b, c⟩ 3)) := by have h := hS.out; rw [hm33] at h; exact h
          clear hS hm33 hm hm3
          have G : Hid (∀ j, j < 8 → wr.cell? ⟨I, j, none⟩ = some (.bool ((writeM ⟨k, a, b, c, A, n, cap, d, cs⟩).testBit j))) := fun j hj => by rw [HEq.out j]; exact HS3.out.cg j hj
          have hI : I < wr.heap.size := HS3.out.own.lt
          have t0 := G.out 0 (by omega)
          have t1 := G.out 1 (by omega)
          have t2 := G.out 2 (by omega)
          have t3 := G.out 3 (by omega)
          have t4 := G.out 4 (by omega)
          have t5 := G.out 5 (by omega)
          have t6 := G.out 6 (by omega)
          have t7 := G.out 7 (by omega)
          have HB := Lib.hid HS3.out.bel
          clear HS3 G HEq
          generalize hG : (writeM ⟨k, a, b, c, A, n, cap, d, cs⟩).testBit = gg at *
          go_wp2_with fail
          refine (rising_ref gg wr).mono ?_
          rintro e w2 ⟨hb, A9, c9, q1, q2, rfl, q3⟩
          have HR3 : Hid (ListR (risP gg 8) w (.returned (.slice A9 (risP gg 8).length c9)) w2) := ⟨HB.out.trans (hb.mono HB.out.size), A9, c9, q1, q2, rfl, q3⟩
          clear hb q1 q2 q3 t0 t1 t2 t3 t4 t5 t6 t7 hG
          generalize risP gg 8 = xs at *
          generalize xs.length = N9 at *
          go_wp2_with fail
          go_ret
          rw [HL.out]
          exact HR3.out
  · have HH := Lib.hid (eq_false_of_ne_true hm)
    have HL : Hid (writeL ⟨k, a, b, c, A, n, cap, d, cs⟩ = []) := if_neg hm
    clear hm
    go_enter Tryd.func20, Tryd.ntmps20
    go_wp2_with fail
    refine (one_no (e := ⟨k, a, b, c, A, n, cap, d, cs⟩) HH.out _ hn (hR.out.later HB0.out)).mono ?_
    rintro e w1 ⟨rfl, hb⟩
    have HB1 := Lib.hid (HB0.out.trans (hb.mono HB0.out.size))
    clear hb
    go_wp2_with fail
    go_ret
    rw [HL.out]
    exact ListR.none w w1 HB1.out
end Go.Proofs.YtifmamobhkgmfaaDoor
