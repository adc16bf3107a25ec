/- The document's own answer whether an instruction may be. Condition: the cases lie where the instruction says. -/
import Derived.Test.YtgojnhbmelnpnaaDoorFmr
import Derived.Test.YtgojnhbmelnpnaaDoorPChk
import Derived.Deep.RegionHeld3
import Derived.Deep.CutRange
import Derived.Deep.DeepCutAuto
namespace Go.Proofs.YtgojnhbmelnpnaaDoor.Pg
open Go.RowKit
set_option linter.unusedVariables false
set_option maxRecDepth 100000

abbrev boxI (w : World) (op a b c : Int) (A : Option Addr) (n cap : Nat) (d : Bool) : World := w.alloc (.cells #[.int .i64 op, .int .i64 a, .int .i64 b, .int .i64 c, .slice A n cap, .bool d] 39)
theorem cells_of_box (w : World) (op a b c : Int) (A : Option Addr) (n cap : Nat) (d : Bool) : ∀ w1, Below (boxI w op a b c A n cap d).heap.size (boxI w op a b c A n cap d) w1 →
    w1.cell? ⟨w.heap.size, 0, none⟩ = some (.int .i64 op) ∧ w1.cell? ⟨w.heap.size, 1, none⟩ = some (.int .i64 a) ∧ w1.cell? ⟨w.heap.size, 2, none⟩ = some (.int .i64 b) ∧ w1.cell? ⟨w.heap.size, 3, none⟩ = some (.int .i64 c) ∧ w1.cell? ⟨w.heap.size, 4, none⟩ = some (.slice A n cap) ∧ w1.cell? ⟨w.heap.size, 5, none⟩ = some (.bool d) := by
  intro w1 hb
  have h : ∀ j, w1.cell? ⟨w.heap.size, j, none⟩ = (#[Value.int .i64 op, .int .i64 a, .int .i64 b, .int .i64 c, .slice A n cap, .bool d])[j]? := fun j => by
    rw [cell_blk (hb.block _ (by simp)) j, World.cell?_alloc_at _ _ _ _ rfl]
  exact ⟨h 0, h 1, h 2, h 3, h 4, h 5⟩
theorem reg_any (n : Int) (w : World) : Calls Tryd.prog 26 #[.int .i64 n] w fun e w' => e = .returned (.bool (regB n)) ∧ w = w' := by
  have HR : Hid (∀ b, decide (0 ≤ n ∧ n ≤ 7) = b → Ending.returned (.bool b) = .returned (.bool (regB n))) := fun b h => by rw [← h]; rfl
  by_cases h0 : 0 ≤ n
  · by_cases h7 : n < 8
    · go_enter Tryd.func26, Tryd.ntmps26
      go_wp2
      go_ret
      exact ⟨HR.out true (by simp; omega), rfl⟩
    · go_enter Tryd.func26, Tryd.ntmps26
      go_wp2
      go_ret
      exact ⟨HR.out false (by simp; omega), rfl⟩
  · go_enter Tryd.func26, Tryd.ntmps26
    go_wp2
    go_ret
    exact ⟨HR.out false (by simp; omega), rfl⟩
theorem reg_yes {n : Int} (h : regB n = true) (w : World) : Calls Tryd.prog 26 #[.int .i64 n] w fun e w' => e = .returned (.bool true) ∧ w = w' := by
  have h1 := reg_any n w
  rwa [h] at h1
theorem reg_no {n : Int} (h : regB n = false) (w : World) : Calls Tryd.prog 26 #[.int .i64 n] w fun e w' => e = .returned (.bool false) ∧ w = w' := by
  have h1 := reg_any n w
  rwa [h] at h1

/-- May a field of that form be n? -/
def okC (ins code n : Int) : Bool := if code = 0 then decide (n = 0) else if code = 3 then decide (0 ≤ n ∧ n ≤ ins) else if code = 4 then decide (0 ≤ n ∧ n < 16) else if code = 5 then true else regB n
def kd (code : Int) : Int := if code = 0 then 0 else if code = 3 then 2 else if code = 4 then 3 else if code = 5 then 4 else 1
theorem okC_fits (ins code n : Int) : okC ins code n = fitsB ins 16 n (kd code) := by
  unfold okC kd
  split
  · rw [zero_fits]
  · split
    · unfold fitsB mostB; congr 1; simp
    · split
      · unfold fitsB mostB; congr 1; simp; omega
      · split
        · unfold fitsB; simp
        · rw [reg_fits]
theorem rf_kd : ∀ k : Fin 33, (row k.val).a = kd (rf k.val).a ∧ (row k.val).b = kd (rf k.val).b ∧ (row k.val).c = kd (rf k.val).c := by decide +kernel
def fieldsB (ins : Int) (f x : Rf) : Bool := okC ins f.a x.a && (okC ins f.b x.b && okC ins f.c x.c)
theorem may_ref (ins : Int) (k : Nat) (h1 : 1 ≤ k) (h2 : k ≤ 32) (a b c : Int) (A : Option Addr) (n cap : Nat) (d : Bool) (cs : List Ca) :
    mayB ins 16 ⟨k, a, b, c, A, n, cap, d, cs⟩ = (fieldsB ins (rf k) ⟨a, b, c⟩ && casB ⟨k, a, b, c, A, n, cap, d, cs⟩) := by
  obtain ⟨q1, q2, q3⟩ := rf_kd ⟨k, by omega⟩
  simp only at q1 q2 q3
  rw [mayB_in ins 16 k h1 h2, q1, q2, q3]
  unfold fieldsB
  rw [okC_fits, okC_fits, okC_fits]
  simp only [Bool.and_assoc]

/-- The state behind the forms: the instruction's box, its form, its fields, each a block. -/
structure RoS (w wr : World) (N F X : Nat) (k a b c : Int) (A : Option Addr) (n cap : Nat) (d : Bool) (f : Rf) (cs : List Ca) : Prop where
  bel : Below w.heap.size w wr
  lN : N < wr.heap.size
  lF : F < wr.heap.size
  lX : X < wr.heap.size
  ci : ∀ j, wr.cell? ⟨N, j, none⟩ = (#[Value.int .i64 k, .int .i64 a, .int .i64 b, .int .i64 c, .slice A n cap, .bool d])[j]?
  cf : ∀ j, wr.cell? ⟨F, j, none⟩ = (#[Value.int .i64 f.a, .int .i64 f.b, .int .i64 f.c])[j]?
  cx : ∀ j, wr.cell? ⟨X, j, none⟩ = (#[Value.int .i64 a, .int .i64 b, .int .i64 c])[j]?
  rd : RdC wr A n cs
theorem RoS.later {w wr w' : World} {N F X : Nat} {k a b c : Int} {A : Option Addr} {n cap : Nat} {d : Bool} {f : Rf} {cs : List Ca} (h : RoS w wr N F X k a b c A n cap d f cs) (hb : Below wr.heap.size wr w') : RoS w w' N F X k a b c A n cap d f cs :=
  ⟨h.bel.trans (hb.mono h.bel.size), Nat.lt_of_lt_of_le h.lN hb.size, Nat.lt_of_lt_of_le h.lF hb.size, Nat.lt_of_lt_of_le h.lX hb.size, fun j => (cell_blk (hb.block _ h.lN) j).trans (h.ci j), fun j => (cell_blk (hb.block _ h.lF) j).trans (h.cf j), fun j => (cell_blk (hb.block _ h.lX) j).trans (h.cx j), h.rd.later hb⟩
def rfAt (f : Rf) (m : Nat) : Int := [f.a, f.b, f.c].getD m 0
theorem rf_cell {w : World} {F : Nat} {f : Rf} (h : ∀ j, w.cell? ⟨F, j, none⟩ = (#[Value.int .i64 f.a, .int .i64 f.b, .int .i64 f.c])[j]?) (m : Nat) (hm : m < 3) : w.cell? ⟨F, m, none⟩ = some (.int .i64 (rfAt f m)) := by
  rw [h m]
  match m, hm with
  | 0, _ => rfl
  | 1, _ => rfl
  | 2, _ => rfl
theorem fields_yes {ins : Int} {f x : Rf} (h : ∀ m, m < 3 → okC ins (rfAt f m) (rfAt x m) = true) : fieldsB ins f x = true := by
  have h0 := h 0 (by omega)
  have h1 := h 1 (by omega)
  have h2 := h 2 (by omega)
  simp only [rfAt, List.getD_cons_zero, List.getD_cons_succ] at h0 h1 h2
  unfold fieldsB
  rw [h0, h1, h2]; rfl
theorem fields_no {ins : Int} {f x : Rf} {m : Nat} (hm : m < 3) (h : okC ins (rfAt f m) (rfAt x m) = false) : fieldsB ins f x = false := by
  unfold fieldsB
  match m, hm, h with
  | 0, _, h => simp only [rfAt, List.getD_cons_zero] at h; rw [h]; rfl
  | 1, _, h => simp only [rfAt, List.getD_cons_zero, List.getD_cons_succ] at h; rw [h]; simp
  | 2, _, h => simp only [rfAt, List.getD_cons_zero, List.getD_cons_succ] at h; rw [h]; simp
theorem al3_0 (w : World) (cs : Array Value) (t : TypeId) (o2 o3 : Obj) (j : Nat) : (((w.alloc (.cells cs t)).alloc o2).alloc o3).drew.cell? ⟨w.heap.size, j, none⟩ = cs[j]? := by
  rw [World.cell?_drew, World.cell?_alloc_past _ _ _ (by simp; omega), World.cell?_alloc_past _ _ _ (by simp), World.cell?_alloc_at _ _ _ _ rfl]
theorem al3_1 (w : World) (cs : Array Value) (t : TypeId) (o1 o3 : Obj) (j : Nat) : (((w.alloc o1).alloc (.cells cs t)).alloc o3).drew.cell? ⟨w.heap.size + 1, j, none⟩ = cs[j]? := by
  rw [World.cell?_drew, World.cell?_alloc_past _ _ _ (by simp), World.cell?_alloc_at _ _ _ _ (by simp)]
theorem al3_2 (w : World) (cs : Array Value) (t : TypeId) (o1 o2 : Obj) (j : Nat) : (((w.alloc o1).alloc o2).alloc (.cells cs t)).drew.cell? ⟨w.heap.size + 1 + 1, j, none⟩ = cs[j]? := by
  rw [World.cell?_drew, World.cell?_alloc_at _ _ _ _ (by simp)]
theorem form_held (k : Nat) (h1 : 1 ≤ k) (h2 : k ≤ 32) (w : World) : Calls Tryd.prog 25 #[.int .i64 k] w (fun e w' => e = .returned (v3 (rf k).a (rf k).b (rf k).c) ∧ Below w.heap.size w w') :=
  (form_ref k h1 h2 w).mono fun e w' ⟨he, hw⟩ => ⟨he, by rw [hw]; exact below_al _ _⟩
set_option maxRecDepth 100000 in
set_option maxHeartbeats 4000000 in
theorem one_ref (ins : Int) (k : Nat) (h1 : 1 ≤ k) (h2 : k ≤ 32) (a b c : Int) (A : Option Addr) (n cap : Nat) (d : Bool) (cs : List Ca) (w : World) (hn : n ≤ 4611686018427387904) (hR : Hid (RdC w A n cs)) :
    Calls Tryd.prog 22 #[vI ⟨k, a, b, c, A, n, cap, d, cs⟩, .int .i64 ins] w (BoolR (mayB ins 16 ⟨k, a, b, c, A, n, cap, d, cs⟩) w) := by
  have HM := Lib.hid (may_ref ins k h1 h2 a b c A n cap d cs)
  have HF := Lib.hid (form_ref k h1 h2)
  have HX : Hid (∀ w1', Below (w.alloc (.cells #[.int .i64 k, .int .i64 a, .int .i64 b, .int .i64 c, .slice A n cap, .bool d] 39)).heap.size (w.alloc (.cells #[.int .i64 k, .int .i64 a, .int .i64 b, .int .i64 c, .slice A n cap, .bool d] 39)) w1' → w1'.cell? ⟨w.heap.size, 0, none⟩ = some (.int .i64 k) ∧ w1'.cell? ⟨w.heap.size, 1, none⟩ = some (.int .i64 a) ∧ w1'.cell? ⟨w.heap.size, 2, none⟩ = some (.int .i64 b) ∧ w1'.cell? ⟨w.heap.size, 3, none⟩ = some (.int .i64 c) ∧ w1'.cell? ⟨w.heap.size, 4, none⟩ = some (.slice A n cap) ∧ w1'.cell? ⟨w.heap.size, 5, none⟩ = some (.bool d)) := cells_of_box w k a b c A n cap d
  have HB0 := Lib.hid (below_al w (.cells #[.int .i64 k, .int .i64 a, .int .i64 b, .int .i64 c, .slice A n cap, .bool d] 39))
  have HCi : Hid (∀ j, (w.alloc (.cells #[.int .i64 k, .int .i64 a, .int .i64 b, .int .i64 c, .slice A n cap, .bool d] 39)).cell? ⟨w.heap.size, j, none⟩ = (#[Value.int .i64 k, .int .i64 a, .int .i64 b, .int .i64 c, .slice A n cap, .bool d])[j]?) := fun j => by rw [World.cell?_alloc_at _ _ _ _ rfl]
  have g1 : ¬ ((k : Int) < 1) := by omega
  go_enter Tryd.func22, Tryd.ntmps22
  go_wp2_with fail
  generalize rf k = f at *
  have hN1 : w.heap.size < (w.alloc (.cells #[.int .i64 k, .int .i64 a, .int .i64 b, .int .i64 c, .slice A n cap, .bool d] 39)).heap.size := by simp
  generalize w.alloc (.cells #[.int .i64 k, .int .i64 a, .int .i64 b, .int .i64 c, .slice A n cap, .bool d] 39) = w1 at *
  have KP : Hid (∀ w', Below w1.heap.size w1 w' → w'.cell? ⟨w.heap.size, 0, none⟩ = some (.int .i64 k) ∧ w'.cell? ⟨w.heap.size, 1, none⟩ = some (.int .i64 a) ∧ w'.cell? ⟨w.heap.size, 2, none⟩ = some (.int .i64 b) ∧ w'.cell? ⟨w.heap.size, 3, none⟩ = some (.int .i64 c) ∧ Hid (Below w1.heap.size w1 w')) :=
    fun w' hb => ⟨(HX.out w' hb).1, (HX.out w' hb).2.1, (HX.out w' hb).2.2.1, (HX.out w' hb).2.2.2.1, hb⟩
  go_cut [5, 6] (fun s5 s6 wx => ∃ F X : Nat, s5 = .pointer (some ⟨F, 0, none⟩) ∧ s6 = .pointer (some ⟨X, 0, none⟩) ∧ Hid (Below w1.heap.size w1 wx) ∧ F < wx.heap.size ∧ X < wx.heap.size ∧ Hid (∀ j, wx.cell? ⟨F, j, none⟩ = (#[Value.int .i64 f.a, .int .i64 f.b, .int .i64 f.c])[j]?) ∧ Hid (∀ j, wx.cell? ⟨X, j, none⟩ = (#[Value.int .i64 a, .int .i64 b, .int .i64 c])[j]?))
  case first =>
    go_region_held3 (fun w' => w'.cell? ⟨w.heap.size, 0, none⟩ = some (.int .i64 k) ∧ w'.cell? ⟨w.heap.size, 1, none⟩ = some (.int .i64 a) ∧ w'.cell? ⟨w.heap.size, 2, none⟩ = some (.int .i64 b) ∧ w'.cell? ⟨w.heap.size, 3, none⟩ = some (.int .i64 c) ∧ Hid (Below w1.heap.size w1 w'))
      (first
        | exact KP.out _ (by repeat' (first | exact Below.refl _ _ | refine Below.drew ?_ | refine Below.alloc ?_ (by simp <;> omega) _ | refine Below.setCell ?_ (by simp <;> omega) _)))
      (first | (go_at_call 25; (with_reducible refine (HF.out _).mono ?_); rintro e w' ⟨rfl, rfl⟩))
    all_goals (go_wp2_with fail)
    all_goals go_meet
    all_goals (exact ⟨_, _, rfl, rfl, (by repeat' (first | exact Below.refl _ _ | refine Below.drew ?_ | refine Below.alloc ?_ (by simp <;> omega) _)), by simp <;> omega, by simp <;> omega,
      fun j => by first | exact al3_0 _ _ _ _ _ j | exact al3_1 _ _ _ _ _ j | exact al3_2 _ _ _ _ _ j,
      fun j => by first | exact al3_0 _ _ _ _ _ j | exact al3_1 _ _ _ _ _ j | exact al3_2 _ _ _ _ _ j⟩)
  case rest =>
    obtain ⟨F, X, rfl, rfl, hB, hF, hX, hcf, hcx⟩ := hcut
    have HS : Hid (RoS w wc w.heap.size F X k a b c A n cap d f cs) := by
      refine ⟨HB0.out.trans (hB.out.mono (Nat.le_of_lt hN1)), Nat.lt_of_lt_of_le hN1 hB.out.size, hF, hX, fun j => ?_, hcf.out, hcx.out, (hR.out.later HB0.out).later hB.out⟩
      rw [cell_blk (hB.out.block _ hN1) j]
      exact HCi.out j
    clear hB hF hX hcf hcx KP HX HB0 HF HCi hN1
    generalize w.heap.size = N at *
    go_wp2_with fail
    go_loopw [7] (fun i wr => ∃ m : Nat, m ≤ 3 ∧ i = .int .i64 m ∧ Hid (RoS w wr N F X k a b c A n cap d f cs) ∧ Hid (∀ q, q < m → okC ins (rfAt f q) (rfAt ⟨a, b, c⟩ q) = true)) (fun i _ => 3 - (intOf i).toNat)
    case atStart => exact ⟨0, by omega, rfl, HS.out, fun q hq => absurd hq (by omega)⟩
    case round =>
      obtain ⟨m, hm, rfl, hS, hA⟩ := hrel
      clear HS
      by_cases hm3 : m < 3
      · have hF : F < wr.heap.size := hS.out.lF
        have hX : X < wr.heap.size := hS.out.lX
        have cf := rf_cell hS.out.cf m hm3
        have cx := rf_cell (f := ⟨a, b, c⟩) hS.out.cx m hm3
        have HO : Hid (okC ins (rfAt f m) (rfAt ⟨a, b, c⟩ m) = okC ins (rfAt f m) (rfAt ⟨a, b, c⟩ m)) := rfl
        have HNo : Hid (okC ins (rfAt f m) (rfAt ⟨a, b, c⟩ m) = false → mayB ins 16 ⟨k, a, b, c, A, n, cap, d, cs⟩ = false) := fun h => by rw [HM.out, fields_no hm3 h]; rfl
        have HYes : Hid (okC ins (rfAt f m) (rfAt ⟨a, b, c⟩ m) = true → ∀ q, q < m + 1 → okC ins (rfAt f q) (rfAt ⟨a, b, c⟩ q) = true) := fun h q hq => by
          rcases Nat.lt_or_ge q m with h9 | h9
          · exact hA.out q h9
          · obtain rfl : q = m := by omega
            exact h
        generalize rfAt f m = fc at *
        generalize rfAt ⟨a, b, c⟩ m = xv at *
        by_cases e0 : fc = 0
        · subst e0
          by_cases x0 : xv = 0
          · have HP : Hid (okC ins 0 xv = true) := by show _ = _; simp [okC, x0]
            subst x0
            go_wp2_with fail
            go_roundw
            case rel => exact ⟨m + 1, by omega, by go_num, hS.out, HYes.out (by exact HP.out)⟩
            case measure => simp [intOf]; omega
          · have HP : Hid (okC ins 0 xv = false) := by show _ = _; simp [okC, x0]
            have gx : (xv == 0) = false := by simpa using x0
            go_wp2_with fail
            go_ret
            exact ⟨ret_bool (HNo.out (by exact HP.out)).symm, hS.out.bel⟩
        · have g0 : (fc == 0) = false := by simpa using e0
          by_cases e3 : fc = 3
          · subst e3
            by_cases x0 : xv < 0
            · have HP : Hid (okC ins 3 xv = false) := by show _ = _; simp [okC]; omega
              go_wp2_with fail
              go_ret
              exact ⟨ret_bool (HNo.out (by exact HP.out)).symm, hS.out.bel⟩
            · by_cases x1 : xv ≤ ins
              · have HP : Hid (okC ins 3 xv = true) := by show _ = _; simp [okC]; omega
                have x0' : 0 ≤ xv := by omega
                go_wp2_with fail
                go_roundw
                case rel => exact ⟨m + 1, by omega, by go_num, hS.out, HYes.out (by exact HP.out)⟩
                case measure => simp [intOf]; omega
              · have HP : Hid (okC ins 3 xv = false) := by show _ = _; simp [okC]; omega
                have x0' : 0 ≤ xv := by omega
                go_wp2_with fail
                go_ret
                exact ⟨ret_bool (HNo.out (by exact HP.out)).symm, hS.out.bel⟩
          · have g3 : (fc == 3) = false := by simpa using e3
            by_cases e4 : fc = 4
            · subst e4
              by_cases x0 : xv < 0
              · have HP : Hid (okC ins 4 xv = false) := by show _ = _; simp [okC]; omega
                go_wp2_with fail
                go_ret
                exact ⟨ret_bool (HNo.out (by exact HP.out)).symm, hS.out.bel⟩
              · by_cases x1 : xv < 16
                · have HP : Hid (okC ins 4 xv = true) := by show _ = _; simp [okC]; omega
                  have x0' : 0 ≤ xv := by omega
                  go_wp2_with fail
                  go_roundw
                  case rel => exact ⟨m + 1, by omega, by go_num, hS.out, HYes.out (by exact HP.out)⟩
                  case measure => simp [intOf]; omega
                · have HP : Hid (okC ins 4 xv = false) := by show _ = _; simp [okC]; omega
                  have x0' : 0 ≤ xv := by omega
                  go_wp2_with fail
                  go_ret
                  exact ⟨ret_bool (HNo.out (by exact HP.out)).symm, hS.out.bel⟩
            · have g4 : (fc == 4) = false := by simpa using e4
              by_cases e5 : fc = 5
              · have HP : Hid (okC ins fc xv = true) := by show _ = _; simp [okC, e5]
                subst e5
                go_wp2_with fail
                go_roundw
                case rel => exact ⟨m + 1, by omega, by go_num, hS.out, HYes.out (by exact HP.out)⟩
                case measure => simp [intOf]; omega
              · have g5 : (fc == 5) = false := by simpa using e5
                have HP : Hid (okC ins fc xv = regB xv) := by show _ = _; simp [okC, e0, e3, e4, e5]
                clear e0 e3 e4 e5
                cases hr : regB xv with
                | true =>
                  have HRg := Lib.hid hr
                  clear hr
                  go_wp2_with fail
                  refine (reg_yes HRg.out wr).mono ?_
                  rintro e w2 ⟨rfl, rfl⟩
                  go_wp2_with fail
                  go_roundw
                  case rel => exact ⟨m + 1, by omega, by go_num, hS.out, HYes.out (by rw [HP.out]; exact HRg.out)⟩
                  case measure => simp [intOf]; omega
                | false =>
                  have HRg := Lib.hid hr
                  clear hr
                  go_wp2_with fail
                  refine (reg_no HRg.out wr).mono ?_
                  rintro e w2 ⟨rfl, rfl⟩
                  go_wp2_with fail
                  go_ret
                  exact ⟨ret_bool (HNo.out (by rw [HP.out]; exact HRg.out)).symm, hS.out.bel⟩
      · have hm33 : m = 3 := by omega
        have hge : ¬ ((m : Int) < 3) := by omega
        have HMc : Hid (mayB ins 16 ⟨k, a, b, c, A, n, cap, d, cs⟩ = casB ⟨k, a, b, c, A, n, cap, d, cs⟩) := by show _ = _; rw [HM.out, fields_yes (fun q hq => hA.out q (by omega))]; rfl
        have hN : N < wr.heap.size := hS.out.lN
        have i0 : wr.cell? ⟨N, 0, none⟩ = some (.int .i64 k) := hS.out.ci 0
        have i4 : wr.cell? ⟨N, 4, none⟩ = some (.slice A n cap) := hS.out.ci 4
        have i5 : wr.cell? ⟨N, 5, none⟩ = some (.bool d) := hS.out.ci 5
        have HLn : Hid (cs.length = n) := hS.out.rd.1
        clear hA HM hm33 hm hm3
        by_cases k15 : k = 15
        · have gk : ((k : Int) == 15) = true := by simp [k15]
          have HK15 : Hid ((k : Int) = 15) := by show (k : Int) = 15; omega
          clear k15
          go_wp2_with fail
          clear i0 i4 i5
          go_loopw [8] (fun i wv => ∃ m : Nat, m ≤ n ∧ i = .int .i64 m ∧ Hid (RoS w wv N F X k a b c A n cap d f cs) ∧ Hid ((cs.take m).all caB = true)) (fun i _ => n - (intOf i).toNat)
          case atStart => exact ⟨0, by omega, rfl, hS.out, rfl⟩
          case round =>
            obtain ⟨m, hm, rfl, hS2, hA⟩ := hrel
            have hN2 : N < wr.heap.size := hS2.out.lN
            have i4 : wr.cell? ⟨N, 4, none⟩ = some (.slice A n cap) := hS2.out.ci 4
            by_cases hmn : m < n
            · obtain ⟨bb, off, rfl, hb, hc⟩ := hS2.out.rd.cells (by omega)
              have hky : m < cs.length := by rw [HLn.out]; exact hmn
              obtain ⟨c0, c1, c2⟩ := hc m (cs[m]'hky) (List.getElem?_eq_getElem hky)
              have htk : cs.take (m + 1) = cs.take m ++ [cs[m]'hky] := List.take_succ_eq_append_getElem hky
              have HMm : Hid (cs[m]'hky ∈ cs) := List.getElem_mem hky
              generalize cs[m]'hky = x at *
              obtain ⟨s, ch, v⟩ := x
              simp only at c0 c1 c2
              have HTK := Lib.hid htk
              have HB1 := Lib.hid (hS2.out.later (below_al wr (.cells #[.bool s, .int .i64 ch, .int .i64 v] 58)))
              have HNo : Hid (caB ⟨s, ch, v⟩ = false → casB ⟨k, a, b, c, some ⟨bb, off, none⟩, n, cap, d, cs⟩ = false) := fun h => by
                show casB ⟨k, a, b, c, some ⟨bb, off, none⟩, n, cap, d, cs⟩ = false
                unfold casB
                rw [if_pos HK15.out, all_no HMm.out h, Bool.and_false]
              clear htk hc hky
              cases hr : regB ch with
              | false =>
                have HRg := Lib.hid hr
                clear hr
                cases s with
                | true =>
                  go_wp2_with fail
                  refine (reg_no HRg.out _).mono ?_
                  rintro e w2 ⟨rfl, rfl⟩
                  go_wp2_with fail
                  go_ret
                  exact ⟨ret_bool (by rw [HMc.out, HNo.out (by unfold caB; rw [HRg.out]; rfl)]), HB1.out.bel⟩
                | false =>
                  go_wp2_with fail
                  refine (reg_no HRg.out _).mono ?_
                  rintro e w2 ⟨rfl, rfl⟩
                  go_wp2_with fail
                  go_ret
                  exact ⟨ret_bool (by rw [HMc.out, HNo.out (by unfold caB; rw [HRg.out]; rfl)]), HB1.out.bel⟩
              | true =>
                have HRg := Lib.hid hr
                clear hr
                cases s with
                | true =>
                  cases hv : regB v with
                  | true =>
                    have HRv := Lib.hid hv
                    clear hv
                    go_wp2_with fail
                    refine (reg_yes HRg.out _).mono ?_
                    rintro e w2 ⟨rfl, rfl⟩
                    go_wp2_with fail
                    refine (reg_yes HRv.out _).mono ?_
                    rintro e w2 ⟨rfl, rfl⟩
                    go_wp2_with fail
                    go_roundw
                    case rel => exact ⟨m + 1, by omega, by go_num, HB1.out, all_next HTK.out hA.out (by unfold caB; rw [HRg.out]; simpa using HRv.out)⟩
                    case measure => simp [intOf]; omega
                  | false =>
                    have HRv := Lib.hid hv
                    clear hv
                    go_wp2_with fail
                    refine (reg_yes HRg.out _).mono ?_
                    rintro e w2 ⟨rfl, rfl⟩
                    go_wp2_with fail
                    refine (reg_no HRv.out _).mono ?_
                    rintro e w2 ⟨rfl, rfl⟩
                    go_wp2_with fail
                    go_ret
                    exact ⟨ret_bool (by rw [HMc.out, HNo.out (by unfold caB; rw [HRg.out]; simpa using HRv.out)]), HB1.out.bel⟩
                | false =>
                  by_cases v0 : v = 0
                  · subst v0
                    go_wp2_with fail
                    refine (reg_yes HRg.out _).mono ?_
                    rintro e w2 ⟨rfl, rfl⟩
                    go_wp2_with fail
                    go_roundw
                    case rel => exact ⟨m + 1, by omega, by go_num, HB1.out, all_next HTK.out hA.out (by unfold caB; rw [HRg.out]; rfl)⟩
                    case measure => simp [intOf]; omega
                  · have gv : (v == 0) = false := by simpa using v0
                    have HV0 := Lib.hid v0
                    clear v0
                    go_wp2_with fail
                    refine (reg_yes HRg.out _).mono ?_
                    rintro e w2 ⟨rfl, rfl⟩
                    go_wp2_with fail
                    go_ret
                    exact ⟨ret_bool (by rw [HMc.out, HNo.out (by unfold caB; rw [HRg.out]; simp; exact HV0.out)]), HB1.out.bel⟩
            · obtain rfl : m = n := by omega
              have HAll : Hid (cs.all caB = true) := by have h := hA.out; rw [List.take_of_length_le (by rw [HLn.out]; exact Nat.le_refl _)] at h; exact h
              go_wp2_with fail
              go_ret
              refine ⟨ret_bool ?_, hS2.out.bel⟩
              rw [HMc.out]
              show _ = casB ⟨k, a, b, c, A, m, cap, d, cs⟩
              unfold casB
              rw [if_pos HK15.out, HAll.out, HLn.out, Bool.and_true]
              simp; omega
        · have gk : ((k : Int) == 15) = false := by simp; omega
          have HCs : Hid (casB ⟨k, a, b, c, A, n, cap, d, cs⟩ = (decide (n = 0) && !d)) := by
            show casB ⟨k, a, b, c, A, n, cap, d, cs⟩ = _
            unfold casB
            rw [if_neg (by show ¬ (k : Int) = 15; omega), HLn.out]
          clear k15
          by_cases hn0 : n = 0
          · subst hn0
            cases d with
            | true =>
              go_wp2_with fail
              go_ret
              exact ⟨ret_bool (by rw [HMc.out, HCs.out]; rfl), hS.out.bel⟩
            | false =>
              go_wp2_with fail
              go_ret
              exact ⟨ret_bool (by rw [HMc.out, HCs.out]; rfl), hS.out.bel⟩
          · have gn : ((n : Int) == 0) = false := by simp; omega
            go_wp2_with fail
            go_ret
            exact ⟨ret_bool (by rw [HMc.out, HCs.out]; simp [hn0]), hS.out.bel⟩
theorem one_out (ins : Int) (e : In) (h : ¬ (1 ≤ e.op ∧ e.op ≤ 32)) (w : World) : Calls Tryd.prog 22 #[vI e, .int .i64 ins] w (BoolR (mayB ins 16 e) w) := by
  have HM := Lib.hid (mayB_out ins 16 e h)
  obtain ⟨op, a, b, c, A, n, cap, d, cs⟩ := e
  simp only at h
  have hB0 := Lib.hid (below_al w (.cells #[.int .i64 op, .int .i64 a, .int .i64 b, .int .i64 c, .slice A n cap, .bool d] 39))
  by_cases h1 : op < 1
  · clear h
    go_enter Tryd.func22, Tryd.ntmps22
    go_wp2_with fail
    go_ret
    exact ⟨ret_bool HM.out.symm, hB0.out⟩
  · have h2 : 32 < op := by omega
    clear h
    go_enter Tryd.func22, Tryd.ntmps22
    go_wp2_with fail
    go_ret
    exact ⟨ret_bool HM.out.symm, hB0.out⟩
theorem one_any (ins : Int) (e : In) (w : World) (hn : e.n ≤ 4611686018427387904) (hR : Hid (RdC w e.A e.n e.cs)) : Calls Tryd.prog 22 #[vI e, .int .i64 ins] w (BoolR (mayB ins 16 e) w) := by
  by_cases h : 1 ≤ e.op ∧ e.op ≤ 32
  · obtain ⟨op, a, b, c, A, n, cap, d, cs⟩ := e
    simp only at h
    obtain ⟨k, rfl⟩ := Int.eq_ofNat_of_zero_le (show 0 ≤ op by omega)
    exact one_ref ins k (by omega) (by omega) a b c A n cap d cs w hn hR
  · exact one_out ins e h w
theorem one_yes {ins : Int} {e : In} (h : mayB ins 16 e = true) (w : World) (hn : e.n ≤ 4611686018427387904) (hR : RdC w e.A e.n e.cs) : Calls Tryd.prog 22 #[vI e, .int .i64 ins] w (BoolR true w) := by
  have h1 := one_any ins e w hn hR
  rwa [h] at h1
theorem one_no {ins : Int} {e : In} (h : mayB ins 16 e = false) (w : World) (hn : e.n ≤ 4611686018427387904) (hR : RdC w e.A e.n e.cs) : Calls Tryd.prog 22 #[vI e, .int .i64 ins] w (BoolR false w) := by
  have h1 := one_any ins e w hn hR
  rwa [h] at h1
end Go.Proofs.YtgojnhbmelnpnaaDoor.Pg
