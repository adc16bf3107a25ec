/- awake is true: what the document fixes. No condition. -/
import Derived.Test.YtdpapnfjpefhkaaGreatCdlm
namespace Go.Proofs.YtdpapnfjpefhkaaGreat
open Go.RowKit Tr
set_option linter.unusedVariables false
set_option maxRecDepth 100000
section
variable {W w w' : World} {t ts b : Nat} {p : Option Nat} {s s' : St} {rs : List Rr} {u m : Option Addr}
theorem LQ.read {k : Int} {f : Nat} {v : Value} (h : LQ W t p s rs w) (hc : ∀ O, FS W t p s O w → Calls Tryz.prog f #[pS t, .int .i64 k] w (RdC v w)) : Calls Tryz.prog f #[pS t, .int .i64 k] w fun e w' => e = .returned v ∧ Hid (LQ W t p s rs w') :=
 (h.rd hc).mono fun e w' ⟨h1, h2⟩ => ⟨h1, h.later h2⟩
theorem LQ.same {f : Nat} {a : Array Value} {v : Value} (h : LQ W t p s rs w) (hc : ∀ O, FS W t p s O w → Calls Tryz.prog f a w fun e w' => e = .returned v ∧ w = w') : Calls Tryz.prog f a w fun e w' => e = .returned v ∧ w = w' := by
 obtain ⟨O, f, _⟩ := h.ex
 exact hc O f
theorem LQ.tnext (h : LQ W t (some ts) s rs w) (hl : s.S.length ≤ 1000) : Calls Tryz.prog 17 #[pS ts] w fun e w' => e = .returned (.tuple #[.int .i64 (nxt s.S).1, .bool (nxt s.S).2]) ∧ Hid (LQ W t (some ts) s rs w') := by
 obtain ⟨O, f, ho⟩ := h.ex
 obtain ⟨h1, h2, h3⟩ := f.2
 refine (next_set h1 hl).mono ?_
 rintro e w' ⟨rfl, h4, h5⟩
 exact ⟨rfl, h.go ho h.iv (f.tms ⟨h4, h2, h3⟩ h4.bel h5)⟩
theorem LQ.lcell {i j n c : Nat} {P : Option Addr} {L : List Lp} {x : Lp} (h : LQ W t p s rs w) (hr : rs[i]? = some (rwL P c n L)) (hn : L.length = n) (hx : L[j]? = some x) : ∃ q, P = some ⟨q, 0, none⟩ ∧ w.cell? ⟨q, j * 4, none⟩ = some (.int .i64 x.id) ∧ w.cell? ⟨q, j * 4 + 1, none⟩ = some (.int .i64 x.er) ∧ w.cell? ⟨q, j * 4 + 2, none⟩ = some (.int .i64 x.cs) ∧ w.cell? ⟨q, j * 4 + 3, none⟩ = some (.slice x.A x.n x.c) := by
 have ho : w.ownsRow 0 57 4 (.slice P n c) n (L.flatMap lE) := h.own hr
 have hj := (List.getElem?_eq_some_iff.1 hx).1
 obtain ⟨q, hP, _⟩ := row_form ho (by omega)
 subst hP
 have hc : ∀ k, k < 4 → w.cell? ⟨q, j * 4 + k, none⟩ = (lE x)[k]? := fun k hk => by
  rw [ho.cellAt (j * 4 + k) (by omega)]
  exact flat_at lE 4 lE_len L j x hx k hk
 exact ⟨q, rfl, hc 0 (by omega), hc 1 (by omega), hc 2 (by omega), hc 3 (by omega)⟩
theorem LQ.mcell {i j n c : Nat} {P : Option Addr} {L : List Mp} {x : Mp} (h : LQ W t p s rs w) (hr : rs[i]? = some (rwM P c n L)) (hn : L.length = n) (hx : L[j]? = some x) : ∃ q, P = some ⟨q, 0, none⟩ ∧ w.cell? ⟨q, j * 2, none⟩ = some (.int .i64 x.id) ∧ w.cell? ⟨q, j * 2 + 1, none⟩ = some (.int .i64 x.pg) := by
 have ho : w.ownsRow 0 59 2 (.slice P n c) n (L.flatMap mE) := h.own hr
 have hj := (List.getElem?_eq_some_iff.1 hx).1
 obtain ⟨q, hP, _⟩ := row_form ho (by omega)
 subst hP
 have hc : ∀ k, k < 2 → w.cell? ⟨q, j * 2 + k, none⟩ = (mE x)[k]? := fun k hk => by
  rw [ho.cellAt (j * 2 + k) (by omega)]
  exact flat_at mE 2 mE_len L j x hx k hk
 exact ⟨q, rfl, hc 0 (by omega), hc 1 (by omega)⟩
end
set_option maxHeartbeats 64000000 in
theorem awake_any (w : World) : Calls Tryz.prog 4 #[] w fun e w' => e = .returned (.bool true) ∧ Below w.heap.size w w' := by
 go_enter Tryz.func4, Tryz.ntmps4
 go_wp2_with fail
 refine (fresh_any w).mono ?_
 rintro e w0 ⟨b, ts, t, u, m, rfl, h⟩
 have H0 : Hid (LQ w t (some ts) A0 [bdR b ts t u m] w0) := h
 clear h
 obtain ⟨b0, b1⟩ := H0.out.bed (i := 0) rfl
 have HC := Lib.hid (H0.out.made (fun c => H0.out.iv.nx (i := 0) (y := bg) rfl (by decide) c bg.wh bg.has false) fun O f => cancels_ok f H0.out.iv (i := 0) (y := bg) rfl (by decide))
 go_wp2_with fail
 refine HC.out.mono ?_
 rintro e w1 ⟨P0, n0, k0, c1, L0, hn0, rfl, h, hr0⟩
 clear HC b0 b1
 have H1 : Hid (LQ w t (some ts) (A1 c1) [bdR b ts t u m] w1) := by
  have h9 := h.out
  dsimp only at h9
  rw [A1_eq] at h9
  exact h9.sub (List.sublist_cons_self _ _)
 clear H0 h hn0 hr0
 obtain ⟨b0, b1⟩ := H1.out.bed (i := 0) rfl
 have HC := Lib.hid (H1.out.made (fun c => H1.out.iv.dl (p := some ts) (i := 1) (y := X1 c1) rfl (by show (2 : Nat) < 64; decide) c (hz 20)) fun O f => deadline_set 20 5 f H1.out.iv (i := 1) (y := X1 c1) rfl (by show (2 : Nat) < 64; decide) (by intro h9; exact Bool.noConfusion (show false = true from h9.1)) rfl (by decide))
 go_wp2_with fail
 refine HC.out.mono ?_
 rintro e w2 ⟨P1, n1, k1, c2, L1, hn1, rfl, h, hr1⟩
 clear HC b0 b1
 have H2 : Hid (LQ w t (some ts) (A2 c1 c2) [bdR b ts t u m] w2) := by
  have h9 := h.out
  dsimp only at h9
  rw [A2_eq] at h9
  exact h9.sub (List.sublist_cons_self _ _)
 clear H1 h hn1 hr1
 obtain ⟨b0, b1⟩ := H2.out.bed (i := 0) rfl
 have HC := Lib.hid (H2.out.call (H2.out.iv.wo (i := 2) (y := X2 c2) rfl (by show (3 : Nat) < 64; decide)) (Q := fun e _ => e = .returned (.tuple #[.int .i64 3, .int .i64 0])) fun O f => (without_ok f H2.out.iv (i := 2) (y := X2 c2) rfl (by show (3 : Nat) < 64; decide)).mono fun e w' h => ⟨h.1, h.2.out⟩)
 go_wp2_with fail
 refine HC.out.mono ?_
 rintro e w3 ⟨rfl, h⟩
 clear HC b0 b1
 have H3 : Hid (LQ w t (some ts) (A3 c1 c2) [bdR b ts t u m] w3) := h
 clear H2 h
 obtain ⟨b0, b1⟩ := H3.out.bed (i := 0) rfl
 have HC := Lib.hid (H3.out.made (fun c => H3.out.iv.nx (i := 3) (y := X3) rfl (by show (4 : Nat) < 64; decide) c X3.wh X3.has false) fun O f => cancels_ok f H3.out.iv (i := 3) (y := X3) rfl (by show (4 : Nat) < 64; decide))
 go_wp2_with fail
 refine HC.out.mono ?_
 rintro e w4 ⟨P3, n3, k3, c4, L3, hn3, rfl, h, hr3⟩
 clear HC b0 b1
 have H4 : Hid (LQ w t (some ts) (A4 c1 c2 c4) [bdR b ts t u m] w4) := by
  have h9 := h.out
  dsimp only at h9
  rw [A4_eq] at h9
  exact h9.sub (List.sublist_cons_self _ _)
 clear H3 h hn3 hr3
 obtain ⟨b0, b1⟩ := H4.out.bed (i := 0) rfl
 have HC := Lib.hid (H4.out.af (H4.out.iv.af (i := 2) (y := X2 c2) rfl (by show (0 : Nat) < 64; decide) 3) fun O f => after_ok 3 f H4.out.iv (i := 2) (x := X2 c2) rfl (by decide) (by show (0 : Nat) < 64; decide))
 go_wp2_with fail
 refine HC.out.mono ?_
 rintro e w5 ⟨P4, n4, k4, hn4, rfl, h⟩
 clear HC b0 b1
 have H5 : Hid (LQ w t (some ts) (A5 c1 c2 c4) [bdR b ts t u m] w5) := h.out.sub (List.sublist_cons_self _ _)
 clear H4 h hn4
 obtain ⟨b0, b1⟩ := H5.out.bed (i := 0) rfl
 have HC := Lib.hid (H5.out.made (fun c => H5.out.iv.nx (i := 2) (y := X2 c2) rfl (by show (5 : Nat) < 64; decide) c (X2 c2).wh (X2 c2).has false) fun O f => deadline_as 50 5 f H5.out.iv (i := 2) (y := X2 c2) rfl (by show (5 : Nat) < 64; decide) rfl (by show (20 : Int) ≤ hz 50; decide))
 go_wp2_with fail
 refine HC.out.mono ?_
 rintro e w6 ⟨P5, n5, k5, c5, L5, hn5, rfl, h, hr5⟩
 clear HC b0 b1
 have H6 : Hid (LQ w t (some ts) (A6 c1 c2 c4 c5) [bdR b ts t u m] w6) := by
  have h9 := h.out
  dsimp only at h9
  rw [A6_eq] at h9
  exact h9.sub (List.sublist_cons_self _ _)
 clear H5 h hn5 hr5
 obtain ⟨b0, b1⟩ := H6.out.bed (i := 0) rfl
 have HC := Lib.hid (H6.out.read (k := 5) fun O f => cuntil_any 5 f)
 go_wp2_with fail
 refine HC.out.mono ?_
 rintro e w7 ⟨rfl, h⟩
 clear HC b0 b1
 have H7 : Hid (LQ w t (some ts) (A6 c1 c2 c4 c5) [bdR b ts t u m] w7) := h
 have ea : cA (A6 c1 c2 c4 c5) 5 = (X5 c5, 0) := rfl
 rw [ea]
 clear H6 h ea
 obtain ⟨b0, b1⟩ := H7.out.bed (i := 0) rfl
 have HC := Lib.hid (H7.out.cn (H7.out.iv.cn (i := 1) (x := X1 c1) (er := 1) (cs := 9) rfl ⟨c1, rfl⟩ (by decide)) fun O f => cancel_call f H7.out.iv (i := 1) (x := X1 c1) rfl ⟨c1, rfl⟩ 9 9 rfl)
 go_wp2_with fail
 refine HC.out.mono ?_
 rintro e w8 ⟨P7, n7, k7, L7, Q7, m7, j7, hn7, hm7, rfl, h, hr⟩
 clear HC b0 b1
 have hn7 := hn7.out
 have hm7 := hm7.out
 have h9 := h.out
 have hr9 := hr.out
 rw [A7_eq] at hn7 hm7 h9 hr9
 obtain rfl : n7 = 3 := hn7
 obtain rfl : m7 = 1 := hm7
 have H8 : Hid (LQ w t (some ts) (A7 c1 c2 c4 c5) [rwL P7 k7 3 L7, rwM Q7 j7 1 [⟨0, 3⟩], bdR b ts t u m] w8) := h9
 have HL : Hid (RdL w8 1 9 [(1, []), (2, []), (5, [])] L7) := hr9
 clear H7 h hr h9 hr9 hn7 hm7
 obtain ⟨b0, b1⟩ := H8.out.bed (i := 2) rfl
 have HC := Lib.hid (H8.out.same fun O f => cancel_plain (c1 := 1) f (i := 0) (x := bg) rfl rfl)
 go_wp2_with fail
 refine HC.out.mono ?_
 rintro e w9 ⟨rfl, rfl⟩
 clear HC b0 b1
 have H9 := H8
 clear H8
 obtain ⟨b0, b1⟩ := H9.out.bed (i := 2) rfl
 have HC := Lib.hid (H9.out.read (k := 4) fun O f => cerr_any 4 f)
 go_wp2_with fail
 refine HC.out.mono ?_
 rintro e w10 ⟨rfl, h⟩
 clear HC b0 b1
 have H10 : Hid (LQ w t (some ts) (A7 c1 c2 c4 c5) [rwL P7 k7 3 L7, rwM Q7 j7 1 [⟨0, 3⟩], bdR b ts t u m] w10) := h
 have ea : cA (A7 c1 c2 c4 c5) 4 = (X4 c4, 0) := rfl
 rw [ea]
 clear ea
 clear H9 h
 obtain ⟨b0, b1⟩ := H10.out.bed (i := 2) rfl
 have HC := Lib.hid (H10.out.read (k := 2) fun O f => ccause_any 2 f)
 go_wp2_with fail
 refine HC.out.mono ?_
 rintro e w11 ⟨rfl, h⟩
 clear HC b0 b1
 have H11 : Hid (LQ w t (some ts) (A7 c1 c2 c4 c5) [rwL P7 k7 3 L7, rwM Q7 j7 1 [⟨0, 3⟩], bdR b ts t u m] w11) := h
 have ea : cA (A7 c1 c2 c4 c5) 2 = (ended (X2 c2) 1 9, 0) := rfl
 rw [ea]
 clear ea
 clear H10 h
 obtain ⟨b0, b1⟩ := H11.out.bed (i := 2) rfl
 have HC := Lib.hid (H11.out.call (H11.out.iv.un 5) (Q := fun e _ => e = .returned (un2 (lkd (A7 c1 c2 c4 c5) 5) 0)) fun O f => (unafter_ok f H11.out.iv (j := 0) (a := ⟨5, 3⟩) rfl).mono fun e w' h => ⟨h.1, h.2.out⟩)
 go_wp2_with fail
 refine HC.out.mono ?_
 rintro e w12 ⟨rfl, h⟩
 clear HC b0 b1
 have H12 : Hid (LQ w t (some ts) (A7 c1 c2 c4 c5) [rwL P7 k7 3 L7, rwM Q7 j7 1 [⟨0, 3⟩], bdR b ts t u m] w12) := h
 have ea : lkd (A7 c1 c2 c4 c5) 5 = false := rfl
 rw [ea]
 clear H11 h ea
 obtain ⟨b0, b1⟩ := H12.out.bed (i := 2) rfl
 have HC := Lib.hid (H12.out.tnext (by show (0 : Nat) ≤ 1000; decide))
 go_wp2_with fail
 refine HC.out.mono ?_
 rintro e w13 ⟨rfl, h⟩
 clear HC b0 b1
 have H13 : Hid (LQ w t (some ts) (A7 c1 c2 c4 c5) [rwL P7 k7 3 L7, rwM Q7 j7 1 [⟨0, 3⟩], bdR b ts t u m] w13) := h
 have ea : nxt (A7 c1 c2 c4 c5).S = (0, false) := rfl
 rw [ea]
 clear ea
 clear H12 h
 obtain ⟨b0, b1⟩ := H13.out.bed (i := 2) rfl
 have HC := Lib.hid (H13.out.made (fun c => H13.out.iv.addD (i := 0) (y := bg) (x := nx0 c (hz 3) true true) (er := 2) (cs := 2) rfl (by show (6 : Nat) < 64; decide) ⟨rfl, rfl, rfl⟩ ⟨c, rfl⟩ (by decide)) fun O f => deadline_now 3 5 f H13.out.iv (i := 0) (y := bg) rfl (by show (6 : Nat) < 64; decide) (by intro h9; exact Bool.noConfusion (show false = true from h9.1)) rfl (by decide))
 go_wp2_with fail
 refine HC.out.mono ?_
 rintro e w14 ⟨P13, n13, k13, c6, L13, hn13, rfl, h, hr13⟩
 clear HC b0 b1
 obtain rfl : n13 = 1 := hn13.out
 have H14 : Hid (LQ w t (some ts) (A8 c1 c2 c4 c5 c6) [rwL P13 k13 1 L13, rwL P7 k7 3 L7, rwM Q7 j7 1 [⟨0, 3⟩], bdR b ts t u m] w14) := h
 clear H13 h hn13 hr13
 obtain ⟨b0, b1⟩ := H14.out.bed (i := 3) rfl
 have HC := Lib.hid (H14.out.read (k := 6) fun O f => cerr_any 6 f)
 go_wp2_with fail
 refine HC.out.mono ?_
 rintro e w15 ⟨rfl, h⟩
 clear HC b0 b1
 have H15 : Hid (LQ w t (some ts) (A8 c1 c2 c4 c5 c6) [rwL P13 k13 1 L13, rwL P7 k7 3 L7, rwM Q7 j7 1 [⟨0, 3⟩], bdR b ts t u m] w15) := h
 have ea : cA (A8 c1 c2 c4 c5 c6) 6 = (X6 c6, 0) := rfl
 rw [ea]
 clear H14 h ea
 go_wp2_with fail
 refine (cancels_nil 0 w15).mono ?_
 rintro e w16 ⟨rfl, rfl⟩
 obtain ⟨eL, hL⟩ := HL.out
 have hlen : L7.length = 3 := by have := congrArg List.length eL; simpa using this
 obtain ⟨x1, x2, x3, rfl⟩ : ∃ x1 x2 x3, L7 = [x1, x2, x3] := by
  match L7, hlen with
  | [a, b, c], _ => exact ⟨a, b, c, rfl⟩
 simp only [List.map_cons, List.map_nil, List.cons.injEq, Prod.mk.injEq] at eL
 obtain ⟨⟨i1, -⟩, ⟨i2, -⟩, ⟨i3, -⟩, -⟩ := eL
 obtain ⟨q, rfl, a0, -⟩ := H15.out.lcell (i := 1) (j := 0) (x := x1) rfl rfl rfl
 obtain ⟨q', hq', a4, -⟩ := H15.out.lcell (i := 1) (j := 1) (x := x2) rfl rfl rfl
 obtain rfl : q = q' := by injection hq' with hq'; injection hq'
 obtain ⟨q', hq'', a8, -, a10, -⟩ := H15.out.lcell (i := 1) (j := 2) (x := x3) rfl rfl rfl
 obtain rfl : q = q' := by injection hq'' with hq''; injection hq''
 obtain ⟨qm, rfl, m0, m1⟩ := H15.out.mcell (i := 2) (j := 0) (x := ⟨0, 3⟩) rfl rfl rfl
 rw [i1] at a0
 rw [i2] at a4
 rw [i3] at a8
 rw [(hL x3 (by simp)).2.1] at a10
 have HB := Lib.hid H15.out.bel
 simp only [Nat.zero_mul, Nat.one_mul, Nat.zero_add, Nat.reduceMul, Nat.reduceAdd] at a0 a4 a8 a10 m0 m1
 clear H15 hL HL i1 i2 i3 hq' hq'' hlen
 go_wp2_with fail
 go_ret
 exact ⟨rfl, HB.out⟩
end Go.Proofs.YtdpapnfjpefhkaaGreat
