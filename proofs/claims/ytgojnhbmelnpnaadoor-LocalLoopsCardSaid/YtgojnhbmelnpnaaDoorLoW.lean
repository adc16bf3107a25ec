/- A loop that counts down to nothing. Condition: the table of operations lies in its variable. -/
import Derived.Test.YtgojnhbmelnpnaaDoorAwk
namespace Go.Proofs.YtgojnhbmelnpnaaDoor.Pg
open Go.RowKit
set_option linter.unusedVariables false
set_option maxRecDepth 100000

abbrev lL (m b : Nat) : List In := [pI 1 0 ((m * b : Nat) : Int) 0, pI 5 0 5 0, pI 6 0 0 0, pI 3 0 (-(b : Int)) 0, pI 4 1 0 0]
theorem chkL (m b : Nat) : checkB (lL m b) 16 = true := by
  simp [checkB, mayB, rowI, row, tab, fitsB, mostB, casB]
theorem atL (m b : Nat) : ∀ e ∈ lL m b, ∃ op a b c, e = pI op a b c := by
  intro e he
  simp only [lL, List.mem_cons, List.not_mem_nil, or_false] at he
  rcases he with rfl | rfl | rfl | rfl | rfl <;> exact ⟨_, _, _, _, rfl⟩
/-- Where the loop is behind k steps: the place, the registers, how many were told. -/
def Inv (m b k : Nat) (pc : Int) (g : Nat → Int) (t : Nat) : Prop :=
  (k = 0 ∧ pc = 0 ∧ t = 0) ∨ (t ≤ m ∧ k = 4 * t + 1 ∧ pc = 1 ∧ g 0 = ((m - t) * b : Nat)) ∨ (t < m ∧ k = 4 * t + 2 ∧ pc = 2 ∧ g 0 = ((m - t) * b : Nat)) ∨
  (0 < t ∧ t ≤ m ∧ k = 4 * t - 1 ∧ pc = 3 ∧ g 0 = ((m - (t - 1)) * b : Nat)) ∨ (0 < t ∧ t ≤ m ∧ k = 4 * t ∧ pc = 4 ∧ g 0 = ((m - t) * b : Nat)) ∨ (t = m ∧ k = 4 * m + 2 ∧ pc = 5 ∧ g 0 = 0)
theorem Inv.le {m b k t : Nat} {pc : Int} {g : Nat → Int} (h : Inv m b k pc g t) : k ≤ 4 * m + 2 ∧ t ≤ m := by
  unfold Inv at h; omega
theorem Inv.next {m b k t : Nat} {pc : Int} {g : Nat → Int} (hm : m ≤ 50) (hb : 1 ≤ b) (hb5 : b ≤ 5) (h : Inv m b k pc g t) :
    (doX (lL m b) pc g 0 = (⟨3, g, true, ((m - t) * b : Nat), false⟩, 0) ∧ t < m ∧ Inv m b (k + 1) 3 g (t + 1)) ∨ (doX (lL m b) pc g 0 = (⟨5, g, false, 0, true⟩, 0) ∧ t = m ∧ g 0 = 0) ∨ ∃ pc' g', doX (lL m b) pc g 0 = (⟨pc', g', false, 0, false⟩, 0) ∧ Inv m b (k + 1) pc' g' t := by
  have c := chkL m b
  rcases h with ⟨hk, rfl, ht⟩ | ⟨ht, hk, rfl, hg⟩ | ⟨ht, hk, rfl, hg⟩ | ⟨h0, ht, hk, rfl, hg⟩ | ⟨h0, ht, hk, rfl, hg⟩ | ⟨ht, hk, rfl, hg⟩
  · refine .inr (.inr ⟨1, upd g 0 ((m * b : Nat) : Int), ?_, .inr (.inl ⟨by omega, by omega, rfl, ?_⟩)⟩)
    · refine (doX_at g 0 c (k := 0) rfl).trans ?_
      rw [if_pos (show mineB 1 = true from rfl)]; simp [doO, nxt, wri]
    · simp [upd, ht]
  · by_cases e : t = m
    · subst e
      refine .inr (.inr ⟨5, g, ?_, .inr (.inr (.inr (.inr (.inr ⟨rfl, by omega, rfl, by rw [hg]; simp⟩))))⟩)
      refine (doX_at g 0 c (k := 1) rfl).trans ?_
      have hz : g 0 = 0 := by rw [hg]; simp
      rw [if_pos (by decide)]; simp [doO, nxt, wri, hz]
    · refine .inr (.inr ⟨2, g, ?_, .inr (.inr (.inl ⟨by omega, by omega, rfl, hg⟩))⟩)
      refine (doX_at g 0 c (k := 1) rfl).trans ?_
      have hz : ¬ g 0 = 0 := by
        rw [hg]
        have : 0 < (m - t) * b := Nat.mul_pos (by omega) (by omega)
        omega
      rw [if_pos (by decide)]; simp [doO, nxt, wri, hz]
  · refine .inl ⟨?_, ht, .inr (.inr (.inr (.inl ⟨by omega, by omega, by omega, rfl, by rw [hg]; simp⟩)))⟩
    refine (doX_at g 0 c (k := 2) rfl).trans ?_
    rw [if_pos (by decide), ← hg]; simp [doO, nxt, wri]
  · refine .inr (.inr ⟨4, upd g 0 (ad (g 0) (-(b : Int))), ?_, .inr (.inr (.inr (.inr (.inl ⟨h0, ht, by omega, rfl, ?_⟩))))⟩)
    · refine (doX_at g 0 c (k := 3) rfl).trans ?_
      rw [if_pos (show mineB 3 = true from rfl)]; simp [doO, nxt, wri]
    · have e1 : (m - (t - 1)) * b = (m - t) * b + b := by rw [show m - (t - 1) = (m - t) + 1 by omega, Nat.add_mul, Nat.one_mul]
      have e2 : (m - t) * b ≤ 50 * 5 := Nat.mul_le_mul (by omega) hb5
      show (if 0 = 0 then ad (g 0) (-(b : Int)) else g 0) = _
      rw [if_pos rfl, hg, e1, ad_eq]
      unfold hd
      generalize (m - t) * b = z at *
      omega
  · refine .inr (.inr ⟨1, g, ?_, .inr (.inl ⟨ht, by omega, rfl, hg⟩)⟩)
    refine (doX_at g 0 c (k := 4) rfl).trans ?_
    rw [if_pos (by decide)]; simp [doO, nxt, wri]
  · exact .inr (.inl ⟨doX_end g 0 c, ht, hg⟩)
/-- The law's program, its table, its registers. -/
structure LpS (W : World) (A : Option Addr) (n : Nat) (l : List In) (rb : Nat) (g : Nat → Int) (w : World) : Prop where
  s : LwS W A n l w
  r : Bk w rb 23 (gR g)
  lt : W.heap.size ≤ rb
section
variable {W w w' : World} {A : Option Addr} {n : Nat} {l : List In} {rb : Nat} {g : Nat → Int}
theorem LpS.later (h : LpS W A n l rb g w) (hb : Below w.heap.size w w') : LpS W A n l rb g w' := ⟨h.s.later hb, h.r.later hb, h.lt⟩
/-- What is below stays where a block of one's own is written. -/
theorem LwS.row {p : Nat} (h : LwS W A n l w) (hW : FT W ∧ RdI w A n l) (hp : W.heap.size ≤ p) (hA : ∀ b o, A = some ⟨b, o, none⟩ → b ≠ p) (u : Array Value) (hat : ∀ e ∈ l, ∃ op a b c, e = pI op a b c) : LwS W A n l (w.setRow p u) := by
  have hb : Below W.heap.size W (w.setRow p u) := below_row h.bel hp u
  refine ⟨hW.1.later hb, ⟨h.rd.1, ⟨h.rd.2.1.1, fun h0 => ?_⟩, fun e he => ?_⟩, hb⟩
  · obtain ⟨b, off, e, hl, hc⟩ := h.rd.2.1.2 h0
    refine ⟨b, off, e, Nat.lt_of_lt_of_le hl (by simp [World.setRow]), fun j x hx => ?_⟩
    rw [cell_blk (setRow_other _ _ _ _ (hA b off e)) _]
    exact hc j x hx
  · obtain ⟨op, a, b, c, rfl⟩ := hat e he
    exact pI_at _ _ _ _ _
theorem LpS.put (h : LpS W A n l rb g w) (hF : FT W) (hA : ∀ b o, A = some ⟨b, o, none⟩ → b ≠ rb) (hat : ∀ e ∈ l, ∃ op a b c, e = pI op a b c) (g' : Nat → Int) : LpS W A n l rb g' (w.setRow rb (gR g')) :=
  ⟨h.s.row ⟨hF, h.s.rd⟩ h.lt hA _ hat, h.r.row _, h.lt⟩
theorem LpS.new {w1 : World} (h : LwS W A n l w1) (g : Nat → Int) : LpS W A n l w1.heap.size g (w1.alloc (.cells (gR g) 23)) := ⟨h.later (below_al _ _), Bk.new _ _ _, h.bel.size⟩
end
theorem loops_neg (n d : Int) (W : World) (hF : Hid (FT W)) (h : n < 0) : Calls Tryd.prog 4 #[.int .i64 n, .int .i64 d] W (BoolR true W) := by
  go_enter Tryd.func4, Tryd.ntmps4
  go_wp2_with fail
  refine (awake_any _ hF.out).mono ?_
  rintro e w1 ⟨rfl, hb⟩
  have HB := Lib.hid hb
  clear hb
  go_wp2_with fail
  go_ret
  exact ⟨rfl, HB.out⟩
theorem loops_big (n d : Int) (W : World) (hF : Hid (FT W)) (h : 50 < n) : Calls Tryd.prog 4 #[.int .i64 n, .int .i64 d] W (BoolR true W) := by
  have h1 : ¬ n < 0 := by omega
  go_enter Tryd.func4, Tryd.ntmps4
  go_wp2_with fail
  refine (awake_any _ hF.out).mono ?_
  rintro e w1 ⟨rfl, hb⟩
  have HB := Lib.hid hb
  clear hb
  go_wp2_with fail
  go_ret
  exact ⟨rfl, HB.out⟩
theorem loops_by0 (n d : Int) (W : World) (hF : Hid (FT W)) (h0 : ¬ n < 0) (h1 : ¬ 50 < n) (h : d < 1) : Calls Tryd.prog 4 #[.int .i64 n, .int .i64 d] W (BoolR true W) := by
  go_enter Tryd.func4, Tryd.ntmps4
  go_wp2_with fail
  refine (awake_any _ hF.out).mono ?_
  rintro e w1 ⟨rfl, hb⟩
  have HB := Lib.hid hb
  clear hb
  go_wp2_with fail
  go_ret
  exact ⟨rfl, HB.out⟩
theorem loops_by6 (n d : Int) (W : World) (hF : Hid (FT W)) (h0 : ¬ n < 0) (h1 : ¬ 50 < n) (h : 5 < d) : Calls Tryd.prog 4 #[.int .i64 n, .int .i64 d] W (BoolR true W) := by
  have h3 : ¬ d < 1 := by omega
  go_enter Tryd.func4, Tryd.ntmps4
  go_wp2_with fail
  refine (awake_any _ hF.out).mono ?_
  rintro e w1 ⟨rfl, hb⟩
  have HB := Lib.hid hb
  clear hb
  go_wp2_with fail
  go_ret
  exact ⟨rfl, HB.out⟩
set_option maxHeartbeats 4000000 in
theorem loops_main (m b : Nat) (hm : m ≤ 50) (hb1 : 1 ≤ b) (hb5 : b ≤ 5) (W : World) (hF : Hid (FT W)) : Calls Tryd.prog 4 #[.int .i64 (m : Int), .int .i64 (b : Int)] W (BoolR true W) := by
  have HL0 := Lib.hid (LwS.new hF.out (lL m b) 5 #[.int .i64 1, .int .i64 0, .int .i64 ((m * b : Nat) : Int), .int .i64 0, .slice none 0 0, .bool false, .int .i64 5, .int .i64 0, .int .i64 5, .int .i64 0, .slice none 0 0, .bool false, .int .i64 6, .int .i64 0, .int .i64 0, .int .i64 0, .slice none 0 0, .bool false, .int .i64 3, .int .i64 0, .int .i64 (-(b : Int)), .int .i64 0, .slice none 0 0, .bool false, .int .i64 4, .int .i64 1, .int .i64 0, .int .i64 0, .slice none 0 0, .bool false] 39 rfl rfl (atL m b))
  have c1 : ¬ (m : Int) < 0 := by omega
  have c2 : ¬ 50 < (m : Int) := by omega
  have c3 : ¬ (b : Int) < 1 := by omega
  have c4 : ¬ 5 < (b : Int) := by omega
  have HZ : Hid (m * b ≤ 50 * 5) := Nat.mul_le_mul hm hb5
  have c5 : IntKind.i64.wrap ((m : Int) * (b : Int)) = ((m * b : Nat) : Int) := by
    have := HZ.out
    rw [← Int.natCast_mul, IntKind.wrap_i64]; omega
  have c6 : IntKind.i64.wrap (-(b : Int)) = -(b : Int) := by rw [IntKind.wrap_i64]; omega
  have c7 : IntKind.i64.wrap (5 * (m : Int) + 10) = 5 * (m : Int) + 10 := by rw [IntKind.wrap_i64]; omega
  have c8 : IntKind.i64.wrap (5 * (m : Int)) = 5 * (m : Int) := by rw [IntKind.wrap_i64]; omega
  have HM := Lib.hid hm
  have HB1 := Lib.hid hb1
  have HB5 := Lib.hid hb5
  clear hm hb1 hb5
  have HP : Hid (LpS W (some ⟨W.heap.size, 0, none⟩) 5 (lL m b) (W.heap.size + 1) zG ((W.alloc (.cells #[.int .i64 1, .int .i64 0, .int .i64 ((m * b : Nat) : Int), .int .i64 0, .slice none 0 0, .bool false, .int .i64 5, .int .i64 0, .int .i64 5, .int .i64 0, .slice none 0 0, .bool false, .int .i64 6, .int .i64 0, .int .i64 0, .int .i64 0, .slice none 0 0, .bool false, .int .i64 3, .int .i64 0, .int .i64 (-(b : Int)), .int .i64 0, .slice none 0 0, .bool false, .int .i64 4, .int .i64 1, .int .i64 0, .int .i64 0, .slice none 0 0, .bool false] 39)).alloc (.cells (gR zG) 23))) := by
    have h := LpS.new HL0.out zG
    rw [World.size_alloc] at h; exact h
  clear HL0
  go_enter Tryd.func4, Tryd.ntmps4
  go_upto_region 8 with fail
  change Code.wp _ _ _ _ ((W.alloc (.cells #[.int .i64 1, .int .i64 0, .int .i64 ((m * b : Nat) : Int), .int .i64 0, .slice none 0 0, .bool false, .int .i64 5, .int .i64 0, .int .i64 5, .int .i64 0, .slice none 0 0, .bool false, .int .i64 6, .int .i64 0, .int .i64 0, .int .i64 0, .slice none 0 0, .bool false, .int .i64 3, .int .i64 0, .int .i64 (-(b : Int)), .int .i64 0, .slice none 0 0, .bool false, .int .i64 4, .int .i64 1, .int .i64 0, .int .i64 0, .slice none 0 0, .bool false] 39)).alloc (.cells (gR zG) 23))
  generalize (W.alloc (.cells #[.int .i64 1, .int .i64 0, .int .i64 ((m * b : Nat) : Int), .int .i64 0, .slice none 0 0, .bool false, .int .i64 5, .int .i64 0, .int .i64 5, .int .i64 0, .slice none 0 0, .bool false, .int .i64 6, .int .i64 0, .int .i64 0, .int .i64 0, .slice none 0 0, .bool false, .int .i64 3, .int .i64 0, .int .i64 (-(b : Int)), .int .i64 0, .slice none 0 0, .bool false, .int .i64 4, .int .i64 1, .int .i64 0, .int .i64 0, .slice none 0 0, .bool false] 39)).alloc (.cells (gR zG) 23) = W1 at *
  go_loopw [6, 8, 9] (fun s6 s8 s9 wr => ∃ (k t : Nat) (pc : Int) (g : Nat → Int), s9 = .int .i64 (k : Int) ∧ s6 = .int .i64 pc ∧ s8 = .int .i64 (t : Int) ∧ Hid (Inv m b k pc g t) ∧ Hid (LpS W (some ⟨W.heap.size, 0, none⟩) 5 (lL m b) (W.heap.size + 1) g wr)) (fun _ _ s9 _ => 5 * m + 10 - (intOf s9).toNat)
  case atStart => exact ⟨0, 0, 0, zG, rfl, rfl, rfl, .inl ⟨rfl, rfl, rfl⟩, HP.out⟩
  case round =>
    clear HP
    obtain ⟨k, t, pc, g, rfl, rfl, rfl, hI, HP⟩ := hrel
    obtain ⟨hk, ht⟩ := hI.out.le
    have hlt : (k : Int) < 5 * (m : Int) + 10 := by omega
    have hk2 : (k : Int) ≤ 202 := by have := HM.out; omega
    have hk0 : (0 : Int) ≤ (k : Int) := by omega
    rcases hI.out.next HM.out HB1.out HB5.out with ⟨hd, htm, hI2⟩ | ⟨hd, htm, hg0⟩ | ⟨pc', g', hd, hI2⟩
    · have q1 : IntKind.i64.wrap ((m : Int) - (t : Int)) = (m : Int) - (t : Int) := by have := HM.out; rw [IntKind.wrap_i64]; omega
      have q2 : IntKind.i64.wrap (((m : Int) - (t : Int)) * (b : Int)) = (((m - t) * b : Nat) : Int) := by
        have e2 : (m - t) * b ≤ 50 * 5 := Nat.mul_le_mul (by have := HM.out; omega) HB5.out
        rw [show (m : Int) - (t : Int) = ((m - t : Nat) : Int) by omega, ← Int.natCast_mul, IntKind.wrap_i64]; omega
      have q3 : (t : Int) ≤ 50 := by have := HM.out; omega
      have HI2 := Lib.hid hI2
      clear hI2
      generalize (((m - t) * b : Nat) : Int) = v at *
      go_wp2_with (refine wp_ldB rfl (.tmp 7) rfl rfl HP.out.r Tryd.underlying23 rfl i23 ?_)
      refine (do_is hd HP.out.s.ft HP.out.s.rd).mono ?_
      rintro e1 w1 ⟨rfl, hb1⟩
      have HP1 := Lib.hid (HP.out.later hb1)
      clear hb1 HP hd
      go_upto_region 19 with (refine wp_stNG (v := oR ⟨3, g, true, v, false⟩) (R := OuR w1 28 ⟨3, g, true, v, false⟩) rfl (.tmp 10) (.tmp 51) rfl rfl rfl rfl rfl i28 (oR_one _) (OuR.new ..) ?_; intro W2 h2; have HP2 := Lib.hid (HP1.out.later h2.2); have HO := Lib.hid h2.1; have x0 : W2.cell? ⟨w1.heap.size, 0, none⟩ = some (.int .i64 3) := h2.1.cell 0; have x9 : W2.cell? ⟨w1.heap.size, 9, none⟩ = some (.bool true) := h2.1.cell 9; have x10 : W2.cell? ⟨w1.heap.size, 10, none⟩ = some (.int .i64 v) := h2.1.cell 10; have x11 : W2.cell? ⟨w1.heap.size, 11, none⟩ = some (.bool false) := h2.1.cell 11; clear h2 HP1)
      have KP : Hid (∀ w', Below W2.heap.size W2 w' → w'.cell? ⟨w1.heap.size, 0, none⟩ = some (.int .i64 (3)) ∧ w'.rangeAt w1.heap.size 1 (gR g).toList) := fun w' hb => ⟨(HO.out.later hb).cell 0, regs_part (HO.out.later hb)⟩
      refine but_startQ 5 (fun w' => w'.cell? ⟨w1.heap.size, 0, none⟩ = some (.int .i64 (3)) ∧ w'.rangeAt w1.heap.size 1 (gR g).toList) (by kernel_rfl) (by as_aux_lemma => kernel_rfl) ?_
      intro hTidy
      have hHeld := KP.out _ ((Below.refl _ _).drew)
      change AnyBut _ _ _ _ _ _ 6 _ _ _
      refine tkQ 0 rfl hTidy hHeld ?_
      refine tkQ 1 rfl hTidy hHeld ?_
      refine tkQ 2 rfl hTidy hHeld ?_
      refine tkL 3 (ty := 23) (.tmp 83) (gR g) rfl hTidy hHeld rfl rfl (fun w h => h.2) Tryd.underlying23 rfl i23 ?_
      refine tkQ 4 rfl hTidy hHeld ?_
      try simp only [List.getElem_toArray, List.getElem_cons_succ, List.getElem_cons_zero, Act.put, List.setIfInBounds_toArray, List.set_cons_zero, List.set_cons_succ]
      refine but_one (i := 5) (by kernel_rfl) rfl ?_
      intro K hK
      rw [if_pos (by first | kernel_rfl | rfl)]
      refine wp_st1 (v := gR g) (.tmp 7) (.tmp 84) rfl rfl rfl (HP2.out.later ((Below.refl _ _).drew)).r rfl i23 (gR_one _) ?_
      refine hK _ _ (fun h => absurd rfl h) ?_
      clear hK K hHeld
      try simp only [List.getElem_toArray, List.getElem_cons_succ, List.getElem_cons_zero, Act.put]
      refine but_done (by kernel_rfl) ?_
      clear hTidy
      have HP3 : Hid (LpS W (some ⟨W.heap.size, 0, none⟩) 5 (lL m b) (W.heap.size + 1) g (W2.drew.setRow (W.heap.size + 1) (gR g))) := (HP2.out.later ((Below.refl _ _).drew)).put hF.out (by intro b o h; cases h; omega) (atL m b) g
      change Exit.inBlock _ _ _ _ (W2.drew.setRow (W.heap.size + 1) (gR g))
      generalize W2.drew.setRow (W.heap.size + 1) (gR g) = W3 at *
      clear KP HP2 HO
      go_wp2_with fail
      go_roundw
      case rel => exact ⟨k + 1, t + 1, 3, g, by go_num, rfl, by go_num, HI2.out, HP3.out⟩
      case measure => simp [intOf]; omega
    · subst htm
      go_wp2_with (refine wp_ldB rfl (.tmp 7) rfl rfl HP.out.r Tryd.underlying23 rfl i23 ?_)
      refine (do_is hd HP.out.s.ft HP.out.s.rd).mono ?_
      rintro e1 w1 ⟨rfl, hb1⟩
      have HP1 := Lib.hid (HP.out.later hb1)
      clear hb1 HP hd
      go_upto_region 18 with (refine wp_stNG (v := oR ⟨5, g, false, 0, true⟩) (R := OuR w1 28 ⟨5, g, false, 0, true⟩) rfl (.tmp 10) (.tmp 51) rfl rfl rfl rfl rfl i28 (oR_one _) (OuR.new ..) ?_; intro W2 h2; have HP2 := Lib.hid (HP1.out.later h2.2); have HO := Lib.hid h2.1; have x9 : W2.cell? ⟨w1.heap.size, 9, none⟩ = some (.bool false) := h2.1.cell 9; have x11 : W2.cell? ⟨w1.heap.size, 11, none⟩ = some (.bool true) := h2.1.cell 11; clear h2 HP1)
      have x1 : W2.cell? ⟨w1.heap.size, 1, none⟩ = some (.int .i64 0) := by have h := HO.out.cell 1; rw [show (oR ⟨5, g, false, 0, true⟩)[1]? = some (.int .i64 (g 0)) from rfl, hg0] at h; exact h
      go_wp2_with fail
      refine (awake_any _ HP2.out.s.ft).mono ?_
      rintro e3 w3 ⟨rfl, hb3⟩
      have HB := Lib.hid (HP2.out.later hb3).s.bel
      clear hb3
      go_wp2_with fail
      go_ret
      exact ⟨rfl, HB.out⟩
    · have HI2 := Lib.hid hI2
      clear hI2
      go_wp2_with (refine wp_ldB rfl (.tmp 7) rfl rfl HP.out.r Tryd.underlying23 rfl i23 ?_)
      refine (do_is hd HP.out.s.ft HP.out.s.rd).mono ?_
      rintro e1 w1 ⟨rfl, hb1⟩
      have HP1 := Lib.hid (HP.out.later hb1)
      clear hb1 HP hd
      go_upto_region 19 with (refine wp_stNG (v := oR ⟨pc', g', false, 0, false⟩) (R := OuR w1 28 ⟨pc', g', false, 0, false⟩) rfl (.tmp 10) (.tmp 51) rfl rfl rfl rfl rfl i28 (oR_one _) (OuR.new ..) ?_; intro W2 h2; have HP2 := Lib.hid (HP1.out.later h2.2); have HO := Lib.hid h2.1; have x0 : W2.cell? ⟨w1.heap.size, 0, none⟩ = some (.int .i64 pc') := h2.1.cell 0; have x9 : W2.cell? ⟨w1.heap.size, 9, none⟩ = some (.bool false) := h2.1.cell 9; have x11 : W2.cell? ⟨w1.heap.size, 11, none⟩ = some (.bool false) := h2.1.cell 11; clear h2 HP1)
      have KP : Hid (∀ w', Below W2.heap.size W2 w' → w'.cell? ⟨w1.heap.size, 0, none⟩ = some (.int .i64 (pc')) ∧ w'.rangeAt w1.heap.size 1 (gR g').toList) := fun w' hb => ⟨(HO.out.later hb).cell 0, regs_part (HO.out.later hb)⟩
      refine but_startQ 5 (fun w' => w'.cell? ⟨w1.heap.size, 0, none⟩ = some (.int .i64 (pc')) ∧ w'.rangeAt w1.heap.size 1 (gR g').toList) (by kernel_rfl) (by as_aux_lemma => kernel_rfl) ?_
      intro hTidy
      have hHeld := KP.out _ ((Below.refl _ _).drew)
      change AnyBut _ _ _ _ _ _ 6 _ _ _
      refine tkQ 0 rfl hTidy hHeld ?_
      refine tkQ 1 rfl hTidy hHeld ?_
      refine tkQ 2 rfl hTidy hHeld ?_
      refine tkL 3 (ty := 23) (.tmp 83) (gR g') rfl hTidy hHeld rfl rfl (fun w h => h.2) Tryd.underlying23 rfl i23 ?_
      refine tkQ 4 rfl hTidy hHeld ?_
      try simp only [List.getElem_toArray, List.getElem_cons_succ, List.getElem_cons_zero, Act.put, List.setIfInBounds_toArray, List.set_cons_zero, List.set_cons_succ]
      refine but_one (i := 5) (by kernel_rfl) rfl ?_
      intro K hK
      rw [if_pos (by first | kernel_rfl | rfl)]
      refine wp_st1 (v := gR g') (.tmp 7) (.tmp 84) rfl rfl rfl (HP2.out.later ((Below.refl _ _).drew)).r rfl i23 (gR_one _) ?_
      refine hK _ _ (fun h => absurd rfl h) ?_
      clear hK K hHeld
      try simp only [List.getElem_toArray, List.getElem_cons_succ, List.getElem_cons_zero, Act.put]
      refine but_done (by kernel_rfl) ?_
      clear hTidy
      have HP3 : Hid (LpS W (some ⟨W.heap.size, 0, none⟩) 5 (lL m b) (W.heap.size + 1) g' (W2.drew.setRow (W.heap.size + 1) (gR g'))) := (HP2.out.later ((Below.refl _ _).drew)).put hF.out (by intro b o h; cases h; omega) (atL m b) g'
      change Exit.inBlock _ _ _ _ (W2.drew.setRow (W.heap.size + 1) (gR g'))
      generalize W2.drew.setRow (W.heap.size + 1) (gR g') = W3 at *
      clear KP HP2 HO
      go_wp2_with fail
      go_roundw
      case rel => exact ⟨k + 1, t, pc', g', by go_num, rfl, rfl, HI2.out, HP3.out⟩
      case measure => simp [intOf]; omega
theorem loops_walk (n d : Int) (W : World) (hF : Hid (FT W)) : Calls Tryd.prog 4 #[.int .i64 n, .int .i64 d] W (BoolR true W) := by
  by_cases h0 : n < 0
  · exact loops_neg n d W hF h0
  · by_cases h1 : 50 < n
    · exact loops_big n d W hF h1
    · by_cases h2 : d < 1
      · exact loops_by0 n d W hF h0 h1 h2
      · by_cases h3 : 5 < d
        · exact loops_by6 n d W hF h0 h1 h3
        · obtain ⟨m, rfl⟩ := Int.eq_ofNat_of_zero_le (show 0 ≤ n by omega)
          obtain ⟨b, rfl⟩ := Int.eq_ofNat_of_zero_le (show 0 ≤ d by omega)
          exact loops_main m b (by omega) (by omega) (by omega) W hF
end Go.Proofs.YtgojnhbmelnpnaaDoor.Pg
