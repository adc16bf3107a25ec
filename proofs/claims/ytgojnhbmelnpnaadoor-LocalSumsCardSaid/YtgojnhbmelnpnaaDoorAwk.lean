/- What the document fixes: awake. Conditions: the table of operations lies in its variable. -/
import Derived.Test.YtgojnhbmelnpnaaDoorAny
namespace Go.Proofs.YtgojnhbmelnpnaaDoor.Pg
open Go.RowKit
set_option linter.unusedVariables false
set_option maxRecDepth 100000

/-- A block just made, and filled, holds u; nothing else has turned. -/
def OuR (w1 : World) (T : Nat) (u : Ot) (W : World) : Prop := Bk W w1.heap.size T (oR u) ∧ Below w1.heap.size w1 W
theorem OuR.new (w1 : World) (T : Nat) (u : Ot) : OuR w1 T u (w1.alloc (.cells (oR u) T)) := ⟨Bk.new _ _ _, below_al _ _⟩
/-- A law's program, its table, since W. -/
structure LwS (W0 : World) (A : Option Addr) (n : Nat) (l : List In) (w : World) : Prop where
  ft : FT w
  rd : RdI w A n l
  bel : Below W0.heap.size W0 w
theorem LwS.later {W0 w w' : World} {A : Option Addr} {n : Nat} {l : List In} (h : LwS W0 A n l w) (hb : Below w.heap.size w w') : LwS W0 A n l w' := ⟨h.ft.later hb, h.rd.later hb, h.bel.trans (hb.mono h.bel.size)⟩
/-- An instruction without cases. -/
abbrev pI (op a b c : Int) : In := ⟨op, a, b, c, none, 0, 0, false, []⟩
theorem pI_at (w : World) (op a b c : Int) : In.At w (pI op a b c) := ⟨Nat.le_refl _, by show (0 : Nat) ≤ _; omega, RdC.nil _ _⟩
theorem LwS.new {W0 : World} (hF : FT W0) (l : List In) (n : Nat) (cs : Array Value) (t : TypeId) (hn : l.length = n) (h : cs.toList = l.flatMap iV) (hat : ∀ e ∈ l, ∃ op a b c, e = pI op a b c) : LwS W0 (some ⟨W0.heap.size, 0, none⟩) n l (W0.alloc (.cells cs t)) :=
  ⟨hF.later (below_al _ _), RdI.new W0 l n cs t hn h (fun e he => by obtain ⟨op, a, b, c, rfl⟩ := hat e he; exact pI_at _ _ _ _ _), below_al _ _⟩
abbrev lA : List In := [pI 5 1 2 0, pI 6 0 0 0, pI 3 2 5 0, pI 9 1 0 0]
abbrev gA : Nat → Int := fun j => if j = 0 then 7 else 0
theorem chkA : checkB lA 16 = true := by decide +kernel
theorem atA : ∀ e ∈ lA, ∃ op a b c, e = pI op a b c := by
  intro e he
  simp only [lA, List.mem_cons, List.not_mem_nil, or_false] at he
  rcases he with rfl | rfl | rfl | rfl <;> exact ⟨_, _, _, _, rfl⟩
theorem doA1 : doX lA 0 gA 9 = (⟨2, gA, false, 0, false⟩, 0) := by
  refine (doX_at gA 9 chkA (k := 0) (e := pI 5 1 2 0) rfl).trans ?_
  rw [if_pos (by decide)]; simp [doO, nxt, wri]
theorem doA2 : doX lA 1 gA 9 = (⟨2, gA, true, 7, false⟩, 0) := by
  refine (doX_at gA 9 chkA (k := 1) (e := pI 6 0 0 0) rfl).trans ?_
  rw [if_pos (by decide)]; simp [doO, nxt, wri]
theorem doA3 : doX lA 4 zG 9 = (⟨4, zG, false, 0, true⟩, 0) := doX_end zG 9 chkA
theorem doA4 : doX lA 3 zG 9 = (zO, 7) := (doX_at zG 9 chkA (k := 3) (e := pI 9 1 0 0) rfl).trans (if_neg (by decide))
theorem doA5 : doX lA 5 zG 9 = (zO, 1) := doX_bad zG 9 (.inr (.inr (by decide)))
theorem do_is {l : List In} {pc : Int} {g : Nat → Int} {now : Int} {u : Ot} {r : Int} (e : doX l pc g now = (u, r)) {w : World} {A : Option Addr} {n cap : Nat} (hF : FT w) (hR : RdI w A n l) : Calls Tryd.prog 9 #[.slice A n cap, .int .i64 pc, .agg (gR g), .int .i64 now] w (DoR u r w) := by
  have h := do_any (cap := cap) hF hR pc g now
  rwa [e] at h
set_option maxHeartbeats 2000000 in
theorem awake_any (W : World) (hF : Hid (FT W)) : Calls Tryd.prog 8 #[] W (BoolR true W) := by
  have HL0 := Lib.hid (LwS.new hF.out lA 4 #[.int .i64 5, .int .i64 1, .int .i64 2, .int .i64 0, .slice none 0 0, .bool false, .int .i64 6, .int .i64 0, .int .i64 0, .int .i64 0, .slice none 0 0, .bool false, .int .i64 3, .int .i64 2, .int .i64 5, .int .i64 0, .slice none 0 0, .bool false, .int .i64 9, .int .i64 1, .int .i64 0, .int .i64 0, .slice none 0 0, .bool false] 39 rfl rfl atA)
  go_enter Tryd.func8, Tryd.ntmps8
  go_wp2_with fail
  refine (do_is doA1 HL0.out.ft HL0.out.rd).mono ?_
  rintro e1 w1 ⟨rfl, hb1⟩
  have HL1 := Lib.hid (HL0.out.later hb1)
  clear hb1 HL0
  go_wp2_with (refine wp_stNG (v := oR ⟨2, gA, false, 0, false⟩) (R := OuR w1 28 ⟨2, gA, false, 0, false⟩) rfl (.tmp 2) (.tmp 21) rfl rfl rfl rfl rfl i28 (oR_one _) (OuR.new ..) ?_; intro v1 h1; have HL2 := Lib.hid (HL1.out.later h1.2); have B1 := Lib.hid h1.1; clear h1 HL1)
  refine (do_is doA2 HL2.out.ft HL2.out.rd).mono ?_
  rintro e2 w2 ⟨rfl, hb2⟩
  have HL3 := Lib.hid (HL2.out.later hb2)
  have B2 := Lib.hid (B1.out.later hb2)
  clear hb2 HL2 B1
  go_wp2_with (refine wp_stNG (v := oR ⟨2, gA, true, 7, false⟩) (R := OuR w2 28 ⟨2, gA, true, 7, false⟩) rfl (.tmp 4) (.tmp 27) rfl rfl rfl rfl rfl i28 (oR_one _) (OuR.new ..) ?_; intro v2 h2; have HL4 := Lib.hid (HL3.out.later h2.2); have B3 := Lib.hid (B2.out.later h2.2); have C1 := Lib.hid h2.1; clear h2 HL3 B2)
  refine (do_is doA3 HL4.out.ft HL4.out.rd).mono ?_
  rintro e3 w3 ⟨rfl, hb3⟩
  have HL5 := Lib.hid (HL4.out.later hb3)
  have B4 := Lib.hid (B3.out.later hb3)
  have C2 := Lib.hid (C1.out.later hb3)
  clear hb3 HL4 B3 C1
  go_wp2_with (refine wp_stNG (v := oR ⟨4, zG, false, 0, true⟩) (R := OuR w3 28 ⟨4, zG, false, 0, true⟩) rfl (.tmp 6) (.tmp 33) rfl rfl rfl rfl rfl i28 (oR_one _) (OuR.new ..) ?_; intro v3 h3; have HL6 := Lib.hid (HL5.out.later h3.2); have B5 := Lib.hid (B4.out.later h3.2); have C3 := Lib.hid (C2.out.later h3.2); have D1 := Lib.hid h3.1; clear h3 HL5 B4 C2)
  refine (do_is doA4 HL6.out.ft HL6.out.rd).mono ?_
  rintro e4 w4 ⟨rfl, hb4⟩
  have HL7 := Lib.hid (HL6.out.later hb4)
  have B6 := Lib.hid (B5.out.later hb4)
  have C4 := Lib.hid (C3.out.later hb4)
  have D2 := Lib.hid (D1.out.later hb4)
  clear hb4 HL6 B5 C3 D1
  go_wp2_with (refine wp_stNG (v := oR zO) (R := OuR w4 28 zO) rfl (.tmp 8) (.tmp 39) rfl rfl rfl rfl rfl i28 (oR_one _) (OuR.new ..) ?_; intro v4 h4; have HL8 := Lib.hid (HL7.out.later h4.2); have B7 := Lib.hid (B6.out.later h4.2); have C5 := Lib.hid (C4.out.later h4.2); have D3 := Lib.hid (D2.out.later h4.2); clear h4 HL7 B6 C4 D2)
  refine (do_is doA5 HL8.out.ft HL8.out.rd).mono ?_
  rintro e5 w5 ⟨rfl, hb5⟩
  have HL9 := Lib.hid (HL8.out.later hb5)
  have B8 := Lib.hid (B7.out.later hb5)
  have C6 := Lib.hid (C5.out.later hb5)
  have D4 := Lib.hid (D3.out.later hb5)
  clear hb5 HL8 B7 C5 D3
  go_upto_region 7 with (refine wp_stNG (v := oR zO) (R := OuR w5 28 zO) rfl (.tmp 10) (.tmp 45) rfl rfl rfl rfl rfl i28 (oR_one _) (OuR.new ..) ?_; intro v5 h5; have HLa := Lib.hid (HL9.out.later h5.2); have x0 : v5.cell? ⟨w1.heap.size, 0, none⟩ = some (.int .i64 2) := (B8.out.later h5.2).cell 0; have y0 : v5.cell? ⟨w2.heap.size, 0, none⟩ = some (.int .i64 2) := (C6.out.later h5.2).cell 0; have y9 : v5.cell? ⟨w2.heap.size, 9, none⟩ = some (.bool true) := (C6.out.later h5.2).cell 9; have y10 : v5.cell? ⟨w2.heap.size, 10, none⟩ = some (.int .i64 7) := (C6.out.later h5.2).cell 10; have z0 : v5.cell? ⟨w3.heap.size, 0, none⟩ = some (.int .i64 4) := (D4.out.later h5.2).cell 0; have z11 : v5.cell? ⟨w3.heap.size, 11, none⟩ = some (.bool true) := (D4.out.later h5.2).cell 11; clear h5 HL9 B8 C6 D4)
  go_wp2_with fail
  refine (mine_yes (op := 16) rfl _).mono ?_
  rintro e6 w6 ⟨rfl, rfl⟩
  go_wp2_with fail
  refine (mine_no (op := 8) rfl _).mono ?_
  rintro e7 w7 ⟨rfl, rfl⟩
  go_wp2_with fail
  go_ret
  exact ⟨rfl, HLa.out.bel⟩
end Go.Proofs.YtgojnhbmelnpnaaDoor.Pg
