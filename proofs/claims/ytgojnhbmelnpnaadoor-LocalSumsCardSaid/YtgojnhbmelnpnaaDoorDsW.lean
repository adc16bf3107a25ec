/- Of any program, place, registers and time what an instruction does is as the document says. Condition: the table of operations lies in its variable. -/
import Derived.Test.YtgojnhbmelnpnaaDoorRfA
import Derived.Test.YtgojnhbmelnpnaaDoorAlk
namespace Go.Proofs.YtgojnhbmelnpnaaDoor.Pg
open Go.RowKit
set_option linter.unusedVariables false
set_option maxRecDepth 100000

/-- What stands since W: the table, the program, the registers. -/
structure DsS (W : World) (A : Option Addr) (n : Nat) (l : List In) (g : Nat → Int) (w : World) : Prop where
  ft : FT w
  rd : RdI w A n l
  g : Bk w W.heap.size 23 (gR g)
  bel : Below W.heap.size W w
theorem DsS.later {W w w' : World} {A : Option Addr} {n : Nat} {l : List In} {g : Nat → Int} (h : DsS W A n l g w) (hb : Below w.heap.size w w') : DsS W A n l g w' := ⟨h.ft.later hb, h.rd.later hb, h.g.later hb, h.bel.trans (hb.mono h.bel.size)⟩
theorem DsS.new {W : World} {A : Option Addr} {n : Nat} {l : List In} (hF : FT W) (hR : RdI W A n l) (g : Nat → Int) : DsS W A n l g (W.alloc (.cells (gR g) 23)) := ⟨hF.later (below_al _ _), hR.later (below_al _ _), Bk.new _ _ _, below_al _ _⟩
theorem ref_is {l : List In} {pc : Int} {g : Nat → Int} {now : Int} {u : Ot} {r : Int} (e : doX l pc g now = (u, r)) {w : World} {A : Option Addr} {n cap : Nat} (hR : RdI w A n l) (hsm : ∀ e ∈ l, e.n ≤ 20) : Calls Tryd.prog 10 #[.slice A n cap, .int .i64 pc, .agg (gR g), .int .i64 now] w (DoR u r w) := by
  have h := ref_any (cap := cap) hR hsm pc g now
  rwa [e] at h
theorem run_ldP {P : Program} {op : Oper} {a : Act} {w : World} {b o ty : Nat} {u : Array Value} {d : TypeDesc} (x : Operand) (ho : op.op = .load ty x) (hx : a.eval x = .pointer (some ⟨b, o, none⟩)) (hc : w.rangeAt b o u.toList) (hu : P.underlying ty = some d) (hd : d.isRow = true) (hi : (P.info? ty).map (·.size) = some u.size) : (execOp a.eval op).run P w = .ok (.value (.agg u)) w := by
  have h := run_ldM (P := P) hc hu hd hi
  unfold execOp
  simp only [ho, hx, h, Sem.run_bind, Sem.run_pure, Result.andThen_ok]
theorem look_no {A : Option Addr} {n cap : Nat} {l : List Pr} {w : World} (hR : RdP w A n l) (hn : n ≤ 4611686018427387904) : Calls Tryd.prog 7 #[.slice A n cap] w (fun e w' => (∃ b : Bool, e = .returned (.bool b) ∧ (b = true → Small l)) ∧ w = w') :=
  (aProgs_any A n cap l w hR hn).mono fun e w' ⟨⟨b, he, hb⟩, hw⟩ => ⟨⟨b, he, fun h => (hb h).2⟩, hw⟩
set_option maxHeartbeats 8000000 in
theorem does_walk (A : Option Addr) (n cap : Nat) (l : List In) (pc : Int) (g : Nat → Int) (now op : Int) (W : World) (hF : Hid (FT W)) (hP : Hid (Pr.At W ⟨A, n, cap, l⟩)) : Calls Tryd.prog 3 #[.slice A n cap, .int .i64 pc, .agg (gR g), .int .i64 now, .int .i64 op] W (BoolR true W) := by
  have HS0 := Lib.hid (DsS.new hF.out hP.out.2.2 g)
  have HRP : Hid (RdP ((W.alloc (.cells (gR g) 23)).alloc (.cells #[.slice A n cap] 22)) (some ⟨W.heap.size + 1, 0, none⟩) 1 [⟨A, n, cap, l⟩]) := by
    have h := RdP.new (W.alloc (.cells (gR g) 23)) [⟨A, n, cap, l⟩] 1 #[.slice A n cap] 22 rfl rfl (fun p hp => by rw [List.mem_singleton.1 hp]; exact hP.out.later (below_al _ _))
    rw [World.size_alloc] at h; exact h
  go_enter Tryd.func3, Tryd.ntmps3
  go_wp2_with fail
  refine (look_no HRP.out (by omega)).mono ?_
  rintro e0 w0 ⟨⟨b, rfl, hsm⟩, rfl⟩
  have HS1 := Lib.hid (HS0.out.later (below_al _ (.cells #[.slice A n cap] 22)))
  clear HS0 HRP
  generalize (W.alloc (.cells (gR g) 23)).alloc (.cells #[.slice A n cap] 22) = W1 at *
  cases b with
  | false =>
    clear hsm
    go_wp2_with fail
    refine (awake_any _ HS1.out.ft).mono ?_
    rintro e5 w5 ⟨rfl, hb5⟩
    have HB := Lib.hid (HS1.out.later hb5).bel
    clear hb5
    go_wp2_with fail
    go_ret
    exact ⟨rfl, HB.out⟩
  | true =>
    have HSm : Hid (n ≤ 60 ∧ ∀ e ∈ l, e.n ≤ 20) := hsm rfl ⟨A, n, cap, l⟩ (List.mem_singleton.2 rfl)
    clear hsm
    have n1 : (n : Int) ≤ 60 := by have := HSm.out.1; omega
    have n0 : (0 : Int) ≤ (n : Int) := by omega
    have n2 : IntKind.i64.wrap ((n : Int) + 1) = (n : Int) + 1 := by rw [IntKind.wrap_i64]; omega
    go_wp2_with fail
    go_loopw [11] (fun s11 wr => ∃ i : Int, s11 = .int .i64 i ∧ -1 ≤ i ∧ i ≤ (n : Int) + 2 ∧ Hid (DsS W A n l g wr)) (fun s11 _ => (n + 3 - intOf s11).toNat)
    case atStart => exact ⟨-1, rfl, by omega, by omega, HS1.out⟩
    case round =>
      clear HS1
      obtain ⟨i, rfl, hi0, hi1, HS1⟩ := hrel
      by_cases hle : i ≤ (n : Int) + 1
      · have n3 : IntKind.i64.wrap (i + 1) = i + 1 := by rw [IntKind.wrap_i64]; omega
        by_cases h0 : i < 0
        · skip
          obtain ⟨u, r, hd⟩ : ∃ u r, doX l (pc) g now = (u, r) := ⟨_, _, rfl⟩
          replace hd := Lib.hid hd
          go_wp2_with (refine wp_ldB rfl (.tmp 7) rfl rfl HS1.out.g Tryd.underlying23 rfl i23 ?_)
          refine (do_is hd.out HS1.out.ft HS1.out.rd).mono ?_
          rintro e1 w1 ⟨rfl, hb1⟩
          have HS2 := Lib.hid (HS1.out.later hb1)
          clear hb1 HS1
          go_upto_region 10 with (refine wp_stNG (v := oR u) (R := OuR w1 28 u) rfl (.tmp 13) (.tmp 39) rfl rfl rfl rfl rfl i28 (oR_one _) (OuR.new ..) ?_; intro W2 h2; have HS3 := Lib.hid (HS2.out.later h2.2); have A1 := Lib.hid h2.1; clear h2 HS2)
          go_wp2_with (refine wp_ldB rfl (.tmp 7) rfl rfl HS3.out.g Tryd.underlying23 rfl i23 ?_)
          refine (ref_is hd.out HS3.out.rd HSm.out.2).mono ?_
          rintro e2 w2 ⟨rfl, hb2⟩
          have HS4 := Lib.hid (HS3.out.later hb2)
          have A2 := Lib.hid (A1.out.later hb2)
          clear hb2 HS3 A1
          go_upto_region 11 with (refine wp_stNG (v := oR u) (R := OuR w2 32 u) rfl (.tmp 15) (.tmp 47) rfl rfl rfl rfl rfl i32 (oR_one _) (OuR.new ..) ?_; intro W3 h3; have HS5 := Lib.hid (HS4.out.later h3.2); have A3 := Lib.hid (A2.out.later h3.2); have B3 := Lib.hid h3.1; clear h3 HS4 A2)
          have x0 : W3.cell? ⟨w1.heap.size, 0, none⟩ = some (.int .i64 u.pc) := A3.out.cell 0
          have x9 : W3.cell? ⟨w1.heap.size, 9, none⟩ = some (.bool u.told) := A3.out.cell 9
          have x10 : W3.cell? ⟨w1.heap.size, 10, none⟩ = some (.int .i64 u.v) := A3.out.cell 10
          have x11 : W3.cell? ⟨w1.heap.size, 11, none⟩ = some (.bool u.en) := A3.out.cell 11
          have y0 : W3.cell? ⟨w2.heap.size, 0, none⟩ = some (.int .i64 u.pc) := B3.out.cell 0
          have y9 : W3.cell? ⟨w2.heap.size, 9, none⟩ = some (.bool u.told) := B3.out.cell 9
          have y10 : W3.cell? ⟨w2.heap.size, 10, none⟩ = some (.int .i64 u.v) := B3.out.cell 10
          have y11 : W3.cell? ⟨w2.heap.size, 11, none⟩ = some (.bool u.en) := B3.out.cell 11
          clear hd
          go_wp2_with (first
            | (refine wpl_wrun (run_ldP (.tmp 55) rfl rfl (regs_part A3.out) Tryd.underlying23 rfl i23) ?_ (by kernel_rfl))
            | (refine wpl_wrun (run_ldP (.tmp 57) rfl rfl (regs_part B3.out) Tryd.underlying23 rfl i23) ?_ (by kernel_rfl))
            | (refine wpl_wrun (run_ne23 (g := u.rg) (.tmp 56) (.tmp 58) rfl rfl rfl) ?_ (by kernel_rfl)))
          go_roundw
          case rel => exact ⟨i + 1, rfl, by omega, by omega, HS5.out⟩
          case measure => simp [intOf]; omega
        · skip
          obtain ⟨u, r, hd⟩ : ∃ u r, doX l (i) g now = (u, r) := ⟨_, _, rfl⟩
          replace hd := Lib.hid hd
          go_wp2_with (refine wp_ldB rfl (.tmp 7) rfl rfl HS1.out.g Tryd.underlying23 rfl i23 ?_)
          refine (do_is hd.out HS1.out.ft HS1.out.rd).mono ?_
          rintro e1 w1 ⟨rfl, hb1⟩
          have HS2 := Lib.hid (HS1.out.later hb1)
          clear hb1 HS1
          go_upto_region 10 with (refine wp_stNG (v := oR u) (R := OuR w1 28 u) rfl (.tmp 13) (.tmp 39) rfl rfl rfl rfl rfl i28 (oR_one _) (OuR.new ..) ?_; intro W2 h2; have HS3 := Lib.hid (HS2.out.later h2.2); have A1 := Lib.hid h2.1; clear h2 HS2)
          go_wp2_with (refine wp_ldB rfl (.tmp 7) rfl rfl HS3.out.g Tryd.underlying23 rfl i23 ?_)
          refine (ref_is hd.out HS3.out.rd HSm.out.2).mono ?_
          rintro e2 w2 ⟨rfl, hb2⟩
          have HS4 := Lib.hid (HS3.out.later hb2)
          have A2 := Lib.hid (A1.out.later hb2)
          clear hb2 HS3 A1
          go_upto_region 11 with (refine wp_stNG (v := oR u) (R := OuR w2 32 u) rfl (.tmp 15) (.tmp 47) rfl rfl rfl rfl rfl i32 (oR_one _) (OuR.new ..) ?_; intro W3 h3; have HS5 := Lib.hid (HS4.out.later h3.2); have A3 := Lib.hid (A2.out.later h3.2); have B3 := Lib.hid h3.1; clear h3 HS4 A2)
          have x0 : W3.cell? ⟨w1.heap.size, 0, none⟩ = some (.int .i64 u.pc) := A3.out.cell 0
          have x9 : W3.cell? ⟨w1.heap.size, 9, none⟩ = some (.bool u.told) := A3.out.cell 9
          have x10 : W3.cell? ⟨w1.heap.size, 10, none⟩ = some (.int .i64 u.v) := A3.out.cell 10
          have x11 : W3.cell? ⟨w1.heap.size, 11, none⟩ = some (.bool u.en) := A3.out.cell 11
          have y0 : W3.cell? ⟨w2.heap.size, 0, none⟩ = some (.int .i64 u.pc) := B3.out.cell 0
          have y9 : W3.cell? ⟨w2.heap.size, 9, none⟩ = some (.bool u.told) := B3.out.cell 9
          have y10 : W3.cell? ⟨w2.heap.size, 10, none⟩ = some (.int .i64 u.v) := B3.out.cell 10
          have y11 : W3.cell? ⟨w2.heap.size, 11, none⟩ = some (.bool u.en) := B3.out.cell 11
          clear hd
          go_wp2_with (first
            | (refine wpl_wrun (run_ldP (.tmp 55) rfl rfl (regs_part A3.out) Tryd.underlying23 rfl i23) ?_ (by kernel_rfl))
            | (refine wpl_wrun (run_ldP (.tmp 57) rfl rfl (regs_part B3.out) Tryd.underlying23 rfl i23) ?_ (by kernel_rfl))
            | (refine wpl_wrun (run_ne23 (g := u.rg) (.tmp 56) (.tmp 58) rfl rfl rfl) ?_ (by kernel_rfl)))
          go_roundw
          case rel => exact ⟨i + 1, rfl, by omega, by omega, HS5.out⟩
          case measure => simp [intOf]; omega
      · go_wp2_with fail
        refine (mine_any op _).mono ?_
        rintro e1 w1 ⟨rfl, rfl⟩
        go_wp2_with fail
        refine (rmine_any op _).mono ?_
        rintro e2 w2 ⟨rfl, rfl⟩
        generalize mineB op = mb at *
        go_wp2_with fail
        refine (awake_any _ HS1.out.ft).mono ?_
        rintro e5 w5 ⟨rfl, hb5⟩
        have HB := Lib.hid (HS1.out.later hb5).bel
        clear hb5
        go_wp2_with fail
        go_ret
        exact ⟨rfl, HB.out⟩
end Go.Proofs.YtgojnhbmelnpnaaDoor.Pg
