/- A row of sets, moves and sums leaves in each register what they say. Condition: the table of operations lies in its variable. -/
import Derived.Test.YtgojnhbmelnpnaaDoorSmA
namespace Go.Proofs.YtgojnhbmelnpnaaDoor.Pg
open Go.RowKit
set_option linter.unusedVariables false
set_option maxRecDepth 100000

theorem wp_stNN {P : Program} {ops : Array Oper} {rest : List Oper} {op : Oper} {a : Act} {w w0 : World} {Q : Exit → Act → World → Prop} {T ty N : Nat} {u v : Array Value} {R : World → Prop} (hgd : op.guard = none) (x y : Operand) (ho : op.op = .store ty x y) (hw : w0 = w.alloc (.cells u T)) (hN : w.heap.size = N) (hx : a.eval x = .pointer (some ⟨N, 0, none⟩)) (hy : a.eval y = .agg v)
    (hs : u.size = v.size) (hi : (P.info? ty).map (·.size) = some v.size) (h1 : v.all (·.oneCell') = true) (hR : R (w.alloc (.cells v T))) (h : ∀ W, R W → wpList P ops Q rest (a.put op.dst undef) W) : wpList P ops Q (op :: rest) a w0 := by
  subst hN
  exact wp_stNG hgd x y ho hw hx hy hs hi h1 hR h
theorem sums_long (A : Option Addr) (n cap : Nat) (g : Nat → Int) (W : World) (hF : Hid (FT W)) (h : 40 < n) : Calls Tryd.prog 5 #[.slice A n cap, .agg (gR g)] W (BoolR true W) := by
  have HB0 := Lib.hid (below_al W (.cells (gR g) 23))
  have HF0 := Lib.hid (hF.out.later HB0.out)
  go_enter Tryd.func5, Tryd.ntmps5
  go_wp2_with fail
  refine (awake_any _ HF0.out).mono ?_
  rintro e w1 ⟨rfl, hb⟩
  have HB := Lib.hid (HB0.out.trans (hb.mono HB0.out.size))
  clear hb
  go_wp2_with fail
  go_ret
  exact ⟨rfl, HB.out⟩
set_option maxHeartbeats 8000000 in
theorem sums_main (A : Option Addr) (n cap : Nat) (ts : List Tr) (g : Nat → Int) (W : World) (hF : Hid (FT W)) (hT : Hid (RdT W A n ts)) (hn : Hid (n ≤ 40)) : Calls Tryd.prog 5 #[.slice A n cap, .agg (gR g)] W (BoolR true W) := by
  obtain ⟨i39', hi, hz0, hz1, hz2⟩ := info_parts Tryd.inf39
  have n1 : ¬ 40 < (n : Int) := by have := hn.out; omega
  have n2 := hn.out
  have HS0 : Hid (SmS W (.slice none 0 0) 0 [] g g ((W.alloc (.cells (gR g) 23)).alloc (.cells (gR g) 23))) := SmS.new W g
  have HB0 : Hid (Bk (W.alloc (.cells (gR g) 23)) W.heap.size 23 (gR g)) := Bk.new _ _ _
  go_enter Tryd.func5, Tryd.ntmps5
  go_upto_region 6 with (first
    | (refine wp_ldB rfl (.tmp 3) rfl rfl HB0.out Tryd.underlying23 rfl i23 ?_)
    | (refine wp_stNN (N := W.heap.size + 1) (w := W.alloc (.cells (gR g) 23)) (u := gR zG) (v := gR g) (R := SmS W (.slice none 0 0) 0 [] g g) rfl (.tmp 6) (.tmp 21) rfl rfl (World.size_alloc ..) rfl rfl rfl i23 (gR_one _) HS0.out ?_; intro W1 hW1; clear HS0 HB0; have HS0 := Lib.hid hW1; clear hW1))
  go_loopw [7] (fun s7 wr => ∃ k : Nat, k ≤ 8 ∧ s7 = .int .i64 (k : Int) ∧ Hid (SmS W (.slice none 0 0) 0 [] g g wr)) (fun s7 _ => 8 - (intOf s7).toNat)
  case atStart => exact ⟨0, by omega, rfl, HS0.out⟩
  case round =>
    obtain ⟨k, hk, rfl, HS⟩ := hrel
    clear HS0
    by_cases hlt : k < 8
    · have c0 : wr.cell? ⟨W.heap.size, k, none⟩ = some (.int .i64 (g k)) := HS.out.reg hlt
      have k1 : (k : Int) < 8 := by omega
      have k0 : (0 : Int) ≤ (k : Int) := by omega
      generalize g k = z at *
      by_cases h1 : 4611686018427387904 < z
      · go_wp2_with fail
        refine (awake_any _ (hF.out.later HS.out.bel)).mono ?_
        rintro e9 w9 ⟨rfl, hb9⟩
        have HB := Lib.hid (HS.out.later hb9).bel
        clear hb9
        go_wp2_with fail
        go_ret
        exact ⟨rfl, HB.out⟩

      · by_cases h2 : z < -4611686018427387904
        · go_wp2_with fail
          refine (awake_any _ (hF.out.later HS.out.bel)).mono ?_
          rintro e9 w9 ⟨rfl, hb9⟩
          have HB := Lib.hid (HS.out.later hb9).bel
          clear hb9
          go_wp2_with fail
          go_ret
          exact ⟨rfl, HB.out⟩

        · go_wp2_with fail
          go_roundw
          case rel => exact ⟨k + 1, by omega, by go_num, HS.out⟩
          case measure => simp [intOf]; omega
    · have h8 : ¬ (k : Int) < 8 := by omega
      have HS1 := HS
      clear HS hlt hk
      generalize k = k8 at *
      go_wp2_with fail
      generalize wr = w1 at *
      go_loopw [5, 8] (fun s5 s8 wr => ∃ (k : Nat) (pv : Value) (L : List In) (h2 : Nat → Int), k ≤ n ∧ s5 = pv ∧ s8 = .int .i64 (k : Int) ∧ Hid (L = progL (ts.take k)) ∧ Hid (h2 = wantG (ts.take k) g) ∧ Hid (SmS W pv k L g h2 wr)) (fun _ s8 _ => n - (intOf s8).toNat)
      case atStart => exact ⟨0, _, [], g, by omega, rfl, rfl, rfl, rfl, HS1.out⟩
      case round =>
        obtain ⟨k, pv, L, h2, hk, rfl, rfl, hL, h2e, HS⟩ := hrel
        clear HS1
        by_cases hlt : k < n
        · obtain ⟨bb, off, rfl, hbb, hcc⟩ := hT.out.cells (by omega)
          have hky : k < ts.length := by rw [hT.out.1]; exact hlt
          obtain ⟨d0, d1, d2⟩ := hcc k (ts[k]'hky) (List.getElem?_eq_getElem hky)
          have htk : ts.take (k + 1) = ts.take k ++ [ts[k]'hky] := List.take_succ_eq_append_getElem hky
          have HTK := Lib.hid htk
          rw [← cell_blk (HS.out.bel.block bb hbb)] at d0 d1 d2
          have hbw : bb < wr.heap.size := Nat.lt_of_lt_of_le hbb HS.out.bel.size
          generalize ts[k]'hky = t at *
          obtain ⟨ta, tb, tc⟩ := t
          simp only at d0 d1 d2
          clear htk hcc hky
          have q1 : (k : Int) < (n : Int) := by omega
          have q2 : (0 : Int) ≤ (k : Int) := by omega
          have q3 : (k : Int) ≤ 40 := by omega
          obtain ⟨pa, hta⟩ : ∃ x, pk ta 8 = x := ⟨_, rfl⟩
          obtain ⟨pb, htb⟩ : ∃ x, pk tb 8 = x := ⟨_, rfl⟩
          obtain ⟨pc, htc⟩ : ∃ x, pk tc 1000 = x := ⟨_, rfl⟩
          have hpa : pa < 8 := by rw [← hta]; exact pk_lt ta (by omega)
          have hpb : pb < 8 := by rw [← htb]; exact pk_lt tb (by omega)
          have hpc : pc < 1000 := by rw [← htc]; exact pk_lt tc (by omega)
          have p1 : (pa : Int) < 8 := by omega
          have p2 : (pb : Int) < 8 := by omega
          have p3 : (pc : Int) < 1000 := by omega
          have p4 : (0 : Int) ≤ (pa : Int) := by omega
          have p5 : (0 : Int) ≤ (pb : Int) := by omega
          have p6 : (0 : Int) ≤ (pc : Int) := by omega
          have p7 : IntKind.i64.wrap ((pc : Int) - 500) = (pc : Int) - 500 := by rw [IntKind.wrap_i64]; omega
          go_upto_region 13 with fail
          have KP : Hid (∀ w', Below wr.heap.size wr w' → w'.cell? ⟨bb, off + k * 3, none⟩ = some (.int .i64 ta) ∧ w'.cell? ⟨bb, off + k * 3 + 1, none⟩ = some (.int .i64 tb) ∧ w'.cell? ⟨bb, off + k * 3 + 2, none⟩ = some (.int .i64 tc)) := fun w' hb => ⟨(cell_blk (hb.block bb hbw) _).trans d0, (cell_blk (hb.block bb hbw) _).trans d1, (cell_blk (hb.block bb hbw) _).trans d2⟩
          refine but_startQ 1000 (fun w' => w'.cell? ⟨bb, off + k * 3, none⟩ = some (.int .i64 ta) ∧ w'.cell? ⟨bb, off + k * 3 + 1, none⟩ = some (.int .i64 tb) ∧ w'.cell? ⟨bb, off + k * 3 + 2, none⟩ = some (.int .i64 tc)) (by kernel_rfl) (by as_aux_lemma => kernel_rfl) ?_
          intro hTidy
          have hHeld := KP.out _ ((Below.refl _ _).drew)
          change AnyBut _ _ _ _ _ _ 22 _ _ _
          refine but_takeQ (i := 0) (v := ?_) rfl hTidy (by kernel_rfl) (by kernel_rfl) (fun _ _ _ h => h) (Or.inl ⟨by first | kernel_rfl | rfl, ?_⟩) hHeld ?_
          rotate_left
          · intro w hSw
            (try dsimp only at hSw)
            go_split_ands
            go_simp
            try with_reducible rfl
          try simp only [List.getElem_toArray, List.getElem_cons_zero, Act.put, List.setIfInBounds_toArray, List.set_cons_zero, List.set_cons_succ]
          refine but_takeQ (i := 1) (v := ?_) rfl hTidy (by kernel_rfl) (by kernel_rfl) (fun _ _ _ h => h) (Or.inl ⟨by first | kernel_rfl | rfl, ?_⟩) hHeld ?_
          rotate_left
          · intro w hSw
            (try dsimp only at hSw)
            go_split_ands
            go_simp
            try with_reducible rfl
          try simp only [List.getElem_toArray, List.getElem_cons_succ, List.getElem_cons_zero, Act.put, List.setIfInBounds_toArray, List.set_cons_zero, List.set_cons_succ]
          refine but_takeQ (i := 2) (v := ?_) rfl hTidy (by kernel_rfl) (by kernel_rfl) (fun _ _ _ h => h) (Or.inl ⟨by first | kernel_rfl | rfl, ?_⟩) hHeld ?_
          rotate_left
          · intro w hSw
            (try dsimp only at hSw)
            go_split_ands
            go_simp
            try with_reducible rfl
          try simp only [List.getElem_toArray, List.getElem_cons_succ, List.getElem_cons_zero, Act.put, List.setIfInBounds_toArray, List.set_cons_zero, List.set_cons_succ]
          refine but_takeQ (i := 3) (v := ?_) rfl hTidy (by kernel_rfl) (by kernel_rfl) (fun _ _ _ h => h) (Or.inl ⟨by first | kernel_rfl | rfl, ?_⟩) hHeld ?_
          rotate_left
          · intro w hSw
            (try dsimp only at hSw)
            go_split_ands
            go_simp
            try with_reducible rfl
          try simp only [List.getElem_toArray, List.getElem_cons_succ, List.getElem_cons_zero, Act.put, List.setIfInBounds_toArray, List.set_cons_zero, List.set_cons_succ]
          refine but_takeQ (i := 4) (v := ?_) rfl hTidy (by kernel_rfl) (by kernel_rfl) (fun _ _ _ h => h) (Or.inl ⟨by first | kernel_rfl | rfl, ?_⟩) hHeld ?_
          rotate_left
          · intro w hSw
            (try dsimp only at hSw)
            go_split_ands
            go_simp
            try with_reducible rfl
          try simp only [List.getElem_toArray, List.getElem_cons_succ, List.getElem_cons_zero, Act.put, List.setIfInBounds_toArray, List.set_cons_zero, List.set_cons_succ]
          refine but_takeQ (i := 6) (v := ?_) rfl hTidy (by kernel_rfl) (by kernel_rfl) (fun _ _ _ h => h) (Or.inl ⟨by first | kernel_rfl | rfl, ?_⟩) hHeld ?_
          rotate_left
          · intro w hSw
            (try dsimp only at hSw)
            go_split_ands
            go_simp
            try with_reducible rfl
          try simp only [List.getElem_toArray, List.getElem_cons_succ, List.getElem_cons_zero, Act.put, List.setIfInBounds_toArray, List.set_cons_zero, List.set_cons_succ]
          refine but_takeQ (i := 7) (v := ?_) rfl hTidy (by kernel_rfl) (by kernel_rfl) (fun _ _ _ h => h) (Or.inl ⟨by first | kernel_rfl | rfl, ?_⟩) hHeld ?_
          rotate_left
          · intro w hSw
            (try dsimp only at hSw)
            go_split_ands
            go_simp
            try with_reducible rfl
          try simp only [List.getElem_toArray, List.getElem_cons_succ, List.getElem_cons_zero, Act.put, List.setIfInBounds_toArray, List.set_cons_zero, List.set_cons_succ]
          refine but_takeQ (i := 8) (v := ?_) rfl hTidy (by kernel_rfl) (by kernel_rfl) (fun _ _ _ h => h) (Or.inl ⟨by first | kernel_rfl | rfl, ?_⟩) hHeld ?_
          rotate_left
          · intro w hSw
            (try dsimp only at hSw)
            go_split_ands
            go_simp
            try with_reducible rfl
          try simp only [List.getElem_toArray, List.getElem_cons_succ, List.getElem_cons_zero, Act.put, List.setIfInBounds_toArray, List.set_cons_zero, List.set_cons_succ]
          refine but_takeQ (i := 9) (v := ?_) rfl hTidy (by kernel_rfl) (by kernel_rfl) (fun _ _ _ h => h) (Or.inl ⟨by first | kernel_rfl | rfl, ?_⟩) hHeld ?_
          rotate_left
          · intro w hSw
            (try dsimp only at hSw)
            go_split_ands
            go_simp
            try with_reducible rfl
          try simp only [List.getElem_toArray, List.getElem_cons_succ, List.getElem_cons_zero, Act.put, List.setIfInBounds_toArray, List.set_cons_zero, List.set_cons_succ]
          refine but_takeQ (i := 10) (v := ?_) rfl hTidy (by kernel_rfl) (by kernel_rfl) (fun _ _ _ h => h) (Or.inl ⟨by first | kernel_rfl | rfl, ?_⟩) hHeld ?_
          rotate_left
          · intro w hSw
            (try dsimp only at hSw)
            go_split_ands
            go_simp
            try with_reducible rfl
          try simp only [List.getElem_toArray, List.getElem_cons_succ, List.getElem_cons_zero, Act.put, List.setIfInBounds_toArray, List.set_cons_zero, List.set_cons_succ]
          refine but_takeQ (i := 12) (v := ?_) rfl hTidy (by kernel_rfl) (by kernel_rfl) (fun _ _ _ h => h) (Or.inl ⟨by first | kernel_rfl | rfl, ?_⟩) hHeld ?_
          rotate_left
          · intro w hSw
            (try dsimp only at hSw)
            go_split_ands
            go_simp
            try with_reducible rfl
          try simp only [List.getElem_toArray, List.getElem_cons_succ, List.getElem_cons_zero, Act.put, List.setIfInBounds_toArray, List.set_cons_zero, List.set_cons_succ]
          refine but_takeQ (i := 13) (v := ?_) rfl hTidy (by kernel_rfl) (by kernel_rfl) (fun _ _ _ h => h) (Or.inl ⟨by first | kernel_rfl | rfl, ?_⟩) hHeld ?_
          rotate_left
          · intro w hSw
            (try dsimp only at hSw)
            go_split_ands
            go_simp
            try with_reducible rfl
          try simp only [List.getElem_toArray, List.getElem_cons_succ, List.getElem_cons_zero, Act.put, List.setIfInBounds_toArray, List.set_cons_zero, List.set_cons_succ]
          refine but_takeQ (i := 14) (v := ?_) rfl hTidy (by kernel_rfl) (by kernel_rfl) (fun _ _ _ h => h) (Or.inl ⟨by first | kernel_rfl | rfl, ?_⟩) hHeld ?_
          rotate_left
          · intro w hSw
            (try dsimp only at hSw)
            go_split_ands
            go_simp
            try with_reducible rfl
          try simp only [List.getElem_toArray, List.getElem_cons_succ, List.getElem_cons_zero, Act.put, List.setIfInBounds_toArray, List.set_cons_zero, List.set_cons_succ]
          refine but_takeQ (i := 15) (v := ?_) rfl hTidy (by kernel_rfl) (by kernel_rfl) (fun _ _ _ h => h) (Or.inl ⟨by first | kernel_rfl | rfl, ?_⟩) hHeld ?_
          rotate_left
          · intro w hSw
            (try dsimp only at hSw)
            go_split_ands
            go_simp
            try with_reducible rfl
          try simp only [List.getElem_toArray, List.getElem_cons_succ, List.getElem_cons_zero, Act.put, List.setIfInBounds_toArray, List.set_cons_zero, List.set_cons_succ]
          refine but_takeQ (i := 16) (v := ?_) rfl hTidy (by kernel_rfl) (by kernel_rfl) (fun _ _ _ h => h) (Or.inl ⟨by first | kernel_rfl | rfl, ?_⟩) hHeld ?_
          rotate_left
          · intro w hSw
            (try dsimp only at hSw)
            go_split_ands
            go_simp
            try with_reducible rfl
          try simp only [List.getElem_toArray, List.getElem_cons_succ, List.getElem_cons_zero, Act.put, List.setIfInBounds_toArray, List.set_cons_zero, List.set_cons_succ]
          refine but_one (i := 5) (by kernel_rfl) rfl ?_
          intro K hK
          rw [if_pos (by first | kernel_rfl | rfl)]
          go_simp
          go_at_call 13
          refine (show Calls Tryd.prog 13 #[.int .i64 ta, .int .i64 ((8 : Nat) : Int)] _ _ from round_pk ta 8 _ (by omega) (by omega)).mono ?_
          rintro e1 w1 ⟨rfl, rfl⟩
          dsimp only
          rw [hta]
          have hHeld2 := KP.out _ ((Below.refl _ _).drew)
          refine hK _ _ (fun _ => hHeld2) ?_
          clear hK K hHeld
          have hHeld := hHeld2
          clear hHeld2
          try simp only [List.getElem_toArray, List.getElem_cons_succ, List.getElem_cons_zero, Act.put, List.setIfInBounds_toArray, List.set_cons_zero, List.set_cons_succ]
          refine but_one (i := 11) (by kernel_rfl) rfl ?_
          intro K hK
          rw [if_pos (by first | kernel_rfl | rfl)]
          go_simp
          go_at_call 13
          refine (show Calls Tryd.prog 13 #[.int .i64 tb, .int .i64 ((8 : Nat) : Int)] _ _ from round_pk tb 8 _ (by omega) (by omega)).mono ?_
          rintro e1 w1 ⟨rfl, rfl⟩
          dsimp only
          rw [htb]
          have hHeld2 := KP.out _ ((Below.refl _ _).drew)
          refine hK _ _ (fun _ => hHeld2) ?_
          clear hK K hHeld
          have hHeld := hHeld2
          clear hHeld2
          try simp only [List.getElem_toArray, List.getElem_cons_succ, List.getElem_cons_zero, Act.put, List.setIfInBounds_toArray, List.set_cons_zero, List.set_cons_succ]
          refine but_one (i := 17) (by kernel_rfl) rfl ?_
          intro K hK
          rw [if_pos (by first | kernel_rfl | rfl)]
          go_simp
          go_at_call 13
          refine (show Calls Tryd.prog 13 #[.int .i64 tc, .int .i64 ((1000 : Nat) : Int)] _ _ from round_pk tc 1000 _ (by omega) (by omega)).mono ?_
          rintro e1 w1 ⟨rfl, rfl⟩
          dsimp only
          rw [htc]
          have hHeld2 := KP.out _ ((Below.refl _ _).drew)
          refine hK _ _ (fun _ => hHeld2) ?_
          clear hK K hHeld
          have hHeld := hHeld2
          clear hHeld2
          try simp only [List.getElem_toArray, List.getElem_cons_succ, List.getElem_cons_zero, Act.put, List.setIfInBounds_toArray, List.set_cons_zero, List.set_cons_succ]
          refine but_takeQ (i := 18) (v := ?_) rfl hTidy (by kernel_rfl) (by kernel_rfl) (fun _ _ _ h => h) (Or.inl ⟨by first | kernel_rfl | rfl, ?_⟩) hHeld ?_
          rotate_left
          · intro w hSw
            (try dsimp only at hSw)
            go_split_ands
            go_simp
            try with_reducible rfl
          try simp only [List.getElem_toArray, List.getElem_cons_succ, List.getElem_cons_zero, Act.put, List.setIfInBounds_toArray, List.set_cons_zero, List.set_cons_succ]
          refine but_takeQ (i := 19) (v := ?_) rfl hTidy (by kernel_rfl) (by kernel_rfl) (fun _ _ _ h => h) (Or.inl ⟨by first | kernel_rfl | rfl, ?_⟩) hHeld ?_
          rotate_left
          · intro w hSw
            (try dsimp only at hSw)
            go_split_ands
            go_simp
            try with_reducible rfl
          try simp only [List.getElem_toArray, List.getElem_cons_succ, List.getElem_cons_zero, Act.put, List.setIfInBounds_toArray, List.set_cons_zero, List.set_cons_succ]
          refine but_takeQ (i := 20) (v := ?_) rfl hTidy (by kernel_rfl) (by kernel_rfl) (fun _ _ _ h => h) (Or.inl ⟨by first | kernel_rfl | rfl, ?_⟩) hHeld ?_
          rotate_left
          · intro w hSw
            (try dsimp only at hSw)
            go_split_ands
            go_simp
            try with_reducible rfl
          try simp only [List.getElem_toArray, List.getElem_cons_succ, List.getElem_cons_zero, Act.put, List.setIfInBounds_toArray, List.set_cons_zero, List.set_cons_succ]
          refine but_takeQ (i := 21) (v := ?_) rfl hTidy (by kernel_rfl) (by kernel_rfl) (fun _ _ _ h => h) (Or.inl ⟨by first | kernel_rfl | rfl, ?_⟩) hHeld ?_
          rotate_left
          · intro w hSw
            (try dsimp only at hSw)
            go_split_ands
            go_simp
            try with_reducible rfl
          try simp only [List.getElem_toArray, List.getElem_cons_succ, List.getElem_cons_zero, Act.put, List.setIfInBounds_toArray, List.set_cons_zero, List.set_cons_succ]
          refine but_done (by kernel_rfl) ?_
          try clear hHeld
          clear hTidy
          have HS2 := Lib.hid (HS.out.later ((Below.refl _ _).drew))
          have e0 : wr.drew.cell? ⟨bb, off + k * 3, none⟩ = some (.int .i64 ta) := (KP.out _ ((Below.refl _ _).drew)).1
          clear HS KP d0 d1 d2 hbw
          generalize wr.drew = Wd at *
          obtain ⟨mm, hmm⟩ : ∃ x, ta.tmod 3 = x := ⟨_, rfl⟩
          go_upto_region 17 with fail
          by_cases hm : ta.tmod 3 = 0
          · have HE : Hid (stepI ⟨ta, tb, tc⟩ = pI 1 (pa : Int) ((pc : Int) - 500) 0) := by
              show stepI ⟨ta, tb, tc⟩ = _
              unfold stepI
              simp only [hta, htb, htc]
              rw [if_pos hm]
            have HW : Hid (wri (stepI ⟨ta, tb, tc⟩) h2 5 = upd h2 pa ((pc : Int) - 500)) := by
              show wri (stepI ⟨ta, tb, tc⟩) h2 5 = _
              rw [HE.out]; simp [wri]
            rw [hmm] at hm
            subst hm
            go_wp2_with (first
              | (at_builtin; go_loud (refine wpList_append_own _ rfl _ _ 22 rfl (W.heap.size + 2) 39 i39' (.agg #[.int .i64 0, .int .i64 0, .int .i64 0, .int .i64 0, .slice none 0 0, .bool false]) 6 64 Tryd.underlying22 hi hz0 hz1 hz2 rfl (by decide) _ _ _ rfl (own_keep HS2.out.own fun b hb => (below_al Wd _).block b (HS2.out.own.lt b hb).2) ⟨Wd.heap.size, 0, none⟩ 1 1 (iV (pI 1 (pa : Int) ((pc : Int) - 500) 0)) rfl rfl (news_at Wd _ 39 _ rfl) (iV_one _) (by unfold maxLen; omega) (by omega) (by have := HS2.out.v.lt; simp; omega) ?_; intro v' w3 hown' hgrow _; have HS3 := Lib.hid (HS2.out.app (e := pI 1 (pa : Int) ((pc : Int) - 500) 0) hgrow hown'); clear hown' hgrow))
              | (refine wp_stG (R := SmS W v' (k + 1) (L ++ [pI 1 (pa : Int) ((pc : Int) - 500) 0]) g (upd h2 pa ((pc : Int) - 500))) rfl (.tmp 91) (.tmp 90) rfl rfl rfl HS3.out.v (by rw [gR_size]; omega) (HS3.out.setV hpa) ?_; intro W4 h4; have HS4 := Lib.hid h4; clear h4 HS3))
            go_roundw
            case rel =>
              refine ⟨k + 1, v', _, _, by omega, rfl, by go_num, ?_, ?_, HS4.out⟩
              · show _ = _
                rw [HTK.out, progL_snoc, HE.out, hL.out]
              · show _ = _
                rw [HTK.out, wantG_snoc, ← h2e.out, HW.out]
            case measure => simp [intOf]; omega

          · have hm0 := hm
            by_cases hm : ta.tmod 3 = 1
            · have HE : Hid (stepI ⟨ta, tb, tc⟩ = pI 2 (pa : Int) (pb : Int) 0) := by
                show stepI ⟨ta, tb, tc⟩ = _
                unfold stepI
                simp only [hta, htb, htc]
                rw [if_neg (by rw [hm]; decide), if_pos hm]
              have HW : Hid (wri (stepI ⟨ta, tb, tc⟩) h2 5 = upd h2 pa (h2 pb)) := by
                show wri (stepI ⟨ta, tb, tc⟩) h2 5 = _
                rw [HE.out]; simp [wri]
              clear hm0
              rw [hmm] at hm
              subst hm
              go_wp2_with (first
                | (at_builtin; go_loud (refine wpList_append_own _ rfl _ _ 22 rfl (W.heap.size + 2) 39 i39' (.agg #[.int .i64 0, .int .i64 0, .int .i64 0, .int .i64 0, .slice none 0 0, .bool false]) 6 64 Tryd.underlying22 hi hz0 hz1 hz2 rfl (by decide) _ _ _ rfl (own_keep HS2.out.own fun b hb => (below_al Wd _).block b (HS2.out.own.lt b hb).2) ⟨Wd.heap.size, 0, none⟩ 1 1 (iV (pI 2 (pa : Int) (pb : Int) 0)) rfl rfl (news_at Wd _ 39 _ rfl) (iV_one _) (by unfold maxLen; omega) (by omega) (by have := HS2.out.v.lt; simp; omega) ?_; intro v' w3 hown' hgrow _; have HS3 := Lib.hid (HS2.out.app (e := pI 2 (pa : Int) (pb : Int) 0) hgrow hown'); clear hown' hgrow; have cb := HS3.out.want hpb))
                | (refine wp_stG (R := SmS W v' (k + 1) (L ++ [pI 2 (pa : Int) (pb : Int) 0]) g (upd h2 pa (h2 pb))) rfl (.tmp 104) (.tmp 103) rfl rfl rfl HS3.out.v (by rw [gR_size]; omega) (HS3.out.setV hpa) ?_; intro W4 h4; have HS4 := Lib.hid h4; clear h4 HS3))
              go_roundw
              case rel =>
                refine ⟨k + 1, v', _, _, by omega, rfl, by go_num, ?_, ?_, HS4.out⟩
                · show _ = _
                  rw [HTK.out, progL_snoc, HE.out, hL.out]
                · show _ = _
                  rw [HTK.out, wantG_snoc, ← h2e.out, HW.out]
              case measure => simp [intOf]; omega

            · have hm1 := hm
              clear hm
              have HE : Hid (stepI ⟨ta, tb, tc⟩ = pI 3 (pa : Int) ((pc : Int) - 500) 0) := by
                show stepI ⟨ta, tb, tc⟩ = _
                unfold stepI
                simp only [hta, htb, htc]
                rw [if_neg hm0, if_neg hm1]
              have HW : Hid (wri (stepI ⟨ta, tb, tc⟩) h2 5 = upd h2 pa (ad (h2 pa) ((pc : Int) - 500))) := by
                show wri (stepI ⟨ta, tb, tc⟩) h2 5 = _
                rw [HE.out]; simp [wri]
              rw [hmm] at hm0 hm1
              have g0 : (mm == 0) = false := by simpa using hm0
              have g1 : (mm == 1) = false := by simpa using hm1
              clear hm0 hm1
              go_wp2_with (first
                | (at_builtin; go_loud (refine wpList_append_own _ rfl _ _ 22 rfl (W.heap.size + 2) 39 i39' (.agg #[.int .i64 0, .int .i64 0, .int .i64 0, .int .i64 0, .slice none 0 0, .bool false]) 6 64 Tryd.underlying22 hi hz0 hz1 hz2 rfl (by decide) _ _ _ rfl (own_keep HS2.out.own fun b hb => (below_al Wd _).block b (HS2.out.own.lt b hb).2) ⟨Wd.heap.size, 0, none⟩ 1 1 (iV (pI 3 (pa : Int) ((pc : Int) - 500) 0)) rfl rfl (news_at Wd _ 39 _ rfl) (iV_one _) (by unfold maxLen; omega) (by omega) (by have := HS2.out.v.lt; simp; omega) ?_; intro v' w3 hown' hgrow _; have HS3 := Lib.hid (HS2.out.app (e := pI 3 (pa : Int) ((pc : Int) - 500) 0) hgrow hown'); clear hown' hgrow; have ca := HS3.out.want hpa))
                | (go_at_call 14; refine (radd_any (h2 pa) ((pc : Int) - 500) _).mono ?_; rintro e5 w5 ⟨rfl, rfl⟩)
                | (refine wp_stG (R := SmS W v' (k + 1) (L ++ [pI 3 (pa : Int) ((pc : Int) - 500) 0]) g (upd h2 pa (ad (h2 pa) ((pc : Int) - 500)))) rfl (.tmp 80) (.tmp 79) rfl rfl rfl HS3.out.v (by rw [gR_size]; omega) (HS3.out.setV hpa) ?_; intro W4 h4; have HS4 := Lib.hid h4; clear h4 HS3))
              go_roundw
              case rel =>
                refine ⟨k + 1, v', _, _, by omega, rfl, by go_num, ?_, ?_, HS4.out⟩
                · show _ = _
                  rw [HTK.out, progL_snoc, HE.out, hL.out]
                · show _ = _
                  rw [HTK.out, wantG_snoc, ← h2e.out, HW.out]
              case measure => simp [intOf]; omega
        · obtain rfl : k = n := by omega
          have hLf : Hid (L = progL ts) := by show _ = _; rw [hL.out, List.take_of_length_le (by rw [hT.out.1]; exact Nat.le_refl _)]
          have hwf : Hid (h2 = wantG ts g) := by show _ = _; rw [h2e.out, List.take_of_length_le (by rw [hT.out.1]; exact Nat.le_refl _)]
          obtain ⟨A', c', rfl, _, _⟩ := own_rd HS.out.own
          have HS2 : Hid (SmS W (.slice A' k c') k (progL ts) g (wantG ts g) wr) := by have h := HS.out; rw [hLf.out, hwf.out] at h; exact h
          clear HS hL h2e hLf hwf hk
          generalize hkn : k = n at *
          go_wp2_with fail
          generalize wr = w2 at *
          go_loopw [12] (fun s12 wr => ∃ (k : Nat) (h1 : Nat → Int), k ≤ n ∧ s12 = .int .i64 (k : Int) ∧ Hid (h1 = wantG (ts.take k) g) ∧ Hid (SmS W (.slice A' n c') n (progL ts) h1 (wantG ts g) wr)) (fun s12 _ => n - (intOf s12).toNat)
          case atStart => exact ⟨0, g, by omega, rfl, rfl, HS2.out⟩
          case round =>
            obtain ⟨k, h1, hk, rfl, h1e, HS⟩ := hrel
            clear HS2
            by_cases hlt : k < n
            · have q1 : (k : Int) < (n : Int) := by omega
              have q2 : (0 : Int) ≤ (k : Int) := by omega
              have q3 : (k : Int) ≤ 40 := by omega
              have hky : k < ts.length := by rw [hT.out.1]; exact hlt
              have htk : ts.take (k + 1) = ts.take k ++ [ts[k]'hky] := List.take_succ_eq_append_getElem hky
              have HTK := Lib.hid htk
              have hd := Lib.hid (sum_at (by rw [hT.out.1]; exact hn.out) (List.getElem?_eq_getElem hky) h1)
              generalize ts[k]'hky = t at *
              obtain ⟨h1', hw⟩ : ∃ x, wri (stepI t) h1 5 = x := ⟨_, rfl⟩
              rw [hw] at hd
              replace hw := Lib.hid hw
              clear htk hky
              go_wp2_with (refine wp_ldB rfl (.tmp 3) rfl rfl HS.out.r Tryd.underlying23 rfl i23 ?_)
              refine (do_is hd.out (hF.out.later HS.out.bel) (HS.out.rd (progL_pI ts))).mono ?_
              rintro e1 w1 ⟨rfl, hb1⟩
              have HS3 := Lib.hid (HS.out.later hb1)
              clear hb1 HS hd
              go_upto_region 27 with (refine wp_stNG (v := oR ⟨(k : Int) + 1, h1', false, 0, false⟩) (R := OuR w1 28 ⟨(k : Int) + 1, h1', false, 0, false⟩) rfl (.tmp 13) (.tmp 116) rfl rfl rfl rfl rfl i28 (oR_one _) (OuR.new ..) ?_; intro W2 h2; have HS4 := Lib.hid (HS3.out.later h2.2); have HO := Lib.hid h2.1; clear h2 HS3)
              have x0 : W2.cell? ⟨w1.heap.size, 0, none⟩ = some (.int .i64 ((k : Int) + 1)) := HO.out.cell 0
              have x9 : W2.cell? ⟨w1.heap.size, 9, none⟩ = some (.bool false) := HO.out.cell 9
              have x11 : W2.cell? ⟨w1.heap.size, 11, none⟩ = some (.bool false) := HO.out.cell 11
              go_upto_region 29 with fail
              go_wp2_with (first
                | (refine wp_ldM rfl (.tmp 135) rfl rfl (regs_part HO.out) Tryd.underlying23 rfl i23 ?_)
                | (refine wp_stB (v := gR h1') rfl (.tmp 3) (.tmp 136) rfl rfl rfl HS4.out.r rfl i23 (gR_one _) ?_))
              have HS5 := Lib.hid (HS4.out.setR h1')
              go_roundw
              case rel => exact ⟨k + 1, h1', by omega, by go_num, (by show _ = _; rw [HTK.out, wantG_snoc, ← h1e.out]; exact hw.out.symm), HS5.out⟩
              case measure => simp [intOf]; omega
            · obtain rfl : k = n := by omega
              have h1f : Hid (h1 = wantG ts g) := by show _ = _; rw [h1e.out, List.take_of_length_le (by rw [hT.out.1]; exact Nat.le_refl _)]
              have hd : Hid (doX (progL ts) (k : Int) h1 5 = (⟨(k : Int), h1, false, 0, true⟩, 0)) := by
                have h := sum_end (ts := ts) (by rw [hT.out.1]; exact hn.out) h1
                rwa [hT.out.1] at h
              go_wp2_with (refine wp_ldB rfl (.tmp 3) rfl rfl HS.out.r Tryd.underlying23 rfl i23 ?_)
              refine (do_is hd.out (hF.out.later HS.out.bel) (HS.out.rd (progL_pI ts))).mono ?_
              rintro e1 w1 ⟨rfl, hb1⟩
              have HS3 := Lib.hid (HS.out.later hb1)
              clear hb1 HS hd
              rw [h1f.out]
              generalize wantG ts g = hw at *
              go_upto_region 31 with (refine wp_stNG (v := oR ⟨(k : Int), hw, false, 0, true⟩) (R := OuR w1 28 ⟨(k : Int), hw, false, 0, true⟩) rfl (.tmp 15) (.tmp 143) rfl rfl rfl rfl rfl i28 (oR_one _) (OuR.new ..) ?_; intro W2 h2; have HS4 := Lib.hid (HS3.out.later h2.2); have HO := Lib.hid h2.1; clear h2 HS3)
              have x11 : W2.cell? ⟨w1.heap.size, 11, none⟩ = some (.bool true) := HO.out.cell 11
              go_wp2_with (first
                | (refine wpl_wrun (run_ldP (.tmp 152) rfl rfl (regs_part HO.out) Tryd.underlying23 rfl i23) ?_ (by kernel_rfl))
                | (refine wpl_wrun (run_ldB (.tmp 6) rfl rfl HS4.out.v Tryd.underlying23 rfl i23) ?_ (by kernel_rfl))
                | (refine wpl_wrun (run_eq23 (g := hw) (.tmp 153) (.tmp 154) rfl rfl rfl) ?_ (by kernel_rfl)))
              refine (awake_any _ (hF.out.later HS4.out.bel)).mono ?_
              rintro e9 w9 ⟨rfl, hb9⟩
              have HB := Lib.hid (HS4.out.later hb9).bel
              clear hb9
              go_wp2_with fail
              go_ret
              exact ⟨rfl, HB.out⟩
theorem sums_walk (A : Option Addr) (n cap : Nat) (ts : List Tr) (g : Nat → Int) (W : World) (hF : Hid (FT W)) (hT : Hid (RdT W A n ts)) : Calls Tryd.prog 5 #[.slice A n cap, .agg (gR g)] W (BoolR true W) := by
  by_cases h : 40 < n
  · exact sums_long A n cap g W hF h
  · exact sums_main A n cap ts g W hF hT (by show _ ≤ _; omega)
end Go.Proofs.YtgojnhbmelnpnaaDoor.Pg
