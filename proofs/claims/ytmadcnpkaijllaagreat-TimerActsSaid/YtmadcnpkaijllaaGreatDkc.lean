/- The law's does, of all that are fired. Conditions: each theorem's own premises. -/
import Derived.Test.YtmadcnpkaijllaaGreatDk1
import Derived.Test.YtmadcnpkaijllaaGreatBf2
namespace Go.Proofs.YtmadcnpkaijllaaGreat
open Go.RowKit Ch
set_option linter.unusedVariables false
set_option maxRecDepth 100000
section
variable {W w w' : World} {b t mo k q : Nat} {kd nn d now : Int}
theorem Ck.tz7 {ty : TypeId} (ht : Tt ty) (h : Ck b t mo now q kd nn d w) (k : Tz ty w w') : Ck b t mo now q kd nn d w' := ⟨k.bc ht h.1, k.at h.2 (by rcases ht with rfl | rfl <;> decide)⟩
set_option maxHeartbeats 8000000 in
theorem does_7 (h : BE W b t mo k w) (hk : k ≤ 120) : Calls Tryz.prog 6 #[.pointer (some ⟨b, 0, none⟩), .agg #[.int .i64 7, .int .i64 nn, .int .i64 d]] w (Dz W b t mo k w) := by
  obtain ⟨B, RC, X, T, m, n, S, g, now, h1, h2⟩ := h
  have HB0 := Lib.hid (h1.later (below_al w (aO 7 nn d)))
  have HI0 := Lib.hid h2
  have C1 : Hid (Ck b t mo now w.heap.size 7 nn d (w.alloc (aO 7 nn d))) := ⟨Bc.later h1.cb (below_al w _), heap_alloc_new w _⟩
  have HF1 := Lib.hid (Fz.of_below (below_al w (aO 7 nn d)))
  have hbn := lt_of_blk h1.cb
  clear h1 h2
  unfold Dz
  go_enter Tryz.func6, Tryz.ntmps6
  go_wp2_with fail
  dsimp only [aO] at HB0 C1 HF1
  generalize w.alloc (.cells #[.int .i64 7, .int .i64 nn, .int .i64 d] 40) = w1 at *
  generalize hq : w.heap.size = q at C1 hbn ⊢
  have HQ := Lib.hid hq
  clear hq
  go_loopw [33] (fun i wr => ∃ (r : Nat) (T : List CS) (n : Nat) (S : List It) (g : Int → Int), i = .int .i64 r ∧ Hid (BD W b t mo B RC X T m n S g now wr ∧ Iv k r X T m n S g now ∧ due now S + r ≤ X.length ∧ Ck b t mo now q 7 nn d wr ∧ Fz w wr)) (fun i _ => X.length + 1 - (intOf i).toNat)
  case atStart => exact ⟨0, T, n, S, g, rfl, HB0.out, HI0.out, by have := due_le now S; have := HI0.out.inv.len; omega, C1.out, HF1.out⟩
  case round =>
    clear HB0 HI0 C1 HF1
    obtain ⟨r, T, n, S, g, rfl, hR⟩ := hrel
    have hrX : r ≤ X.length := by have := hR.out.2.2.1; omega
    have hXk := hR.out.2.1.xl
    obtain ⟨id, kd, yw, at_, dt, ws, b9, dd, T', n', S', g', hwl, hd9, iv', h9, h23⟩ := fire_both (W := W) (b := b) (t := t) (mo := mo) hR.out.2.1 hR.out.1.eB hR.out.1.eC hk (by omega) now
    have H9 := Lib.hid h9
    have H23 := Lib.hid h23
    have HI := Lib.hid iv'
    have HD : Hid (dd = true → due now S' + (r + 1) ≤ X.length) := by
      obtain ⟨e1, e2, e3, e4⟩ := hd9
      intro e
      subst e3
      have h8 := due_take (g := g) (a := now) hR.out.2.1.inv.ok (by rw [← e1]; exact e)
      have h7 := hR.out.2.2.1
      omega
    obtain ⟨P0, c0, k3, -⟩ := hR.out.1.rs.cells
    rw [on_len] at k3
    obtain ⟨y0, y1, y2, y3, y4, y5⟩ := hR.out.2.2.2.1.cells
    have b1 : (r : Int) ≤ (X.length : Int) := by omega
    have b2 : IntKind.i64.wrap ((r : Int) + 1) = (r : Int) + 1 := by rw [IntKind.wrap_i64]; omega
    have HB1p := Lib.hid hR.out.1
    have C2p := Lib.hid hR.out.2.2.2.1
    have HF2p := Lib.hid hR.out.2.2.2.2
    have hr9 : W.heap.size ≤ wr.heap.size := hR.out.1.ss.bel.size
    have hw9 : w.heap.size ≤ wr.heap.size := by have h9 := lt_of_blk hR.out.2.2.2.1.2; rw [HQ.out]; omega
    have HB1 := Lib.hid (HB1p.out.later (Below.refl wr.heap.size wr).drew)
    have C2 := Lib.hid (C2p.out.later (Below.refl wr.heap.size wr).drew)
    have HF2 := Lib.hid (HF2p.out.trans (Fz.of_below (Below.refl wr.heap.size wr).drew))
    clear hR h9 h23 iv' hd9
    go_upto_region 30 with (fail)
    clear y0 y1 y2 y3 y4 y5 k3 b1
    go_cut [34, 35] from 309 to 321 (fun s34 s35 wx => ∃ (p9 : Nat) (A : Option Addr) (c1 : Nat), s34 = .pointer (some ⟨p9, 0, none⟩) ∧ s35 = .bool dd ∧ Hid (Tb 49 p9 id kd yw at_ dt A ws.length c1 b9 wx ∧ FM W b t mo B RC X T T' m n S g n' S' g' now ws A wx ∧ Ck b t mo now q 7 nn d wx ∧ Fz w wx))
    case first =>
      refine but_startQ 1000 (fun w' => w'.cell? ⟨b, 0, none⟩ = some (pS t) ∧ w'.cell? ⟨b, 1, none⟩ = some (pM mo) ∧ w'.cell? ⟨b, 2, none⟩ = some (.int .i64 now) ∧ w'.cell? ⟨q, 0, none⟩ = some (.int .i64 7) ∧ w'.cell? ⟨q, 1, none⟩ = some (.int .i64 nn) ∧ w'.cell? ⟨q, 2, none⟩ = some (.int .i64 d)) (by kernel_rfl) (by as_aux_lemma => kernel_rfl) ?_
      intro hTidy
      have hHeld := (show wr.drew.cell? ⟨b, 0, none⟩ = some (pS t) ∧ wr.drew.cell? ⟨b, 1, none⟩ = some (pM mo) ∧ wr.drew.cell? ⟨b, 2, none⟩ = some (.int .i64 now) ∧ wr.drew.cell? ⟨q, 0, none⟩ = some (.int .i64 7) ∧ wr.drew.cell? ⟨q, 1, none⟩ = some (.int .i64 nn) ∧ wr.drew.cell? ⟨q, 2, none⟩ = some (.int .i64 d) from C2.out.cells)
      change AnyBut _ _ _ _ _ _ 15 _ _ _
      refine but_takeQ (i := 0) (v := ?_) rfl hTidy (by kernel_rfl) (by kernel_rfl) (fun _ _ _ h => h) (Or.inl ⟨by rfl, ?_⟩) hHeld ?_
      rotate_left
      · intro w hSw
        (try dsimp only at hSw)
        go_split_ands
        go_simp
        try with_reducible rfl
      try simp only [List.getElem_toArray, List.getElem_cons_zero, Act.put, List.setIfInBounds_toArray, List.set_cons_zero, List.set_cons_succ]
      refine but_takeQ (i := 1) (v := ?_) rfl hTidy (by kernel_rfl) (by kernel_rfl) (fun _ _ _ h => h) (Or.inl ⟨by rfl, ?_⟩) hHeld ?_
      rotate_left
      · intro w hSw
        (try dsimp only at hSw)
        go_split_ands
        go_simp
        try with_reducible rfl
      try simp only [List.getElem_toArray, List.getElem_cons_succ, List.getElem_cons_zero, Act.put, List.setIfInBounds_toArray, List.set_cons_zero, List.set_cons_succ]
      refine but_takeQ (i := 2) (v := ?_) rfl hTidy (by kernel_rfl) (by kernel_rfl) (fun _ _ _ h => h) (Or.inl ⟨by rfl, ?_⟩) hHeld ?_
      rotate_left
      · intro w hSw
        (try dsimp only at hSw)
        go_split_ands
        go_simp
        try with_reducible rfl
      try simp only [List.getElem_toArray, List.getElem_cons_succ, List.getElem_cons_zero, Act.put, List.setIfInBounds_toArray, List.set_cons_zero, List.set_cons_succ]
      refine but_takeQ (i := 3) (v := ?_) rfl hTidy (by kernel_rfl) (by kernel_rfl) (fun _ _ _ h => h) (Or.inl ⟨by rfl, ?_⟩) hHeld ?_
      rotate_left
      · intro w hSw
        (try dsimp only at hSw)
        go_split_ands
        go_simp
        try with_reducible rfl
      try simp only [List.getElem_toArray, List.getElem_cons_succ, List.getElem_cons_zero, Act.put, List.setIfInBounds_toArray, List.set_cons_zero, List.set_cons_succ]
      refine but_takeQ (i := 4) (v := ?_) rfl hTidy (by kernel_rfl) (by kernel_rfl) (fun _ _ _ h => h) (Or.inl ⟨by rfl, ?_⟩) hHeld ?_
      rotate_left
      · intro w hSw
        (try dsimp only at hSw)
        go_split_ands
        go_simp
        try with_reducible rfl
      try simp only [List.getElem_toArray, List.getElem_cons_succ, List.getElem_cons_zero, Act.put, List.setIfInBounds_toArray, List.set_cons_zero, List.set_cons_succ]
      refine but_takeQ (i := 5) (v := ?_) rfl hTidy (by kernel_rfl) (by kernel_rfl) (fun _ _ _ h => h) (Or.inl ⟨by rfl, ?_⟩) hHeld ?_
      rotate_left
      · intro w hSw
        (try dsimp only at hSw)
        go_split_ands
        go_simp
        try with_reducible rfl
      try simp only [List.getElem_toArray, List.getElem_cons_succ, List.getElem_cons_zero, Act.put, List.setIfInBounds_toArray, List.set_cons_zero, List.set_cons_succ]
      refine but_takeQ (i := 6) (v := ?_) rfl hTidy (by kernel_rfl) (by kernel_rfl) (fun _ _ _ h => h) (Or.inl ⟨by rfl, ?_⟩) hHeld ?_
      rotate_left
      · intro w hSw
        (try dsimp only at hSw)
        go_split_ands
        go_simp
        try with_reducible rfl
      try simp only [List.getElem_toArray, List.getElem_cons_succ, List.getElem_cons_zero, Act.put, List.setIfInBounds_toArray, List.set_cons_zero, List.set_cons_succ]
      refine but_takeQ (i := 7) (v := ?_) rfl hTidy (by kernel_rfl) (by kernel_rfl) (fun _ _ _ h => h) (Or.inl ⟨by rfl, ?_⟩) hHeld ?_
      rotate_left
      · intro w hSw
        (try dsimp only at hSw)
        go_split_ands
        go_simp
        try with_reducible rfl
      try simp only [List.getElem_toArray, List.getElem_cons_succ, List.getElem_cons_zero, Act.put, List.setIfInBounds_toArray, List.set_cons_zero, List.set_cons_succ]
      refine but_two (i := 8) (j := 12) (by kernel_rfl) rfl rfl ?_ ?_
      · as_aux_lemma =>
        intro K hK
        go_simp
        go_at_call 9
        refine (H9.out _ HB1.out).mono ?_
        rintro e w3 ⟨A, c1, rfl, hfm, hfz⟩
        have HM3 := Lib.hid hfm
        have C3 := Lib.hid (C2.out.keep hfm.cb hfz)
        have HF3 := Lib.hid (HF2.out.trans hfz)
        clear hfm hfz
        try dsimp only
        have hHeld2 := (show w3.cell? ⟨b, 0, none⟩ = some (pS t) ∧ w3.cell? ⟨b, 1, none⟩ = some (pM mo) ∧ w3.cell? ⟨b, 2, none⟩ = some (.int .i64 now) ∧ w3.cell? ⟨q, 0, none⟩ = some (.int .i64 7) ∧ w3.cell? ⟨q, 1, none⟩ = some (.int .i64 nn) ∧ w3.cell? ⟨q, 2, none⟩ = some (.int .i64 d) from C3.out.cells)
        refine hK _ _ (fun _ => hHeld2) ?_
        clear hK K hHeld
        have hHeld := hHeld2
        clear hHeld2
        try simp only [List.getElem_toArray, List.getElem_cons_succ, List.getElem_cons_zero, Act.put, List.setIfInBounds_toArray, List.set_cons_zero, List.set_cons_succ]
        refine but_takeQ (i := 9) (v := ?_) rfl hTidy (by kernel_rfl) (by kernel_rfl) (fun _ _ _ h => h) (Or.inl ⟨by rfl, ?_⟩) hHeld ?_
        rotate_left
        · intro w hSw
          (try dsimp only at hSw)
          go_split_ands
          go_simp
          try with_reducible rfl
        try simp only [List.getElem_toArray, List.getElem_cons_succ, List.getElem_cons_zero, Act.put, List.setIfInBounds_toArray, List.set_cons_zero, List.set_cons_succ]
        refine but_takeQ (i := 10) (v := ?_) rfl hTidy (by kernel_rfl) (by kernel_rfl) (fun _ _ _ h => h) (Or.inl ⟨by rfl, ?_⟩) hHeld ?_
        rotate_left
        · intro w hSw
          (try dsimp only at hSw)
          go_split_ands
          go_simp
          try with_reducible rfl
        try simp only [List.getElem_toArray, List.getElem_cons_succ, List.getElem_cons_zero, Act.put, List.setIfInBounds_toArray, List.set_cons_zero, List.set_cons_succ]
        refine but_takeQ (i := 11) (v := ?_) rfl hTidy (by kernel_rfl) (by kernel_rfl) (fun _ _ _ h => h) (Or.inl ⟨by rfl, ?_⟩) hHeld ?_
        rotate_left
        · intro w hSw
          (try dsimp only at hSw)
          go_split_ands
          go_simp
          try with_reducible rfl
        try simp only [List.getElem_toArray, List.getElem_cons_succ, List.getElem_cons_zero, Act.put, List.setIfInBounds_toArray, List.set_cons_zero, List.set_cons_succ]
        refine but_one (i := 12) (by kernel_rfl) rfl ?_
        intro K hK
        go_simp
        have hHeld2 := (show (w3.alloc (zF 49)).cell? ⟨b, 0, none⟩ = some (pS t) ∧ (w3.alloc (zF 49)).cell? ⟨b, 1, none⟩ = some (pM mo) ∧ (w3.alloc (zF 49)).cell? ⟨b, 2, none⟩ = some (.int .i64 now) ∧ (w3.alloc (zF 49)).cell? ⟨q, 0, none⟩ = some (.int .i64 7) ∧ (w3.alloc (zF 49)).cell? ⟨q, 1, none⟩ = some (.int .i64 nn) ∧ (w3.alloc (zF 49)).cell? ⟨q, 2, none⟩ = some (.int .i64 d) from (C3.out.later (below_al _ _)).cells)
        refine hK _ _ (fun _ => hHeld2) ?_
        clear hK K hHeld
        have hHeld := hHeld2
        clear hHeld2
        try simp only [List.getElem_toArray, List.getElem_cons_succ, List.getElem_cons_zero, Act.put, List.setIfInBounds_toArray, List.set_cons_zero, List.set_cons_succ]
        refine but_one (i := 13) (by kernel_rfl) rfl ?_
        intro K hK
        go_simp
        have hHeld2 := (show (w3.alloc (.cells #[.int .i64 id, .int .i64 kd, .int .i64 yw, .int .i64 at_, .int .i64 dt, .slice A ws.length c1, .bool b9] 49)).cell? ⟨b, 0, none⟩ = some (pS t) ∧ (w3.alloc (.cells #[.int .i64 id, .int .i64 kd, .int .i64 yw, .int .i64 at_, .int .i64 dt, .slice A ws.length c1, .bool b9] 49)).cell? ⟨b, 1, none⟩ = some (pM mo) ∧ (w3.alloc (.cells #[.int .i64 id, .int .i64 kd, .int .i64 yw, .int .i64 at_, .int .i64 dt, .slice A ws.length c1, .bool b9] 49)).cell? ⟨b, 2, none⟩ = some (.int .i64 now) ∧ (w3.alloc (.cells #[.int .i64 id, .int .i64 kd, .int .i64 yw, .int .i64 at_, .int .i64 dt, .slice A ws.length c1, .bool b9] 49)).cell? ⟨q, 0, none⟩ = some (.int .i64 7) ∧ (w3.alloc (.cells #[.int .i64 id, .int .i64 kd, .int .i64 yw, .int .i64 at_, .int .i64 dt, .slice A ws.length c1, .bool b9] 49)).cell? ⟨q, 1, none⟩ = some (.int .i64 nn) ∧ (w3.alloc (.cells #[.int .i64 id, .int .i64 kd, .int .i64 yw, .int .i64 at_, .int .i64 dt, .slice A ws.length c1, .bool b9] 49)).cell? ⟨q, 2, none⟩ = some (.int .i64 d) from (C3.out.later (below_al _ _)).cells)
        refine hK _ _ (fun _ => hHeld2) ?_
        clear hK K hHeld
        have hHeld := hHeld2
        clear hHeld2
        try simp only [List.getElem_toArray, List.getElem_cons_succ, List.getElem_cons_zero, Act.put, List.setIfInBounds_toArray, List.set_cons_zero, List.set_cons_succ]
        refine but_takeQ (i := 14) (v := ?_) rfl hTidy (by kernel_rfl) (by kernel_rfl) (fun _ _ _ h => h) (Or.inl ⟨by rfl, ?_⟩) hHeld ?_
        rotate_left
        · intro w hSw
          (try dsimp only at hSw)
          go_split_ands
          go_simp
          try with_reducible rfl
        try simp only [List.getElem_toArray, List.getElem_cons_succ, List.getElem_cons_zero, Act.put, List.setIfInBounds_toArray, List.set_cons_zero, List.set_cons_succ]
        refine but_done (by kernel_rfl) ?_
        clear hHeld hTidy
        go_wp2_with fail
        go_meet
        exact ⟨_, A, c1, rfl, rfl, heap_alloc_new w3 _, HM3.out.later (below_al _ _), C3.out.later (below_al _ _), HF3.out.trans (Fz.of_below (below_al _ _))⟩
      · as_aux_lemma =>
        intro K hK
        go_simp
        have HB4 := Lib.hid (HB1p.out.later (below_al wr (zF 49)).drew)
        have C4 := Lib.hid (C2p.out.later (below_al wr (zF 49)).drew)
        have HF4 := Lib.hid (HF2p.out.trans (Fz.of_below (below_al wr (zF 49)).drew))
        have HZ : Hid (Zb 49 wr.heap.size (wr.alloc (zF 49)).drew) := heap_alloc_new wr _
        dsimp only [zF] at HB4 C4 HF4 HZ
        generalize (wr.alloc (.cells #[.int .i64 0, .int .i64 0, .int .i64 0, .int .i64 0, .int .i64 0, .slice none 0 0, .bool false] 49)).drew = w4 at *
        generalize wr.heap.size = r9 at *
        have hHeld2 := (show w4.cell? ⟨b, 0, none⟩ = some (pS t) ∧ w4.cell? ⟨b, 1, none⟩ = some (pM mo) ∧ w4.cell? ⟨b, 2, none⟩ = some (.int .i64 now) ∧ w4.cell? ⟨q, 0, none⟩ = some (.int .i64 7) ∧ w4.cell? ⟨q, 1, none⟩ = some (.int .i64 nn) ∧ w4.cell? ⟨q, 2, none⟩ = some (.int .i64 d) from C4.out.cells)
        refine hK _ _ (fun _ => hHeld2) ?_
        clear hK K hHeld
        have hHeld := hHeld2
        clear hHeld2
        try simp only [List.getElem_toArray, List.getElem_cons_succ, List.getElem_cons_zero, Act.put, List.setIfInBounds_toArray, List.set_cons_zero, List.set_cons_succ]
        refine but_one (i := 8) (by kernel_rfl) rfl ?_
        intro K hK
        go_simp
        go_at_call 9
        refine (H9.out _ HB4.out).mono ?_
        rintro e w3 ⟨A, c1, rfl, hfm, hfz⟩
        have HM3 := Lib.hid hfm
        have C3 := Lib.hid (C4.out.keep hfm.cb hfz)
        have HF3 := Lib.hid (HF4.out.trans hfz)
        have HZ3 := Lib.hid (HZ.out.fz (.inl rfl) hfz)
        clear hfm hfz
        try dsimp only
        have hHeld2 := (show w3.cell? ⟨b, 0, none⟩ = some (pS t) ∧ w3.cell? ⟨b, 1, none⟩ = some (pM mo) ∧ w3.cell? ⟨b, 2, none⟩ = some (.int .i64 now) ∧ w3.cell? ⟨q, 0, none⟩ = some (.int .i64 7) ∧ w3.cell? ⟨q, 1, none⟩ = some (.int .i64 nn) ∧ w3.cell? ⟨q, 2, none⟩ = some (.int .i64 d) from C3.out.cells)
        refine hK _ _ (fun _ => hHeld2) ?_
        clear hK K hHeld
        have hHeld := hHeld2
        clear hHeld2
        try simp only [List.getElem_toArray, List.getElem_cons_succ, List.getElem_cons_zero, Act.put, List.setIfInBounds_toArray, List.set_cons_zero, List.set_cons_succ]
        refine but_takeQ (i := 9) (v := ?_) rfl hTidy (by kernel_rfl) (by kernel_rfl) (fun _ _ _ h => h) (Or.inl ⟨by rfl, ?_⟩) hHeld ?_
        rotate_left
        · intro w hSw
          (try dsimp only at hSw)
          go_split_ands
          go_simp
          try with_reducible rfl
        try simp only [List.getElem_toArray, List.getElem_cons_succ, List.getElem_cons_zero, Act.put, List.setIfInBounds_toArray, List.set_cons_zero, List.set_cons_succ]
        refine but_takeQ (i := 10) (v := ?_) rfl hTidy (by kernel_rfl) (by kernel_rfl) (fun _ _ _ h => h) (Or.inl ⟨by rfl, ?_⟩) hHeld ?_
        rotate_left
        · intro w hSw
          (try dsimp only at hSw)
          go_split_ands
          go_simp
          try with_reducible rfl
        try simp only [List.getElem_toArray, List.getElem_cons_succ, List.getElem_cons_zero, Act.put, List.setIfInBounds_toArray, List.set_cons_zero, List.set_cons_succ]
        refine but_takeQ (i := 11) (v := ?_) rfl hTidy (by kernel_rfl) (by kernel_rfl) (fun _ _ _ h => h) (Or.inl ⟨by rfl, ?_⟩) hHeld ?_
        rotate_left
        · intro w hSw
          (try dsimp only at hSw)
          go_split_ands
          go_simp
          try with_reducible rfl
        try simp only [List.getElem_toArray, List.getElem_cons_succ, List.getElem_cons_zero, Act.put, List.setIfInBounds_toArray, List.set_cons_zero, List.set_cons_succ]
        refine but_one (i := 13) (by kernel_rfl) rfl ?_
        intro K hK
        obtain ⟨z0, z1, z2, z3, z4, z5, z6, zf⟩ := HZ3.out.cells
        have y0 := zf 0
        have y1 := zf 1
        have y2 := zf 2
        have y3 := zf 3
        have y4 := zf 4
        have y5 := zf 5
        have y6 := zf 6
        clear zf
        go_simp
        clear z0 z1 z2 z3 z4 z5 z6 y0 y1 y2 y3 y4 y5 y6
        obtain ⟨f1, f2, f3⟩ := HZ3.out.fill (id := id) (kd := kd) (yw := yw) (at_ := at_) (dt := dt) (A := A) (l := ws.length) (c := c1) (z := b9)
        have HT5 := Lib.hid f1
        have HM5 := Lib.hid (HM3.out.tz (.inl rfl) f2 (f3 _ _ hr9 HM3.out.ss.bel))
        have C5 := Lib.hid (C3.out.tz7 (.inl rfl) f2)
        have HF5 := Lib.hid (HF3.out.fill hw9 (id := id) (kd := kd) (yw := yw) (at_ := at_) (dt := dt) (A := A) (l := ws.length) (c := c1) (z := b9))
        clear f1 f2 f3
        change K _ (fillW r9 id kd yw at_ dt A ws.length c1 b9 w3)
        generalize fillW r9 id kd yw at_ dt A ws.length c1 b9 w3 = w5 at *
        have hHeld2 := (show w5.cell? ⟨b, 0, none⟩ = some (pS t) ∧ w5.cell? ⟨b, 1, none⟩ = some (pM mo) ∧ w5.cell? ⟨b, 2, none⟩ = some (.int .i64 now) ∧ w5.cell? ⟨q, 0, none⟩ = some (.int .i64 7) ∧ w5.cell? ⟨q, 1, none⟩ = some (.int .i64 nn) ∧ w5.cell? ⟨q, 2, none⟩ = some (.int .i64 d) from C5.out.cells)
        refine hK _ _ (fun _ => hHeld2) ?_
        clear hK K hHeld
        have hHeld := hHeld2
        clear hHeld2
        try simp only [List.getElem_toArray, List.getElem_cons_succ, List.getElem_cons_zero, Act.put, List.setIfInBounds_toArray, List.set_cons_zero, List.set_cons_succ]
        refine but_takeQ (i := 14) (v := ?_) rfl hTidy (by kernel_rfl) (by kernel_rfl) (fun _ _ _ h => h) (Or.inl ⟨by rfl, ?_⟩) hHeld ?_
        rotate_left
        · intro w hSw
          (try dsimp only at hSw)
          go_split_ands
          go_simp
          try with_reducible rfl
        try simp only [List.getElem_toArray, List.getElem_cons_succ, List.getElem_cons_zero, Act.put, List.setIfInBounds_toArray, List.set_cons_zero, List.set_cons_succ]
        refine but_done (by kernel_rfl) ?_
        clear hHeld hTidy
        go_wp2_with fail
        go_meet
        exact ⟨_, A, c1, rfl, rfl, HT5.out, HM5.out, C5.out, HF5.out⟩
    case rest =>
      obtain ⟨p9, A, c1, rfl, rfl, hB⟩ := hcut
      clear HB1 HB1p H9 C2 C2p HF2 HF2p hr9 hw9
      have hr9 : W.heap.size ≤ wc.heap.size := hB.out.2.1.ss.bel.size
      have hw9 : w.heap.size ≤ wc.heap.size := by have h9 := lt_of_blk hB.out.2.2.1.2; rw [HQ.out]; omega
      have HT1p := Lib.hid hB.out.1
      have HB1p := Lib.hid hB.out.2.1
      have C2p := Lib.hid hB.out.2.2.1
      have HF2p := Lib.hid hB.out.2.2.2
      have HT1 := Lib.hid (HT1p.out.later (Below.refl wc.heap.size wc).drew)
      have HB1 := Lib.hid (HB1p.out.later (Below.refl wc.heap.size wc).drew)
      have C2 := Lib.hid (C2p.out.later (Below.refl wc.heap.size wc).drew)
      have HF2 := Lib.hid (HF2p.out.trans (Fz.of_below (Below.refl wc.heap.size wc).drew))
      clear hB
      go_upto_region 31 with (fail)
      go_cut [36, 37] from 321 to 333 (fun s36 s37 wx => ∃ (r9 : Nat) (A' : Option Addr) (c2 : Nat), s36 = .pointer (some ⟨r9, 0, none⟩) ∧ s37 = .bool dd ∧ Hid (Tb 49 p9 id kd yw at_ dt A ws.length c1 b9 wx ∧ Tb 76 r9 id kd yw at_ dt A' ws.length c2 b9 wx ∧ FN W b t mo B RC X T' m n' S' g' now ws A A' wx ∧ Ck b t mo now q 7 nn d wx ∧ Fz w wx))
      case first =>
        refine but_startQ 1000 (fun w' => w'.cell? ⟨b, 0, none⟩ = some (pS t) ∧ w'.cell? ⟨b, 1, none⟩ = some (pM mo) ∧ w'.cell? ⟨b, 2, none⟩ = some (.int .i64 now) ∧ w'.cell? ⟨q, 0, none⟩ = some (.int .i64 7) ∧ w'.cell? ⟨q, 1, none⟩ = some (.int .i64 nn) ∧ w'.cell? ⟨q, 2, none⟩ = some (.int .i64 d)) (by kernel_rfl) (by as_aux_lemma => kernel_rfl) ?_
        intro hTidy
        have hHeld := (show wc.drew.cell? ⟨b, 0, none⟩ = some (pS t) ∧ wc.drew.cell? ⟨b, 1, none⟩ = some (pM mo) ∧ wc.drew.cell? ⟨b, 2, none⟩ = some (.int .i64 now) ∧ wc.drew.cell? ⟨q, 0, none⟩ = some (.int .i64 7) ∧ wc.drew.cell? ⟨q, 1, none⟩ = some (.int .i64 nn) ∧ wc.drew.cell? ⟨q, 2, none⟩ = some (.int .i64 d) from C2.out.cells)
        change AnyBut _ _ _ _ _ _ 15 _ _ _
        refine but_takeQ (i := 0) (v := ?_) rfl hTidy (by kernel_rfl) (by kernel_rfl) (fun _ _ _ h => h) (Or.inl ⟨by rfl, ?_⟩) hHeld ?_
        rotate_left
        · intro w hSw
          (try dsimp only at hSw)
          go_split_ands
          go_simp
          try with_reducible rfl
        try simp only [List.getElem_toArray, List.getElem_cons_zero, Act.put, List.setIfInBounds_toArray, List.set_cons_zero, List.set_cons_succ]
        refine but_takeQ (i := 1) (v := ?_) rfl hTidy (by kernel_rfl) (by kernel_rfl) (fun _ _ _ h => h) (Or.inl ⟨by rfl, ?_⟩) hHeld ?_
        rotate_left
        · intro w hSw
          (try dsimp only at hSw)
          go_split_ands
          go_simp
          try with_reducible rfl
        try simp only [List.getElem_toArray, List.getElem_cons_succ, List.getElem_cons_zero, Act.put, List.setIfInBounds_toArray, List.set_cons_zero, List.set_cons_succ]
        refine but_takeQ (i := 2) (v := ?_) rfl hTidy (by kernel_rfl) (by kernel_rfl) (fun _ _ _ h => h) (Or.inl ⟨by rfl, ?_⟩) hHeld ?_
        rotate_left
        · intro w hSw
          (try dsimp only at hSw)
          go_split_ands
          go_simp
          try with_reducible rfl
        try simp only [List.getElem_toArray, List.getElem_cons_succ, List.getElem_cons_zero, Act.put, List.setIfInBounds_toArray, List.set_cons_zero, List.set_cons_succ]
        refine but_takeQ (i := 3) (v := ?_) rfl hTidy (by kernel_rfl) (by kernel_rfl) (fun _ _ _ h => h) (Or.inl ⟨by rfl, ?_⟩) hHeld ?_
        rotate_left
        · intro w hSw
          (try dsimp only at hSw)
          go_split_ands
          go_simp
          try with_reducible rfl
        try simp only [List.getElem_toArray, List.getElem_cons_succ, List.getElem_cons_zero, Act.put, List.setIfInBounds_toArray, List.set_cons_zero, List.set_cons_succ]
        refine but_takeQ (i := 4) (v := ?_) rfl hTidy (by kernel_rfl) (by kernel_rfl) (fun _ _ _ h => h) (Or.inl ⟨by rfl, ?_⟩) hHeld ?_
        rotate_left
        · intro w hSw
          (try dsimp only at hSw)
          go_split_ands
          go_simp
          try with_reducible rfl
        try simp only [List.getElem_toArray, List.getElem_cons_succ, List.getElem_cons_zero, Act.put, List.setIfInBounds_toArray, List.set_cons_zero, List.set_cons_succ]
        refine but_takeQ (i := 5) (v := ?_) rfl hTidy (by kernel_rfl) (by kernel_rfl) (fun _ _ _ h => h) (Or.inl ⟨by rfl, ?_⟩) hHeld ?_
        rotate_left
        · intro w hSw
          (try dsimp only at hSw)
          go_split_ands
          go_simp
          try with_reducible rfl
        try simp only [List.getElem_toArray, List.getElem_cons_succ, List.getElem_cons_zero, Act.put, List.setIfInBounds_toArray, List.set_cons_zero, List.set_cons_succ]
        refine but_takeQ (i := 6) (v := ?_) rfl hTidy (by kernel_rfl) (by kernel_rfl) (fun _ _ _ h => h) (Or.inl ⟨by rfl, ?_⟩) hHeld ?_
        rotate_left
        · intro w hSw
          (try dsimp only at hSw)
          go_split_ands
          go_simp
          try with_reducible rfl
        try simp only [List.getElem_toArray, List.getElem_cons_succ, List.getElem_cons_zero, Act.put, List.setIfInBounds_toArray, List.set_cons_zero, List.set_cons_succ]
        refine but_takeQ (i := 7) (v := ?_) rfl hTidy (by kernel_rfl) (by kernel_rfl) (fun _ _ _ h => h) (Or.inl ⟨by rfl, ?_⟩) hHeld ?_
        rotate_left
        · intro w hSw
          (try dsimp only at hSw)
          go_split_ands
          go_simp
          try with_reducible rfl
        try simp only [List.getElem_toArray, List.getElem_cons_succ, List.getElem_cons_zero, Act.put, List.setIfInBounds_toArray, List.set_cons_zero, List.set_cons_succ]
        refine but_two (i := 8) (j := 12) (by kernel_rfl) rfl rfl ?_ ?_
        · as_aux_lemma =>
          intro K hK
          go_simp
          go_at_call 23
          refine (H23.out _ _ HB1.out).mono ?_
          rintro e w3 ⟨A', c2, rfl, hfm, hfz⟩
          have HM3 := Lib.hid hfm
          have HT3 := Lib.hid (HT1.out.fz (.inl rfl) hfz)
          have C3 := Lib.hid (C2.out.keep hfm.bd.cb hfz)
          have HF3 := Lib.hid (HF2.out.trans hfz)
          clear hfm hfz
          try dsimp only
          have hHeld2 := (show w3.cell? ⟨b, 0, none⟩ = some (pS t) ∧ w3.cell? ⟨b, 1, none⟩ = some (pM mo) ∧ w3.cell? ⟨b, 2, none⟩ = some (.int .i64 now) ∧ w3.cell? ⟨q, 0, none⟩ = some (.int .i64 7) ∧ w3.cell? ⟨q, 1, none⟩ = some (.int .i64 nn) ∧ w3.cell? ⟨q, 2, none⟩ = some (.int .i64 d) from C3.out.cells)
          refine hK _ _ (fun _ => hHeld2) ?_
          clear hK K hHeld
          have hHeld := hHeld2
          clear hHeld2
          try simp only [List.getElem_toArray, List.getElem_cons_succ, List.getElem_cons_zero, Act.put, List.setIfInBounds_toArray, List.set_cons_zero, List.set_cons_succ]
          refine but_takeQ (i := 9) (v := ?_) rfl hTidy (by kernel_rfl) (by kernel_rfl) (fun _ _ _ h => h) (Or.inl ⟨by rfl, ?_⟩) hHeld ?_
          rotate_left
          · intro w hSw
            (try dsimp only at hSw)
            go_split_ands
            go_simp
            try with_reducible rfl
          try simp only [List.getElem_toArray, List.getElem_cons_succ, List.getElem_cons_zero, Act.put, List.setIfInBounds_toArray, List.set_cons_zero, List.set_cons_succ]
          refine but_takeQ (i := 10) (v := ?_) rfl hTidy (by kernel_rfl) (by kernel_rfl) (fun _ _ _ h => h) (Or.inl ⟨by rfl, ?_⟩) hHeld ?_
          rotate_left
          · intro w hSw
            (try dsimp only at hSw)
            go_split_ands
            go_simp
            try with_reducible rfl
          try simp only [List.getElem_toArray, List.getElem_cons_succ, List.getElem_cons_zero, Act.put, List.setIfInBounds_toArray, List.set_cons_zero, List.set_cons_succ]
          refine but_takeQ (i := 11) (v := ?_) rfl hTidy (by kernel_rfl) (by kernel_rfl) (fun _ _ _ h => h) (Or.inl ⟨by rfl, ?_⟩) hHeld ?_
          rotate_left
          · intro w hSw
            (try dsimp only at hSw)
            go_split_ands
            go_simp
            try with_reducible rfl
          try simp only [List.getElem_toArray, List.getElem_cons_succ, List.getElem_cons_zero, Act.put, List.setIfInBounds_toArray, List.set_cons_zero, List.set_cons_succ]
          refine but_one (i := 12) (by kernel_rfl) rfl ?_
          intro K hK
          go_simp
          have hHeld2 := (show (w3.alloc (zF 76)).cell? ⟨b, 0, none⟩ = some (pS t) ∧ (w3.alloc (zF 76)).cell? ⟨b, 1, none⟩ = some (pM mo) ∧ (w3.alloc (zF 76)).cell? ⟨b, 2, none⟩ = some (.int .i64 now) ∧ (w3.alloc (zF 76)).cell? ⟨q, 0, none⟩ = some (.int .i64 7) ∧ (w3.alloc (zF 76)).cell? ⟨q, 1, none⟩ = some (.int .i64 nn) ∧ (w3.alloc (zF 76)).cell? ⟨q, 2, none⟩ = some (.int .i64 d) from (C3.out.later (below_al _ _)).cells)
          refine hK _ _ (fun _ => hHeld2) ?_
          clear hK K hHeld
          have hHeld := hHeld2
          clear hHeld2
          try simp only [List.getElem_toArray, List.getElem_cons_succ, List.getElem_cons_zero, Act.put, List.setIfInBounds_toArray, List.set_cons_zero, List.set_cons_succ]
          refine but_one (i := 13) (by kernel_rfl) rfl ?_
          intro K hK
          go_simp
          have hHeld2 := (show (w3.alloc (.cells #[.int .i64 id, .int .i64 kd, .int .i64 yw, .int .i64 at_, .int .i64 dt, .slice A' ws.length c2, .bool b9] 76)).cell? ⟨b, 0, none⟩ = some (pS t) ∧ (w3.alloc (.cells #[.int .i64 id, .int .i64 kd, .int .i64 yw, .int .i64 at_, .int .i64 dt, .slice A' ws.length c2, .bool b9] 76)).cell? ⟨b, 1, none⟩ = some (pM mo) ∧ (w3.alloc (.cells #[.int .i64 id, .int .i64 kd, .int .i64 yw, .int .i64 at_, .int .i64 dt, .slice A' ws.length c2, .bool b9] 76)).cell? ⟨b, 2, none⟩ = some (.int .i64 now) ∧ (w3.alloc (.cells #[.int .i64 id, .int .i64 kd, .int .i64 yw, .int .i64 at_, .int .i64 dt, .slice A' ws.length c2, .bool b9] 76)).cell? ⟨q, 0, none⟩ = some (.int .i64 7) ∧ (w3.alloc (.cells #[.int .i64 id, .int .i64 kd, .int .i64 yw, .int .i64 at_, .int .i64 dt, .slice A' ws.length c2, .bool b9] 76)).cell? ⟨q, 1, none⟩ = some (.int .i64 nn) ∧ (w3.alloc (.cells #[.int .i64 id, .int .i64 kd, .int .i64 yw, .int .i64 at_, .int .i64 dt, .slice A' ws.length c2, .bool b9] 76)).cell? ⟨q, 2, none⟩ = some (.int .i64 d) from (C3.out.later (below_al _ _)).cells)
          refine hK _ _ (fun _ => hHeld2) ?_
          clear hK K hHeld
          have hHeld := hHeld2
          clear hHeld2
          try simp only [List.getElem_toArray, List.getElem_cons_succ, List.getElem_cons_zero, Act.put, List.setIfInBounds_toArray, List.set_cons_zero, List.set_cons_succ]
          refine but_takeQ (i := 14) (v := ?_) rfl hTidy (by kernel_rfl) (by kernel_rfl) (fun _ _ _ h => h) (Or.inl ⟨by rfl, ?_⟩) hHeld ?_
          rotate_left
          · intro w hSw
            (try dsimp only at hSw)
            go_split_ands
            go_simp
            try with_reducible rfl
          try simp only [List.getElem_toArray, List.getElem_cons_succ, List.getElem_cons_zero, Act.put, List.setIfInBounds_toArray, List.set_cons_zero, List.set_cons_succ]
          refine but_done (by kernel_rfl) ?_
          clear hHeld hTidy
          go_wp2_with fail
          go_meet
          exact ⟨_, A', c2, rfl, rfl, HT3.out.later (below_al _ _), heap_alloc_new w3 _, HM3.out.later (below_al _ _), C3.out.later (below_al _ _), HF3.out.trans (Fz.of_below (below_al _ _))⟩
        · as_aux_lemma =>
          intro K hK
          go_simp
          have HB4 := Lib.hid (HB1p.out.later (below_al wc (zF 76)).drew)
          have C4 := Lib.hid (C2p.out.later (below_al wc (zF 76)).drew)
          have HF4 := Lib.hid (HF2p.out.trans (Fz.of_below (below_al wc (zF 76)).drew))
          have HZ : Hid (Zb 76 wc.heap.size (wc.alloc (zF 76)).drew) := heap_alloc_new wc _
          have HT4 := Lib.hid (HT1p.out.later (below_al wc (zF 76)).drew)
          dsimp only [zF] at HB4 C4 HF4 HZ HT4
          generalize (wc.alloc (.cells #[.int .i64 0, .int .i64 0, .int .i64 0, .int .i64 0, .int .i64 0, .slice none 0 0, .bool false] 76)).drew = w4 at *
          generalize wc.heap.size = r9 at *
          have hHeld2 := (show w4.cell? ⟨b, 0, none⟩ = some (pS t) ∧ w4.cell? ⟨b, 1, none⟩ = some (pM mo) ∧ w4.cell? ⟨b, 2, none⟩ = some (.int .i64 now) ∧ w4.cell? ⟨q, 0, none⟩ = some (.int .i64 7) ∧ w4.cell? ⟨q, 1, none⟩ = some (.int .i64 nn) ∧ w4.cell? ⟨q, 2, none⟩ = some (.int .i64 d) from C4.out.cells)
          refine hK _ _ (fun _ => hHeld2) ?_
          clear hK K hHeld
          have hHeld := hHeld2
          clear hHeld2
          try simp only [List.getElem_toArray, List.getElem_cons_succ, List.getElem_cons_zero, Act.put, List.setIfInBounds_toArray, List.set_cons_zero, List.set_cons_succ]
          refine but_one (i := 8) (by kernel_rfl) rfl ?_
          intro K hK
          go_simp
          go_at_call 23
          refine (H23.out _ _ HB4.out).mono ?_
          rintro e w3 ⟨A', c2, rfl, hfm, hfz⟩
          have HM3 := Lib.hid hfm
          have HT3 := Lib.hid (HT4.out.fz (.inl rfl) hfz)
          have C3 := Lib.hid (C4.out.keep hfm.bd.cb hfz)
          have HF3 := Lib.hid (HF4.out.trans hfz)
          have HZ3 := Lib.hid (HZ.out.fz (.inr rfl) hfz)
          clear hfm hfz
          try dsimp only
          have hHeld2 := (show w3.cell? ⟨b, 0, none⟩ = some (pS t) ∧ w3.cell? ⟨b, 1, none⟩ = some (pM mo) ∧ w3.cell? ⟨b, 2, none⟩ = some (.int .i64 now) ∧ w3.cell? ⟨q, 0, none⟩ = some (.int .i64 7) ∧ w3.cell? ⟨q, 1, none⟩ = some (.int .i64 nn) ∧ w3.cell? ⟨q, 2, none⟩ = some (.int .i64 d) from C3.out.cells)
          refine hK _ _ (fun _ => hHeld2) ?_
          clear hK K hHeld
          have hHeld := hHeld2
          clear hHeld2
          try simp only [List.getElem_toArray, List.getElem_cons_succ, List.getElem_cons_zero, Act.put, List.setIfInBounds_toArray, List.set_cons_zero, List.set_cons_succ]
          refine but_takeQ (i := 9) (v := ?_) rfl hTidy (by kernel_rfl) (by kernel_rfl) (fun _ _ _ h => h) (Or.inl ⟨by rfl, ?_⟩) hHeld ?_
          rotate_left
          · intro w hSw
            (try dsimp only at hSw)
            go_split_ands
            go_simp
            try with_reducible rfl
          try simp only [List.getElem_toArray, List.getElem_cons_succ, List.getElem_cons_zero, Act.put, List.setIfInBounds_toArray, List.set_cons_zero, List.set_cons_succ]
          refine but_takeQ (i := 10) (v := ?_) rfl hTidy (by kernel_rfl) (by kernel_rfl) (fun _ _ _ h => h) (Or.inl ⟨by rfl, ?_⟩) hHeld ?_
          rotate_left
          · intro w hSw
            (try dsimp only at hSw)
            go_split_ands
            go_simp
            try with_reducible rfl
          try simp only [List.getElem_toArray, List.getElem_cons_succ, List.getElem_cons_zero, Act.put, List.setIfInBounds_toArray, List.set_cons_zero, List.set_cons_succ]
          refine but_takeQ (i := 11) (v := ?_) rfl hTidy (by kernel_rfl) (by kernel_rfl) (fun _ _ _ h => h) (Or.inl ⟨by rfl, ?_⟩) hHeld ?_
          rotate_left
          · intro w hSw
            (try dsimp only at hSw)
            go_split_ands
            go_simp
            try with_reducible rfl
          try simp only [List.getElem_toArray, List.getElem_cons_succ, List.getElem_cons_zero, Act.put, List.setIfInBounds_toArray, List.set_cons_zero, List.set_cons_succ]
          refine but_one (i := 13) (by kernel_rfl) rfl ?_
          intro K hK
          obtain ⟨z0, z1, z2, z3, z4, z5, z6, zf⟩ := HZ3.out.cells
          have y0 := zf 0
          have y1 := zf 1
          have y2 := zf 2
          have y3 := zf 3
          have y4 := zf 4
          have y5 := zf 5
          have y6 := zf 6
          clear zf
          go_simp
          clear z0 z1 z2 z3 z4 z5 z6 y0 y1 y2 y3 y4 y5 y6
          obtain ⟨f1, f2, f3⟩ := HZ3.out.fill (id := id) (kd := kd) (yw := yw) (at_ := at_) (dt := dt) (A := A') (l := ws.length) (c := c2) (z := b9)
          have HT5 := Lib.hid f1
          have HM5 := Lib.hid (HM3.out.tz (.inr rfl) f2 (f3 _ _ hr9 HM3.out.bd.ss.bel))
          have C5 := Lib.hid (C3.out.tz7 (.inr rfl) f2)
          have HF5 := Lib.hid (HF3.out.fill hw9 (id := id) (kd := kd) (yw := yw) (at_ := at_) (dt := dt) (A := A') (l := ws.length) (c := c2) (z := b9))
          have HU5 := Lib.hid (HT3.out.tz (by decide) f2)
          clear f1 f2 f3
          change K _ (fillW r9 id kd yw at_ dt A' ws.length c2 b9 w3)
          generalize fillW r9 id kd yw at_ dt A' ws.length c2 b9 w3 = w5 at *
          have hHeld2 := (show w5.cell? ⟨b, 0, none⟩ = some (pS t) ∧ w5.cell? ⟨b, 1, none⟩ = some (pM mo) ∧ w5.cell? ⟨b, 2, none⟩ = some (.int .i64 now) ∧ w5.cell? ⟨q, 0, none⟩ = some (.int .i64 7) ∧ w5.cell? ⟨q, 1, none⟩ = some (.int .i64 nn) ∧ w5.cell? ⟨q, 2, none⟩ = some (.int .i64 d) from C5.out.cells)
          refine hK _ _ (fun _ => hHeld2) ?_
          clear hK K hHeld
          have hHeld := hHeld2
          clear hHeld2
          try simp only [List.getElem_toArray, List.getElem_cons_succ, List.getElem_cons_zero, Act.put, List.setIfInBounds_toArray, List.set_cons_zero, List.set_cons_succ]
          refine but_takeQ (i := 14) (v := ?_) rfl hTidy (by kernel_rfl) (by kernel_rfl) (fun _ _ _ h => h) (Or.inl ⟨by rfl, ?_⟩) hHeld ?_
          rotate_left
          · intro w hSw
            (try dsimp only at hSw)
            go_split_ands
            go_simp
            try with_reducible rfl
          try simp only [List.getElem_toArray, List.getElem_cons_succ, List.getElem_cons_zero, Act.put, List.setIfInBounds_toArray, List.set_cons_zero, List.set_cons_succ]
          refine but_done (by kernel_rfl) ?_
          clear hHeld hTidy
          go_wp2_with fail
          go_meet
          exact ⟨_, A', c2, rfl, rfl, HU5.out, HT5.out, HM5.out, C5.out, HF5.out⟩
      case rest =>
        obtain ⟨r9, A', c2, rfl, rfl, hB⟩ := hcut
        clear HT1 HB1 C2 HF2 HB1p HT1p C2p HF2p H23 hr9 hw9
        obtain ⟨p0, p1, p2, p3, p4, p5, p6⟩ := hB.out.1.cells
        obtain ⟨q0, q1, q2, q3, q4, q5, q6⟩ := hB.out.2.1.cells
        have HN := Lib.hid hB.out.2.2
        have HY := Lib.hid (fired_yes (id := id) (kd := kd) (wh := yw) (at_ := at_) (dt := dt) (b := b9) (k := c1) (k' := c2) hB.out.2.2.1.rd hB.out.2.2.1.rd' (by omega))
        clear hB
        cases dd with
        | false =>
          as_aux_lemma =>
          go_wp2_with (go_at_call 24; (with_reducible refine HY.out.mono ?_); rintro e w7 ⟨rfl, hb7⟩)
          go_ret
          exact ⟨rfl, ⟨B, RC, X, T', m, n', S', g', now, HN.out.1.bd.later hb7, HI.out.up (by omega)⟩, HN.out.2.2.trans (Fz.of_below hb7)⟩
        | true =>
          as_aux_lemma =>
          go_wp2_with (go_at_call 24; (with_reducible refine HY.out.mono ?_); rintro e w7 ⟨rfl, hb7⟩)
          go_roundw
          case rel => exact ⟨r + 1, T', n', S', g', by go_num, HN.out.1.bd.later hb7, HI.out, (by first | exact HD.out rfl | exact HD.out trivial), HN.out.2.1.later hb7, HN.out.2.2.trans (Fz.of_below hb7)⟩
          case measure => simp [intOf]; omega
end
end Go.Proofs.YtmadcnpkaijllaaGreat
