/- The law's does, of one that waits. Conditions: each theorem's own premises. -/
import Derived.Test.YtmadcnpkaijllaaGreatDk1
import Derived.Test.YtmadcnpkaijllaaGreatShn
namespace Go.Proofs.YtmadcnpkaijllaaGreat
open Go.RowKit Ch
set_option linter.unusedVariables false
set_option maxRecDepth 100000
section
variable {W w w' w'' w1 w2 : World} {b t mo m n k q i j c f r : Nat} {B RC : List Nat} {X X' : List Oc} {T T' : List CS} {S S' : List It} {g g' : Int → Int} {now d p a : Int} {x : Oc} {s s' : CS} {v : Value} {e : Ending} {bb : Bool}
/-- Both have a task wait. -/
def PrV (W : World) (b t mo k : Nat) (now a : Int) (x : Wt) (P P' : Option Addr) (w : World) : Prop :=
  ∃ (r : Int), Calls Tryz.prog 31 #[.pointer P, wG x, .bool false] w fun e w1 => e = .returned (.int .i64 r) ∧ Bc b t mo now w1 ∧ Fz w w1 ∧ (∀ (q : Nat) (cs : Array Value) (fr : Nat × Nat), w.heap[q]? = some (.cells cs 87 fr) → w1.heap[q]? = some (.cells cs 87 fr)) ∧
    ∀ w', Below w1.heap.size w1 w' → (Calls Tryz.prog 27 #[pM mo, .int .i64 a] w' fun e w'' => e = .returned (.pointer P') ∧ w' = w'') ∧
      Calls Tryz.prog 32 #[.pointer P', wG x, .bool false] w' fun e w2 => e = .returned (.int .i64 r) ∧ BE W b t mo (k + 1) w2 ∧ Fz w' w2 ∧ Bc b t mo now w2 ∧ (∀ (q : Nat) (cs : Array Value) (fr : Nat × Nat), w'.heap[q]? = some (.cells cs 87 fr) → w2.heap[q]? = some (.cells cs 87 fr))
theorem pair_wait2 (h : BD W b t mo B RC X T m n S g now w) (iv : Iv k 0 X T m n S g now) (hk : k ≤ 120) (a : Int) (x : Wt) (hx : Wf x.t) : PrV W b t mo k now a x (cp (eA (X.map (on B)) a).ch) (cp (eA (X.map (on RC)) a).ch) w := by
  rcases h.chs iv a with ⟨e1, e2⟩ | ⟨j, c, c', s, e1, e2, hB, hC, hT, hs⟩
  · have er := e2
    rw [e1, e2]
    refine ⟨6, (wait_nil x false w).mono ?_⟩
    rintro e w1 ⟨rfl, hb0⟩
    refine ⟨rfl, Bc.later h.cb hb0, Fz.of_below hb0, fun q cs fr e => (hb0.block q (lt_of_blk e)).trans e, fun w' hb => ⟨?_, (mwait_nil x false w').mono ?_⟩⟩
    · have := rchan_any a ((h.later hb0).later hb).rs
      rw [er] at this
      exact this
    · rintro e w2 ⟨rfl, hb2⟩
      exact ⟨rfl, (((h.later hb0).later hb).later hb2).be iv, Fz.of_below hb2, (((h.later hb0).later hb).later hb2).cb, fun q cs fr e => (hb2.block q (lt_of_blk e)).trans e⟩
  · have er := e2
    rw [e1, e2]
    have ht1 := wt_tk hs x
    have l1 := hs.2.2.2.2.1
    have l2 := hs.2.2.2.1
    have l3 := hs.2.2.2.2.2
    have hq9 : ∀ b, (s.q b).length ≤ 1000000 := fun b => by
      cases b
      · show s.rs.length ≤ 1000000; omega
      · show s.ss.length ≤ 1000000; rw [l2]; simp
    refine ⟨(wt s x false).2, ?_⟩
    refine (ms_wait x false hx h.ms (zip_at hB hT) hq9 (s' := (wt s x false).1) rfl).mono ?_
    rintro e w1 ⟨rfl, hms, hkp⟩
    obtain ⟨hss, hoz⟩ := h.ss.chan hms hkp
    refine ⟨rfl, hoz.bc h.cb, hoz.fz, fun q cs fr e => hkp.at e (by decide), fun w' hb => ?_⟩
    have hs2 := hss.later hb
    have hrs := (h.rs.oz hoz).later hb
    refine ⟨?_, ?_⟩
    · have := rchan_any a hrs
      rw [er] at this
      exact this
    · obtain ⟨ok, q1, q2⟩ := hs2.ms.ref hC hT
      refine (mwait_any x false q1 (by rw [hs.1]; omega) (by rw [l2]; simp) (by omega) (by omega)).mono ?_
      rintro e w2 ⟨rfl, hr2⟩
      obtain ⟨q3, q4⟩ := q2 _ _ hr2
      have hbk := hs2.ms.rblk (List.mem_of_getElem? hC)
      have hry := RY.tn q4 hbk
      refine ⟨rfl, ⟨B, RC, X, T.set j (wt s x false).1, m, n, S, g, now, ⟨?_, hrs.tn q4 hbk, by simp [h.eB], by simp [h.eC], hry.bc ((hoz.bc h.cb).later hb), h.lo⟩, iv.chs (by simp) fun y hy => ?_⟩, hry.fz, hry.bc ((hoz.bc h.cb).later hb), fun q cs fr e => hry.at e (by decide)⟩
      · have := hs2.ry hry q3
        rw [zip_set hB] at this
        exact this
      · have iv2 : ∀ s ∈ T, Tk (k + 1) s := iv.up.ts
        exact Tk.set iv2 ht1 j y hy
theorem wait_pack2 (h : BD W b t mo B RC X T m n S g now w) (iv : Iv k 0 X T m n S g now) (hk : k ≤ 120) (a : Int) (x : Wt) (hx : Wf x.t) : ∃ P P' : Option Addr, ∀ w', BD W b t mo B RC X T m n S g now w' →
    (Calls Tryz.prog 25 #[pS t, .int .i64 a] w' fun e w2 => e = .returned (.pointer P) ∧ Below w'.heap.size w' w2) ∧ PrV W b t mo k now a x P P' w' :=
  ⟨_, _, fun w' h' => ⟨chan_bel a h'.ss, pair_wait2 h' iv hk a x hx⟩⟩
end
section
variable {W w w' : World} {b t mo k q : Nat} {kd nn d now : Int}
/-- The same, and the block of one that waits. -/
def Cw (b t mo : Nat) (now : Int) (q r : Nat) (kd nn d : Int) (w : World) : Prop := Ck b t mo now q kd nn d w ∧ w.heap[r]? = some (.cells #[.int .i64 d, .int .i64 0, .int .i64 0] 87 (0, 0))
theorem Cw.later {r : Nat} (h : Cw b t mo now q r kd nn d w) (hb : Below w.heap.size w w') : Cw b t mo now q r kd nn d w' := ⟨h.1.later hb, (hb.block r (lt_of_blk h.2)).trans h.2⟩
theorem Cw.keep {r : Nat} (h : Cw b t mo now q r kd nn d w) (hb : Bc b t mo now w') (hf : Fz w w') (hr : w'.heap[r]? = some (.cells #[.int .i64 d, .int .i64 0, .int .i64 0] 87 (0, 0))) : Cw b t mo now q r kd nn d w' := ⟨h.1.keep hb hf, hr⟩
theorem Cw.cells {r : Nat} (h : Cw b t mo now q r kd nn d w) : w.cell? ⟨b, 0, none⟩ = some (pS t) ∧ w.cell? ⟨b, 1, none⟩ = some (pM mo) ∧ w.cell? ⟨b, 2, none⟩ = some (.int .i64 now) ∧ w.cell? ⟨q, 0, none⟩ = some (.int .i64 kd) ∧ w.cell? ⟨q, 1, none⟩ = some (.int .i64 nn) ∧ w.cell? ⟨q, 2, none⟩ = some (.int .i64 d) ∧ w.cell? ⟨r, 0, none⟩ = some (.int .i64 d) ∧ w.cell? ⟨r, 1, none⟩ = some (.int .i64 0) ∧ w.cell? ⟨r, 2, none⟩ = some (.int .i64 0) := by
  refine ⟨h.1.cells.1, h.1.cells.2.1, h.1.cells.2.2.1, h.1.cells.2.2.2.1, h.1.cells.2.2.2.2.1, h.1.cells.2.2.2.2.2, ?_, ?_, ?_⟩
  · rw [cell_of_row w r 0 _ _ _ h.2]; rfl
  · rw [cell_of_row w r 1 _ _ _ h.2]; rfl
  · rw [cell_of_row w r 2 _ _ _ h.2]; rfl
set_option maxHeartbeats 8000000 in
theorem does_10 (h : BE W b t mo k w) (hk : k ≤ 120) (hd : Wf d) : Calls Tryz.prog 6 #[.pointer (some ⟨b, 0, none⟩), .agg #[.int .i64 10, .int .i64 nn, .int .i64 d]] w (Dz W b t mo k w) := by
  obtain ⟨B, RC, X, T, m, n, S, g, now, h1, h2⟩ := h
  obtain ⟨P, P', hpk⟩ := wait_pack2 h1 h2 hk nn ⟨d, 0, 0⟩ hd
  have HPK := Lib.hid hpk
  have HB0 := Lib.hid (h1.later (below_al w (aO 10 nn d)))
  have HZ : Hid ((w.alloc (aO 10 nn d)).heap.size = w.heap.size + 1) := by show _ = _; rw [World.size_alloc]
  clear hpk
  have C1 : Hid (Ck b t mo now w.heap.size 10 nn d (w.alloc (aO 10 nn d))) := ⟨Bc.later h1.cb (below_al w _), heap_alloc_new w _⟩
  have HF1 := Lib.hid (Fz.of_below (below_al w (aO 10 nn d)))
  have hbn := lt_of_blk h1.cb
  clear h1 h2
  unfold Dz
  go_enter Tryz.func6, Tryz.ntmps6
  go_upto_region 45 with (fail)
  dsimp only [aO] at HB0 C1 HF1 HZ
  generalize w.alloc (.cells #[.int .i64 10, .int .i64 nn, .int .i64 d] 40) = w0 at *
  generalize w.heap.size = q at *
  have HB1 := Lib.hid (HB0.out.later (below_al w0 (.cells #[.int .i64 d, .int .i64 0, .int .i64 0] 87)).drew)
  have C2 : Hid (Cw b t mo now q (q + 1) 10 nn d (w0.alloc (.cells #[.int .i64 d, .int .i64 0, .int .i64 0] 87)).drew) := ⟨C1.out.later (below_al w0 _).drew, by have h9 := heap_alloc_new w0 (.cells #[.int .i64 d, .int .i64 0, .int .i64 0] 87); rw [HZ.out] at h9; exact h9⟩
  clear HZ
  have HF2 := Lib.hid (HF1.out.trans (Fz.of_below (below_al w0 (.cells #[.int .i64 d, .int .i64 0, .int .i64 0] 87)).drew))
  generalize w0.alloc (.cells #[.int .i64 d, .int .i64 0, .int .i64 0] 87) = w1 at *
  generalize q + 1 = r at *
  refine but_startQ 1000 (fun w' => w'.cell? ⟨b, 0, none⟩ = some (pS t) ∧ w'.cell? ⟨b, 1, none⟩ = some (pM mo) ∧ w'.cell? ⟨b, 2, none⟩ = some (.int .i64 now) ∧ w'.cell? ⟨q, 0, none⟩ = some (.int .i64 10) ∧ w'.cell? ⟨q, 1, none⟩ = some (.int .i64 nn) ∧ w'.cell? ⟨q, 2, none⟩ = some (.int .i64 d) ∧ w'.cell? ⟨r, 0, none⟩ = some (.int .i64 d) ∧ w'.cell? ⟨r, 1, none⟩ = some (.int .i64 0) ∧ w'.cell? ⟨r, 2, none⟩ = some (.int .i64 0)) (by kernel_rfl) (by as_aux_lemma => kernel_rfl) ?_
  intro hTidy
  have hHeld := (show w1.drew.cell? ⟨b, 0, none⟩ = some (pS t) ∧ w1.drew.cell? ⟨b, 1, none⟩ = some (pM mo) ∧ w1.drew.cell? ⟨b, 2, none⟩ = some (.int .i64 now) ∧ w1.drew.cell? ⟨q, 0, none⟩ = some (.int .i64 10) ∧ w1.drew.cell? ⟨q, 1, none⟩ = some (.int .i64 nn) ∧ w1.drew.cell? ⟨q, 2, none⟩ = some (.int .i64 d) ∧ w1.drew.cell? ⟨r, 0, none⟩ = some (.int .i64 d) ∧ w1.drew.cell? ⟨r, 1, none⟩ = some (.int .i64 0) ∧ w1.drew.cell? ⟨r, 2, none⟩ = some (.int .i64 0) from C2.out.cells)
  change AnyBut _ _ _ _ _ _ 20 _ _ _
  refine but_takeQ (i := 0) (v := ?_) rfl hTidy (by kernel_rfl) (by kernel_rfl) (fun _ _ _ h => h) (Or.inl ⟨by rfl, ?_⟩) hHeld ?_
  rotate_left
  · intro w hSw
    (try dsimp only at hSw)
    go_split_ands
    go_simp
    try with_reducible rfl
  try simp only [List.getElem_toArray, List.getElem_cons_zero, Act.put, List.setIfInBounds_toArray, List.set_cons_zero, List.set_cons_succ]
  refine but_takeQ (i := 1) (v := ?_) rfl hTidy (by kernel_rfl) (by kernel_rfl) (fun _ _ _ h => h) (Or.inl ⟨by rfl, ?_⟩) hHeld ?_
  rotate_left
  · intro w hSw
    (try dsimp only at hSw)
    go_split_ands
    go_simp
    try with_reducible rfl
  try simp only [List.getElem_toArray, List.getElem_cons_succ, List.getElem_cons_zero, Act.put, List.setIfInBounds_toArray, List.set_cons_zero, List.set_cons_succ]
  refine but_takeQ (i := 2) (v := ?_) rfl hTidy (by kernel_rfl) (by kernel_rfl) (fun _ _ _ h => h) (Or.inl ⟨by rfl, ?_⟩) hHeld ?_
  rotate_left
  · intro w hSw
    (try dsimp only at hSw)
    go_split_ands
    go_simp
    try with_reducible rfl
  try simp only [List.getElem_toArray, List.getElem_cons_succ, List.getElem_cons_zero, Act.put, List.setIfInBounds_toArray, List.set_cons_zero, List.set_cons_succ]
  refine but_takeQ (i := 3) (v := ?_) rfl hTidy (by kernel_rfl) (by kernel_rfl) (fun _ _ _ h => h) (Or.inl ⟨by rfl, ?_⟩) hHeld ?_
  rotate_left
  · intro w hSw
    (try dsimp only at hSw)
    go_split_ands
    go_simp
    try with_reducible rfl
  try simp only [List.getElem_toArray, List.getElem_cons_succ, List.getElem_cons_zero, Act.put, List.setIfInBounds_toArray, List.set_cons_zero, List.set_cons_succ]
  refine but_takeQ (i := 4) (v := ?_) rfl hTidy (by kernel_rfl) (by kernel_rfl) (fun _ _ _ h => h) (Or.inl ⟨by rfl, ?_⟩) hHeld ?_
  rotate_left
  · intro w hSw
    (try dsimp only at hSw)
    go_split_ands
    go_simp
    try with_reducible rfl
  try simp only [List.getElem_toArray, List.getElem_cons_succ, List.getElem_cons_zero, Act.put, List.setIfInBounds_toArray, List.set_cons_zero, List.set_cons_succ]
  refine but_takeQ (i := 5) (v := ?_) rfl hTidy (by kernel_rfl) (by kernel_rfl) (fun _ _ _ h => h) (Or.inl ⟨by rfl, ?_⟩) hHeld ?_
  rotate_left
  · intro w hSw
    (try dsimp only at hSw)
    go_split_ands
    go_simp
    try with_reducible rfl
  try simp only [List.getElem_toArray, List.getElem_cons_succ, List.getElem_cons_zero, Act.put, List.setIfInBounds_toArray, List.set_cons_zero, List.set_cons_succ]
  refine but_takeQ (i := 7) (v := ?_) rfl hTidy (by kernel_rfl) (by kernel_rfl) (fun _ _ _ h => h) (Or.inl ⟨by rfl, ?_⟩) hHeld ?_
  rotate_left
  · intro w hSw
    (try dsimp only at hSw)
    go_split_ands
    go_simp
    try with_reducible rfl
  try simp only [List.getElem_toArray, List.getElem_cons_succ, List.getElem_cons_zero, Act.put, List.setIfInBounds_toArray, List.set_cons_zero, List.set_cons_succ]
  refine but_takeQ (i := 9) (v := ?_) rfl hTidy (by kernel_rfl) (by kernel_rfl) (fun _ _ _ h => h) (Or.inl ⟨by rfl, ?_⟩) hHeld ?_
  rotate_left
  · intro w hSw
    (try dsimp only at hSw)
    go_split_ands
    go_simp
    try with_reducible rfl
  try simp only [List.getElem_toArray, List.getElem_cons_succ, List.getElem_cons_zero, Act.put, List.setIfInBounds_toArray, List.set_cons_zero, List.set_cons_succ]
  refine but_takeQ (i := 10) (v := ?_) rfl hTidy (by kernel_rfl) (by kernel_rfl) (fun _ _ _ h => h) (Or.inl ⟨by rfl, ?_⟩) hHeld ?_
  rotate_left
  · intro w hSw
    (try dsimp only at hSw)
    go_split_ands
    go_simp
    try with_reducible rfl
  try simp only [List.getElem_toArray, List.getElem_cons_succ, List.getElem_cons_zero, Act.put, List.setIfInBounds_toArray, List.set_cons_zero, List.set_cons_succ]
  refine but_takeQ (i := 11) (v := ?_) rfl hTidy (by kernel_rfl) (by kernel_rfl) (fun _ _ _ h => h) (Or.inl ⟨by rfl, ?_⟩) hHeld ?_
  rotate_left
  · intro w hSw
    (try dsimp only at hSw)
    go_split_ands
    go_simp
    try with_reducible rfl
  try simp only [List.getElem_toArray, List.getElem_cons_succ, List.getElem_cons_zero, Act.put, List.setIfInBounds_toArray, List.set_cons_zero, List.set_cons_succ]
  refine but_takeQ (i := 12) (v := ?_) rfl hTidy (by kernel_rfl) (by kernel_rfl) (fun _ _ _ h => h) (Or.inl ⟨by rfl, ?_⟩) hHeld ?_
  rotate_left
  · intro w hSw
    (try dsimp only at hSw)
    go_split_ands
    go_simp
    try with_reducible rfl
  try simp only [List.getElem_toArray, List.getElem_cons_succ, List.getElem_cons_zero, Act.put, List.setIfInBounds_toArray, List.set_cons_zero, List.set_cons_succ]
  refine but_takeQ (i := 13) (v := ?_) rfl hTidy (by kernel_rfl) (by kernel_rfl) (fun _ _ _ h => h) (Or.inl ⟨by rfl, ?_⟩) hHeld ?_
  rotate_left
  · intro w hSw
    (try dsimp only at hSw)
    go_split_ands
    go_simp
    try with_reducible rfl
  try simp only [List.getElem_toArray, List.getElem_cons_succ, List.getElem_cons_zero, Act.put, List.setIfInBounds_toArray, List.set_cons_zero, List.set_cons_succ]
  refine but_takeQ (i := 14) (v := ?_) rfl hTidy (by kernel_rfl) (by kernel_rfl) (fun _ _ _ h => h) (Or.inl ⟨by rfl, ?_⟩) hHeld ?_
  rotate_left
  · intro w hSw
    (try dsimp only at hSw)
    go_split_ands
    go_simp
    try with_reducible rfl
  try simp only [List.getElem_toArray, List.getElem_cons_succ, List.getElem_cons_zero, Act.put, List.setIfInBounds_toArray, List.set_cons_zero, List.set_cons_succ]
  refine but_takeQ (i := 16) (v := ?_) rfl hTidy (by kernel_rfl) (by kernel_rfl) (fun _ _ _ h => h) (Or.inl ⟨by rfl, ?_⟩) hHeld ?_
  rotate_left
  · intro w hSw
    (try dsimp only at hSw)
    go_split_ands
    go_simp
    try with_reducible rfl
  try simp only [List.getElem_toArray, List.getElem_cons_succ, List.getElem_cons_zero, Act.put, List.setIfInBounds_toArray, List.set_cons_zero, List.set_cons_succ]
  refine but_one (i := 6) (by kernel_rfl) rfl ?_
  intro K hK
  go_simp
  go_at_call 25
  refine (HPK.out _ HB1.out).1.mono ?_
  rintro e w3 ⟨rfl, hbl⟩
  have HB3 := Lib.hid (HB1.out.later hbl)
  have C3 := Lib.hid (C2.out.later hbl)
  have HF3 := Lib.hid (HF2.out.trans (Fz.of_below hbl))
  clear hbl
  try dsimp only
  have hHeld2 := (show w3.cell? ⟨b, 0, none⟩ = some (pS t) ∧ w3.cell? ⟨b, 1, none⟩ = some (pM mo) ∧ w3.cell? ⟨b, 2, none⟩ = some (.int .i64 now) ∧ w3.cell? ⟨q, 0, none⟩ = some (.int .i64 10) ∧ w3.cell? ⟨q, 1, none⟩ = some (.int .i64 nn) ∧ w3.cell? ⟨q, 2, none⟩ = some (.int .i64 d) ∧ w3.cell? ⟨r, 0, none⟩ = some (.int .i64 d) ∧ w3.cell? ⟨r, 1, none⟩ = some (.int .i64 0) ∧ w3.cell? ⟨r, 2, none⟩ = some (.int .i64 0) from C3.out.cells)
  refine hK _ _ (fun _ => hHeld2) ?_
  clear hK K hHeld
  have hHeld := hHeld2
  clear hHeld2
  try simp only [List.getElem_toArray, List.getElem_cons_succ, List.getElem_cons_zero, Act.put, List.setIfInBounds_toArray, List.set_cons_zero, List.set_cons_succ]
  refine but_one (i := 8) (by kernel_rfl) rfl ?_
  intro K hK
  go_simp
  go_at_call 31
  obtain ⟨r9, hp⟩ := (HPK.out _ HB3.out).2
  refine hp.mono ?_
  rintro e w4 ⟨rfl, hbc, hfz, h87, hn⟩
  obtain ⟨h27, h32⟩ := hn _ (Below.refl w4.heap.size w4)
  have C4 := Lib.hid (C3.out.keep hbc hfz (h87 _ _ _ C3.out.2))
  have HF4 := Lib.hid (HF3.out.trans hfz)
  clear hbc hfz hn hp h87
  try dsimp only
  have hHeld2 := (show w4.cell? ⟨b, 0, none⟩ = some (pS t) ∧ w4.cell? ⟨b, 1, none⟩ = some (pM mo) ∧ w4.cell? ⟨b, 2, none⟩ = some (.int .i64 now) ∧ w4.cell? ⟨q, 0, none⟩ = some (.int .i64 10) ∧ w4.cell? ⟨q, 1, none⟩ = some (.int .i64 nn) ∧ w4.cell? ⟨q, 2, none⟩ = some (.int .i64 d) ∧ w4.cell? ⟨r, 0, none⟩ = some (.int .i64 d) ∧ w4.cell? ⟨r, 1, none⟩ = some (.int .i64 0) ∧ w4.cell? ⟨r, 2, none⟩ = some (.int .i64 0) from C4.out.cells)
  refine hK _ _ (fun _ => hHeld2) ?_
  clear hK K hHeld
  have hHeld := hHeld2
  clear hHeld2
  try simp only [List.getElem_toArray, List.getElem_cons_succ, List.getElem_cons_zero, Act.put, List.setIfInBounds_toArray, List.set_cons_zero, List.set_cons_succ]
  refine but_one (i := 15) (by kernel_rfl) rfl ?_
  intro K hK
  go_simp
  go_at_call 27
  refine h27.mono ?_
  rintro e w5 ⟨rfl, rfl⟩
  try dsimp only
  have hHeld2 := (show w4.cell? ⟨b, 0, none⟩ = some (pS t) ∧ w4.cell? ⟨b, 1, none⟩ = some (pM mo) ∧ w4.cell? ⟨b, 2, none⟩ = some (.int .i64 now) ∧ w4.cell? ⟨q, 0, none⟩ = some (.int .i64 10) ∧ w4.cell? ⟨q, 1, none⟩ = some (.int .i64 nn) ∧ w4.cell? ⟨q, 2, none⟩ = some (.int .i64 d) ∧ w4.cell? ⟨r, 0, none⟩ = some (.int .i64 d) ∧ w4.cell? ⟨r, 1, none⟩ = some (.int .i64 0) ∧ w4.cell? ⟨r, 2, none⟩ = some (.int .i64 0) from C4.out.cells)
  refine hK _ _ (fun _ => hHeld2) ?_
  clear hK K hHeld
  have hHeld := hHeld2
  clear hHeld2
  try simp only [List.getElem_toArray, List.getElem_cons_succ, List.getElem_cons_zero, Act.put, List.setIfInBounds_toArray, List.set_cons_zero, List.set_cons_succ]
  refine but_one (i := 17) (by kernel_rfl) rfl ?_
  intro K hK
  go_simp
  go_at_call 32
  refine h32.mono ?_
  rintro e w6 ⟨rfl, hbe, hfz, hb4, h87⟩
  have HE := Lib.hid hbe
  have HF6 := Lib.hid (HF4.out.trans hfz)
  have C6 := Lib.hid (C4.out.keep hb4 hfz (h87 _ _ _ C4.out.2))
  clear hbe hfz hb4 h87
  try dsimp only
  have hHeld2 := (show w6.cell? ⟨b, 0, none⟩ = some (pS t) ∧ w6.cell? ⟨b, 1, none⟩ = some (pM mo) ∧ w6.cell? ⟨b, 2, none⟩ = some (.int .i64 now) ∧ w6.cell? ⟨q, 0, none⟩ = some (.int .i64 10) ∧ w6.cell? ⟨q, 1, none⟩ = some (.int .i64 nn) ∧ w6.cell? ⟨q, 2, none⟩ = some (.int .i64 d) ∧ w6.cell? ⟨r, 0, none⟩ = some (.int .i64 d) ∧ w6.cell? ⟨r, 1, none⟩ = some (.int .i64 0) ∧ w6.cell? ⟨r, 2, none⟩ = some (.int .i64 0) from C6.out.cells)
  refine hK _ _ (fun _ => hHeld2) ?_
  clear hK K hHeld
  have hHeld := hHeld2
  clear hHeld2
  try simp only [List.getElem_toArray, List.getElem_cons_succ, List.getElem_cons_zero, Act.put, List.setIfInBounds_toArray, List.set_cons_zero, List.set_cons_succ]
  refine but_takeQ (i := 18) (v := ?_) rfl hTidy (by kernel_rfl) (by kernel_rfl) (fun _ _ _ h => h) (Or.inl ⟨by rfl, ?_⟩) hHeld ?_
  rotate_left
  · intro w hSw
    (try dsimp only at hSw)
    go_split_ands
    go_simp
    try with_reducible rfl
  try simp only [List.getElem_toArray, List.getElem_cons_succ, List.getElem_cons_zero, Act.put, List.setIfInBounds_toArray, List.set_cons_zero, List.set_cons_succ]
  refine but_takeQ (i := 19) (v := ?_) rfl hTidy (by kernel_rfl) (by kernel_rfl) (fun _ _ _ h => h) (Or.inl ⟨by rfl, ?_⟩) hHeld ?_
  rotate_left
  · intro w hSw
    (try dsimp only at hSw)
    go_split_ands
    go_simp
    try with_reducible rfl
  try simp only [List.getElem_toArray, List.getElem_cons_succ, List.getElem_cons_zero, Act.put, List.setIfInBounds_toArray, List.set_cons_zero, List.set_cons_succ]
  refine but_done (by kernel_rfl) ?_
  try clear hHeld
  clear hTidy
  clear HPK HB1 HB3 h27 h32
  go_wp2_with fail
  go_ret
  exact ⟨rfl, HE.out, HF6.out⟩
end
end Go.Proofs.YtmadcnpkaijllaaGreat
