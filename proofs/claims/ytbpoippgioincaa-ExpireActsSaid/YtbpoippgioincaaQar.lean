/- The document's own timers: Arm, Armed. Conditions: each theorem's own premises. -/
import Derived.Test.YtbpoippgioincaaQst
namespace Go.Proofs.Ytbpoippgioincaa
open Go.RowKit
set_option linter.unusedVariables false
set_option maxRecDepth 100000
section
variable {B m n d2 c : Nat} {w w' : World} {A P : Option Addr} {p p' : Option Nat} {S S' Q : List It} {g g' : Int → Int} {e : Ending} {v : Value}
theorem MY.npm (h : MY B m A c P d2 n S Q w) : blk P ≠ some m := fun e => by
  obtain ⟨cs, fr, ht⟩ := row_tag h.row e
  have h5 := h.mx.hb
  rw [h5] at ht; injection ht with ht; injection ht with _ ht _; cases ht
theorem rarm_bad (k x y : Int) (m : Nat) (w : World) (h : ¬ (Fit x ∧ Fit y)) : Calls Try.prog 31 #[.pointer (some ⟨m, 0, none⟩), .int .i64 k, .int .i64 x, .int .i64 y] w fun e w' => e = .returned (.int .i64 1) ∧ w = w' := by
  by_cases h1 : x < 0
  · clear h
    go_enter Try.func31, Try.ntmps31
    go_wp2_with fail
    go_ret
    exact ⟨rfl, rfl⟩
  by_cases h2 : 4611686018427387904 < x
  · clear h
    go_enter Try.func31, Try.ntmps31
    go_wp2_with fail
    go_ret
    exact ⟨rfl, rfl⟩
  by_cases h3 : y < 0
  · clear h
    go_enter Try.func31, Try.ntmps31
    go_wp2_with fail
    go_ret
    exact ⟨rfl, rfl⟩
  have h4 : 4611686018427387904 < y := by unfold Fit at h; omega
  clear h
  go_enter Try.func31, Try.ntmps31
  go_wp2_with fail
  go_ret
  exact ⟨rfl, rfl⟩
/-- Stop, whether it is armed or not. -/
theorem rstop_any {k : Int} (h : MT B m p n S g w) (hS : Ok n S) (hl : S.length ≤ 1000) (hB : B ≤ w.heap.size) : ∃ v g2, (∀ y, fput g2 k y = fput g k y) ∧ Calls Try.prog 33 #[.pointer (some ⟨m, 0, none⟩), .int .i64 k] w (MC B m p n (del k S) g2 v w) := by
  by_cases hk : k ∈ ids S
  · obtain ⟨q, x, hx, rfl⟩ := ids_mem hk
    exact ⟨_, _, fun y => fput_two _ _ _ _, rstop_yes h hS (at_mem hx) hl hB⟩
  · refine ⟨.bool false, g, fun y => rfl, ?_⟩
    rw [del_none hk]
    exact rstop_no h hS hk hl
set_option maxHeartbeats 8000000 in
theorem rarm_any (k x y : Int) (h : MT B m p n S g w) (hS : Ok n S) (hx : Fit x) (hy : Fit y) (hn : n ≤ 1000000) (hl : S.length ≤ 999) (hB : B ≤ w.heap.size) :
    Calls Try.prog 31 #[.pointer (some ⟨m, 0, none⟩), .int .i64 k, .int .i64 x, .int .i64 y] w (MC B m p (n + 1) (ins ⟨k, x, (n : Int) + 1⟩ (del k S)) (fput g k y) (.int .i64 0) w) := by
  obtain ⟨i0, hi, hz0, hz1, hz2⟩ := info_parts inf39
  obtain ⟨v, g2, hg2, hc⟩ := rstop_any (k := k) h hS (by omega) hB
  have HC := Lib.hid hc
  have HD := Lib.hid (hS.del k)
  have hdl : (del k S).length ≤ 999 := by
    have : (del k S).length ≤ S.length := by unfold del; exact List.length_filter_le _ _
    omega
  have hdn : k ∉ ids (del k S) := del_ids
  have b1 : ¬ x < 0 := by have := hx.1; omega
  have b2 : ¬ 4611686018427387904 < x := by have := hx.2; omega
  have b3 : ¬ y < 0 := by have := hy.1; omega
  have b4 : ¬ 4611686018427387904 < y := by have := hy.2; omega
  have HG := Lib.hid (hg2 y)
  have HT := Lib.hid h
  clear hc hg2 h hx hy
  generalize del k S = D at *
  go_enter Try.func31, Try.ntmps31
  go_wp2_with fail
  refine HC.out.mono ?_
  rintro e w1 hr
  obtain ⟨p1, hm1, hk1⟩ := hr.2
  obtain rfl := hr.1
  have hB1 : B ≤ w1.heap.size := by have := hk1.size; omega
  obtain ⟨A, c, P, c2, Q, rfl, hy1, hq1⟩ := hm1
  have HK1 := Lib.hid hk1
  have H1 := Lib.hid hy1
  have HQ := Lib.hid hq1
  have hql : Q.length ≤ 999 := by rw [hq1.len HD.out.ids]; exact hdl
  clear hr hy1 hk1 hq1 HC HT
  go_wp2_with fail
  refine (rput_any k x ⟨A, c, H1.out.mx⟩ HD.out.srt hn (by omega) hB1).mono ?_
  rintro e w2 hr
  obtain ⟨A', c', hy2⟩ := H1.out.heap hr (by
    by_cases h0 : 0 < D.length
    · exact .inr (.inl h0)
    · refine .inr (.inr fun e => ?_)
      obtain ⟨A9, c9, hx9⟩ := hr.2.1
      rw [hx9.c0, H1.out.c0] at e
      injection e with e
      injection e with _ e9 _
      rw [ins_len] at e9
      omega)
  have HK2 := Lib.hid (HK1.out.trans (KT.of_km (blk P) hr.2.2.1))
  obtain rfl := hr.1
  have HY := Lib.hid hy2
  have HPq := Lib.hid (HQ.out.add k x y ((n : Int) + 1) hdn)
  rw [HG.out] at HPq
  have hB2 : B ≤ w2.heap.size := by have := hr.2.2.1.size; omega
  have c2' := hy2.c2
  have hm2 := hy2.lt
  have hnp := hy2.npm
  clear hr hy2 H1 HK1 HQ HD HG
  generalize ins ⟨k, x, (n : Int) + 1⟩ D = S2 at *
  go_wp2_with (at_builtin; go_loud (refine wpList_append_lies _ rfl (.tmp 36) (.tmp 40) 27 rfl B 39 i0 _ 3 24 Try.underlying27 hi hz0 hz1 hz2 rfl (by omega) (.slice P Q.length c2) Q.length (iV Q) rfl (row_later HY.out.row (below_al w2 _)) ⟨w2.heap.size, 0, none⟩ 1 1 (eI ⟨k, y, 0⟩) rfl rfl (World.news_of_block (cs := #[.int .i64 k, .int .i64 y, .int .i64 0]) (heap_alloc_new w2 _)) (eI_one ⟨k, y, 0⟩) (by omega) (by unfold maxLen; omega) (by omega) (by simp; omega) (w2.heap.size + 1) (by simp) ?_; intro g3 cap3 w3 hown hgrow hat hlt1; have hm3 := (hgrow.block m (by simp; omega) (by rw [own_blk]; exact fun e => hnp e.symm)).trans ((below_al w2 _).block m hm2); have c3 := (cell_blk hm3 2).trans c2'; have f3 := (frozen_blk hm3 2).trans (HY.out.mx.fz 2); have hl3 := lt_of_blk (hm3.trans HY.out.mx.hb); have HE := Lib.hid (HY.out.app (x := ⟨k, y, 0⟩) (below_al w2 _) hown hgrow (hat.imp id (by omega))); clear hown hgrow hat hlt1 hm3))
  go_ret
  exact ⟨rfl, some g3, ⟨_, _, _, _, _, rfl, HE.out.1, HPq.out⟩, HK2.out.trans HE.out.2⟩
theorem rarmed_no {k : Int} (h : MT B m p n S g w) (hk : k ∉ ids S) (hl : S.length ≤ 1000) : Calls Try.prog 37 #[.pointer (some ⟨m, 0, none⟩), .int .i64 k] w (IiR 0 0 false w) := by
  obtain ⟨A, c, P, c2, Q, rfl, h1, h2⟩ := h
  have HX : Hid (MH [.slice P Q.length c2] 56 B w m n S) := ⟨A, c, h1.mx⟩
  clear h1 h2
  go_enter Try.func37, Try.ntmps37
  go_wp2_with fail
  refine (rfind_no HX.out hk hl).mono ?_
  rintro e w' ⟨rfl, rfl⟩
  go_wp2_with fail
  go_ret3
  exact ⟨rfl, Below.refl _ _⟩
set_option maxHeartbeats 8000000 in
theorem rarmed_yes {x : It} (h : MT B m p n S g w) (hS : Ok n S) (hx : x ∈ S) (hl : S.length ≤ 1000) : Calls Try.prog 37 #[.pointer (some ⟨m, 0, none⟩), .int .i64 x.id] w (IiR x.w (g x.id) true w) := by
  obtain ⟨q, hq, hql⟩ := mem_at hx
  have HM := Lib.hid h
  have HMem := Lib.hid (mem_ids hx)
  have HS := Lib.hid (And.intro hS.ids hq)
  obtain ⟨A, c, P, c2, Q, rfl, h1, h2⟩ := h
  have HX : Hid (MH [.slice P Q.length c2] 56 B w m n S) := ⟨A, c, h1.mx⟩
  obtain ⟨gw, off, rfl, -, hgw, hc⟩ := h1.mx.wn.cells (by omega)
  have c0 := h1.c0
  have hml := h1.lt
  obtain ⟨-, x1, -⟩ := hc q x hq
  have q0 : (0 : Int) ≤ (q : Int) := by omega
  have q1 : ¬ (q : Int) < 0 := by omega
  have q2 : (q : Int) < (S.length : Int) := by omega
  have KP : Hid (∀ w', Below w.heap.size w w' → w'.cell? ⟨m, 0, none⟩ = some (.slice (some ⟨gw, off, none⟩) S.length c) ∧ w'.cell? ⟨gw, off + q * 3 + 1, none⟩ = some (.int .i64 x.w)) := fun w' hb => ⟨(cell_blk (hb.block m hml) 0).trans c0, (cell_blk (hb.block gw hgw) _).trans x1⟩
  clear h1 h2 hc hq hS hx
  go_enter Try.func37, Try.ntmps37
  go_wp2_with fail
  refine (rfind_yes HX.out HS.out.1 HS.out.2 hl).mono ?_
  rintro e w' ⟨rfl, rfl⟩
  go_upto_region 4 with (fail)
  clear c0 x1
  refine but_startQ 1000 (fun w' => w'.cell? ⟨m, 0, none⟩ = some (.slice (some ⟨gw, off, none⟩) S.length c) ∧ w'.cell? ⟨gw, off + q * 3 + 1, none⟩ = some (.int .i64 x.w)) (by kernel_rfl) (by as_aux_lemma => kernel_rfl) ?_
  intro hTidy
  have hHeld := KP.out w.drew (Below.refl _ _).drew
  change AnyBut _ _ _ _ _ _ 15 _ _ _
  refine but_takeQ (i := 0) (v := ?_) rfl hTidy (by kernel_rfl) (by kernel_rfl) (fun _ _ _ h => h) (Or.inl ⟨by rfl, ?_⟩) hHeld ?_
  rotate_left
  · intro w hSw
    (try dsimp only at hSw)
    go_split_ands
    go_simp
    try with_reducible rfl
  try simp only [List.getElem_toArray, List.getElem_cons_zero, Act.put, List.setIfInBounds_toArray, List.set_cons_zero, List.set_cons_succ]
  refine but_takeQ (i := 1) (v := ?_) rfl hTidy (by kernel_rfl) (by kernel_rfl) (fun _ _ _ h => h) (Or.inl ⟨by rfl, ?_⟩) hHeld ?_
  rotate_left
  · intro w hSw
    (try dsimp only at hSw)
    go_split_ands
    go_simp
    try with_reducible rfl
  try simp only [List.getElem_toArray, List.getElem_cons_succ, List.getElem_cons_zero, Act.put, List.setIfInBounds_toArray, List.set_cons_zero, List.set_cons_succ]
  refine but_takeQ (i := 2) (v := ?_) rfl hTidy (by kernel_rfl) (by kernel_rfl) (fun _ _ _ h => h) (Or.inl ⟨by rfl, ?_⟩) hHeld ?_
  rotate_left
  · intro w hSw
    (try dsimp only at hSw)
    go_split_ands
    go_simp
    try with_reducible rfl
  try simp only [List.getElem_toArray, List.getElem_cons_succ, List.getElem_cons_zero, Act.put, List.setIfInBounds_toArray, List.set_cons_zero, List.set_cons_succ]
  refine but_takeQ (i := 3) (v := ?_) rfl hTidy (by kernel_rfl) (by kernel_rfl) (fun _ _ _ h => h) (Or.inl ⟨by rfl, ?_⟩) hHeld ?_
  rotate_left
  · intro w hSw
    (try dsimp only at hSw)
    go_split_ands
    go_simp
    try with_reducible rfl
  try simp only [List.getElem_toArray, List.getElem_cons_succ, List.getElem_cons_zero, Act.put, List.setIfInBounds_toArray, List.set_cons_zero, List.set_cons_succ]
  refine but_takeQ (i := 4) (v := ?_) rfl hTidy (by kernel_rfl) (by kernel_rfl) (fun _ _ _ h => h) (Or.inl ⟨by rfl, ?_⟩) hHeld ?_
  rotate_left
  · intro w hSw
    (try dsimp only at hSw)
    go_split_ands
    go_simp
    try with_reducible rfl
  try simp only [List.getElem_toArray, List.getElem_cons_succ, List.getElem_cons_zero, Act.put, List.setIfInBounds_toArray, List.set_cons_zero, List.set_cons_succ]
  refine but_takeQ (i := 5) (v := ?_) rfl hTidy (by kernel_rfl) (by kernel_rfl) (fun _ _ _ h => h) (Or.inl ⟨by rfl, ?_⟩) hHeld ?_
  rotate_left
  · intro w hSw
    (try dsimp only at hSw)
    go_split_ands
    go_simp
    try with_reducible rfl
  try simp only [List.getElem_toArray, List.getElem_cons_succ, List.getElem_cons_zero, Act.put, List.setIfInBounds_toArray, List.set_cons_zero, List.set_cons_succ]
  refine but_takeQ (i := 6) (v := ?_) rfl hTidy (by kernel_rfl) (by kernel_rfl) (fun _ _ _ h => h) (Or.inl ⟨by rfl, ?_⟩) hHeld ?_
  rotate_left
  · intro w hSw
    (try dsimp only at hSw)
    go_split_ands
    go_simp
    try with_reducible rfl
  try simp only [List.getElem_toArray, List.getElem_cons_succ, List.getElem_cons_zero, Act.put, List.setIfInBounds_toArray, List.set_cons_zero, List.set_cons_succ]
  refine but_takeQ (i := 7) (v := ?_) rfl hTidy (by kernel_rfl) (by kernel_rfl) (fun _ _ _ h => h) (Or.inl ⟨by rfl, ?_⟩) hHeld ?_
  rotate_left
  · intro w hSw
    (try dsimp only at hSw)
    go_split_ands
    go_simp
    try with_reducible rfl
  try simp only [List.getElem_toArray, List.getElem_cons_succ, List.getElem_cons_zero, Act.put, List.setIfInBounds_toArray, List.set_cons_zero, List.set_cons_succ]
  refine but_takeQ (i := 8) (v := ?_) rfl hTidy (by kernel_rfl) (by kernel_rfl) (fun _ _ _ h => h) (Or.inl ⟨by rfl, ?_⟩) hHeld ?_
  rotate_left
  · intro w hSw
    (try dsimp only at hSw)
    go_split_ands
    go_simp
    try with_reducible rfl
  try simp only [List.getElem_toArray, List.getElem_cons_succ, List.getElem_cons_zero, Act.put, List.setIfInBounds_toArray, List.set_cons_zero, List.set_cons_succ]
  refine but_takeQ (i := 9) (v := ?_) rfl hTidy (by kernel_rfl) (by kernel_rfl) (fun _ _ _ h => h) (Or.inl ⟨by rfl, ?_⟩) hHeld ?_
  rotate_left
  · intro w hSw
    (try dsimp only at hSw)
    go_split_ands
    go_simp
    try with_reducible rfl
  try simp only [List.getElem_toArray, List.getElem_cons_succ, List.getElem_cons_zero, Act.put, List.setIfInBounds_toArray, List.set_cons_zero, List.set_cons_succ]
  refine but_takeQ (i := 10) (v := ?_) rfl hTidy (by kernel_rfl) (by kernel_rfl) (fun _ _ _ h => h) (Or.inl ⟨by rfl, ?_⟩) hHeld ?_
  rotate_left
  · intro w hSw
    (try dsimp only at hSw)
    go_split_ands
    go_simp
    try with_reducible rfl
  try simp only [List.getElem_toArray, List.getElem_cons_succ, List.getElem_cons_zero, Act.put, List.setIfInBounds_toArray, List.set_cons_zero, List.set_cons_succ]
  refine but_one (i := 11) (by kernel_rfl) rfl ?_
  intro K hK
  go_simp
  go_at_call 52
  refine (rper_yes (HM.out.later (Below.refl _ _).drew) HMem.out HS.out.1 hl).mono ?_
  rintro e w9 ⟨rfl, rfl⟩
  try dsimp only
  have hHeld2 := hHeld
  refine hK _ _ (fun _ => hHeld2) ?_
  clear hK K hHeld
  have hHeld := hHeld2
  clear hHeld2
  try simp only [List.getElem_toArray, List.getElem_cons_succ, List.getElem_cons_zero, Act.put, List.setIfInBounds_toArray, List.set_cons_zero, List.set_cons_succ]
  refine but_takeQ (i := 12) (v := ?_) rfl hTidy (by kernel_rfl) (by kernel_rfl) (fun _ _ _ h => h) (Or.inl ⟨by rfl, ?_⟩) hHeld ?_
  rotate_left
  · intro w hSw
    (try dsimp only at hSw)
    go_split_ands
    go_simp
    try with_reducible rfl
  try simp only [List.getElem_toArray, List.getElem_cons_succ, List.getElem_cons_zero, Act.put, List.setIfInBounds_toArray, List.set_cons_zero, List.set_cons_succ]
  refine but_takeQ (i := 13) (v := ?_) rfl hTidy (by kernel_rfl) (by kernel_rfl) (fun _ _ _ h => h) (Or.inl ⟨by rfl, ?_⟩) hHeld ?_
  rotate_left
  · intro w hSw
    (try dsimp only at hSw)
    go_split_ands
    go_simp
    try with_reducible rfl
  try simp only [List.getElem_toArray, List.getElem_cons_succ, List.getElem_cons_zero, Act.put, List.setIfInBounds_toArray, List.set_cons_zero, List.set_cons_succ]
  refine but_takeQ (i := 14) (v := ?_) rfl hTidy (by kernel_rfl) (by kernel_rfl) (fun _ _ _ h => h) (Or.inl ⟨by rfl, ?_⟩) hHeld ?_
  rotate_left
  · intro w hSw
    (try dsimp only at hSw)
    go_split_ands
    go_simp
    try with_reducible rfl
  try simp only [List.getElem_toArray, List.getElem_cons_succ, List.getElem_cons_zero, Act.put, List.setIfInBounds_toArray, List.set_cons_zero, List.set_cons_succ]
  refine but_done (by kernel_rfl) ?_
  try clear hHeld
  clear hTidy
  go_wp2_with fail
  go_ret3
  exact ⟨rfl, (Below.refl _ _).drew⟩
end
end Go.Proofs.Ytbpoippgioincaa
