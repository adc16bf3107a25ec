/- The document's own heap: Remove, Add, Move. Conditions: each theorem's own premises. -/
import Derived.Test.YtmadcnpkaijllaaGreatQpt
namespace Go.Proofs.YtmadcnpkaijllaaGreat
open Go.RowKit
set_option linter.unusedVariables false
set_option maxRecDepth 100000
section
variable {Rx : List Value} {Ty : TypeId} {B m n c : Nat} {w w1 w2 w9 : World} {A : Option Addr} {S : List It}
theorem Wn.mono {w : World} {b b' n c : Nat} {A : Option Addr} {l : List It} (h : Wn w b A n c l) (hb : b' ≤ b) : Wn w b' A n c l :=
  ⟨h.1, h.2.1, h.2.2.1, fun h0 => by
    obtain ⟨g, off, cur, e, hg, r⟩ := h.2.2.2 h0
    exact ⟨g, off, cur, e, Nat.le_trans hb hg, r⟩⟩
theorem MR.rem {T : List It} {k : Int} {l9 k9 N0 : Nat} {A9 : Option Addr} (x : It) (h1 : MX Rx Ty B w2 m n A c S) (hb : Below w2.heap.size w2 w9) (h2 : Below w.heap.size w w2) (hm : m < w.heap.size) (hN : w.heap.size ≤ N0) (hN2 : N0 < w2.heap.size) (hw : Wn w9 w2.heap.size A9 l9 k9 T) (hn : Fm A9 k9) (e : del k S = T) (hB : B ≤ w.heap.size) :
    MR Rx Ty B m n (del k S) (.tuple #[vI x, .bool true]) w (.returned (.tuple #[vI x, .bool true])) ((((w9.setCell ⟨m, 0, none⟩ (.slice A9 l9 k9)).setCell ⟨N0, 0, none⟩ (.int .i64 x.id)).setCell ⟨N0, 1, none⟩ (.int .i64 x.w)).setCell ⟨N0, 2, none⟩ (.int .i64 x.s)) := by
  subst e
  obtain rfl : l9 = (del k S).length := hw.1.symm
  have h9 := h1.later hb
  have hs := h2.size
  have hmN : m ≠ N0 := by omega
  have key : ∀ (u : World) (j : Nat), j ≠ N0 → (((u.setCell ⟨N0, 0, none⟩ (.int .i64 x.id)).setCell ⟨N0, 1, none⟩ (.int .i64 x.w)).setCell ⟨N0, 2, none⟩ (.int .i64 x.s)).heap[j]? = u.heap[j]? := fun u j hj =>
    (Below.heap_setCell _ _ _ _ (by exact hj)).trans ((Below.heap_setCell _ _ _ _ (by exact hj)).trans (Below.heap_setCell _ _ _ _ (by exact hj)))
  have r1 : Wn (w9.setCell ⟨m, 0, none⟩ (.slice A9 (del k S).length k9)) w2.heap.size A9 (del k S).length k9 (del k S) :=
    hw.keep fun g cur _ hg => (Below.heap_setCell _ _ _ _ (by rintro rfl; rw [h9.hb] at hg; injection hg with hg; injection hg with _ hg _; exact h1.ty.1 hg)).trans hg
  refine ⟨rfl, ⟨A9, k9, ⟨?_, (r1.keep fun g cur h0 hg => (key _ g (by omega)).trans hg).mono (by omega), h1.lo, hn, h1.ty⟩⟩, ?_, ?_⟩
  · rw [key _ m hmN, heap_setCell_same _ m 0 _ _ _ h9.hb, set_zero]
  · have hb9 : Below w.heap.size w w9 := h2.trans (hb.mono hs)
    have hk := (Km.of_below (m := m) hb9).set 0 (.slice A9 (del k S).length k9)
    exact ⟨hk.os, hk.tape, hk.output, by simpa [World.setCell] using hb9.size, fun j h3 h4 => (key _ j (by omega)).trans (hk.block j h3 h4)⟩
  · refine .inl fun A' n' c' he h0 k' hk2 => ?_
    rw [cell_blk (key _ m hmN), cell_of_row _ m 0 _ _ _ (heap_setCell_same w9 m 0 _ _ _ h9.hb), set_zero] at he
    injection he with he
    injection he with e3 e4 e5
    obtain ⟨g, off, cur, e6, e7, _⟩ := hw.2.2.2 (by omega)
    rw [← e3, e6] at hk2
    injection hk2 with hk2
    subst hk2
    exact Nat.le_trans hs e7
set_option maxHeartbeats 4000000 in
theorem rrem_no {k : Int} (h : MH Rx Ty B w m n S) (hk : k ∉ ids S) (hl : S.length ≤ 1000) : Calls Tryz.prog 84 #[.pointer (some ⟨m, 0, none⟩), .int .i64 k] w (MR Rx Ty B m n S (.tuple #[vI zI, .bool false]) w) := by
  have HX := Lib.hid h
  have HK := Lib.hid hk
  clear h hk
  go_enter Tryz.func84, Tryz.ntmps84
  go_wp2_with fail
  refine (rfind_no (HX.out.later (below_al w _)) HK.out hl).mono ?_
  rintro e w' ⟨rfl, rfl⟩
  have HE : Hid (MR Rx Ty B m n S (.tuple #[vI zI, .bool false]) w (.returned (.tuple #[vI zI, .bool false])) (w.alloc (.cells #[.int .i64 0, .int .i64 0, .int .i64 0] 94))) := ⟨rfl, HX.out.later (below_al _ _), Km.of_below (below_al _ _), .inr (cell_blk ((below_al w _).block m HX.out.lt) 0)⟩
  go_wp2_with fail
  refine bodyPost_ret (v := .tuple #[vI zI, .bool false]) ?_ rfl HE.out
  rw [results_cell_tmp rfl]; go_simp; try exact ⟨rfl, rfl, rfl⟩
set_option maxRecDepth 100000 in
set_option maxHeartbeats 8000000 in
theorem rrem_yes {p : Nat} {x : It} (h : MH Rx Ty B w m n S) (hn : (ids S).Nodup) (hp : S[p]? = some x) (hl : S.length ≤ 1000) (hB : B ≤ w.heap.size) : Calls Tryz.prog 84 #[.pointer (some ⟨m, 0, none⟩), .int .i64 x.id] w (MR Rx Ty B m n (del x.id S) (.tuple #[vI x, .bool true]) w) := by
  have HX := Lib.hid h
  have HP := Lib.hid (And.intro hn hp)
  have hpl := at_lt hp
  have hml := h.lt
  have HD : Hid (del x.id S = S.take p ++ S.drop (p + 1)) := by show _ = _; rw [del_at hn hp rfl, List.eraseIdx_eq_take_drop_succ]
  clear h hn hp
  go_enter Tryz.func84, Tryz.ntmps84
  go_wp2_with fail
  refine (rfind_yes (HX.out.later (below_al w _)) HP.out.1 HP.out.2 hl).mono ?_
  rintro e w' ⟨rfl, rfl⟩
  obtain ⟨A, c, hx⟩ := HX.out
  obtain ⟨g, off, rfl, hg1, hg2, hc⟩ := hx.wn.cells (by omega)
  obtain ⟨x0, x1, x2⟩ := hc p x HP.out.2
  have hba := below_al w (.cells #[.int .i64 0, .int .i64 0, .int .i64 0] 94)
  rw [← cell_blk (hba.block g hg2)] at x0 x1 x2
  have hg3 : g < (w.alloc (.cells #[.int .i64 0, .int .i64 0, .int .i64 0] 94)).heap.size := Nat.lt_of_lt_of_le hg2 hba.size
  have hx1 := hx.later hba
  have c0 := hx1.c0
  have hm1 := hx1.lt
  have V00 : (w.alloc (.cells #[.int .i64 0, .int .i64 0, .int .i64 0] 94)).heap[w.heap.size]? = some (.cells #[.int .i64 0, .int .i64 0, .int .i64 0] 94 (0, 0)) := heap_alloc_new _ _
  have hN00 := lt_of_blk V00
  obtain ⟨N0, hN0⟩ : ∃ N0, N0 = w.heap.size := ⟨_, rfl⟩
  have HN0 := Lib.hid hN0
  rw [← hN0] at V00 hN00 ⊢
  have hm0 : m < N0 := by rw [hN0]; exact hml
  generalize w.alloc (.cells #[.int .i64 0, .int .i64 0, .int .i64 0] 94) = w1 at *
  have p1 : (p : Int) < (S.length : Int) := by omega
  have p0 : (0 : Int) ≤ (p : Int) := by omega
  have hlc := hx.wn.2.1
  have hcm := hx.wn.2.2.1
  have HX1 := Lib.hid hx1
  have HBA := Lib.hid hba
  clear hc hx hx1 hba HX hN0
  go_upto_region 5 with (fail)
  have HB2 : Hid (Below w.heap.size w (w1.alloc (.cells #[.int .i64 x.id, .int .i64 x.w, .int .i64 x.s] 94))) := HBA.out.trans ((below_al w1 _).mono HBA.out.size)
  have HX2 := Lib.hid (HX1.out.later (below_al w1 (.cells #[.int .i64 x.id, .int .i64 x.w, .int .i64 x.s] 94)))
  have V0 := Lib.hid (((below_al w1 (.cells #[.int .i64 x.id, .int .i64 x.w, .int .i64 x.s] 94)).block N0 hN00).trans V00)
  have V1 : Hid ((w1.alloc (.cells #[.int .i64 x.id, .int .i64 x.w, .int .i64 x.s] 94)).heap[w1.heap.size]? = some (.cells #[.int .i64 x.id, .int .i64 x.w, .int .i64 x.s] 94 (0, 0))) := heap_alloc_new _ _
  have HN : Hid (w.heap.size ≤ N0 ∧ N0 < (w1.alloc (.cells #[.int .i64 x.id, .int .i64 x.w, .int .i64 x.s] 94)).heap.size) := ⟨by have := HN0.out; omega, lt_of_blk V0.out⟩
  have HN1 : Hid (w1.heap.size < (w1.alloc (.cells #[.int .i64 x.id, .int .i64 x.w, .int .i64 x.s] 94)).heap.size ∧ w.heap.size ≤ w1.heap.size) := ⟨lt_of_blk V1.out, HBA.out.size⟩
  clear x0 x1 x2 V00 HX1 HBA HN0 c0 hm1 hg3 hN00 hm0
  generalize w1.alloc (.cells #[.int .i64 x.id, .int .i64 x.w, .int .i64 x.s] 94) = w2 at *
  generalize w1.heap.size = N1 at *
  have c0 := HX2.out.c0
  have hm2 := HX2.out.lt
  have f0 := HX2.out.fz 0
  have p2 : (p : Int) ≤ (c : Int) := by omega
  have p3 : (p : Int) + 1 ≤ (S.length : Int) := by omega
  have p4 : (p : Int) + 1 ≤ (c : Int) := by omega
  have p5 : (S.length : Int) ≤ (c : Int) := by omega
  have p6 : (p : Int) ≤ 1000 := by omega
  have hw1 : IntKind.i64.wrap ((p : Int) + 1) = (p : Int) + 1 := by rw [IntKind.wrap_i64]; omega
  have hw2 : (0 : Int) ≤ (p : Int) + 1 := by omega
  have hw3 : ((p : Int) + 1).toNat = p + 1 := by omega
  have e3 := HX2.out.wn.drop (k := p + 1) (by omega)
  by_cases hpc : p + 1 < c
  · have p7 : ¬ c = p + 1 := by omega
    have E3 := Lib.hid e3.rd
    clear e3
    have T3 := Lib.hid (HX2.out.wn.take (k := p) (by omega)).rd
    have KP : Hid (∀ w', Below w2.heap.size w2 w' → w'.cell? ⟨m, 0, none⟩ = some (.slice (some ⟨g, off, none⟩) S.length c)) := fun w' hb => by
      have h9 := (HX2.out.later hb).c0
      skip
      exact h9
    refine but_start 19 (fun w' => w'.cell? ⟨m, 0, none⟩ = some (.slice (some ⟨g, off, none⟩) S.length c)) (by kernel_rfl) ?_
    have hHeld := KP.out w2.drew (Below.refl _ _).drew
    change AnyBut _ _ _ _ _ _ 20 _ _ _
    refine but_take (i := 0) (v := ?_) rfl (by kernel_rfl) (by kernel_rfl) (by kernel_rfl) (by kernel_rfl) (fun _ _ _ h => h) (Or.inl ⟨by rfl, ?_⟩) hHeld ?_
    rotate_left
    · intro w hSw
      (try dsimp only at hSw)
      go_simp
      try with_reducible rfl
    try simp only [List.getElem_toArray, List.getElem_cons_zero, Act.put, List.setIfInBounds_toArray, List.set_cons_zero, List.set_cons_succ]
    refine but_take (i := 2) (v := ?_) rfl (by kernel_rfl) (by kernel_rfl) (by kernel_rfl) (by kernel_rfl) (fun _ _ _ h => h) (Or.inl ⟨by rfl, ?_⟩) hHeld ?_
    rotate_left
    · intro w hSw
      (try dsimp only at hSw)
      go_simp
      try with_reducible rfl
    try simp only [List.getElem_toArray, List.getElem_cons_succ, List.getElem_cons_zero, Act.put, List.setIfInBounds_toArray, List.set_cons_zero, List.set_cons_succ]
    refine but_take (i := 3) (v := ?_) rfl (by kernel_rfl) (by kernel_rfl) (by kernel_rfl) (by kernel_rfl) (fun _ _ _ h => h) (Or.inl ⟨by rfl, ?_⟩) hHeld ?_
    rotate_left
    · intro w hSw
      (try dsimp only at hSw)
      go_simp
      try with_reducible rfl
    try simp only [List.getElem_toArray, List.getElem_cons_succ, List.getElem_cons_zero, Act.put, List.setIfInBounds_toArray, List.set_cons_zero, List.set_cons_succ]
    refine but_take (i := 4) (v := ?_) rfl (by kernel_rfl) (by kernel_rfl) (by kernel_rfl) (by kernel_rfl) (fun _ _ _ h => h) (Or.inl ⟨by rfl, ?_⟩) hHeld ?_
    rotate_left
    · intro w hSw
      (try dsimp only at hSw)
      go_simp
      try with_reducible rfl
    try simp only [List.getElem_toArray, List.getElem_cons_succ, List.getElem_cons_zero, Act.put, List.setIfInBounds_toArray, List.set_cons_zero, List.set_cons_succ]
    refine but_take (i := 5) (v := ?_) rfl (by kernel_rfl) (by kernel_rfl) (by kernel_rfl) (by kernel_rfl) (fun _ _ _ h => h) (Or.inl ⟨by rfl, ?_⟩) hHeld ?_
    rotate_left
    · intro w hSw
      (try dsimp only at hSw)
      go_simp
      try with_reducible rfl
    try simp only [List.getElem_toArray, List.getElem_cons_succ, List.getElem_cons_zero, Act.put, List.setIfInBounds_toArray, List.set_cons_zero, List.set_cons_succ]
    refine but_take (i := 6) (v := ?_) rfl (by kernel_rfl) (by kernel_rfl) (by kernel_rfl) (by kernel_rfl) (fun _ _ _ h => h) (Or.inl ⟨by rfl, ?_⟩) hHeld ?_
    rotate_left
    · intro w hSw
      (try dsimp only at hSw)
      go_simp
      try with_reducible rfl
    try simp only [List.getElem_toArray, List.getElem_cons_succ, List.getElem_cons_zero, Act.put, List.setIfInBounds_toArray, List.set_cons_zero, List.set_cons_succ]
    refine but_take (i := 7) (v := ?_) rfl (by kernel_rfl) (by kernel_rfl) (by kernel_rfl) (by kernel_rfl) (fun _ _ _ h => h) (Or.inl ⟨by rfl, ?_⟩) hHeld ?_
    rotate_left
    · intro w hSw
      (try dsimp only at hSw)
      go_simp
      try with_reducible rfl
    try simp only [List.getElem_toArray, List.getElem_cons_succ, List.getElem_cons_zero, Act.put, List.setIfInBounds_toArray, List.set_cons_zero, List.set_cons_succ]
    refine but_take (i := 9) (v := ?_) rfl (by kernel_rfl) (by kernel_rfl) (by kernel_rfl) (by kernel_rfl) (fun _ _ _ h => h) (Or.inl ⟨by rfl, ?_⟩) hHeld ?_
    rotate_left
    · intro w hSw
      (try dsimp only at hSw)
      go_simp
      try with_reducible rfl
    try simp only [List.getElem_toArray, List.getElem_cons_succ, List.getElem_cons_zero, Act.put, List.setIfInBounds_toArray, List.set_cons_zero, List.set_cons_succ]
    refine but_take (i := 10) (v := ?_) rfl (by kernel_rfl) (by kernel_rfl) (by kernel_rfl) (by kernel_rfl) (fun _ _ _ h => h) (Or.inl ⟨by rfl, ?_⟩) hHeld ?_
    rotate_left
    · intro w hSw
      (try dsimp only at hSw)
      go_simp
      try with_reducible rfl
    try simp only [List.getElem_toArray, List.getElem_cons_succ, List.getElem_cons_zero, Act.put, List.setIfInBounds_toArray, List.set_cons_zero, List.set_cons_succ]
    refine but_take (i := 11) (v := ?_) rfl (by kernel_rfl) (by kernel_rfl) (by kernel_rfl) (by kernel_rfl) (fun _ _ _ h => h) (Or.inl ⟨by rfl, ?_⟩) hHeld ?_
    rotate_left
    · intro w hSw
      (try dsimp only at hSw)
      go_simp
      try with_reducible rfl
    try simp only [List.getElem_toArray, List.getElem_cons_succ, List.getElem_cons_zero, Act.put, List.setIfInBounds_toArray, List.set_cons_zero, List.set_cons_succ]
    refine but_take (i := 12) (v := ?_) rfl (by kernel_rfl) (by kernel_rfl) (by kernel_rfl) (by kernel_rfl) (fun _ _ _ h => h) (Or.inl ⟨by rfl, ?_⟩) hHeld ?_
    rotate_left
    · intro w hSw
      (try dsimp only at hSw)
      go_simp
      try with_reducible rfl
    try simp only [List.getElem_toArray, List.getElem_cons_succ, List.getElem_cons_zero, Act.put, List.setIfInBounds_toArray, List.set_cons_zero, List.set_cons_succ]
    refine but_take (i := 13) (v := ?_) rfl (by kernel_rfl) (by kernel_rfl) (by kernel_rfl) (by kernel_rfl) (fun _ _ _ h => h) (Or.inl ⟨by rfl, ?_⟩) hHeld ?_
    rotate_left
    · intro w hSw
      (try dsimp only at hSw)
      go_simp
      try with_reducible rfl
    try simp only [List.getElem_toArray, List.getElem_cons_succ, List.getElem_cons_zero, Act.put, List.setIfInBounds_toArray, List.set_cons_zero, List.set_cons_succ]
    refine but_take (i := 14) (v := ?_) rfl (by kernel_rfl) (by kernel_rfl) (by kernel_rfl) (by kernel_rfl) (fun _ _ _ h => h) (Or.inl ⟨by rfl, ?_⟩) hHeld ?_
    rotate_left
    · intro w hSw
      (try dsimp only at hSw)
      go_simp
      try with_reducible rfl
    try simp only [List.getElem_toArray, List.getElem_cons_succ, List.getElem_cons_zero, Act.put, List.setIfInBounds_toArray, List.set_cons_zero, List.set_cons_succ]
    refine but_take (i := 15) (v := ?_) rfl (by kernel_rfl) (by kernel_rfl) (by kernel_rfl) (by kernel_rfl) (fun _ _ _ h => h) (Or.inl ⟨by rfl, ?_⟩) hHeld ?_
    rotate_left
    · intro w hSw
      (try dsimp only at hSw)
      go_simp
      try with_reducible rfl
    try simp only [List.getElem_toArray, List.getElem_cons_succ, List.getElem_cons_zero, Act.put, List.setIfInBounds_toArray, List.set_cons_zero, List.set_cons_succ]
    clear hHeld
    refine but_one (i := 1) (by kernel_rfl) rfl ?_
    intro K hK
    go_simp
    refine hK _ _ (fun _ => KP.out _ (by repeat' (first | exact Below.refl _ _ | (with_reducible assumption) | refine Below.drew ?_ | refine Below.alloc ?_ (by first | omega | (simp <;> omega)) _))) ?_
    clear hK K
    try simp only [List.getElem_toArray, List.getElem_cons_succ, List.getElem_cons_zero, Act.put, List.setIfInBounds_toArray, List.set_cons_zero, List.set_cons_succ]
    refine but_one (i := 8) (by kernel_rfl) rfl ?_
    intro K hK
    refine step_copy (w2 := w2) rfl (.tmp 22) (.tmp 28) rfl _ (some ⟨g, off, none⟩) p c (S.take p) (by rfl) (by rfl) (by first | exact heap_e1 _ | exact heap_e2 _ _ | exact heap_e3 _ _) (by first | omega | (simp <;> omega)) (by repeat' (first | exact Below.refl _ _ | (with_reducible assumption) | refine Below.drew ?_ | refine Below.alloc ?_ (by first | omega | (simp <;> omega)) _)) T3.out (by omega) ?_; intro v7 w7 ho7 hb7 hg7; have HO7 := Lib.hid ho7; have hs7 := hb7.size; clear ho7
    refine hK _ _ (fun _ => KP.out _ (by repeat' (first | exact Below.refl _ _ | (with_reducible assumption) | refine Below.drew ?_ | refine Below.alloc ?_ (by first | omega | (simp <;> omega)) _))) ?_
    clear hK K
    try simp only [List.getElem_toArray, List.getElem_cons_succ, List.getElem_cons_zero, Act.put, List.setIfInBounds_toArray, List.set_cons_zero, List.set_cons_succ]
    refine but_one (i := 16) (by kernel_rfl) rfl ?_
    intro K hK
    refine step_more (w2 := w2) rfl (.tmp 29) (.tmp 36) rfl v7 (some ⟨g, off + (p + 1) * 3, none⟩) p (S.length - (p + 1)) (c - (p + 1)) (S.take p) (S.drop (p + 1)) (by rfl) (by rfl) HO7.out hb7 (E3.out.later hb7) (by omega) (by omega) ?_; intro v9 w9 ho9 hb9; have hx9 := HX2.out.later hb9; have c09 := hx9.c0; have f9 := hx9.fz 0; have hl9 := hx9.lt; obtain ⟨A9, k9, hv9, hw9, hn9⟩ := Wn.of_own (by simp only [List.length_append, List.length_take, List.length_drop]; omega) ho9; subst hv9; have HF := Lib.hid (MR.rem x HX2.out hb9 HB2.out hml HN.out.1 HN.out.2 hw9 hn9 HD.out hB); have U0 := (hb9.block _ HN.out.2).trans V0.out; have U1 := (hb9.block _ HN1.out.1).trans V1.out; clear ho9 hx9 hw9 hn9
    refine hK _ _ (fun _ => KP.out _ (by repeat' (first | exact Below.refl _ _ | (with_reducible assumption) | refine Below.drew ?_ | refine Below.alloc ?_ (by first | omega | (simp <;> omega)) _))) ?_
    clear hK K
    try simp only [List.getElem_toArray, List.getElem_cons_succ, List.getElem_cons_zero, Act.put, List.setIfInBounds_toArray, List.set_cons_zero, List.set_cons_succ]
    refine but_one (i := 17) (by kernel_rfl) rfl ?_
    intro K hK
    go_simp
    refine hK _ _ (fun _ => KP.out _ (by repeat' (first | exact Below.refl _ _ | (with_reducible assumption) | refine Below.drew ?_ | refine Below.alloc ?_ (by first | omega | (simp <;> omega)) _))) ?_
    clear hK K
    try simp only [List.getElem_toArray, List.getElem_cons_succ, List.getElem_cons_zero, Act.put, List.setIfInBounds_toArray, List.set_cons_zero, List.set_cons_succ]
    refine but_one (i := 18) (by kernel_rfl) rfl ?_
    intro K hK
    go_simp
    refine hK _ _ (fun _ => KP.out _ (by repeat' (first | exact Below.refl _ _ | (with_reducible assumption) | refine Below.drew ?_ | refine Below.alloc ?_ (by first | omega | (simp <;> omega)) _))) ?_
    clear hK K
    try simp only [List.getElem_toArray, List.getElem_cons_succ, List.getElem_cons_zero, Act.put, List.setIfInBounds_toArray, List.set_cons_zero, List.set_cons_succ]
    refine but_one (i := 19) (by kernel_rfl) rfl ?_
    intro K hK
    go_simp
    refine hK _ _ (fun h => absurd rfl h) ?_
    clear hK K
    try simp only [List.getElem_toArray, List.getElem_cons_succ, List.getElem_cons_zero, Act.put, List.setIfInBounds_toArray, List.set_cons_zero, List.set_cons_succ]
    refine but_done (by kernel_rfl) ?_
    have g0 : m ≠ N0 := by have := HN.out.1; omega
    have g1 : m ≠ N1 := by have := HN1.out.2; omega
    have V3 := (Below.heap_setCell w9 ⟨m, 0, none⟩ (.slice A9 (p + (S.length - (p + 1))) k9) N0 (fun e => g0 e.symm)).trans U0
    have V4 := (Below.heap_setCell w9 ⟨m, 0, none⟩ (.slice A9 (p + (S.length - (p + 1))) k9) N1 (fun e => g1 e.symm)).trans U1
    generalize w9.setCell ⟨m, 0, none⟩ (.slice A9 (p + (S.length - (p + 1))) k9) = w10 at *
    have r0 := cell_of_row w10 N1 0 _ _ _ V4
    have r1 := cell_of_row w10 N1 1 _ _ _ V4
    have r2 := cell_of_row w10 N1 2 _ _ _ V4
    have z0 := frozen_of_row w10 N0 0 _ _ V3
    have z1 := frozen_of_row w10 N0 1 _ _ V3
    have z2 := frozen_of_row w10 N0 2 _ _ V3
    have y0 := cell_of_row w10 N0 0 _ _ _ V3
    have y1 := cell_of_row w10 N0 1 _ _ _ V3
    have y2 := cell_of_row w10 N0 2 _ _ _ V3
    simp only [List.getElem?_toArray, List.getElem?_cons_succ, List.getElem?_cons_zero] at r0 r1 r2 y0 y1 y2
    clear U0 U1 KP T3 V3 V4
    go_wp2_with fail
    refine bodyPost_ret (v := .tuple #[vI x, .bool true]) ?_ rfl HF.out
    rw [results_cell_tmp rfl]
    go_simp
  · obtain rfl : c = p + 1 := by omega
    have hS0 : S.length = p + 1 := by omega
    have E3 : Hid (RdI w2 (some ⟨g, off, none⟩) 0 (S.drop (p + 1))) := by rw [List.drop_eq_nil_of_le (by omega)]; exact RdI.nil _ _
    have hw4 : (p : Int) ≤ (p : Int) + 1 := by omega
    clear e3 p2 p3 p4 p5
    rw [hS0] at c0
    have T3 := Lib.hid (HX2.out.wn.take (k := p) (by omega)).rd
    have KP : Hid (∀ w', Below w2.heap.size w2 w' → w'.cell? ⟨m, 0, none⟩ = some (.slice (some ⟨g, off, none⟩) (p + 1) (p + 1))) := fun w' hb => by
      have h9 := (HX2.out.later hb).c0
      rw [hS0] at h9
      exact h9
    refine but_start 19 (fun w' => w'.cell? ⟨m, 0, none⟩ = some (.slice (some ⟨g, off, none⟩) (p + 1) (p + 1))) (by kernel_rfl) ?_
    have hHeld := KP.out w2.drew (Below.refl _ _).drew
    change AnyBut _ _ _ _ _ _ 20 _ _ _
    refine but_take (i := 0) (v := ?_) rfl (by kernel_rfl) (by kernel_rfl) (by kernel_rfl) (by kernel_rfl) (fun _ _ _ h => h) (Or.inl ⟨by rfl, ?_⟩) hHeld ?_
    rotate_left
    · intro w hSw
      (try dsimp only at hSw)
      go_simp
      try with_reducible rfl
    try simp only [List.getElem_toArray, List.getElem_cons_zero, Act.put, List.setIfInBounds_toArray, List.set_cons_zero, List.set_cons_succ]
    refine but_take (i := 2) (v := ?_) rfl (by kernel_rfl) (by kernel_rfl) (by kernel_rfl) (by kernel_rfl) (fun _ _ _ h => h) (Or.inl ⟨by rfl, ?_⟩) hHeld ?_
    rotate_left
    · intro w hSw
      (try dsimp only at hSw)
      go_simp
      try with_reducible rfl
    try simp only [List.getElem_toArray, List.getElem_cons_succ, List.getElem_cons_zero, Act.put, List.setIfInBounds_toArray, List.set_cons_zero, List.set_cons_succ]
    refine but_take (i := 3) (v := ?_) rfl (by kernel_rfl) (by kernel_rfl) (by kernel_rfl) (by kernel_rfl) (fun _ _ _ h => h) (Or.inl ⟨by rfl, ?_⟩) hHeld ?_
    rotate_left
    · intro w hSw
      (try dsimp only at hSw)
      go_simp
      try with_reducible rfl
    try simp only [List.getElem_toArray, List.getElem_cons_succ, List.getElem_cons_zero, Act.put, List.setIfInBounds_toArray, List.set_cons_zero, List.set_cons_succ]
    refine but_take (i := 4) (v := ?_) rfl (by kernel_rfl) (by kernel_rfl) (by kernel_rfl) (by kernel_rfl) (fun _ _ _ h => h) (Or.inl ⟨by rfl, ?_⟩) hHeld ?_
    rotate_left
    · intro w hSw
      (try dsimp only at hSw)
      go_simp
      try with_reducible rfl
    try simp only [List.getElem_toArray, List.getElem_cons_succ, List.getElem_cons_zero, Act.put, List.setIfInBounds_toArray, List.set_cons_zero, List.set_cons_succ]
    refine but_take (i := 5) (v := ?_) rfl (by kernel_rfl) (by kernel_rfl) (by kernel_rfl) (by kernel_rfl) (fun _ _ _ h => h) (Or.inl ⟨by rfl, ?_⟩) hHeld ?_
    rotate_left
    · intro w hSw
      (try dsimp only at hSw)
      go_simp
      try with_reducible rfl
    try simp only [List.getElem_toArray, List.getElem_cons_succ, List.getElem_cons_zero, Act.put, List.setIfInBounds_toArray, List.set_cons_zero, List.set_cons_succ]
    refine but_take (i := 6) (v := ?_) rfl (by kernel_rfl) (by kernel_rfl) (by kernel_rfl) (by kernel_rfl) (fun _ _ _ h => h) (Or.inl ⟨by rfl, ?_⟩) hHeld ?_
    rotate_left
    · intro w hSw
      (try dsimp only at hSw)
      go_simp
      try with_reducible rfl
    try simp only [List.getElem_toArray, List.getElem_cons_succ, List.getElem_cons_zero, Act.put, List.setIfInBounds_toArray, List.set_cons_zero, List.set_cons_succ]
    refine but_take (i := 7) (v := ?_) rfl (by kernel_rfl) (by kernel_rfl) (by kernel_rfl) (by kernel_rfl) (fun _ _ _ h => h) (Or.inl ⟨by rfl, ?_⟩) hHeld ?_
    rotate_left
    · intro w hSw
      (try dsimp only at hSw)
      go_simp
      try with_reducible rfl
    try simp only [List.getElem_toArray, List.getElem_cons_succ, List.getElem_cons_zero, Act.put, List.setIfInBounds_toArray, List.set_cons_zero, List.set_cons_succ]
    refine but_take (i := 9) (v := ?_) rfl (by kernel_rfl) (by kernel_rfl) (by kernel_rfl) (by kernel_rfl) (fun _ _ _ h => h) (Or.inl ⟨by rfl, ?_⟩) hHeld ?_
    rotate_left
    · intro w hSw
      (try dsimp only at hSw)
      go_simp
      try with_reducible rfl
    try simp only [List.getElem_toArray, List.getElem_cons_succ, List.getElem_cons_zero, Act.put, List.setIfInBounds_toArray, List.set_cons_zero, List.set_cons_succ]
    refine but_take (i := 10) (v := ?_) rfl (by kernel_rfl) (by kernel_rfl) (by kernel_rfl) (by kernel_rfl) (fun _ _ _ h => h) (Or.inl ⟨by rfl, ?_⟩) hHeld ?_
    rotate_left
    · intro w hSw
      (try dsimp only at hSw)
      go_simp
      try with_reducible rfl
    try simp only [List.getElem_toArray, List.getElem_cons_succ, List.getElem_cons_zero, Act.put, List.setIfInBounds_toArray, List.set_cons_zero, List.set_cons_succ]
    refine but_take (i := 11) (v := ?_) rfl (by kernel_rfl) (by kernel_rfl) (by kernel_rfl) (by kernel_rfl) (fun _ _ _ h => h) (Or.inl ⟨by rfl, ?_⟩) hHeld ?_
    rotate_left
    · intro w hSw
      (try dsimp only at hSw)
      go_simp
      try with_reducible rfl
    try simp only [List.getElem_toArray, List.getElem_cons_succ, List.getElem_cons_zero, Act.put, List.setIfInBounds_toArray, List.set_cons_zero, List.set_cons_succ]
    refine but_take (i := 12) (v := ?_) rfl (by kernel_rfl) (by kernel_rfl) (by kernel_rfl) (by kernel_rfl) (fun _ _ _ h => h) (Or.inl ⟨by rfl, ?_⟩) hHeld ?_
    rotate_left
    · intro w hSw
      (try dsimp only at hSw)
      go_simp
      try with_reducible rfl
    try simp only [List.getElem_toArray, List.getElem_cons_succ, List.getElem_cons_zero, Act.put, List.setIfInBounds_toArray, List.set_cons_zero, List.set_cons_succ]
    refine but_take (i := 13) (v := ?_) rfl (by kernel_rfl) (by kernel_rfl) (by kernel_rfl) (by kernel_rfl) (fun _ _ _ h => h) (Or.inl ⟨by rfl, ?_⟩) hHeld ?_
    rotate_left
    · intro w hSw
      (try dsimp only at hSw)
      go_simp
      try with_reducible rfl
    try simp only [List.getElem_toArray, List.getElem_cons_succ, List.getElem_cons_zero, Act.put, List.setIfInBounds_toArray, List.set_cons_zero, List.set_cons_succ]
    refine but_take (i := 14) (v := ?_) rfl (by kernel_rfl) (by kernel_rfl) (by kernel_rfl) (by kernel_rfl) (fun _ _ _ h => h) (Or.inl ⟨by rfl, ?_⟩) hHeld ?_
    rotate_left
    · intro w hSw
      (try dsimp only at hSw)
      go_simp
      try with_reducible rfl
    try simp only [List.getElem_toArray, List.getElem_cons_succ, List.getElem_cons_zero, Act.put, List.setIfInBounds_toArray, List.set_cons_zero, List.set_cons_succ]
    refine but_take (i := 15) (v := ?_) rfl (by kernel_rfl) (by kernel_rfl) (by kernel_rfl) (by kernel_rfl) (fun _ _ _ h => h) (Or.inl ⟨by rfl, ?_⟩) hHeld ?_
    rotate_left
    · intro w hSw
      (try dsimp only at hSw)
      go_simp
      try with_reducible rfl
    try simp only [List.getElem_toArray, List.getElem_cons_succ, List.getElem_cons_zero, Act.put, List.setIfInBounds_toArray, List.set_cons_zero, List.set_cons_succ]
    clear hHeld
    refine but_one (i := 1) (by kernel_rfl) rfl ?_
    intro K hK
    go_simp
    refine hK _ _ (fun _ => KP.out _ (by repeat' (first | exact Below.refl _ _ | (with_reducible assumption) | refine Below.drew ?_ | refine Below.alloc ?_ (by first | omega | (simp <;> omega)) _))) ?_
    clear hK K
    try simp only [List.getElem_toArray, List.getElem_cons_succ, List.getElem_cons_zero, Act.put, List.setIfInBounds_toArray, List.set_cons_zero, List.set_cons_succ]
    refine but_one (i := 8) (by kernel_rfl) rfl ?_
    intro K hK
    refine step_copy (w2 := w2) rfl (.tmp 22) (.tmp 28) rfl _ (some ⟨g, off, none⟩) p (p + 1) (S.take p) (by rfl) (by rfl) (by first | exact heap_e1 _ | exact heap_e2 _ _ | exact heap_e3 _ _) (by first | omega | (simp <;> omega)) (by repeat' (first | exact Below.refl _ _ | (with_reducible assumption) | refine Below.drew ?_ | refine Below.alloc ?_ (by first | omega | (simp <;> omega)) _)) T3.out (by omega) ?_; intro v7 w7 ho7 hb7 hg7; have HO7 := Lib.hid ho7; have hs7 := hb7.size; clear ho7
    refine hK _ _ (fun _ => KP.out _ (by repeat' (first | exact Below.refl _ _ | (with_reducible assumption) | refine Below.drew ?_ | refine Below.alloc ?_ (by first | omega | (simp <;> omega)) _))) ?_
    clear hK K
    try simp only [List.getElem_toArray, List.getElem_cons_succ, List.getElem_cons_zero, Act.put, List.setIfInBounds_toArray, List.set_cons_zero, List.set_cons_succ]
    refine but_one (i := 16) (by kernel_rfl) rfl ?_
    intro K hK
    refine step_more (w2 := w2) rfl (.tmp 29) (.tmp 36) rfl v7 (some ⟨g, off, none⟩) p (0) (0) (S.take p) (S.drop (p + 1)) (by rfl) (by rfl) HO7.out hb7 (E3.out.later hb7) (by omega) (by omega) ?_; intro v9 w9 ho9 hb9; have hx9 := HX2.out.later hb9; have c09 := hx9.c0; have f9 := hx9.fz 0; have hl9 := hx9.lt; obtain ⟨A9, k9, hv9, hw9, hn9⟩ := Wn.of_own (by simp only [List.length_append, List.length_take, List.length_drop]; omega) ho9; subst hv9; have HF := Lib.hid (MR.rem x HX2.out hb9 HB2.out hml HN.out.1 HN.out.2 hw9 hn9 HD.out hB); have U0 := (hb9.block _ HN.out.2).trans V0.out; have U1 := (hb9.block _ HN1.out.1).trans V1.out; clear ho9 hx9 hw9 hn9
    refine hK _ _ (fun _ => KP.out _ (by repeat' (first | exact Below.refl _ _ | (with_reducible assumption) | refine Below.drew ?_ | refine Below.alloc ?_ (by first | omega | (simp <;> omega)) _))) ?_
    clear hK K
    try simp only [List.getElem_toArray, List.getElem_cons_succ, List.getElem_cons_zero, Act.put, List.setIfInBounds_toArray, List.set_cons_zero, List.set_cons_succ]
    refine but_one (i := 17) (by kernel_rfl) rfl ?_
    intro K hK
    go_simp
    refine hK _ _ (fun _ => KP.out _ (by repeat' (first | exact Below.refl _ _ | (with_reducible assumption) | refine Below.drew ?_ | refine Below.alloc ?_ (by first | omega | (simp <;> omega)) _))) ?_
    clear hK K
    try simp only [List.getElem_toArray, List.getElem_cons_succ, List.getElem_cons_zero, Act.put, List.setIfInBounds_toArray, List.set_cons_zero, List.set_cons_succ]
    refine but_one (i := 18) (by kernel_rfl) rfl ?_
    intro K hK
    go_simp
    refine hK _ _ (fun _ => KP.out _ (by repeat' (first | exact Below.refl _ _ | (with_reducible assumption) | refine Below.drew ?_ | refine Below.alloc ?_ (by first | omega | (simp <;> omega)) _))) ?_
    clear hK K
    try simp only [List.getElem_toArray, List.getElem_cons_succ, List.getElem_cons_zero, Act.put, List.setIfInBounds_toArray, List.set_cons_zero, List.set_cons_succ]
    refine but_one (i := 19) (by kernel_rfl) rfl ?_
    intro K hK
    go_simp
    refine hK _ _ (fun h => absurd rfl h) ?_
    clear hK K
    try simp only [List.getElem_toArray, List.getElem_cons_succ, List.getElem_cons_zero, Act.put, List.setIfInBounds_toArray, List.set_cons_zero, List.set_cons_succ]
    refine but_done (by kernel_rfl) ?_
    have g0 : m ≠ N0 := by have := HN.out.1; omega
    have g1 : m ≠ N1 := by have := HN1.out.2; omega
    have V3 := (Below.heap_setCell w9 ⟨m, 0, none⟩ (.slice A9 (p + (0)) k9) N0 (fun e => g0 e.symm)).trans U0
    have V4 := (Below.heap_setCell w9 ⟨m, 0, none⟩ (.slice A9 (p + (0)) k9) N1 (fun e => g1 e.symm)).trans U1
    generalize w9.setCell ⟨m, 0, none⟩ (.slice A9 (p + (0)) k9) = w10 at *
    have r0 := cell_of_row w10 N1 0 _ _ _ V4
    have r1 := cell_of_row w10 N1 1 _ _ _ V4
    have r2 := cell_of_row w10 N1 2 _ _ _ V4
    have z0 := frozen_of_row w10 N0 0 _ _ V3
    have z1 := frozen_of_row w10 N0 1 _ _ V3
    have z2 := frozen_of_row w10 N0 2 _ _ V3
    have y0 := cell_of_row w10 N0 0 _ _ _ V3
    have y1 := cell_of_row w10 N0 1 _ _ _ V3
    have y2 := cell_of_row w10 N0 2 _ _ _ V3
    simp only [List.getElem?_toArray, List.getElem?_cons_succ, List.getElem?_cons_zero] at r0 r1 r2 y0 y1 y2
    clear U0 U1 KP T3 V3 V4
    go_wp2_with fail
    refine bodyPost_ret (v := .tuple #[vI x, .bool true]) ?_ rfl HF.out
    rw [results_cell_tmp rfl]
    go_simp
end
end Go.Proofs.YtmadcnpkaijllaaGreat
