/- A case that can be done is done; a task waits at all; it waits no more. Conditions: each theorem's own premises. -/
import Derived.Test.YtmcacmbllpphiaaLk
namespace Go.Proofs.Ytmcacmbllpphiaa
open Go.RowKit
set_option linter.unusedVariables false

section
variable {W w0 w w' : World} {B : List Nat} {S : List CS} {F : Nat → Prop}
theorem RdK.kf {C : List Nat} {T : List CS} {A : Option Addr} {n : Nat} {l : List Wk} (h : RdK w A n l) (p : PC W B S C T F w) (k : Kf F C w w') : RdK w' A n l :=
  h.keep fun b cs e => (p.row k e o75).trans e.symm
theorem sn_ok {s : CS} (v : Int) (h : can s true = true) : (sn s v).2.2.1 = ((sn s v).2.2.2 == 0) := by
  unfold can at h
  by_cases hk : s.kd = 0
  · rw [if_neg (by simp [hk])] at h
    unfold sn
    rw [if_neg (by simp [hk])]
    cases hc : s.cl with
    | true => rw [if_pos rfl]; rfl
    | false =>
      rw [if_neg (by simp)]
      simp only [hc, Bool.false_or, Bool.or_eq_true, fr, decide_eq_true_eq, CS.q, Bool.not_true] at h
      unfold gv
      cases hr : s.rs with
      | cons x r => rfl
      | nil =>
        rw [hr] at h
        simp only
        rw [if_pos (by simpa using h)]
        rfl
  · rw [if_pos ⟨rfl, hk⟩] at h
    cases h
theorem pc_send (x : Ca) (h : PC W B S [] [] F w) (hb : BN 1000 S) (hs : x.s = true) (hc : canO S x = true) : ∃ j s, x.ix = some j ∧ S[j]? = some s ∧ can s true = true ∧ Calls Try.prog 23 #[.pointer (ptr B x), .int .i64 x.v] w fun e w' => ∃ A cap, e = .returned (.tuple #[.bool (sn s x.v).2.2.1, .slice A (sn s x.v).2.1.length cap, .int .i64 (sn s x.v).2.2.2]) ∧ RdK w' A (sn s x.v).2.1.length (sn s x.v).2.1 ∧ PN W B (S.set j (sn s x.v).1) [] [] F w w' := by
  rcases h.case x with ⟨h1, h2⟩ | ⟨j, c, s, hx, hB, hS, h1, h2⟩
  · unfold canO at hc; rw [h2] at hc; cases hc
  · have e2 : canO S x = can s true := by unfold canO; rw [h2, hs]
    rw [e2] at hc
    refine ⟨j, s, hx, hS, hc, ?_⟩
    rw [h1]
    obtain ⟨Fi, hch, bk⟩ := h.chan hB hS
    have hn := hb.at hS
    unfold sn
    split
    · rename_i hk
      refine (send_kind x.v hch hk).mono ?_
      rintro e w' ⟨rfl, rfl⟩
      refine ⟨none, 0, rfl, RdK.nil _ _, ?_⟩
      rw [set_same hS]
      exact PN.same h
    · rename_i hk
      have hk' : s.kd = 0 := by omega
      split
      · rename_i hcl
        refine (send_closed x.v hch hk' hcl).mono ?_
        rintro e w' ⟨rfl, rfl⟩
        refine ⟨none, 0, rfl, RdK.nil _ _, ?_⟩
        rw [set_same hS]
        exact PN.same h
      · rename_i hcl
        refine (send_any x.v hch hk' (by simpa using hcl) (by unfold nw at hn; omega)).mono ?_
        rintro e w' ⟨A, cap, rfl, hr, g⟩
        exact ⟨A, cap, rfl, hr, bk _ _ g⟩
theorem pc_recv (x : Ca) (h : PC W B S [] [] F w) (hb : BN 1000 S) (hc : canO S x = true) : ∃ j s, x.ix = some j ∧ S[j]? = some s ∧ Calls Try.prog 32 #[.pointer (ptr B x)] w fun e w' => ∃ A cap, e = .returned (.tuple #[.int .i64 (rc s).2.1, .bool (rc s).2.2.1, .bool (rc s).2.2.2.1, .slice A (rc s).2.2.2.2.length cap]) ∧ RdK w' A (rc s).2.2.2.2.length (rc s).2.2.2.2 ∧ PN W B (S.set j (rc s).1) [] [] F w w' := by
  rcases h.case x with ⟨h1, h2⟩ | ⟨j, c, s, hx, hB, hS, h1, h2⟩
  · unfold canO at hc; rw [h2] at hc; cases hc
  · refine ⟨j, s, hx, hS, ?_⟩
    rw [h1]
    obtain ⟨Fi, hch, bk⟩ := h.chan hB hS
    have hn := hb.at hS
    refine (recv_any hch (by unfold nw at hn; omega)).mono ?_
    rintro e w' ⟨A, cap, rfl, hr, g⟩
    exact ⟨A, cap, rfl, hr, bk _ _ g⟩
theorem rdk_set46 {A : Option Addr} {n : Nat} {l : List Wk} {g i : Nat} {cs : Array Value} (h : RdK w A n l) (hg : w.heap[g]? = some (.cells cs 46 (0, 0))) (v : Value) : RdK (w.setCell ⟨g, i, none⟩ v) A n l :=
  h.keep fun b ds e => Below.heap_setCell _ _ _ _ (tag_ne e hg (by decide))
theorem PC.setO {g i : Nat} {cs : Array Value} {t : TypeId} {f : Nat × Nat} (h : PC W B S [] [] F w) (hg : w.heap[g]? = some (.cells cs t f)) (ht : Oth t) (hW : W.heap.size ≤ g) (v : Value) : PC W B S [] [] F (w.setCell ⟨g, i, none⟩ v) := by
  have hb := h.bel
  obtain ⟨G, g1, g2, g3, g4⟩ := h.ch
  have hnf : ∀ b, F b → b ≠ g := fun b hf e => not_isc hg ⟨ht.1, ht.2.1, ht.2.2.1, ht.2.2.2.1⟩ (e ▸ h.isc hf)
  refine ⟨⟨hb.os, hb.tape, hb.output, by rw [size_set]; exact hb.size, fun k hk => (Below.heap_setCell _ _ _ _ (by show k ≠ g; omega)).trans (hb.block k hk)⟩, h.low, ⟨G, fun i c s e1 e2 => ?_, g2, g3, g4⟩, h.eb, rfl, fun i m t h => by simp at h, List.nodup_nil⟩
  exact (g1 i c s e1 e2).keep fun b hf => Below.heap_setCell _ _ _ _ (hnf b (g2 i b hf).1)
theorem PN.setO {g i : Nat} {cs : Array Value} {t : TypeId} {f : Nat × Nat} (h : PN W B S [] [] F w w') (hg : w'.heap[g]? = some (.cells cs t f)) (ht : Oth t) (hw : w.heap.size ≤ g) (hW : W.heap.size ≤ w.heap.size) (v : Value) : PN W B S [] [] F w (w'.setCell ⟨g, i, none⟩ v) := by
  obtain ⟨F', h1, h2, h3⟩ := h
  exact ⟨F', h1.setO hg ht (by omega) v, h2, by rw [size_set]; exact h3.1, fun k hk hf hc => (Below.heap_setCell _ _ _ _ (by show k ≠ g; omega)).trans (h3.2 k hk hf hc)⟩
/-- A Result that the call made: it is written whole. -/
theorem PN.res {N : Nat} {a0 a1 a2 a3 a4 a5 b0 b1 b2 b3 b4 b5 : Value} {A : Option Addr} {n : Nat} {l : List Wk} (h : PN W B S [] [] F w w') (hr : RdK w' A n l) (hg : w'.heap[N]? = some (.cells #[a0, a1, a2, a3, a4, a5] 46 (0, 0))) (hw : w.heap.size ≤ N) (hW : W.heap.size ≤ w.heap.size) :
    PN W B S [] [] F w ((((((w'.setCell ⟨N, 0, none⟩ b0).setCell ⟨N, 1, none⟩ b1).setCell ⟨N, 2, none⟩ b2).setCell ⟨N, 3, none⟩ b3).setCell ⟨N, 4, none⟩ b4).setCell ⟨N, 5, none⟩ b5) ∧
    RdK ((((((w'.setCell ⟨N, 0, none⟩ b0).setCell ⟨N, 1, none⟩ b1).setCell ⟨N, 2, none⟩ b2).setCell ⟨N, 3, none⟩ b3).setCell ⟨N, 4, none⟩ b4).setCell ⟨N, 5, none⟩ b5) A n l ∧
    ((((((w'.setCell ⟨N, 0, none⟩ b0).setCell ⟨N, 1, none⟩ b1).setCell ⟨N, 2, none⟩ b2).setCell ⟨N, 3, none⟩ b3).setCell ⟨N, 4, none⟩ b4).setCell ⟨N, 5, none⟩ b5).heap[N]? = some (.cells #[b0, b1, b2, b3, b4, b5] 46 (0, 0)) := by
  have g1 := heap_setCell_same w' N 0 _ _ b0 hg
  have g2 := heap_setCell_same _ N 1 _ _ b1 g1
  have g3 := heap_setCell_same _ N 2 _ _ b2 g2
  have g4 := heap_setCell_same _ N 3 _ _ b3 g3
  have g5 := heap_setCell_same _ N 4 _ _ b4 g4
  have g6 := heap_setCell_same _ N 5 _ _ b5 g5
  exact ⟨(((((h.setO hg o46 hw hW _).setO g1 o46 hw hW _).setO g2 o46 hw hW _).setO g3 o46 hw hW _).setO g4 o46 hw hW _).setO g5 o46 hw hW _, rdk_set46 (rdk_set46 (rdk_set46 (rdk_set46 (rdk_set46 (rdk_set46 hr hg _) g1 _) g2 _) g3 _) g4 _) g5 _, g6⟩
def DxR (W : World) (B : List Nat) (S : List CS) (F : Nat → Prop) (x : Ca) (w : World) (e : Ending) (w' : World) : Prop :=
  ∃ A cap, e = .returned (.tuple #[reG (doX S x).2.1, .slice A (doX S x).2.2.length cap]) ∧ RdK w' A (doX S x).2.2.length (doX S x).2.2 ∧ PN W B (doX S x).1 [] [] F w w'
set_option maxRecDepth 100000 in
set_option maxHeartbeats 4000000 in
theorem do_any (x : Ca) (h : PC W B S [] [] F w) (hb : BN 1000 S) (hc : canO S x = true) : Calls Try.prog 48 #[caG B x] w (DxR W B S F x w) := by
  have HB1 := Lib.hid (below_al w (.cells (caA B x) 65))
  have HB2 := Lib.hid (HB1.out.trans ((below_al (w.alloc (.cells (caA B x) 65)) (.cells #[.int .i64 0, .int .i64 0, .bool false, .bool false, .bool false, .bool false] 46)).mono HB1.out.size))
  have HP := Lib.hid (h.later HB2.out)
  unfold caA at HB2 HP
  have HW := Lib.hid h.bel.size
  clear HB1
  unfold caG
  cases hs : x.s with
  | true =>
    rw [hs] at HB2 HP
    obtain ⟨j, s, e1, e2, hcs, hcall⟩ := pc_send x HP.out hb hs hc
    have HE : Hid (doX S x = (S.set j (sn s x.v).1, ⟨0, 0, (sn s x.v).2.2.1, (sn s x.v).2.2.2 == 5, false, false⟩, (sn s x.v).2.1)) := by
      show _ = _
      unfold doX; rw [e1]; simp only; rw [e2]; simp only; rw [if_pos hs]
    have HC := Lib.hid hcall
    unfold DxR
    rw [HE.out]
    simp only
    generalize sn s x.v = g at *
    obtain ⟨s', ws, d, code⟩ := g
    simp only at HC ⊢
    clear h hb hc hcall HE hcs e1 e2 hs
    go_enter Try.func48, Try.ntmps48
    go_wp2_with fail
    refine HC.out.mono ?_
    rintro e w1 ⟨A, cap, rfl, hr, g⟩
    have hk : w1.heap[w.heap.size + 1]? = some (.cells #[.int .i64 0, .int .i64 0, .bool false, .bool false, .bool false, .bool false] 46 (0, 0)) := by
      obtain ⟨F1, _, _, k⟩ := g
      have h9 := heap_alloc_new (w.alloc (.cells #[.pointer (ptr B x), .bool true, .int .i64 x.v] 65)) (.cells #[.int .i64 0, .int .i64 0, .bool false, .bool false, .bool false, .bool false] 46)
      rw [World.size_alloc] at h9
      exact HP.out.row k h9 o46
    have HR := Lib.hid ((g.early HB2.out).res (b0 := .int .i64 0) (b1 := .int .i64 0) (b2 := .bool d) (b3 := .bool (code == 5)) (b4 := .bool false) (b5 := .bool false) hr hk (by omega) HW.out)
    have f0 := frozen_of_row w1 (w.heap.size + 1) 0 _ _ hk
    have f1 := frozen_of_row w1 (w.heap.size + 1) 1 _ _ hk
    have f2 := frozen_of_row w1 (w.heap.size + 1) 2 _ _ hk
    have f3 := frozen_of_row w1 (w.heap.size + 1) 3 _ _ hk
    have f4 := frozen_of_row w1 (w.heap.size + 1) 4 _ _ hk
    have f5 := frozen_of_row w1 (w.heap.size + 1) 5 _ _ hk
    have a0 := cell_of_row w1 (w.heap.size + 1) 0 _ _ _ hk
    have a1 := cell_of_row w1 (w.heap.size + 1) 1 _ _ _ hk
    have a2 := cell_of_row w1 (w.heap.size + 1) 2 _ _ _ hk
    have a3 := cell_of_row w1 (w.heap.size + 1) 3 _ _ _ hk
    have a4 := cell_of_row w1 (w.heap.size + 1) 4 _ _ _ hk
    have a5 := cell_of_row w1 (w.heap.size + 1) 5 _ _ _ hk
    simp only [List.getElem?_toArray, List.getElem?_cons_succ, List.getElem?_cons_zero] at a0 a1 a2 a3 a4 a5
    have hNs := lt_of_blk hk
    clear hk hr g HP HC HB2
    generalize w.heap.size + 1 = N at *
    go_wp2_with fail
    refine bodyPost_ret (v := .tuple #[reG ⟨0, 0, d, code == 5, false, false⟩, .slice A ws.length cap]) ?_ rfl ⟨A, cap, rfl, HR.out.2.1, HR.out.1⟩
    rw [results_cell_tmp rfl]; go_simp; rfl
  | false =>
    rw [hs] at HB2 HP
    obtain ⟨j, s, e1, e2, hcall⟩ := pc_recv x HP.out hb hc
    have HE : Hid (doX S x = (S.set j (rc s).1, ⟨0, (rc s).2.1, (rc s).2.2.1, false, false, false⟩, (rc s).2.2.2.2)) := by
      show _ = _
      unfold doX; rw [e1]; simp only; rw [e2]; simp only; rw [if_neg (by rw [hs]; simp)]
    have HC := Lib.hid hcall
    unfold DxR
    rw [HE.out]
    simp only
    generalize rc s = g at *
    obtain ⟨s', v, d, dn, ws⟩ := g
    simp only at HC ⊢
    clear h hb hc hcall HE e1 e2 hs
    go_enter Try.func48, Try.ntmps48
    go_wp2_with fail
    refine HC.out.mono ?_
    rintro e w1 ⟨A, cap, rfl, hr, g⟩
    have hk : w1.heap[w.heap.size + 1]? = some (.cells #[.int .i64 0, .int .i64 0, .bool false, .bool false, .bool false, .bool false] 46 (0, 0)) := by
      obtain ⟨F1, _, _, k⟩ := g
      have h9 := heap_alloc_new (w.alloc (.cells #[.pointer (ptr B x), .bool false, .int .i64 x.v] 65)) (.cells #[.int .i64 0, .int .i64 0, .bool false, .bool false, .bool false, .bool false] 46)
      rw [World.size_alloc] at h9
      exact HP.out.row k h9 o46
    have HR := Lib.hid ((g.early HB2.out).res (b0 := .int .i64 0) (b1 := .int .i64 v) (b2 := .bool d) (b3 := .bool false) (b4 := .bool false) (b5 := .bool false) hr hk (by omega) HW.out)
    have f0 := frozen_of_row w1 (w.heap.size + 1) 0 _ _ hk
    have f1 := frozen_of_row w1 (w.heap.size + 1) 1 _ _ hk
    have f2 := frozen_of_row w1 (w.heap.size + 1) 2 _ _ hk
    have f3 := frozen_of_row w1 (w.heap.size + 1) 3 _ _ hk
    have f4 := frozen_of_row w1 (w.heap.size + 1) 4 _ _ hk
    have f5 := frozen_of_row w1 (w.heap.size + 1) 5 _ _ hk
    have a0 := cell_of_row w1 (w.heap.size + 1) 0 _ _ _ hk
    have a1 := cell_of_row w1 (w.heap.size + 1) 1 _ _ _ hk
    have a2 := cell_of_row w1 (w.heap.size + 1) 2 _ _ _ hk
    have a3 := cell_of_row w1 (w.heap.size + 1) 3 _ _ _ hk
    have a4 := cell_of_row w1 (w.heap.size + 1) 4 _ _ _ hk
    have a5 := cell_of_row w1 (w.heap.size + 1) 5 _ _ _ hk
    simp only [List.getElem?_toArray, List.getElem?_cons_succ, List.getElem?_cons_zero] at a0 a1 a2 a3 a4 a5
    have hNs := lt_of_blk hk
    clear hk hr g HP HC HB2
    generalize w.heap.size + 1 = N at *
    go_wp2_with fail
    refine bodyPost_ret (v := .tuple #[reG ⟨0, v, d, false, false, false⟩, .slice A ws.length cap]) ?_ rfl ⟨A, cap, rfl, HR.out.2.1, HR.out.1⟩
    rw [results_cell_tmp rfl]; go_simp; rfl
theorem pc_wait (x : Ca) (t k : Int) (ht : Wf t) (h : PC W B S [] [] F w) (hb : BN 1000 S) : Calls Try.prog 35 #[.pointer (ptr B x), wG ⟨t, k, if x.s = true then x.v else 0⟩, .bool x.s] w fun e w' => (∃ r, e = .returned (.int .i64 r)) ∧ PN W B (pk1 S x t k) [] [] F w w' := by
  rcases h.case x with ⟨h1, h2⟩ | ⟨j, c, s, hx, hB, hS, h1, h2⟩
  · have e : pk1 S x t k = S := by
      unfold pk1
      unfold chO at h2
      cases hi : x.ix with
      | none => rfl
      | some j => rw [hi] at h2; simp only [Option.bind_some] at h2; simp only [h2]
    rw [h1, e]
    refine (wait_nil ⟨t, k, if x.s = true then x.v else 0⟩ x.s w).mono ?_
    rintro e w' ⟨rfl, hb⟩
    exact ⟨⟨_, rfl⟩, h.pn hb⟩
  · have e : pk1 S x t k = S.set j (wt s ⟨t, k, if x.s = true then x.v else 0⟩ x.s).1 := by unfold pk1; rw [hx]; simp only; rw [hS]
    rw [h1, e]
    obtain ⟨Fi, hch, bk⟩ := h.chan hB hS
    have hn := hb.at hS
    refine (wait_any ⟨t, k, if x.s = true then x.v else 0⟩ x.s ht hch (by intro z; unfold nw at hn; cases z <;> simp [CS.q] <;> omega)).mono ?_
    rintro e w' ⟨rfl, g⟩
    exact ⟨⟨_, rfl⟩, bk _ _ g⟩
theorem pc_remove (x : Ca) (t : Int) (h : PC W B S [] [] F w) (hb : BN 1000 S) : Calls Try.prog 37 #[.pointer (ptr B x), .int .i64 t] w fun e w' => e = .returned (.int .i64 (lv1 S x t).2) ∧ PN W B (lv1 S x t).1 [] [] F w w' := by
  rcases h.case x with ⟨h1, h2⟩ | ⟨j, c, s, hx, hB, hS, h1, h2⟩
  · have e : lv1 S x t = (S, 0) := by
      unfold lv1
      unfold chO at h2
      cases hi : x.ix with
      | none => rfl
      | some j => rw [hi] at h2; simp only [Option.bind_some] at h2; simp only [h2]
    rw [h1, e]
    refine (remove_nil t w).mono ?_
    rintro e w' ⟨rfl, rfl⟩
    exact ⟨rfl, PN.same h⟩
  · have e : lv1 S x t = (S.set j (gone s t), ctG s t) := by unfold lv1; rw [hx]; simp only; rw [hS]
    rw [h1, e]
    obtain ⟨Fi, hch, bk⟩ := h.chan hB hS
    have hn := hb.at hS
    refine (remove_chan t hch (by unfold nw at hn; omega) (by unfold nw at hn; omega)).mono ?_
    rintro e w' ⟨rfl, g⟩
    exact ⟨rfl, bk _ _ g⟩
end
/-- Since w0, the cases stand where they stood. -/
structure PK (W : World) (B : List Nat) (S : List CS) (F : Nat → Prop) (w0 : World) (A : Option Addr) (n : Nat) (l : List Ca) (w : World) : Prop where
  pn : PN W B S [] [] F w0 w
  rd : RdX 65 B w A n l
section
variable {W w0 w w' : World} {B : List Nat} {S S' : List CS} {F : Nat → Prop} {A : Option Addr} {n : Nat} {l : List Ca}
theorem PK.later (h : PK W B S F w0 A n l w) (hb : Below w.heap.size w w') : PK W B S F w0 A n l w' := ⟨h.pn.later hb, h.rd.later hb⟩
theorem PK.at (h : PK W B S F w0 A n l w) : ∃ F1, PC W B S [] [] F1 w ∧ ∀ S' w', PN W B S' [] [] F1 w w' → PK W B S' F w0 A n l w' ∧ Kf F1 [] w w' := by
  obtain ⟨⟨F1, h1, h2, h3⟩, h4⟩ := h
  refine ⟨F1, h1, fun S' w' ⟨F2, k1, k2, k3⟩ => ⟨⟨⟨F2, k1, fun b hb => ?_, h3.trans h2 k3⟩, h4.kf o65 h1 k3⟩, k3⟩⟩
  rcases k2 b hb with h9 | h9
  · exact h2 b h9
  · exact .inr (Nat.le_trans h3.1 h9)
theorem PK.size (h : PK W B S F w0 A n l w) : w0.heap.size ≤ w.heap.size := by obtain ⟨⟨F1, h1, h2, h3⟩, _⟩ := h; exact h3.1
set_option maxRecDepth 100000 in
set_option maxHeartbeats 4000000 in
theorem leave_any {cap : Nat} (t : Int) (h : PC W B S [] [] F w) (hb : BN 100 S) (hl : RdX 65 B w A n l) (hn : n ≤ 1000) : Calls Try.prog 20 #[.slice A n cap, .int .i64 t] w fun e w' => e = .returned (.int .i64 (lvS S l t l.length).2) ∧ PN W B (lvS S l t l.length).1 [] [] F w w' := by
  have HB := Lib.hid hb
  have HLN : Hid (l.length = n) := hl.1
  have HS : Hid (PK W B (lvS S l t 0).1 F w A n l w) := ⟨PN.same h, hl⟩
  have b1 : (n : Int) ≤ 1000 := by omega
  have b2 : 0 ≤ (n : Int) := by omega
  clear h hb hl
  go_enter Try.func20, Try.ntmps20
  go_wp2_with fail
  go_loopw [5, 10] (fun g i wr => ∃ k : Nat, k ≤ n ∧ i = .int .i64 k ∧ g = .int .i64 (lvS S l t k).2 ∧ Hid (PK W B (lvS S l t k).1 F w A n l wr)) (fun _ i _ => n - (intOf i).toNat)
  case atStart => exact ⟨0, by omega, rfl, rfl, HS⟩
  case round =>
    clear HS
    obtain ⟨k, hk, rfl, rfl, hS⟩ := hrel
    by_cases hlt : k < n
    · have k1 : (k : Int) < (n : Int) := by omega
      have k2 : 0 ≤ (k : Int) := by omega
      have hkl : k < l.length := by rw [HLN.out]; exact hlt
      have hx : l[k]? = some (l[k]'hkl) := List.getElem?_eq_getElem hkl
      have HK := Lib.hid hx
      obtain ⟨bb, off, cs, rfl, hbb, c0, c1, c2⟩ := hS.out.rd.at hx
      generalize l[k]'hkl = x at *
      have hbs := lt_of_blk hbb
      have HS1 := Lib.hid (hS.out.later (below_al wr (.cells #[.pointer (ptr B x), .bool x.s, .int .i64 x.v] 65)))
      have HC := Lib.hid (fun F1 S1 (hb : BN 1000 S1) (hp : PC W B S1 [] [] F1 (wr.alloc (.cells #[.pointer (ptr B x), .bool x.s, .int .i64 x.v] 65))) => pc_remove x t hp hb)
      have HBS := Lib.hid ((BN.lS HB.out l t k).mono (show 100 ≤ 1000 by omega))
      have hct := BN.ct HB.out l t k
      have hct1 := BN.ct1 (BN.lS HB.out l t k) x t
      have HE : Hid (lvS S l t (k + 1) = ((lv1 (lvS S l t k).1 x t).1, (lvS S l t k).2 + (lv1 (lvS S l t k).1 x t).2)) := lvS_succ HK.out
      generalize lvS S l t k = g at *
      obtain ⟨Sg, cg⟩ := g
      simp only at hct hct1 HE HS1 HC HBS ⊢
      have q1 : 0 ≤ cg := by omega
      have q2 : cg ≤ 100000 := by omega
      clear hx hkl hS hbb hct
      go_wp2_with fail
      obtain ⟨F1, hp, hbk⟩ := HS1.out.at
      refine (HC.out _ _ HBS.out hp).mono ?_
      rintro e w2 ⟨rfl, g2⟩
      have HS2 := Lib.hid (hbk _ _ g2).1
      clear hp hbk g2 HC HS1 HBS c0 c1 c2
      have q3 : IntKind.i64.wrap (cg + (lv1 Sg x t).2) = cg + (lv1 Sg x t).2 := by rw [IntKind.wrap_i64]; omega
      go_wp2_with fail
      go_roundw
      case rel => exact ⟨k + 1, by omega, by go_num, by rw [HE.out], by rw [HE.out]; exact HS2⟩
      case measure => simp [intOf]; omega
    · obtain rfl : k = n := by omega
      have HO := Lib.hid hS.out.pn
      clear hS
      go_wp2_with fail
      go_ret
      exact ⟨ret_int (by rw [HLN.out]), by rw [HLN.out]; exact HO.out⟩
end
end Go.Proofs.Ytmcacmbllpphiaa
