/- Each act of package expire and of the document, side by side: both answer the same, and come to be the same. Conditions: each theorem's own premises. -/
import Derived.Test.YtbpoippgioincaaQtk
namespace Go.Proofs.Ytbpoippgioincaa
open Go.RowKit
set_option linter.unusedVariables false
set_option maxRecDepth 100000
/-- What holds of all timers: times and periods that may be; no period but of who is armed. -/
structure Inv (n : Nat) (S : List It) (g : Int → Int) : Prop where
  ok : Ok n S
  ft : ∀ x ∈ S, Fit x.w
  fg : ∀ k, Fit (g k)
  nz : ∀ k, k ∉ ids S → g k = 0
theorem gone_zero {g : Int → Int} {k : Int} (h : g k = 0) : fput g k 0 = g := by
  funext y; unfold fput; split
  · rename_i e; rw [e, h]
  · rfl
section
variable {n : Nat} {S : List It} {g : Int → Int} {k x y : Int}
theorem Inv.start : Inv 0 [] (fun _ => 0) := ⟨Ok.nil 0, fun x h => (by cases h), fun _ => ⟨by omega, by omega⟩, fun _ _ => rfl⟩
theorem Inv.arm (h : Inv n S g) (hx : Fit x) (hy : Fit y) : Inv (n + 1) (ins ⟨k, x, (n : Int) + 1⟩ (del k S)) (fput g k y) := by
  refine ⟨(h.ok.del k).ins k x del_ids, fun z hz => ?_, fun j => ?_, fun j hj => ?_⟩
  · rcases ins_mem.1 hz with rfl | hz
    · exact hx
    · exact h.ft z (del_mem.1 hz).1
  · unfold fput; split
    · exact hy
    · exact h.fg j
  · have h1 : ¬ (j = k ∨ j ∈ ids (del k S)) := fun e => hj (by rw [ids_ins.mem_iff]; simpa using e)
    have h2 : j ≠ k := fun e => h1 (.inl e)
    rw [fput_ne h2]
    exact h.nz j fun e => h1 (.inr (mem_del_ids.2 ⟨e, h2⟩))
theorem Inv.del (h : Inv n S g) : Inv n (Ytbpoippgioincaa.del k S) (fput g k 0) := by
  refine ⟨h.ok.del k, fun z hz => h.ft z (del_mem.1 hz).1, fun j => ?_, fun j hj => ?_⟩
  · unfold fput; split
    · exact ⟨by omega, by omega⟩
    · exact h.fg j
  · by_cases e : j = k
    · subst e; exact fput_at _ _ _
    · rw [fput_ne e]
      exact h.nz j fun e2 => hj (mem_del_ids.2 ⟨e2, e⟩)
end
/-- Both, from one state, come to another, and answer v. -/
def Both (f r : Nat) (xs : List Value) (n : Nat) (S : List It) (g : Int → Int) (n' : Nat) (S' : List It) (g' : Int → Int) (v : Value) : Prop :=
  (∀ B t o b c w, TN B t o b c n S g w → Calls Try.prog f (pT t :: xs).toArray w (XR B t o b c n' S' g' v w)) ∧
  ∀ B m p w, MT B m p n S g w → B ≤ w.heap.size → Calls Try.prog r (.pointer (some ⟨m, 0, none⟩) :: xs).toArray w (MC B m p n' S' g' v w)
section
variable {B m n : Nat} {w w' : World} {p : Option Nat} {S : List It} {g : Int → Int} {e : Ending} {v : Value}
theorem TN.hold {t o b c : Nat} (h : TN B t o b c n S g w) (hr : e = .returned v ∧ w = w') : XR B t o b c n S g v w e w' := h.same ⟨hr.1, by rw [hr.2]; exact Below.refl _ _⟩
theorem MT.same (h : MT B m p n S g w) (hr : e = .returned v ∧ Below w.heap.size w w') : MC B m p n S g v w e w' := ⟨hr.1, p, h.later hr.2, KT.of_below p hr.2⟩
theorem MT.hold (h : MT B m p n S g w) (hr : e = .returned v ∧ w = w') : MC B m p n S g v w e w' := h.same ⟨hr.1, by rw [hr.2]; exact Below.refl _ _⟩
end
theorem arm_both {n : Nat} {S : List It} {g : Int → Int} (k x y : Int) (h : Inv n S g) (hk : Wf k) (hn : n ≤ 1000000) (hl : S.length ≤ 900) :
    ∃ v n' S' g', n' ≤ n + 1 ∧ S'.length ≤ S.length + 1 ∧ Inv n' S' g' ∧ Both 30 31 [.int .i64 k, .int .i64 x, .int .i64 y] n S g n' S' g' (.int .i64 v) := by
  by_cases hf : Fit x ∧ Fit y
  · refine ⟨0, n + 1, _, _, Nat.le_refl _, ?_, h.arm hf.1 hf.2, fun B t o b c w ht => tn_arm k x y ht hk hf.1 hf.2 hn (by omega), fun B m p w hm hB => rarm_any k x y hm h.ok hf.1 hf.2 hn (by omega) hB⟩
    rw [ins_len]
    have : (del k S).length ≤ S.length := by unfold del; exact List.length_filter_le _ _
    omega
  · exact ⟨1, n, S, g, by omega, by omega, h, fun B t o b c w ht => (tn_arm_bad k x y t w hf).mono fun _ _ r => ht.hold r, fun B m p w hm hB => (rarm_bad k x y m w hf).mono fun _ _ r => hm.hold r⟩
theorem stop_both {n : Nat} {S : List It} {g : Int → Int} (k : Int) (h : Inv n S g) (hk : Wf k) (hl : S.length ≤ 900) :
    ∃ v S' g', S'.length ≤ S.length + 1 ∧ Inv n S' g' ∧ Both 32 33 [.int .i64 k] n S g n S' g' (.bool v) := by
  by_cases hm : k ∈ ids S
  · obtain ⟨q, x, hx, rfl⟩ := ids_mem hm
    refine ⟨true, _, _, ?_, h.del (k := x.id), fun B t o b c w ht => tn_stop_yes ht (at_mem hx) (by omega), fun B m p w hm2 hB => rstop_yes hm2 h.ok (at_mem hx) (by omega) hB⟩
    have : (del x.id S).length ≤ S.length := by unfold del; exact List.length_filter_le _ _
    omega
  · have e := gone_zero (h.nz k hm)
    refine ⟨false, S, g, by omega, h, fun B t o b c w ht => ?_, fun B m p w hm2 hB => rstop_no hm2 h.ok hm (by omega)⟩
    have := tn_stop_no ht hk hm
    rwa [e] at this
theorem take_both {n : Nat} {S : List It} {g : Int → Int} (now : Int) (h : Inv n S g) (hn : n ≤ 1000000) (hl : S.length ≤ 900) :
    ∃ i x y d n' S' g', n' ≤ n + 1 ∧ S'.length ≤ S.length + 1 ∧ Inv n' S' g' ∧ Both 34 35 [.int .i64 now] n S g n' S' g' (.tuple #[vD i x y, .bool d]) := by
  by_cases hneg : now < 0
  · have hi : Idle now S := by
      cases S with
      | nil => trivial
      | cons x S => have := (h.ft x (by simp)).1; show now < x.w; omega
    exact ⟨0, 0, 0, false, n, S, g, by omega, by omega, h, fun B t o b c w ht => tn_take_no ht (by omega) hi, fun B m p w hm hB => (rtake_neg hm hneg).mono fun _ _ r => hm.same r⟩
  cases S with
  | nil => exact ⟨0, 0, 0, false, n, [], g, by omega, by simp, h, fun B t o b c w ht => tn_take_no ht (by simp) trivial, fun B m p w hm hB => (rtake_empty hm hneg).mono fun _ _ r => hm.same r⟩
  | cons x S =>
    by_cases hw : now < x.w
    · exact ⟨0, 0, 0, false, n, x :: S, g, by omega, by omega, h, fun B t o b c w ht => tn_take_no ht (by omega) hw, fun B m p w hm hB => (rtake_early hm hneg hw).mono fun _ _ r => hm.same r⟩
    · have hle : x.w ≤ now := by omega
      have hfx := h.ft x (by simp)
      have hfg := h.fg x.id
      have hdl : del x.id (x :: S) = S := h.ok.tail.1
      by_cases hg : Gon x.w (g x.id) now
      · have hI : Inv (n + 1) (ins ⟨x.id, nx x.w (g x.id) now, (n : Int) + 1⟩ (del x.id (x :: S))) (fput g x.id (g x.id)) := h.arm ⟨by have := hg.2; omega, by unfold nx; split <;> first | exact hfx.2 | exact hd_hi _⟩ hfg
        have hgg : fput g x.id (g x.id) = g := by
          funext z; unfold fput; split
          · rename_i e; rw [e]
          · rfl
        rw [hdl, hgg] at hI
        exact ⟨x.id, x.w, now, true, n + 1, _, g, by omega, by rw [ins_len]; simp, hI, fun B t o b c w ht => tn_take_on ht hn (by omega) hle hg, fun B m p w hm hB => rtake_on hm h.ok (by omega) hn hB hneg hle hfx hfg hg⟩
      · have hI := h.del (k := x.id)
        rw [hdl] at hI
        exact ⟨x.id, x.w, now, true, n, S, _, by omega, by simp; omega, hI, fun B t o b c w ht => tn_take_end ht (by omega) hle hg, fun B m p w hm hB => rtake_end hm h.ok (by omega) hn hB hneg hle hfx hfg hg⟩
theorem armed_both {n : Nat} {S : List It} {g : Int → Int} (k : Int) (h : Inv n S g) (hk : Wf k) (hl : S.length ≤ 900) :
    ∃ x y d, Both 36 37 [.int .i64 k] n S g n S g (.tuple #[.int .i64 x, .int .i64 y, .bool d]) := by
  by_cases hm : k ∈ ids S
  · obtain ⟨q, x, hx, rfl⟩ := ids_mem hm
    exact ⟨_, _, _, fun B t o b c w ht => tn_armed_yes ht (at_mem hx) (by omega), fun B m p w hm2 hB => (rarmed_yes hm2 h.ok (at_mem hx) (by omega)).mono fun _ _ r => hm2.same r⟩
  · refine ⟨0, 0, false, fun B t o b c w ht => ?_, fun B m p w hm2 hB => (rarmed_no hm2 hm (by omega)).mono fun _ _ r => hm2.same r⟩
    have := tn_armed_no ht hk hm
    rwa [h.nz k hm] at this
/-! The state of the law. -/
theorem XS.kt {W w w' : World} {t o b c n n2 m : Nat} {S S2 : List It} {g g2 : Int → Int} {p p' : Option Nat} (h : XS W t o b c n S g w) (hm : MT W.heap.size m p n2 S2 g2 w) (hc : KT m p p' w w') : XS W t o b c n S g w' := by
  obtain ⟨hb, q, N, hN, ht⟩ := h
  have far : ∀ k, k < w.heap.size → (∀ cs fr, w.heap[k]? ≠ some (.cells cs 56 fr)) → (∀ cs fr, w.heap[k]? ≠ some (.cells cs 39 fr)) → w'.heap[k]? = w.heap[k]? := fun k hk h1 h2 => by
    refine hc.block k hk ?_ ?_
    · rintro rfl
      obtain ⟨cs, h3⟩ := hm.tm
      exact h1 _ _ h3
    · intro e
      obtain ⟨cs, fr, h3⟩ := hm.tp e
      exact h2 _ _ h3
  refine ⟨hb.trans ((hm.low hb.size hc).mono (Nat.le_refl _)), q, N, hN, ht.hg.keep (far o ht.hg.lo ?_ ?_) (far b ht.hg.lb ?_ ?_) (fun k hk => far k (ht.hg.lp hk).2 ?_ ?_), (far t ht.lt ?_ ?_).trans ht.ht, ht.pm.keep (far c ht.pm.lt ?_ ?_), ht.ok, ht.gt, ht.gc, ht.ne⟩
  · intro cs fr e; obtain ⟨cs', fr', h4⟩ := ht.hg.to; rw [h4] at e; injection e with e; injection e with _ e _; cases e
  · intro cs fr e; obtain ⟨cs', fr', h4⟩ := ht.hg.to; rw [h4] at e; injection e with e; injection e with _ e _; cases e
  · intro cs fr e; obtain ⟨es, cl, h4⟩ := ht.hg.tb; rw [h4] at e; cases e
  · intro cs fr e; obtain ⟨es, cl, h4⟩ := ht.hg.tb; rw [h4] at e; cases e
  · intro cs fr e; obtain ⟨cs', fr', h4⟩ := ht.hg.tp hk; rw [h4] at e; injection e with e; injection e with _ e _; cases e
  · intro cs fr e; obtain ⟨cs', fr', h4⟩ := ht.hg.tp hk; rw [h4] at e; injection e with e; injection e with _ e _; cases e
  · intro cs fr e; have h4 := ht.ht; rw [h4] at e; injection e with e; injection e with _ e _; cases e
  · intro cs fr e; have h4 := ht.ht; rw [h4] at e; injection e with e; injection e with _ e _; cases e
  · intro cs fr e; obtain ⟨es, cl, h4⟩ := ht.pm.blk; rw [h4] at e; cases e
  · intro cs fr e; obtain ⟨es, cl, h4⟩ := ht.pm.blk; rw [h4] at e; cases e
/-- A row of another kind stands behind a call of the document's. -/
theorem MT.row {B m n : Nat} {p p' : Option Nat} {S : List It} {g : Int → Int} {w w' : World} (hm : MT B m p n S g w) (hc : KT m p p' w w') {k ty : Nat} {cs : Array Value} {fr : Nat × Nat} (h : w.heap[k]? = some (.cells cs ty fr)) (h1 : ty ≠ 56) (h2 : ty ≠ 39) : w'.heap[k]? = some (.cells cs ty fr) := by
  refine (hc.block k (lt_of_blk h) ?_ ?_).trans h
  · rintro rfl
    obtain ⟨cs', h3⟩ := hm.tm
    rw [h3] at h; injection h with h; injection h with _ h _; exact h1 h.symm
  · intro e
    obtain ⟨cs', fr', h3⟩ := hm.tp e
    rw [h3] at h; injection h with h; injection h with _ h _; exact h2 h.symm
/-- The program's timers, the document's, an act's block; rows of two kinds besides. -/
structure AZ (W : World) (t m n : Nat) (S : List It) (g : Int → Int) (n2 : Nat) (S2 : List It) (g2 : Int → Int) (N : Nat) (kd id wh pe : Int) (w : World) : Prop where
  st : XS W t (W.heap.size + 1) W.heap.size (W.heap.size + 2) n S g w
  mt : ∃ p, MT W.heap.size m p n2 S2 g2 w
  ab : w.heap[N]? = some (.cells #[.int .i64 kd, .int .i64 id, .int .i64 wh, .int .i64 pe] 58 (0, 0))
section
variable {W w w' : World} {t m n n2 N n' : Nat} {S S2 S' : List It} {g g2 g' : Int → Int} {kd id wh pe : Int} {v : Value} {e : Ending}
theorem AZ.later (h : AZ W t m n S g n2 S2 g2 N kd id wh pe w) (hb : Below w.heap.size w w') : AZ W t m n S g n2 S2 g2 N kd id wh pe w' :=
  ⟨h.st.later hb, by obtain ⟨p, hp⟩ := h.mt; exact ⟨p, hp.later hb⟩, (hb.block N (lt_of_blk h.ab)).trans h.ab⟩
theorem AZ.hB (h : AZ W t m n S g n2 S2 g2 N kd id wh pe w) : W.heap.size ≤ w.heap.size := h.st.bel.size
theorem AZ.cells (h : AZ W t m n S g n2 S2 g2 N kd id wh pe w) : w.cell? ⟨N, 0, none⟩ = some (.int .i64 kd) ∧ w.cell? ⟨N, 1, none⟩ = some (.int .i64 id) ∧ w.cell? ⟨N, 2, none⟩ = some (.int .i64 wh) ∧ w.cell? ⟨N, 3, none⟩ = some (.int .i64 pe) :=
  ⟨by rw [cell_of_row w N 0 _ _ _ h.ab]; rfl, by rw [cell_of_row w N 1 _ _ _ h.ab]; rfl, by rw [cell_of_row w N 2 _ _ _ h.ab]; rfl, by rw [cell_of_row w N 3 _ _ _ h.ab]; rfl⟩
/-- The program's call. -/
theorem AZ.prog {f r : Nat} {xs : List Value} (h : AZ W t m n S g n2 S2 g2 N kd id wh pe w) (hb : Both f r xs n S g n' S' g' v) : Calls Try.prog f (pT t :: xs).toArray w (fun e w' => e = .returned v ∧ AZ W t m n' S' g' n2 S2 g2 N kd id wh pe w' ∧ OX w w') :=
  (hb.1 _ _ _ _ _ _ h.st.tn).mono fun _ _ x => by
    obtain ⟨h1, h2, h3⟩ := h.st.go x
    exact ⟨h1, ⟨h2, by obtain ⟨p, hp⟩ := h.mt; exact ⟨p, hp.ot h3⟩, h3 N _ 58 (0, 0) h.ab (by decide) (by decide)⟩, h3⟩
/-- No row of another kind has turned by the document's. -/
def KX (w w' : World) : Prop := ∀ (k : Nat) (cs : Array Value) (ty : TypeId) (fr : Nat × Nat), w.heap[k]? = some (.cells cs ty fr) → ty ≠ 56 → ty ≠ 39 → w'.heap[k]? = some (.cells cs ty fr)
/-- The document's call. -/
theorem AZ.ref {f r : Nat} {xs : List Value} (h : AZ W t m n S g n2 S2 g2 N kd id wh pe w) (hb : Both f r xs n2 S2 g2 n' S' g' v) : Calls Try.prog r (.pointer (some ⟨m, 0, none⟩) :: xs).toArray w (fun e w' => e = .returned v ∧ AZ W t m n S g n' S' g' N kd id wh pe w' ∧ KX w w') := by
  obtain ⟨p, hp⟩ := h.mt
  exact (hb.2 _ _ _ _ hp h.hB).mono fun _ _ x => by
    obtain ⟨h1, p', h2, h3⟩ := x
    exact ⟨h1, ⟨h.st.kt hp h3, ⟨p', h2⟩, hp.row h3 h.ab (by decide) (by decide)⟩, fun k cs ty fr e h4 h5 => hp.row h3 e h4 h5⟩
end
end Go.Proofs.Ytbpoippgioincaa
