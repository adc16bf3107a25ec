/- The law's shows: both sides show the same. Conditions: each theorem's own premises. -/
import Derived.Test.YtmadcnpkaijllaaGreatDk1
import Derived.Test.YtmadcnpkaijllaaGreatShn
namespace Go.Proofs.YtmadcnpkaijllaaGreat
open Go.RowKit Ch
set_option linter.unusedVariables false
set_option maxRecDepth 100000
section
variable {W w w' : World} {b t mo m n k q : Nat} {B RC : List Nat} {X : List Oc} {T : List CS} {S : List It} {g : Int → Int} {now : Int}
/-- What each call of shows answers, whatever the world. -/
def Pk (W : World) (b t mo : Nat) (B RC : List Nat) (X : List Oc) (T : List CS) (m n : Nat) (S : List It) (g : Int → Int) (now a : Int) (P P' : Option Addr) (d : Bool) (kd gn : Int) : Prop := ∀ w', BD W b t mo B RC X T m n S g now w' →
    (Calls Tryz.prog 25 #[pS t, .int .i64 a] w' fun e w2 => e = .returned (.pointer P) ∧ Below w'.heap.size w' w2) ∧
    (Calls Tryz.prog 27 #[pM mo, .int .i64 a] w' fun e w2 => e = .returned (.pointer P') ∧ w' = w2) ∧
    (Calls Tryz.prog 34 #[pS t] w' fun e w2 => e = .returned (.int .i64 (X.length : Int)) ∧ w' = w2) ∧
    (Calls Tryz.prog 35 #[pS t, .int .i64 a] w' fun e w2 => e = .returned (.int .i64 kd) ∧ Below w'.heap.size w' w2) ∧
    (Calls Tryz.prog 36 #[pM mo, .int .i64 a] w' fun e w2 => e = .returned (.int .i64 kd) ∧ w' = w2) ∧
    (Calls Tryz.prog 16 #[pS t, .int .i64 a] w' fun e w2 => e = .returned (.int .i64 gn) ∧ Below w'.heap.size w' w2) ∧
    (Calls Tryz.prog 37 #[pM mo, .int .i64 a] w' fun e w2 => e = .returned (.int .i64 gn) ∧ w' = w2) ∧
    (Calls Tryz.prog 15 #[.pointer P, .bool false] w' fun e w2 => e = .returned (.bool d) ∧ Below w'.heap.size w' w2) ∧
    (Calls Tryz.prog 38 #[.pointer P', .bool false] w' fun e w2 => e = .returned (.bool d) ∧ Below w'.heap.size w' w2) ∧
    (Calls Tryz.prog 39 #[.pointer P] w' fun e w2 => e = .returned (.int .i64 0) ∧ w' = w2) ∧
    (Calls Tryz.prog 40 #[.pointer P] w' fun e w2 => e = .returned (.int .i64 0) ∧ w' = w2)
theorem pk_any (h : BD W b t mo B RC X T m n S g now w) (iv : Iv k 0 X T m n S g now) (a : Int) : ∃ (d z : Bool) (P P' : Option Addr) (kd gn : Int), P.isNone = z ∧ P'.isNone = z ∧ Pk W b t mo B RC X T m n S g now a P P' d kd gn := by
  obtain ⟨d, z, P, P', rfl, rfl, h3, h4, h5⟩ := h.looks iv a
  obtain ⟨e1, e2⟩ := eA_on (X := X) B RC a
  refine ⟨d, z, _, _, (eA (X.map (on B)) a).kd, (eA (X.map (on B)) a).gn, h3, h4, fun w' h' => ⟨chan_bel a h'.ss, rchan_any a h'.rs, ?_, kind_bel a h'.ss, ?_, gen_bel a h'.ss, ?_, ?_, ?_, (h5 w' h').2.2.1, (h5 w' h').2.2.2⟩⟩
  · have := len_set h'.ss
    rwa [on_len] at this
  · rw [e1]; exact rkind_any a h'.rs
  · rw [e2]; exact rgen_any a h'.rs
  · refine (h5 w' h').1.mono ?_
    rintro e w2 ⟨rfl, q, rfl⟩
    exact ⟨rfl, below_drewN _ _⟩
  · refine (h5 w' h').2.1.mono ?_
    rintro e w2 ⟨rfl, q, rfl⟩
    exact ⟨rfl, below_drewN _ _⟩
/-- The cells that shows reads. -/
theorem BD.reads (h : BD W b t mo B RC X T m n S g now w) : ∃ P0 c0 A0 c1, (w.cell? ⟨b, 0, none⟩ = some (pS t) ∧ w.cell? ⟨b, 1, none⟩ = some (pM mo) ∧ w.cell? ⟨mo, 3, none⟩ = some (.slice P0 X.length c0) ∧ w.cell? ⟨mo, 0, none⟩ = some (.slice A0 S.length c1)) ∧
    ∀ x r, S = x :: r → ∃ gb off, A0 = some ⟨gb, off, none⟩ ∧ gb < w.heap.size ∧ w.cell? ⟨gb, off + 1, none⟩ = some (.int .i64 x.w) := by
  obtain ⟨P0, c0, k3, -⟩ := h.rs.cells
  rw [on_len] at k3
  obtain ⟨p, P, c, h1, h2⟩ := h.rs
  obtain ⟨hB, A, c2, u, v, hwn, hb⟩ := h1.blk
  have hb0 : Bc b t mo now w := h.cb
  refine ⟨P0, c0, A, c2, ⟨hb0.cells.1, hb0.cells.2.1, k3, by rw [cell_of_row w mo 0 _ _ _ hb]; rfl⟩, fun x r e => ?_⟩
  subst e
  obtain ⟨gb, off, e1, -, e2, e3⟩ := hwn.cells (by simp)
  have := (e3 0 x rfl).2.1
  rw [Nat.zero_mul, Nat.add_zero] at this
  exact ⟨gb, off, e1, e2, this⟩
end
end Go.Proofs.YtmadcnpkaijllaaGreat
