/- Pop takes the first value. Conditions: each theorem's own premises. -/
import Derived.Test.YtmjogkjdjhhilaaPsh
namespace Go.Proofs.Ytmjogkjdjhhilaa
open Go.RowKit
set_option linter.unusedVariables false

def PopR (a p sz : Nat) (l : List Int) (x : Int) (b : Bool) (w : World) (e : Ending) (w' : World) : Prop := e = .returned (.tuple #[.int .i64 x, .bool b]) ∧ RG w' a p sz l ∧ Only a p w w'
theorem PopR.draw {a p sz : Nat} {l : List Int} {x : Int} {b : Bool} {w w' w'' : World} {e : Ending} (h : PopR a p sz l x b w e w') (hh : w''.heap = w'.heap) (h1 : w''.os = w'.os) (h2 : w''.tape = w'.tape) (h3 : w''.output = w'.output) : PopR a p sz l x b w e w'' :=
  ⟨h.1, h.2.1.keep (by rw [hh]) (by rw [hh]), ⟨h1.trans h.2.2.os, h2.trans h.2.2.tape, h3.trans h.2.2.output, by rw [hh]; exact h.2.2.size, fun k q r => by rw [hh]; exact h.2.2.block k q r⟩⟩
theorem pop_none {a p sz : Nat} (w : World) (h : RG w a p sz []) : Calls Try.prog 9 #[.pointer (some ⟨a, 0, none⟩)] w (PopR a p sz [] 0 false w) := by
  have HR := Lib.hid h
  obtain ⟨f, ps, h⟩ := h
  have h2 : w.cell? ⟨a, 2, none⟩ = some (.int .i64 0) := h.c2
  clear h
  go_enter Try.func9, Try.ntmps9
  go_wp2
  go_ret2
  exact ⟨rfl, HR.out, Only.refl _ _ _⟩

theorem RI.popped {a p sz f : Nat} {ps l : List Int} {x : Int} {w : World} (h : RI w a p sz f ps (x :: l)) :
    PopR a p sz l x true w (.returned (.tuple #[.int .i64 x, .bool true])) (((w.setCell ⟨p, f, none⟩ (.int .i64 0)).setCell ⟨a, 1, none⟩ (.int .i64 (((f + 1) % sz : Nat) : Int))).setCell ⟨a, 2, none⟩ (.int .i64 (l.length : Int))) := by
  have hne := h.ne
  refine ⟨rfl, ⟨(f + 1) % sz, ps.set f 0, ⟨hne, by simpa using h.len, ?_, ?_, ?_⟩⟩, (((Only.refl _ _ _).set (.inr rfl) _).set (.inl rfl) _).set (.inl rfl) _⟩
  · have := h.q.pop
    rw [h.len] at this
    exact this
  · rw [Below.heap_setCell _ _ _ _ (by exact fun e => hne e.symm), Below.heap_setCell _ _ _ _ (by exact fun e => hne e.symm), heap_setCell_same w p _ _ _ _ h.hp, iA_set]
  · rw [heap_setCell_same _ a 2 _ _ _ (heap_setCell_same _ a 1 _ _ _ (by rw [Below.heap_setCell _ _ _ _ (by exact hne)]; exact h.ha))]
    simp

theorem pop_some {a p sz : Nat} {x : Int} {l : List Int} (w : World) (h : RG w a p sz (x :: l)) (hz : sz ≤ 64) : Calls Try.prog 9 #[.pointer (some ⟨a, 0, none⟩)] w (PopR a p sz l x true w) := by
  obtain ⟨f, ps, h⟩ := h
  have hs : 0 < sz := by have := h.le; simp at this; omega
  have hll : l.length < 64 := by have := h.le; simp at this; omega
  have h0 := h.c0
  have h1 := h.c1
  have h2 : w.cell? ⟨a, 2, none⟩ = some (.int .i64 ((l.length : Int) + 1)) := by have := h.c2; simpa using this
  have hne := h.ne
  have hf := h.lt hs
  have HE := Lib.hid h.popped
  have hcp := h.cp h.q.head
  have hfp := h.fp f
  have hfa1 := h.fa 1
  have hfa2 := h.fa 2
  have k2 : (f : Int) < (sz : Int) := by omega
  have k3 : (0 : Int) ≤ (f : Int) := by omega
  have k4 : (0 : Int) ≤ (l.length : Int) + 1 := by omega
  have k5 : (l.length : Int) + 1 ≤ 64 := by omega
  have k6 : (((l.length : Int) + 1 == 0) = false) := by simp; omega
  clear h
  go_enter Try.func9, Try.ntmps9
  go_wp2_with fail
  go_quiet (fail)
  go_wp2_with fail
  go_region
  go_wp2_with fail
  refine (place_any a sz f 1 (some ⟨p, 0, none⟩) _ ?g0 ?g1 hs hz hf (by omega)).mono ?_
  case g0 => go_simp
  case g1 => go_simp
  rintro e w2 ⟨rfl, n2, rfl⟩
  go_wp2_with fail
  go_ret2
  exact HE.out.draw rfl rfl rfl rfl
end Go.Proofs.Ytmjogkjdjhhilaa
