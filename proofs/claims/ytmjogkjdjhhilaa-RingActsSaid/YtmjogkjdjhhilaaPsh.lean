/- Push puts a value behind where there is room. Conditions: each theorem's own premises. -/
import Derived.Test.YtmjogkjdjhhilaaOps
namespace Go.Proofs.Ytmjogkjdjhhilaa
open Go.RowKit
set_option linter.unusedVariables false

def PushR (a p sz : Nat) (l : List Int) (b : Bool) (w : World) (e : Ending) (w' : World) : Prop := e = .returned (.bool b) ∧ RG w' a p sz l ∧ Only a p w w'
theorem push_full {a p sz : Nat} {l : List Int} (v : Int) (w : World) (h : RG w a p sz l) (hl : l.length = sz) : Calls Try.prog 11 #[.pointer (some ⟨a, 0, none⟩), .int .i64 v] w (PushR a p sz l false w) := by
  have HR := Lib.hid h
  obtain ⟨f, ps, h⟩ := h
  have h0 := h.c0
  have h2 := h.c2
  rw [hl] at h2
  clear h hl
  go_enter Try.func11, Try.ntmps11
  go_wp2_with fail
  go_quiet (fail)
  go_wp2
  go_ret
  exact ⟨rfl, HR.out.keep rfl rfl, (Only.refl _ _ _).drewN _⟩

theorem PushR.draw {a p sz : Nat} {l : List Int} {b : Bool} {w w' w'' : World} {e : Ending} (h : PushR a p sz l b w e w') (hh : w''.heap = w'.heap) (h1 : w''.os = w'.os) (h2 : w''.tape = w'.tape) (h3 : w''.output = w'.output) : PushR a p sz l b w e w'' :=
  ⟨h.1, h.2.1.keep (by rw [hh]) (by rw [hh]), ⟨h1.trans h.2.2.os, h2.trans h.2.2.tape, h3.trans h.2.2.output, by rw [hh]; exact h.2.2.size, fun k q r => by rw [hh]; exact h.2.2.block k q r⟩⟩
theorem RI.pushed {a p sz f : Nat} {ps l : List Int} {w : World} (h : RI w a p sz f ps l) (hl : l.length < sz) (v : Int) :
    PushR a p sz (l ++ [v]) true w (.returned (.bool true)) ((w.setCell ⟨p, (f + l.length) % sz, none⟩ (.int .i64 v)).setCell ⟨a, 2, none⟩ (.int .i64 ((l.length : Int) + 1))) := by
  have hne := h.ne
  refine ⟨rfl, ⟨f, ps.set ((f + l.length) % sz) v, ⟨hne, by simpa using h.len, ?_, ?_, ?_⟩⟩, ((Only.refl _ _ _).set (.inr rfl) _).set (.inl rfl) _⟩
  · have := h.q.push (by rw [h.len]; exact hl) v
    rw [h.len] at this
    exact this
  · rw [Below.heap_setCell _ _ _ _ (by exact fun e => hne e.symm), heap_setCell_same w p _ _ _ _ h.hp, iA_set]
  · rw [heap_setCell_same _ a 2 _ _ _ (by rw [Below.heap_setCell _ _ _ _ (by exact hne)]; exact h.ha)]
    simp

theorem push_room {a p sz : Nat} {l : List Int} (v : Int) (w : World) (h : RG w a p sz l) (hz : sz ≤ 64) (hl : l.length < sz) : Calls Try.prog 11 #[.pointer (some ⟨a, 0, none⟩), .int .i64 v] w (PushR a p sz (l ++ [v]) true w) := by
  obtain ⟨f, ps, h⟩ := h
  have h0 := h.c0
  have h1 := h.c1
  have h2 := h.c2
  have hne := h.ne
  have hf := h.lt (by omega)
  have HE := Lib.hid (h.pushed hl v)
  obtain ⟨x, hx⟩ : ∃ x, ps[(f + l.length) % sz]? = some x := ⟨_, List.getElem?_eq_getElem (by rw [h.len]; exact Nat.mod_lt _ (by omega))⟩
  have hcp := h.cp hx
  have hfp := h.fp ((f + l.length) % sz)
  have hfa := h.fa 2
  have hi : (f + l.length) % sz < sz := Nat.mod_lt _ (by omega)
  have k1 : ((l.length : Int) == (sz : Int)) = false := by simp; omega
  have k2 : (((f + l.length) % sz : Nat) : Int) < (sz : Int) := by omega
  have k3 : (0 : Int) ≤ (((f + l.length) % sz : Nat) : Int) := by omega
  clear h hx
  generalize hg : (f + l.length) % sz = j at *
  have HG := Lib.hid hg
  clear hg
  go_enter Try.func11, Try.ntmps11
  go_wp2_with fail
  go_quiet (fail)
  go_wp2_with fail
  go_region_with (go_at_call 17; go_loud (refine (place_any a sz f l.length (some ⟨p, 0, none⟩) _ (by first | exact h0 | simpa using h0) (by first | exact h1 | simpa using h1) (by omega) hz hf (by omega)).mono ?_; rintro e w2 ⟨rfl, n2, rfl⟩; rw [HG.out]))
  all_goals
    clear hcp hfp h0 h1 k1 k2 k3
    go_wp2
    go_ret
    exact HE.out.draw rfl rfl rfl rfl
end Go.Proofs.Ytmjogkjdjhhilaa
