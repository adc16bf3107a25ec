/- What a wake's law wants beside: rows that were there before the table; checks; stores. No condition. -/
import Derived.Test.YthiifnbgdajgaaaDoorRow
namespace Go.Proofs.YthiifnbgdajgaaaDoor
open Go.RowKit
set_option linter.unusedVariables false
set_option maxRecDepth 100000

theorem new_rs {W w : World} {rs : List Rr} (hb : Below W.heap.size W w) (hr : ∀ r ∈ rs, r.pr w ∧ ∀ k, blk r.P = some k → W.heap.size ≤ k ∧ k < w.heap.size) (ha : rs.Pairwise Rr.apart) : Calls Tryd.prog 9 #[] w fun e w' => ∃ t, e = .returned (.pointer (some ⟨t, 0, none⟩)) ∧ Hid (LS W t [] [] rs w') := by
  have hs := hb.size
  refine (new_x w).mono ?_
  rintro e w' ⟨t, rfl, h, b⟩
  have hs' := b.size
  refine ⟨t, rfl, ⟨fun k => w.heap.size ≤ k ∧ k < w'.heap.size, h.mono fun k hk hf => ⟨hf, hk⟩, fun k hk => ⟨by have := hk.1; omega, hk.2⟩, fun r hr1 k hk hf => ?_⟩, hb.trans (b.mono hs), fun r hr1 => ⟨r.st _ _ (hr r hr1).1 fun k hk => b.block k ((hr r hr1).2 k hk).2, fun k hk => ⟨((hr r hr1).2 k hk).1, by have := ((hr r hr1).2 k hk).2; omega⟩⟩, ha⟩
  have := ((hr r hr1).2 k hk).2
  omega
theorem LS.put {W w : World} {t i N T j : Nat} {S : List T0} {L : List Int} {rs : List Rr} {u : Array Value} (h : LS W t S L rs w) (hr : rs[i]? = some (rB N T u)) (v : Value) : LS W t S L (rs.set i (rB N T (u.setIfInBounds j v))) (w.setCell ⟨N, j, none⟩ v) := by
  have hb := h.ownB hr
  have hl := hb.lt
  refine h.turn hr ⟨rfl, rfl, rfl, by simp [World.setCell], fun k hk hn => Below.heap_setCell _ _ _ _ (fun e => hn (by subst e; rfl))⟩ (hb.set j v) fun k hk => ?_
  have e : N = k := by injection hk
  subst e
  exact ⟨.inl rfl, by simpa [World.setCell] using hl⟩
theorem reg_of {n : Nat} (h : n < 8) : Pg.regB (n : Int) = true := by simp [Pg.regB]; omega
theorem fit1 {ins pr : Int} {n : Nat} (h : n < 8) : Pg.fitsB ins pr (n : Int) 1 = true := by rw [Pg.reg_fits]; exact reg_of h
abbrev yJ (op : Int) (a b c : Nat) (cs : List Pg.Ca) : T0 := ⟨0, 0, 0, 0, g0, op, (a : Int), (b : Int), (c : Int), false, cs⟩
abbrev cs2 : List Pg.Ca := [⟨true, 1, 2⟩, ⟨false, 3, 0⟩]
theorem chk10 {a b : Nat} (ha : a < 8) (hb : b < 8) : Pg.checkB [tI (yJ 10 a b 0 []) none 0] 16 = true := by
  have h1 := fit1 (ins := 1) (pr := 16) ha
  have h2 := fit1 (ins := 1) (pr := 16) hb
  have h3 : Pg.fitsB 1 16 ((0 : Nat) : Int) 0 = true := by decide
  show (decide (1 ≤ 100) && ((decide ((1 : Int) ≤ 10 ∧ (10 : Int) ≤ 32) && (Pg.fitsB 1 16 (a : Int) 1 && (Pg.fitsB 1 16 (b : Int) 1 && (Pg.fitsB 1 16 ((0 : Nat) : Int) 0 && true)))) && true)) = true
  rw [h1, h2, h3]; simp
theorem chk11 {a b c : Nat} (ha : a < 8) (hb : b < 8) (hc : c < 8) : Pg.checkB [tI (yJ 11 a b c []) none 0] 16 = true := by
  have h1 := fit1 (ins := 1) (pr := 16) ha
  have h2 := fit1 (ins := 1) (pr := 16) hb
  have h3 := fit1 (ins := 1) (pr := 16) hc
  show (decide (1 ≤ 100) && ((decide ((1 : Int) ≤ 11 ∧ (11 : Int) ≤ 32) && (Pg.fitsB 1 16 (a : Int) 1 && (Pg.fitsB 1 16 (b : Int) 1 && (Pg.fitsB 1 16 (c : Int) 1 && true)))) && true)) = true
  rw [h1, h2, h3]; simp
theorem chk15 {a b c : Nat} (A : Option Addr) (cap : Nat) (ha : a < 8) (hb : b < 8) (hc : c < 8) : Pg.checkB [tI (yJ 15 a b c cs2) A cap] 16 = true := by
  have h1 := fit1 (ins := 1) (pr := 16) ha
  have h2 := fit1 (ins := 1) (pr := 16) hb
  have h3 := fit1 (ins := 1) (pr := 16) hc
  show (decide (1 ≤ 100) && ((decide ((1 : Int) ≤ 15 ∧ (15 : Int) ≤ 32) && (Pg.fitsB 1 16 (a : Int) 1 && (Pg.fitsB 1 16 (b : Int) 1 && (Pg.fitsB 1 16 (c : Int) 1 && true)))) && true)) = true
  rw [h1, h2, h3]; simp
abbrev cR : Array Value := #[.bool true, .int .i64 1, .int .i64 2, .bool false, .int .i64 3, .int .i64 0]
theorem cR_rd {w : World} {N : Nat} (h : Bk w N 44 cR) : Pg.RdC w (some ⟨N, 0, none⟩) 2 cs2 := ⟨rfl, rfl, fun _ => ⟨N, 0, rfl, h.lt, fun j u hu => by
  have e : cs2.flatMap Pg.cV = cR.toList := rfl
  rw [e] at hu
  rw [Nat.zero_add, h.cell]; simpa using hu⟩⟩
abbrev g10 : Nat → Int := fun j => 10 + (j : Int)
end Go.Proofs.YthiifnbgdajgaaaDoor
