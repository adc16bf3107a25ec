/- What each call of package ring does to a ring in memory. Conditions: each theorem's own premises. -/
import Derived.Test.YtdpapnfjpefhkaaGreatCMemm
import Derived.Lib.SliceRun
import Derived.StillTailTactics
namespace Go.Proofs.YtdpapnfjpefhkaaGreat.Ch
open Go.RowKit
set_option linter.unusedVariables false
set_option maxRecDepth 100000
theorem tmod_nat (f i sz : Nat) : ((f : Int) + (i : Int)).tmod (sz : Int) = (((f + i) % sz : Nat) : Int) := by
 rw [Int.tmod_eq_emod_of_nonneg (by omega), Int.natCast_emod, Int.natCast_add]
theorem rplace_any (a sz f i : Nat) (P : Option Addr) (w : World) (h0 : w.cell? ⟨a, 0, none⟩ = some (.slice P sz sz)) (h1 : w.cell? ⟨a, 1, none⟩ = some (.int .i64 f)) (hs : 0 < sz) (hz : sz ≤ 64) (hf : f < sz) (hi : i ≤ 64) :
  Calls Tryz.prog 125 #[.pointer (some ⟨a, 0, none⟩), .int .i64 i] w fun e w' => e = .returned (.int .i64 (((f + i) % sz : Nat) : Int)) ∧ ∃ n, w' = w.drewN n := by
 have b1 : (0 : Int) < (sz : Int) := by omega
 have b2 : (sz : Int) ≤ 64 := by omega
 have b3 : 0 ≤ (f : Int) + (i : Int) := by omega
 have b4 : (f : Int) + (i : Int) ≤ 128 := by omega
 have e1 : IntKind.i64.wrap ((f : Int) + (i : Int)) = (f : Int) + (i : Int) := by rw [IntKind.wrap_i64]; omega
 have e2 := tmod_nat f i sz
 go_enter Tryz.func125, Tryz.ntmps125
 go_wp2_with fail
 go_quiet (fail)
 go_wp2
 go_ret
 exact ⟨rfl, _, rfl⟩
theorem rlen_nil (w : World) : Calls Tryz.prog 93 #[.pointer none] w fun e w' => e = .returned (.int .i64 0) ∧ w = w' := by
 go_enter Tryz.func93, Tryz.ntmps93
 go_wp2
 go_ret
 exact ⟨rfl, rfl⟩
theorem rsize_nil (w : World) : Calls Tryz.prog 94 #[.pointer none] w fun e w' => e = .returned (.int .i64 0) ∧ w = w' := by
 go_enter Tryz.func94, Tryz.ntmps94
 go_wp2
 go_ret
 exact ⟨rfl, rfl⟩
theorem rpush_nil (v : Int) (w : World) : Calls Tryz.prog 111 #[.pointer none, .int .i64 v] w fun e w' => e = .returned (.bool false) ∧ ∃ n, w' = w.drewN n := by
 go_enter Tryz.func111, Tryz.ntmps111
 go_wp2_with fail
 go_quiet (fail)
 go_wp2
 go_ret
 exact ⟨rfl, _, rfl⟩
theorem rlen_any {a p sz : Nat} {l : List Int} (w : World) (h : RG w a p sz l) : Calls Tryz.prog 93 #[.pointer (some ⟨a, 0, none⟩)] w fun e w' => e = .returned (.int .i64 l.length) ∧ w = w' := by
 obtain ⟨f, ps, h⟩ := h
 have h2 := h.c2
 clear h
 go_enter Tryz.func93, Tryz.ntmps93
 go_wp2
 go_ret
 exact ⟨rfl, rfl⟩
theorem rsize_any {a p sz : Nat} {l : List Int} (w : World) (h : RG w a p sz l) : Calls Tryz.prog 94 #[.pointer (some ⟨a, 0, none⟩)] w fun e w' => e = .returned (.int .i64 sz) ∧ w = w' := by
 obtain ⟨f, ps, h⟩ := h
 have h0 := h.c0
 clear h
 go_enter Tryz.func94, Tryz.ntmps94
 go_wp2
 go_ret
 exact ⟨rfl, rfl⟩
theorem setCells_zero (p : Nat) : ∀ (k o : Nat) (w : World) (ps : List Int), w.heap[p]? = some (.cells (iA ps) 3 (0, 0)) → ∃ qs : List Int, qs.length = ps.length ∧ (w.setCells p o (List.replicate k (.int .i64 0))).heap[p]? = some (.cells (iA qs) 3 (0, 0)) ∧ Only p p w (w.setCells p o (List.replicate k (.int .i64 0)))
 | 0, o, w, ps, h => ⟨ps, rfl, h, Only.refl _ _ _⟩
 | k + 1, o, w, ps, h => by
  have h1 := heap_setCell_same w p o _ _ (.int .i64 0) h
  rw [iA_set] at h1
  obtain ⟨qs, e1, e2, e3⟩ := setCells_zero p k (o + 1) _ _ h1
  exact ⟨qs, by simpa using e1, e2, ((Only.refl p p w).set (.inl rfl) _).trans e3⟩
theorem zero3 (w : World) : (zeroValue 3).run Tryz.prog w = .ok (.int .i64 0) w := by kernel_rfl
theorem rclear_run {w : World} {p : Nat} {ps : List Int} (h : w.heap[p]? = some (.cells (iA ps) 3 (0, 0))) :
  ∃ w1 qs, (∀ ty, (Builtin.clear_ #[111] ty #[.slice (some ⟨p, 0, none⟩) ps.length ps.length]).run Tryz.prog w = .ok (.tuple #[]) w1) ∧ qs.length = ps.length ∧ w1.heap[p]? = some (.cells (iA qs) 3 (0, 0)) ∧ Only p p w w1 := by
 rcases Nat.eq_zero_or_pos ps.length with h0 | h0
 · refine ⟨w, ps, fun ty => ?_, rfl, h, Only.refl _ _ _⟩
   rw [h0]
   simp [Builtin.clear_, run_underlying Tryz.underlying111]
 · obtain ⟨qs, e1, e2, e3⟩ := setCells_zero p ps.length 0 w ps h
   refine ⟨_, qs, fun ty => Lib.run_clear_slice w 111 3 ty (.int .i64 0) Tryz.underlying111 zero3 rfl rfl p 0 ps.length ps.length h0 (fun j hj => ?_) (fun j hj => frozen_of_row w p _ _ _ h), e1, e2, e3⟩
   rw [cell_of_row w p _ _ _ _ h]
   simp [iA]; omega
theorem rclear_nil (w : World) : Calls Tryz.prog 138 #[.pointer none] w fun e w' => e = .returned (.int .i64 0) ∧ w = w' := by
 go_enter Tryz.func138, Tryz.ntmps138
 go_wp2
 go_ret
 exact ⟨rfl, rfl⟩
def rClearR (a p sz n : Nat) (w : World) (e : Ending) (w' : World) : Prop := e = .returned (.int .i64 n) ∧ RG w' a p sz [] ∧ Only a p w w'
theorem rclear_any {a p sz : Nat} {l : List Int} (w : World) (h : RG w a p sz l) : Calls Tryz.prog 138 #[.pointer (some ⟨a, 0, none⟩)] w (rClearR a p sz l.length w) := by
 obtain ⟨f, ps, h⟩ := h
 obtain ⟨w1, qs, hcl, e1, e2, e3⟩ := rclear_run h.hp
 have hne := h.ne
 have hl := h.len
 have ha : w1.heap[a]? = w.heap[a]? := e3.block a hne hne
 have HE : Hid (rClearR a p sz l.length w (.returned (.int .i64 l.length)) (w1.setCell ⟨a, 2, none⟩ (.int .i64 0))) := by
  refine ⟨rfl, ⟨f, qs, ⟨hne, by omega, h.q.clear e1, ?_, ?_⟩⟩, Only.set ⟨e3.os, e3.tape, e3.output, e3.size, fun k _ hk => e3.block k hk hk⟩ (.inl rfl) _⟩
  · rw [Below.heap_setCell _ _ _ _ (by exact fun e => hne e.symm)]; exact e2
  · rw [heap_setCell_same w1 a 2 _ _ _ (ha.trans h.ha)]; rfl
 rw [hl] at hcl
 have h0 := h.c0
 have h2 := h.c2
 have g2 : w1.cell? ⟨a, 2, none⟩ = some (.int .i64 l.length) := (cell_blk ha 2).trans h2
 have gf : w1.frozen? ⟨a, 2, none⟩ = false := frozen_of_row w1 a 2 _ _ (ha.trans h.ha)
 clear e1 e2 e3 ha hl h
 go_enter Tryz.func138, Tryz.ntmps138
 go_wp2
 go_ret
 exact HE.out
def rPushR (a p sz : Nat) (l : List Int) (b : Bool) (w : World) (e : Ending) (w' : World) : Prop := e = .returned (.bool b) ∧ RG w' a p sz l ∧ Only a p w w'
theorem rpush_full {a p sz : Nat} {l : List Int} (v : Int) (w : World) (h : RG w a p sz l) (hl : l.length = sz) : Calls Tryz.prog 111 #[.pointer (some ⟨a, 0, none⟩), .int .i64 v] w (rPushR a p sz l false w) := by
 have HR := Lib.hid h
 obtain ⟨f, ps, h⟩ := h
 have h0 := h.c0
 have h2 := h.c2
 rw [hl] at h2
 clear h hl
 go_enter Tryz.func111, Tryz.ntmps111
 go_wp2_with fail
 go_quiet (fail)
 go_wp2
 go_ret
 exact ⟨rfl, HR.out.keep rfl rfl, (Only.refl _ _ _).drewN _⟩
theorem rPushR.draw {a p sz : Nat} {l : List Int} {b : Bool} {w w' w'' : World} {e : Ending} (h : rPushR a p sz l b w e w') (hh : w''.heap = w'.heap) (h1 : w''.os = w'.os) (h2 : w''.tape = w'.tape) (h3 : w''.output = w'.output) : rPushR a p sz l b w e w'' :=
 ⟨h.1, h.2.1.keep (by rw [hh]) (by rw [hh]), ⟨h1.trans h.2.2.os, h2.trans h.2.2.tape, h3.trans h.2.2.output, by rw [hh]; exact h.2.2.size, fun k q r => by rw [hh]; exact h.2.2.block k q r⟩⟩
theorem RI.pushed {a p sz f : Nat} {ps l : List Int} {w : World} (h : RI w a p sz f ps l) (hl : l.length < sz) (v : Int) :
  rPushR a p sz (l ++ [v]) true w (.returned (.bool true)) ((w.setCell ⟨p, (f + l.length) % sz, none⟩ (.int .i64 v)).setCell ⟨a, 2, none⟩ (.int .i64 ((l.length : Int) + 1))) := by
 have hne := h.ne
 refine ⟨rfl, ⟨f, ps.set ((f + l.length) % sz) v, ⟨hne, by simpa using h.len, ?_, ?_, ?_⟩⟩, ((Only.refl _ _ _).set (.inr rfl) _).set (.inl rfl) _⟩
 · have := h.q.push (by rw [h.len]; exact hl) v
   rw [h.len] at this
   exact this
 · rw [Below.heap_setCell _ _ _ _ (by exact fun e => hne e.symm), heap_setCell_same w p _ _ _ _ h.hp, iA_set]
 · rw [heap_setCell_same _ a 2 _ _ _ (by rw [Below.heap_setCell _ _ _ _ (by exact hne)]; exact h.ha)]
   simp
theorem rpush_room {a p sz : Nat} {l : List Int} (v : Int) (w : World) (h : RG w a p sz l) (hz : sz ≤ 64) (hl : l.length < sz) : Calls Tryz.prog 111 #[.pointer (some ⟨a, 0, none⟩), .int .i64 v] w (rPushR a p sz (l ++ [v]) true w) := by
 obtain ⟨f, ps, h⟩ := h
 have h0 := h.c0
 have h1 := h.c1
 have h2 := h.c2
 have hne := h.ne
 have hf := h.lt (by omega)
 have HE := Lib.hid (h.pushed hl v)
 obtain ⟨x, hx⟩ : ∃ x, ps[(f + l.length) % sz]? = some x := ⟨_, List.getElem?_eq_getElem (by rw [h.len]; exact Nat.mod_lt _ (by omega))⟩
 have hcp := h.cp hx
 have hfp := h.fp ((f + l.length) % sz)
 have hfa := h.fa 2
 have hi : (f + l.length) % sz < sz := Nat.mod_lt _ (by omega)
 have k1 : ((l.length : Int) == (sz : Int)) = false := by simp; omega
 have k2 : (((f + l.length) % sz : Nat) : Int) < (sz : Int) := by omega
 have k3 : (0 : Int) ≤ (((f + l.length) % sz : Nat) : Int) := by omega
 clear h hx
 generalize hg : (f + l.length) % sz = j at *
 have HG := Lib.hid hg
 clear hg
 go_enter Tryz.func111, Tryz.ntmps111
 go_wp2_with fail
 go_quiet (fail)
 go_wp2_with fail
 go_region_with (go_at_call 125; go_loud (refine (rplace_any a sz f l.length (some ⟨p, 0, none⟩) _ (by first | exact h0 | simpa using h0) (by first | exact h1 | simpa using h1) (by omega) hz hf (by omega)).mono ?_; rintro e w2 ⟨rfl, n2, rfl⟩; rw [HG.out]))
 all_goals
  clear hcp hfp h0 h1 k1 k2 k3
  go_wp2
  go_ret
  exact HE.out.draw rfl rfl rfl rfl
def rPopR (a p sz : Nat) (l : List Int) (x : Int) (b : Bool) (w : World) (e : Ending) (w' : World) : Prop := e = .returned (.tuple #[.int .i64 x, .bool b]) ∧ RG w' a p sz l ∧ Only a p w w'
theorem rPopR.draw {a p sz : Nat} {l : List Int} {x : Int} {b : Bool} {w w' w'' : World} {e : Ending} (h : rPopR a p sz l x b w e w') (hh : w''.heap = w'.heap) (h1 : w''.os = w'.os) (h2 : w''.tape = w'.tape) (h3 : w''.output = w'.output) : rPopR a p sz l x b w e w'' :=
 ⟨h.1, h.2.1.keep (by rw [hh]) (by rw [hh]), ⟨h1.trans h.2.2.os, h2.trans h.2.2.tape, h3.trans h.2.2.output, by rw [hh]; exact h.2.2.size, fun k q r => by rw [hh]; exact h.2.2.block k q r⟩⟩
end Go.Proofs.YtdpapnfjpefhkaaGreat.Ch
