/- What each call of package ring does to a ring in memory, All apart. Conditions: each theorem's own premises. -/
import Derived.Test.YtmjogkjdjhhilaaMem
import Derived.Lib.SliceRun
import Derived.StillTailTactics
namespace Go.Proofs.Ytmjogkjdjhhilaa
open Go.RowKit
set_option linter.unusedVariables false

theorem inf3 : (Try.prog.info? 3).map (fun i => (i.zero, i.size, i.bytes)) = some (some (.int .i64 0), 1, 8) := by kernel_rfl
theorem mk_n (w : World) (n : Nat) (hn : n ≤ 64) : (Instr.makeSlice 22 (.int .i64 (n : Int)) (.int .i64 (n : Int))).run Try.prog w = .ok (.slice (some ⟨w.heap.size, 0, none⟩) n n) (w.alloc (.cells (iA (List.replicate n 0)) 3)) := by
  obtain ⟨i0, hi, hz0, hz1, hz2⟩ := info_parts inf3
  have h := run_make (P := Try.prog) w 22 3 i0 _ Try.underlying22 hi hz0 .i64 .i64 (n : Int) (n : Int) (by omega) (Int.le_refl _) (by rw [hz2]; omega) (by omega)
  rw [h, hz1]
  have e : madeCells (Value.int .i64 0).cells ((n : Int).toNat * 1) = iA (List.replicate n 0) := by
    rw [Int.toNat_natCast, Nat.mul_one]
    apply Array.ext'
    show (madeCells #[_] n).toList = _
    rw [toList_madeCells_one]; simp [iA]
  rw [e]; simp

theorem new_no (n : Int) (w : World) (h : n < 0 ∨ 64 < n) : Calls Try.prog 8 #[.int .i64 n] w fun e w' => e = .returned (.tuple #[.pointer none, .int .i64 1]) ∧ w = w' := by
  by_cases c1 : n < 0
  · go_enter Try.func8, Try.ntmps8
    go_wp2
    go_ret2
    exact ⟨rfl, rfl⟩
  · have c2 : 64 < n := by omega
    clear h
    go_enter Try.func8, Try.ntmps8
    go_wp2
    go_ret2
    exact ⟨rfl, rfl⟩

def NewR (n : Nat) (w : World) (e : Ending) (w' : World) : Prop :=
  e = .returned (.tuple #[.pointer (some ⟨w.heap.size + 1, 0, none⟩), .int .i64 0]) ∧ RG w' (w.heap.size + 1) w.heap.size n [] ∧ Below w.heap.size w w' ∧ w'.heap.size = w.heap.size + 2
theorem new_at (w : World) (n : Nat) : NewR n w (.returned (.tuple #[.pointer (some ⟨w.heap.size + 1, 0, none⟩), .int .i64 0])) ((w.alloc (.cells (iA (List.replicate n 0)) 3)).alloc (.cells #[.slice (some ⟨w.heap.size, 0, none⟩) n n, .int .i64 0, .int .i64 0] 40)) := by
  refine ⟨rfl, ⟨0, List.replicate n 0, ⟨by omega, by simp, QQ.new n, ?_, ?_⟩⟩, ((Below.refl _ _).alloc (Nat.le_refl _) _).alloc (by simp) _, by simp⟩
  · rw [Below.heap_alloc _ _ _ (by simp)]
    exact heap_alloc_new _ _
  · have := heap_alloc_new (w.alloc (.cells (iA (List.replicate n 0)) 3)) (.cells #[.slice (some ⟨w.heap.size, 0, none⟩) n n, .int .i64 0, .int .i64 0] 40)
    rw [World.size_alloc] at this
    exact this
theorem new_yes (n : Nat) (w : World) (h : n ≤ 64) : Calls Try.prog 8 #[.int .i64 n] w (NewR n w) := by
  have hmk := mk_n w n h
  have h1 : (n : Int) ≤ 64 := by omega
  have h2 : 0 ≤ (n : Int) := by omega
  go_enter Try.func8, Try.ntmps8
  go_wp2
  go_ret2
  exact new_at w n

theorem tmod_nat (f i sz : Nat) : ((f : Int) + (i : Int)).tmod (sz : Int) = (((f + i) % sz : Nat) : Int) := by
  rw [Int.tmod_eq_emod_of_nonneg (by omega), Int.natCast_emod, Int.natCast_add]

theorem place_any (a sz f i : Nat) (P : Option Addr) (w : World) (h0 : w.cell? ⟨a, 0, none⟩ = some (.slice P sz sz)) (h1 : w.cell? ⟨a, 1, none⟩ = some (.int .i64 f)) (hs : 0 < sz) (hz : sz ≤ 64) (hf : f < sz) (hi : i ≤ 64) :
    Calls Try.prog 17 #[.pointer (some ⟨a, 0, none⟩), .int .i64 i] w fun e w' => e = .returned (.int .i64 (((f + i) % sz : Nat) : Int)) ∧ ∃ n, w' = w.drewN n := by
  have b1 : (0 : Int) < (sz : Int) := by omega
  have b2 : (sz : Int) ≤ 64 := by omega
  have b3 : 0 ≤ (f : Int) + (i : Int) := by omega
  have b4 : (f : Int) + (i : Int) ≤ 128 := by omega
  have e1 : IntKind.i64.wrap ((f : Int) + (i : Int)) = (f : Int) + (i : Int) := by rw [IntKind.wrap_i64]; omega
  have e2 := tmod_nat f i sz
  go_enter Try.func17, Try.ntmps17
  go_wp2_with fail
  go_quiet (fail)
  go_wp2
  go_ret
  exact ⟨rfl, _, rfl⟩

theorem len_nil (w : World) : Calls Try.prog 14 #[.pointer none] w fun e w' => e = .returned (.int .i64 0) ∧ w = w' := by
  go_enter Try.func14, Try.ntmps14
  go_wp2
  go_ret
  exact ⟨rfl, rfl⟩
theorem size_nil (w : World) : Calls Try.prog 15 #[.pointer none] w fun e w' => e = .returned (.int .i64 0) ∧ w = w' := by
  go_enter Try.func15, Try.ntmps15
  go_wp2
  go_ret
  exact ⟨rfl, rfl⟩
theorem push_nil (v : Int) (w : World) : Calls Try.prog 11 #[.pointer none, .int .i64 v] w fun e w' => e = .returned (.bool false) ∧ ∃ n, w' = w.drewN n := by
  go_enter Try.func11, Try.ntmps11
  go_wp2_with fail
  go_quiet (fail)
  go_wp2
  go_ret
  exact ⟨rfl, _, rfl⟩
theorem pop_nil (w : World) : Calls Try.prog 9 #[.pointer none] w fun e w' => e = .returned (.tuple #[.int .i64 0, .bool false]) ∧ w = w' := by
  go_enter Try.func9, Try.ntmps9
  go_wp2
  go_ret2
  exact ⟨rfl, rfl⟩
theorem len_any {a p sz : Nat} {l : List Int} (w : World) (h : RG w a p sz l) : Calls Try.prog 14 #[.pointer (some ⟨a, 0, none⟩)] w fun e w' => e = .returned (.int .i64 l.length) ∧ w = w' := by
  obtain ⟨f, ps, h⟩ := h
  have h2 := h.c2
  clear h
  go_enter Try.func14, Try.ntmps14
  go_wp2
  go_ret
  exact ⟨rfl, rfl⟩
theorem size_any {a p sz : Nat} {l : List Int} (w : World) (h : RG w a p sz l) : Calls Try.prog 15 #[.pointer (some ⟨a, 0, none⟩)] w fun e w' => e = .returned (.int .i64 sz) ∧ w = w' := by
  obtain ⟨f, ps, h⟩ := h
  have h0 := h.c0
  clear h
  go_enter Try.func15, Try.ntmps15
  go_wp2
  go_ret
  exact ⟨rfl, rfl⟩

/-! clear -/
theorem setCells_zero (p : Nat) : ∀ (k o : Nat) (w : World) (ps : List Int), w.heap[p]? = some (.cells (iA ps) 3 (0, 0)) → ∃ qs : List Int, qs.length = ps.length ∧ (w.setCells p o (List.replicate k (.int .i64 0))).heap[p]? = some (.cells (iA qs) 3 (0, 0)) ∧ Only p p w (w.setCells p o (List.replicate k (.int .i64 0)))
  | 0, o, w, ps, h => ⟨ps, rfl, h, Only.refl _ _ _⟩
  | k + 1, o, w, ps, h => by
    have h1 := heap_setCell_same w p o _ _ (.int .i64 0) h
    rw [iA_set] at h1
    obtain ⟨qs, e1, e2, e3⟩ := setCells_zero p k (o + 1) _ _ h1
    exact ⟨qs, by simpa using e1, e2, ((Only.refl p p w).set (.inl rfl) _).trans e3⟩
theorem zero3 (w : World) : (zeroValue 3).run Try.prog w = .ok (.int .i64 0) w := by kernel_rfl
theorem clear_run {w : World} {p : Nat} {ps : List Int} (h : w.heap[p]? = some (.cells (iA ps) 3 (0, 0))) :
    ∃ w1 qs, (∀ ty, (Builtin.clear_ #[22] ty #[.slice (some ⟨p, 0, none⟩) ps.length ps.length]).run Try.prog w = .ok (.tuple #[]) w1) ∧ qs.length = ps.length ∧ w1.heap[p]? = some (.cells (iA qs) 3 (0, 0)) ∧ Only p p w w1 := by
  rcases Nat.eq_zero_or_pos ps.length with h0 | h0
  · refine ⟨w, ps, fun ty => ?_, rfl, h, Only.refl _ _ _⟩
    rw [h0]
    simp [Builtin.clear_, run_underlying Try.underlying22]
  · obtain ⟨qs, e1, e2, e3⟩ := setCells_zero p ps.length 0 w ps h
    refine ⟨_, qs, fun ty => Lib.run_clear_slice w 22 3 ty (.int .i64 0) Try.underlying22 zero3 rfl rfl p 0 ps.length ps.length h0 (fun j hj => ?_) (fun j hj => frozen_of_row w p _ _ _ h), e1, e2, e3⟩
    rw [cell_of_row w p _ _ _ _ h]
    simp [iA]; omega
theorem clear_nil (w : World) : Calls Try.prog 10 #[.pointer none] w fun e w' => e = .returned (.int .i64 0) ∧ w = w' := by
  go_enter Try.func10, Try.ntmps10
  go_wp2
  go_ret
  exact ⟨rfl, rfl⟩
def ClearR (a p sz n : Nat) (w : World) (e : Ending) (w' : World) : Prop := e = .returned (.int .i64 n) ∧ RG w' a p sz [] ∧ Only a p w w'
theorem clear_any {a p sz : Nat} {l : List Int} (w : World) (h : RG w a p sz l) : Calls Try.prog 10 #[.pointer (some ⟨a, 0, none⟩)] w (ClearR a p sz l.length w) := by
  obtain ⟨f, ps, h⟩ := h
  obtain ⟨w1, qs, hcl, e1, e2, e3⟩ := clear_run h.hp
  have hne := h.ne
  have hl := h.len
  have ha : w1.heap[a]? = w.heap[a]? := e3.block a hne hne
  have HE : Hid (ClearR a p sz l.length w (.returned (.int .i64 l.length)) (w1.setCell ⟨a, 2, none⟩ (.int .i64 0))) := by
    refine ⟨rfl, ⟨f, qs, ⟨hne, by omega, h.q.clear e1, ?_, ?_⟩⟩, Only.set ⟨e3.os, e3.tape, e3.output, e3.size, fun k _ hk => e3.block k hk hk⟩ (.inl rfl) _⟩
    · rw [Below.heap_setCell _ _ _ _ (by exact fun e => hne e.symm)]; exact e2
    · rw [heap_setCell_same w1 a 2 _ _ _ (ha.trans h.ha)]; rfl
  rw [hl] at hcl
  have h0 := h.c0
  have h2 := h.c2
  have g2 : w1.cell? ⟨a, 2, none⟩ = some (.int .i64 l.length) := (cell_blk ha 2).trans h2
  have gf : w1.frozen? ⟨a, 2, none⟩ = false := frozen_of_row w1 a 2 _ _ (ha.trans h.ha)
  clear e1 e2 e3 ha hl h
  go_enter Try.func10, Try.ntmps10
  go_wp2
  go_ret
  exact HE.out
end Go.Proofs.Ytmjogkjdjhhilaa
