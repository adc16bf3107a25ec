/- What each call of package ring does to a ring in memory. Conditions: each theorem's own premises. -/
import Derived.Test.YtmadcnpkaijllaaCMem
import Derived.Lib.SliceRun
import Derived.StillTailTactics
namespace Go.Proofs.Ytmadcnpkaijllaa.Ch
open Go.RowKit
set_option linter.unusedVariables false
set_option maxRecDepth 100000


theorem inf3 : (Try.prog.info? 3).map (fun i => (i.zero, i.size, i.bytes)) = some (some (.int .i64 0), 1, 8) := by kernel_rfl
theorem mk_n (w : World) (n : Nat) (hn : n ≤ 64) : (Instr.makeSlice 46 (.int .i64 (n : Int)) (.int .i64 (n : Int))).run Try.prog w = .ok (.slice (some ⟨w.heap.size, 0, none⟩) n n) (w.alloc (.cells (iA (List.replicate n 0)) 3)) := by
  obtain ⟨i0, hi, hz0, hz1, hz2⟩ := info_parts inf3
  have h := run_make (P := Try.prog) w 46 3 i0 _ Try.underlying46 hi hz0 .i64 .i64 (n : Int) (n : Int) (by omega) (Int.le_refl _) (by rw [hz2]; omega) (by omega)
  rw [h, hz1]
  have e : madeCells (Value.int .i64 0).cells ((n : Int).toNat * 1) = iA (List.replicate n 0) := by
    rw [Int.toNat_natCast, Nat.mul_one]
    apply Array.ext'
    show (madeCells #[_] n).toList = _
    rw [toList_madeCells_one]; simp [iA]
  rw [e]; simp

theorem rnew_no (n : Int) (w : World) (h : n < 0 ∨ 64 < n) : Calls Try.prog 73 #[.int .i64 n] w fun e w' => e = .returned (.tuple #[.pointer none, .int .i64 1]) ∧ w = w' := by
  by_cases c1 : n < 0
  · go_enter Try.func73, Try.ntmps73
    go_wp2
    go_ret2
    exact ⟨rfl, rfl⟩
  · have c2 : 64 < n := by omega
    clear h
    go_enter Try.func73, Try.ntmps73
    go_wp2
    go_ret2
    exact ⟨rfl, rfl⟩

def rNewR (n : Nat) (w : World) (e : Ending) (w' : World) : Prop :=
  e = .returned (.tuple #[.pointer (some ⟨w.heap.size + 1, 0, none⟩), .int .i64 0]) ∧ RG w' (w.heap.size + 1) w.heap.size n [] ∧ Below w.heap.size w w' ∧ w'.heap.size = w.heap.size + 2
theorem rnew_at (w : World) (n : Nat) : rNewR n w (.returned (.tuple #[.pointer (some ⟨w.heap.size + 1, 0, none⟩), .int .i64 0])) ((w.alloc (.cells (iA (List.replicate n 0)) 3)).alloc (.cells #[.slice (some ⟨w.heap.size, 0, none⟩) n n, .int .i64 0, .int .i64 0] 111)) := by
  refine ⟨rfl, ⟨0, List.replicate n 0, ⟨by omega, by simp, QQ.new n, ?_, ?_⟩⟩, ((Below.refl _ _).alloc (Nat.le_refl _) _).alloc (by simp) _, by simp⟩
  · rw [Below.heap_alloc _ _ _ (by simp)]
    exact heap_alloc_new _ _
  · have := heap_alloc_new (w.alloc (.cells (iA (List.replicate n 0)) 3)) (.cells #[.slice (some ⟨w.heap.size, 0, none⟩) n n, .int .i64 0, .int .i64 0] 111)
    rw [World.size_alloc] at this
    exact this
set_option maxRecDepth 100000 in
theorem rnew_yes (n : Nat) (w : World) (h : n ≤ 64) : Calls Try.prog 73 #[.int .i64 n] w (rNewR n w) := by
  have hmk := mk_n w n h
  have h1 : (n : Int) ≤ 64 := by omega
  have h2 : 0 ≤ (n : Int) := by omega
  go_enter Try.func73, Try.ntmps73
  go_wp2
  go_ret2
  exact rnew_at w n

theorem tmod_nat (f i sz : Nat) : ((f : Int) + (i : Int)).tmod (sz : Int) = (((f + i) % sz : Nat) : Int) := by
  rw [Int.tmod_eq_emod_of_nonneg (by omega), Int.natCast_emod, Int.natCast_add]

theorem rplace_any (a sz f i : Nat) (P : Option Addr) (w : World) (h0 : w.cell? ⟨a, 0, none⟩ = some (.slice P sz sz)) (h1 : w.cell? ⟨a, 1, none⟩ = some (.int .i64 f)) (hs : 0 < sz) (hz : sz ≤ 64) (hf : f < sz) (hi : i ≤ 64) :
    Calls Try.prog 56 #[.pointer (some ⟨a, 0, none⟩), .int .i64 i] w fun e w' => e = .returned (.int .i64 (((f + i) % sz : Nat) : Int)) ∧ ∃ n, w' = w.drewN n := by
  have b1 : (0 : Int) < (sz : Int) := by omega
  have b2 : (sz : Int) ≤ 64 := by omega
  have b3 : 0 ≤ (f : Int) + (i : Int) := by omega
  have b4 : (f : Int) + (i : Int) ≤ 128 := by omega
  have e1 : IntKind.i64.wrap ((f : Int) + (i : Int)) = (f : Int) + (i : Int) := by rw [IntKind.wrap_i64]; omega
  have e2 := tmod_nat f i sz
  go_enter Try.func56, Try.ntmps56
  go_wp2_with fail
  go_quiet (fail)
  go_wp2
  go_ret
  exact ⟨rfl, _, rfl⟩

theorem rlen_nil (w : World) : Calls Try.prog 43 #[.pointer none] w fun e w' => e = .returned (.int .i64 0) ∧ w = w' := by
  go_enter Try.func43, Try.ntmps43
  go_wp2
  go_ret
  exact ⟨rfl, rfl⟩
theorem rsize_nil (w : World) : Calls Try.prog 44 #[.pointer none] w fun e w' => e = .returned (.int .i64 0) ∧ w = w' := by
  go_enter Try.func44, Try.ntmps44
  go_wp2
  go_ret
  exact ⟨rfl, rfl⟩
theorem rpush_nil (v : Int) (w : World) : Calls Try.prog 36 #[.pointer none, .int .i64 v] w fun e w' => e = .returned (.bool false) ∧ ∃ n, w' = w.drewN n := by
  go_enter Try.func36, Try.ntmps36
  go_wp2_with fail
  go_quiet (fail)
  go_wp2
  go_ret
  exact ⟨rfl, _, rfl⟩
theorem rpop_nil (w : World) : Calls Try.prog 34 #[.pointer none] w fun e w' => e = .returned (.tuple #[.int .i64 0, .bool false]) ∧ w = w' := by
  go_enter Try.func34, Try.ntmps34
  go_wp2
  go_ret2
  exact ⟨rfl, rfl⟩
theorem rlen_any {a p sz : Nat} {l : List Int} (w : World) (h : RG w a p sz l) : Calls Try.prog 43 #[.pointer (some ⟨a, 0, none⟩)] w fun e w' => e = .returned (.int .i64 l.length) ∧ w = w' := by
  obtain ⟨f, ps, h⟩ := h
  have h2 := h.c2
  clear h
  go_enter Try.func43, Try.ntmps43
  go_wp2
  go_ret
  exact ⟨rfl, rfl⟩
theorem rsize_any {a p sz : Nat} {l : List Int} (w : World) (h : RG w a p sz l) : Calls Try.prog 44 #[.pointer (some ⟨a, 0, none⟩)] w fun e w' => e = .returned (.int .i64 sz) ∧ w = w' := by
  obtain ⟨f, ps, h⟩ := h
  have h0 := h.c0
  clear h
  go_enter Try.func44, Try.ntmps44
  go_wp2
  go_ret
  exact ⟨rfl, rfl⟩

/-! clear -/
theorem setCells_zero (p : Nat) : ∀ (k o : Nat) (w : World) (ps : List Int), w.heap[p]? = some (.cells (iA ps) 3 (0, 0)) → ∃ qs : List Int, qs.length = ps.length ∧ (w.setCells p o (List.replicate k (.int .i64 0))).heap[p]? = some (.cells (iA qs) 3 (0, 0)) ∧ Only p p w (w.setCells p o (List.replicate k (.int .i64 0)))
  | 0, o, w, ps, h => ⟨ps, rfl, h, Only.refl _ _ _⟩
  | k + 1, o, w, ps, h => by
    have h1 := heap_setCell_same w p o _ _ (.int .i64 0) h
    rw [iA_set] at h1
    obtain ⟨qs, e1, e2, e3⟩ := setCells_zero p k (o + 1) _ _ h1
    exact ⟨qs, by simpa using e1, e2, ((Only.refl p p w).set (.inl rfl) _).trans e3⟩
theorem zero3 (w : World) : (zeroValue 3).run Try.prog w = .ok (.int .i64 0) w := by kernel_rfl
theorem rclear_run {w : World} {p : Nat} {ps : List Int} (h : w.heap[p]? = some (.cells (iA ps) 3 (0, 0))) :
    ∃ w1 qs, (∀ ty, (Builtin.clear_ #[46] ty #[.slice (some ⟨p, 0, none⟩) ps.length ps.length]).run Try.prog w = .ok (.tuple #[]) w1) ∧ qs.length = ps.length ∧ w1.heap[p]? = some (.cells (iA qs) 3 (0, 0)) ∧ Only p p w w1 := by
  rcases Nat.eq_zero_or_pos ps.length with h0 | h0
  · refine ⟨w, ps, fun ty => ?_, rfl, h, Only.refl _ _ _⟩
    rw [h0]
    simp [Builtin.clear_, run_underlying Try.underlying46]
  · obtain ⟨qs, e1, e2, e3⟩ := setCells_zero p ps.length 0 w ps h
    refine ⟨_, qs, fun ty => Lib.run_clear_slice w 46 3 ty (.int .i64 0) Try.underlying46 zero3 rfl rfl p 0 ps.length ps.length h0 (fun j hj => ?_) (fun j hj => frozen_of_row w p _ _ _ h), e1, e2, e3⟩
    rw [cell_of_row w p _ _ _ _ h]
    simp [iA]; omega
theorem rclear_nil (w : World) : Calls Try.prog 68 #[.pointer none] w fun e w' => e = .returned (.int .i64 0) ∧ w = w' := by
  go_enter Try.func68, Try.ntmps68
  go_wp2
  go_ret
  exact ⟨rfl, rfl⟩
def rClearR (a p sz n : Nat) (w : World) (e : Ending) (w' : World) : Prop := e = .returned (.int .i64 n) ∧ RG w' a p sz [] ∧ Only a p w w'
theorem rclear_any {a p sz : Nat} {l : List Int} (w : World) (h : RG w a p sz l) : Calls Try.prog 68 #[.pointer (some ⟨a, 0, none⟩)] w (rClearR a p sz l.length w) := by
  obtain ⟨f, ps, h⟩ := h
  obtain ⟨w1, qs, hcl, e1, e2, e3⟩ := rclear_run h.hp
  have hne := h.ne
  have hl := h.len
  have ha : w1.heap[a]? = w.heap[a]? := e3.block a hne hne
  have HE : Hid (rClearR a p sz l.length w (.returned (.int .i64 l.length)) (w1.setCell ⟨a, 2, none⟩ (.int .i64 0))) := by
    refine ⟨rfl, ⟨f, qs, ⟨hne, by omega, h.q.clear e1, ?_, ?_⟩⟩, Only.set ⟨e3.os, e3.tape, e3.output, e3.size, fun k _ hk => e3.block k hk hk⟩ (.inl rfl) _⟩
    · rw [Below.heap_setCell _ _ _ _ (by exact fun e => hne e.symm)]; exact e2
    · rw [heap_setCell_same w1 a 2 _ _ _ (ha.trans h.ha)]; rfl
  rw [hl] at hcl
  have h0 := h.c0
  have h2 := h.c2
  have g2 : w1.cell? ⟨a, 2, none⟩ = some (.int .i64 l.length) := (cell_blk ha 2).trans h2
  have gf : w1.frozen? ⟨a, 2, none⟩ = false := frozen_of_row w1 a 2 _ _ (ha.trans h.ha)
  clear e1 e2 e3 ha hl h
  go_enter Try.func68, Try.ntmps68
  go_wp2
  go_ret
  exact HE.out


def rPushR (a p sz : Nat) (l : List Int) (b : Bool) (w : World) (e : Ending) (w' : World) : Prop := e = .returned (.bool b) ∧ RG w' a p sz l ∧ Only a p w w'
theorem rpush_full {a p sz : Nat} {l : List Int} (v : Int) (w : World) (h : RG w a p sz l) (hl : l.length = sz) : Calls Try.prog 36 #[.pointer (some ⟨a, 0, none⟩), .int .i64 v] w (rPushR a p sz l false w) := by
  have HR := Lib.hid h
  obtain ⟨f, ps, h⟩ := h
  have h0 := h.c0
  have h2 := h.c2
  rw [hl] at h2
  clear h hl
  go_enter Try.func36, Try.ntmps36
  go_wp2_with fail
  go_quiet (fail)
  go_wp2
  go_ret
  exact ⟨rfl, HR.out.keep rfl rfl, (Only.refl _ _ _).drewN _⟩

theorem rPushR.draw {a p sz : Nat} {l : List Int} {b : Bool} {w w' w'' : World} {e : Ending} (h : rPushR a p sz l b w e w') (hh : w''.heap = w'.heap) (h1 : w''.os = w'.os) (h2 : w''.tape = w'.tape) (h3 : w''.output = w'.output) : rPushR a p sz l b w e w'' :=
  ⟨h.1, h.2.1.keep (by rw [hh]) (by rw [hh]), ⟨h1.trans h.2.2.os, h2.trans h.2.2.tape, h3.trans h.2.2.output, by rw [hh]; exact h.2.2.size, fun k q r => by rw [hh]; exact h.2.2.block k q r⟩⟩
theorem RI.pushed {a p sz f : Nat} {ps l : List Int} {w : World} (h : RI w a p sz f ps l) (hl : l.length < sz) (v : Int) :
    rPushR a p sz (l ++ [v]) true w (.returned (.bool true)) ((w.setCell ⟨p, (f + l.length) % sz, none⟩ (.int .i64 v)).setCell ⟨a, 2, none⟩ (.int .i64 ((l.length : Int) + 1))) := by
  have hne := h.ne
  refine ⟨rfl, ⟨f, ps.set ((f + l.length) % sz) v, ⟨hne, by simpa using h.len, ?_, ?_, ?_⟩⟩, ((Only.refl _ _ _).set (.inr rfl) _).set (.inl rfl) _⟩
  · have := h.q.push (by rw [h.len]; exact hl) v
    rw [h.len] at this
    exact this
  · rw [Below.heap_setCell _ _ _ _ (by exact fun e => hne e.symm), heap_setCell_same w p _ _ _ _ h.hp, iA_set]
  · rw [heap_setCell_same _ a 2 _ _ _ (by rw [Below.heap_setCell _ _ _ _ (by exact hne)]; exact h.ha)]
    simp

theorem rpush_room {a p sz : Nat} {l : List Int} (v : Int) (w : World) (h : RG w a p sz l) (hz : sz ≤ 64) (hl : l.length < sz) : Calls Try.prog 36 #[.pointer (some ⟨a, 0, none⟩), .int .i64 v] w (rPushR a p sz (l ++ [v]) true w) := by
  obtain ⟨f, ps, h⟩ := h
  have h0 := h.c0
  have h1 := h.c1
  have h2 := h.c2
  have hne := h.ne
  have hf := h.lt (by omega)
  have HE := Lib.hid (h.pushed hl v)
  obtain ⟨x, hx⟩ : ∃ x, ps[(f + l.length) % sz]? = some x := ⟨_, List.getElem?_eq_getElem (by rw [h.len]; exact Nat.mod_lt _ (by omega))⟩
  have hcp := h.cp hx
  have hfp := h.fp ((f + l.length) % sz)
  have hfa := h.fa 2
  have hi : (f + l.length) % sz < sz := Nat.mod_lt _ (by omega)
  have k1 : ((l.length : Int) == (sz : Int)) = false := by simp; omega
  have k2 : (((f + l.length) % sz : Nat) : Int) < (sz : Int) := by omega
  have k3 : (0 : Int) ≤ (((f + l.length) % sz : Nat) : Int) := by omega
  clear h hx
  generalize hg : (f + l.length) % sz = j at *
  have HG := Lib.hid hg
  clear hg
  go_enter Try.func36, Try.ntmps36
  go_wp2_with fail
  go_quiet (fail)
  go_wp2_with fail
  go_region_with (go_at_call 56; go_loud (refine (rplace_any a sz f l.length (some ⟨p, 0, none⟩) _ (by first | exact h0 | simpa using h0) (by first | exact h1 | simpa using h1) (by omega) hz hf (by omega)).mono ?_; rintro e w2 ⟨rfl, n2, rfl⟩; rw [HG.out]))
  all_goals
    clear hcp hfp h0 h1 k1 k2 k3
    go_wp2
    go_ret
    exact HE.out.draw rfl rfl rfl rfl


def rPopR (a p sz : Nat) (l : List Int) (x : Int) (b : Bool) (w : World) (e : Ending) (w' : World) : Prop := e = .returned (.tuple #[.int .i64 x, .bool b]) ∧ RG w' a p sz l ∧ Only a p w w'
theorem rPopR.draw {a p sz : Nat} {l : List Int} {x : Int} {b : Bool} {w w' w'' : World} {e : Ending} (h : rPopR a p sz l x b w e w') (hh : w''.heap = w'.heap) (h1 : w''.os = w'.os) (h2 : w''.tape = w'.tape) (h3 : w''.output = w'.output) : rPopR a p sz l x b w e w'' :=
  ⟨h.1, h.2.1.keep (by rw [hh]) (by rw [hh]), ⟨h1.trans h.2.2.os, h2.trans h.2.2.tape, h3.trans h.2.2.output, by rw [hh]; exact h.2.2.size, fun k q r => by rw [hh]; exact h.2.2.block k q r⟩⟩
theorem rpop_none {a p sz : Nat} (w : World) (h : RG w a p sz []) : Calls Try.prog 34 #[.pointer (some ⟨a, 0, none⟩)] w (rPopR a p sz [] 0 false w) := by
  have HR := Lib.hid h
  obtain ⟨f, ps, h⟩ := h
  have h2 : w.cell? ⟨a, 2, none⟩ = some (.int .i64 0) := h.c2
  clear h
  go_enter Try.func34, Try.ntmps34
  go_wp2
  go_ret2
  exact ⟨rfl, HR.out, Only.refl _ _ _⟩

theorem RI.popped {a p sz f : Nat} {ps l : List Int} {x : Int} {w : World} (h : RI w a p sz f ps (x :: l)) :
    rPopR a p sz l x true w (.returned (.tuple #[.int .i64 x, .bool true])) (((w.setCell ⟨p, f, none⟩ (.int .i64 0)).setCell ⟨a, 1, none⟩ (.int .i64 (((f + 1) % sz : Nat) : Int))).setCell ⟨a, 2, none⟩ (.int .i64 (l.length : Int))) := by
  have hne := h.ne
  refine ⟨rfl, ⟨(f + 1) % sz, ps.set f 0, ⟨hne, by simpa using h.len, ?_, ?_, ?_⟩⟩, (((Only.refl _ _ _).set (.inr rfl) _).set (.inl rfl) _).set (.inl rfl) _⟩
  · have := h.q.pop
    rw [h.len] at this
    exact this
  · rw [Below.heap_setCell _ _ _ _ (by exact fun e => hne e.symm), Below.heap_setCell _ _ _ _ (by exact fun e => hne e.symm), heap_setCell_same w p _ _ _ _ h.hp, iA_set]
  · rw [heap_setCell_same _ a 2 _ _ _ (heap_setCell_same _ a 1 _ _ _ (by rw [Below.heap_setCell _ _ _ _ (by exact hne)]; exact h.ha))]
    simp

theorem rpop_some {a p sz : Nat} {x : Int} {l : List Int} (w : World) (h : RG w a p sz (x :: l)) (hz : sz ≤ 64) : Calls Try.prog 34 #[.pointer (some ⟨a, 0, none⟩)] w (rPopR a p sz l x true w) := by
  obtain ⟨f, ps, h⟩ := h
  have hs : 0 < sz := by have := h.le; simp at this; omega
  have hll : l.length < 64 := by have := h.le; simp at this; omega
  have h0 := h.c0
  have h1 := h.c1
  have h2 : w.cell? ⟨a, 2, none⟩ = some (.int .i64 ((l.length : Int) + 1)) := by have := h.c2; simpa using this
  have hne := h.ne
  have hf := h.lt hs
  have HE := Lib.hid h.popped
  have hcp := h.cp h.q.head
  have hfp := h.fp f
  have hfa1 := h.fa 1
  have hfa2 := h.fa 2
  have k2 : (f : Int) < (sz : Int) := by omega
  have k3 : (0 : Int) ≤ (f : Int) := by omega
  have k4 : (0 : Int) ≤ (l.length : Int) + 1 := by omega
  have k5 : (l.length : Int) + 1 ≤ 64 := by omega
  have k6 : (((l.length : Int) + 1 == 0) = false) := by simp; omega
  clear h
  go_enter Try.func34, Try.ntmps34
  go_wp2_with fail
  go_quiet (fail)
  go_wp2_with fail
  go_region
  go_wp2_with fail
  refine (rplace_any a sz f 1 (some ⟨p, 0, none⟩) _ ?g0 ?g1 hs hz hf (by omega)).mono ?_
  case g0 => go_simp
  case g1 => go_simp
  rintro e w2 ⟨rfl, n2, rfl⟩
  go_wp2_with fail
  go_ret2
  exact HE.out.draw rfl rfl rfl rfl
end Go.Proofs.Ytmadcnpkaijllaa.Ch
