/- What each call of package ring does to a ring in memory. Conditions: each theorem's own premises.
cut takes a link out: those next to it stand next to each other then. Condition: the Queue has it.
cut walked, at each of the four places. Conditions: the Queue has the link there. -/
import Derived.Test.YtdpapnfjpefhkaaZerm
import Derived.Lib.SliceRun
import Derived.StillTailTactics
namespace Go.Proofs.Ytdpapnfjpefhkaa.Ch
open Go.RowKit
set_option linter.unusedVariables false
set_option maxRecDepth 100000


theorem inf3 : (Try.prog.info? 3).map (fun i => (i.zero, i.size, i.bytes)) = some (some (.int .i64 0), 1, 8) := by kernel_rfl
theorem mk_n (w : World) (n : Nat) (hn : n ≤ 64) : (Instr.makeSlice 22 (.int .i64 (n : Int)) (.int .i64 (n : Int))).run Try.prog w = .ok (.slice (some ⟨w.heap.size, 0, none⟩) n n) (w.alloc (.cells (iA (List.replicate n 0)) 3)) := by
  obtain ⟨i0, hi, hz0, hz1, hz2⟩ := info_parts inf3
  have h := run_make (P := Try.prog) w 22 3 i0 _ Try.underlying22 hi hz0 .i64 .i64 (n : Int) (n : Int) (by omega) (Int.le_refl _) (by rw [hz2]; omega) (by omega)
  rw [h, hz1]
  have e : madeCells (Value.int .i64 0).cells ((n : Int).toNat * 1) = iA (List.replicate n 0) := by
    rw [Int.toNat_natCast, Nat.mul_one]
    apply Array.ext'
    show (madeCells #[_] n).toList = _
    rw [toList_madeCells_one]; simp [iA]
  rw [e]; simp

def rNewR (n : Nat) (w : World) (e : Ending) (w' : World) : Prop :=
  e = .returned (.tuple #[.pointer (some ⟨w.heap.size + 1, 0, none⟩), .int .i64 0]) ∧ RG w' (w.heap.size + 1) w.heap.size n [] ∧ Below w.heap.size w w' ∧ w'.heap.size = w.heap.size + 2
theorem rnew_at (w : World) (n : Nat) : rNewR n w (.returned (.tuple #[.pointer (some ⟨w.heap.size + 1, 0, none⟩), .int .i64 0])) ((w.alloc (.cells (iA (List.replicate n 0)) 3)).alloc (.cells #[.slice (some ⟨w.heap.size, 0, none⟩) n n, .int .i64 0, .int .i64 0] 186)) := by
  refine ⟨rfl, ⟨0, List.replicate n 0, ⟨by omega, by simp, QQ.new n, ?_, ?_⟩⟩, ((Below.refl _ _).alloc (Nat.le_refl _) _).alloc (by simp) _, by simp⟩
  · rw [Below.heap_alloc _ _ _ (by simp)]
    exact heap_alloc_new _ _
  · have := heap_alloc_new (w.alloc (.cells (iA (List.replicate n 0)) 3)) (.cells #[.slice (some ⟨w.heap.size, 0, none⟩) n n, .int .i64 0, .int .i64 0] 186)
    rw [World.size_alloc] at this
    exact this
theorem tmod_nat (f i sz : Nat) : ((f : Int) + (i : Int)).tmod (sz : Int) = (((f + i) % sz : Nat) : Int) := by
  rw [Int.tmod_eq_emod_of_nonneg (by omega), Int.natCast_emod, Int.natCast_add]

theorem rplace_any (a sz f i : Nat) (P : Option Addr) (w : World) (h0 : w.cell? ⟨a, 0, none⟩ = some (.slice P sz sz)) (h1 : w.cell? ⟨a, 1, none⟩ = some (.int .i64 f)) (hs : 0 < sz) (hz : sz ≤ 64) (hf : f < sz) (hi : i ≤ 64) :
    Calls Try.prog 90 #[.pointer (some ⟨a, 0, none⟩), .int .i64 i] w fun e w' => e = .returned (.int .i64 (((f + i) % sz : Nat) : Int)) ∧ ∃ n, w' = w.drewN n := by
  have b1 : (0 : Int) < (sz : Int) := by omega
  have b2 : (sz : Int) ≤ 64 := by omega
  have b3 : 0 ≤ (f : Int) + (i : Int) := by omega
  have b4 : (f : Int) + (i : Int) ≤ 128 := by omega
  have e1 : IntKind.i64.wrap ((f : Int) + (i : Int)) = (f : Int) + (i : Int) := by rw [IntKind.wrap_i64]; omega
  have e2 := tmod_nat f i sz
  go_enter Try.func90, Try.ntmps90
  go_wp2_with fail
  go_quiet (fail)
  go_wp2
  go_ret
  exact ⟨rfl, _, rfl⟩

theorem rlen_nil (w : World) : Calls Try.prog 63 #[.pointer none] w fun e w' => e = .returned (.int .i64 0) ∧ w = w' := by
  go_enter Try.func63, Try.ntmps63
  go_wp2
  go_ret
  exact ⟨rfl, rfl⟩
theorem rsize_nil (w : World) : Calls Try.prog 64 #[.pointer none] w fun e w' => e = .returned (.int .i64 0) ∧ w = w' := by
  go_enter Try.func64, Try.ntmps64
  go_wp2
  go_ret
  exact ⟨rfl, rfl⟩
theorem rpush_nil (v : Int) (w : World) : Calls Try.prog 76 #[.pointer none, .int .i64 v] w fun e w' => e = .returned (.bool false) ∧ ∃ n, w' = w.drewN n := by
  go_enter Try.func76, Try.ntmps76
  go_wp2_with fail
  go_quiet (fail)
  go_wp2
  go_ret
  exact ⟨rfl, _, rfl⟩
theorem rlen_any {a p sz : Nat} {l : List Int} (w : World) (h : RG w a p sz l) : Calls Try.prog 63 #[.pointer (some ⟨a, 0, none⟩)] w fun e w' => e = .returned (.int .i64 l.length) ∧ w = w' := by
  obtain ⟨f, ps, h⟩ := h
  have h2 := h.c2
  clear h
  go_enter Try.func63, Try.ntmps63
  go_wp2
  go_ret
  exact ⟨rfl, rfl⟩
theorem rsize_any {a p sz : Nat} {l : List Int} (w : World) (h : RG w a p sz l) : Calls Try.prog 64 #[.pointer (some ⟨a, 0, none⟩)] w fun e w' => e = .returned (.int .i64 sz) ∧ w = w' := by
  obtain ⟨f, ps, h⟩ := h
  have h0 := h.c0
  clear h
  go_enter Try.func64, Try.ntmps64
  go_wp2
  go_ret
  exact ⟨rfl, rfl⟩

/-! clear -/
theorem setCells_zero (p : Nat) : ∀ (k o : Nat) (w : World) (ps : List Int), w.heap[p]? = some (.cells (iA ps) 3 (0, 0)) → ∃ qs : List Int, qs.length = ps.length ∧ (w.setCells p o (List.replicate k (.int .i64 0))).heap[p]? = some (.cells (iA qs) 3 (0, 0)) ∧ Only p p w (w.setCells p o (List.replicate k (.int .i64 0)))
  | 0, o, w, ps, h => ⟨ps, rfl, h, Only.refl _ _ _⟩
  | k + 1, o, w, ps, h => by
    have h1 := heap_setCell_same w p o _ _ (.int .i64 0) h
    rw [iA_set] at h1
    obtain ⟨qs, e1, e2, e3⟩ := setCells_zero p k (o + 1) _ _ h1
    exact ⟨qs, by simpa using e1, e2, ((Only.refl p p w).set (.inl rfl) _).trans e3⟩
theorem zero3 (w : World) : (zeroValue 3).run Try.prog w = .ok (.int .i64 0) w := by kernel_rfl
theorem rclear_run {w : World} {p : Nat} {ps : List Int} (h : w.heap[p]? = some (.cells (iA ps) 3 (0, 0))) :
    ∃ w1 qs, (∀ ty, (Builtin.clear_ #[22] ty #[.slice (some ⟨p, 0, none⟩) ps.length ps.length]).run Try.prog w = .ok (.tuple #[]) w1) ∧ qs.length = ps.length ∧ w1.heap[p]? = some (.cells (iA qs) 3 (0, 0)) ∧ Only p p w w1 := by
  rcases Nat.eq_zero_or_pos ps.length with h0 | h0
  · refine ⟨w, ps, fun ty => ?_, rfl, h, Only.refl _ _ _⟩
    rw [h0]
    simp [Builtin.clear_, run_underlying Try.underlying22]
  · obtain ⟨qs, e1, e2, e3⟩ := setCells_zero p ps.length 0 w ps h
    refine ⟨_, qs, fun ty => Lib.run_clear_slice w 22 3 ty (.int .i64 0) Try.underlying22 zero3 rfl rfl p 0 ps.length ps.length h0 (fun j hj => ?_) (fun j hj => frozen_of_row w p _ _ _ h), e1, e2, e3⟩
    rw [cell_of_row w p _ _ _ _ h]
    simp [iA]; omega
theorem rclear_nil (w : World) : Calls Try.prog 102 #[.pointer none] w fun e w' => e = .returned (.int .i64 0) ∧ w = w' := by
  go_enter Try.func102, Try.ntmps102
  go_wp2
  go_ret
  exact ⟨rfl, rfl⟩
def rClearR (a p sz n : Nat) (w : World) (e : Ending) (w' : World) : Prop := e = .returned (.int .i64 n) ∧ RG w' a p sz [] ∧ Only a p w w'
theorem rclear_any {a p sz : Nat} {l : List Int} (w : World) (h : RG w a p sz l) : Calls Try.prog 102 #[.pointer (some ⟨a, 0, none⟩)] w (rClearR a p sz l.length w) := by
  obtain ⟨f, ps, h⟩ := h
  obtain ⟨w1, qs, hcl, e1, e2, e3⟩ := rclear_run h.hp
  have hne := h.ne
  have hl := h.len
  have ha : w1.heap[a]? = w.heap[a]? := e3.block a hne hne
  have HE : Hid (rClearR a p sz l.length w (.returned (.int .i64 l.length)) (w1.setCell ⟨a, 2, none⟩ (.int .i64 0))) := by
    refine ⟨rfl, ⟨f, qs, ⟨hne, by omega, h.q.clear e1, ?_, ?_⟩⟩, Only.set ⟨e3.os, e3.tape, e3.output, e3.size, fun k _ hk => e3.block k hk hk⟩ (.inl rfl) _⟩
    · rw [Below.heap_setCell _ _ _ _ (by exact fun e => hne e.symm)]; exact e2
    · rw [heap_setCell_same w1 a 2 _ _ _ (ha.trans h.ha)]; rfl
  rw [hl] at hcl
  have h0 := h.c0
  have h2 := h.c2
  have g2 : w1.cell? ⟨a, 2, none⟩ = some (.int .i64 l.length) := (cell_blk ha 2).trans h2
  have gf : w1.frozen? ⟨a, 2, none⟩ = false := frozen_of_row w1 a 2 _ _ (ha.trans h.ha)
  clear e1 e2 e3 ha hl h
  go_enter Try.func102, Try.ntmps102
  go_wp2
  go_ret
  exact HE.out


def rPushR (a p sz : Nat) (l : List Int) (b : Bool) (w : World) (e : Ending) (w' : World) : Prop := e = .returned (.bool b) ∧ RG w' a p sz l ∧ Only a p w w'
theorem rpush_full {a p sz : Nat} {l : List Int} (v : Int) (w : World) (h : RG w a p sz l) (hl : l.length = sz) : Calls Try.prog 76 #[.pointer (some ⟨a, 0, none⟩), .int .i64 v] w (rPushR a p sz l false w) := by
  have HR := Lib.hid h
  obtain ⟨f, ps, h⟩ := h
  have h0 := h.c0
  have h2 := h.c2
  rw [hl] at h2
  clear h hl
  go_enter Try.func76, Try.ntmps76
  go_wp2_with fail
  go_quiet (fail)
  go_wp2
  go_ret
  exact ⟨rfl, HR.out.keep rfl rfl, (Only.refl _ _ _).drewN _⟩

theorem rPushR.draw {a p sz : Nat} {l : List Int} {b : Bool} {w w' w'' : World} {e : Ending} (h : rPushR a p sz l b w e w') (hh : w''.heap = w'.heap) (h1 : w''.os = w'.os) (h2 : w''.tape = w'.tape) (h3 : w''.output = w'.output) : rPushR a p sz l b w e w'' :=
  ⟨h.1, h.2.1.keep (by rw [hh]) (by rw [hh]), ⟨h1.trans h.2.2.os, h2.trans h.2.2.tape, h3.trans h.2.2.output, by rw [hh]; exact h.2.2.size, fun k q r => by rw [hh]; exact h.2.2.block k q r⟩⟩
theorem RI.pushed {a p sz f : Nat} {ps l : List Int} {w : World} (h : RI w a p sz f ps l) (hl : l.length < sz) (v : Int) :
    rPushR a p sz (l ++ [v]) true w (.returned (.bool true)) ((w.setCell ⟨p, (f + l.length) % sz, none⟩ (.int .i64 v)).setCell ⟨a, 2, none⟩ (.int .i64 ((l.length : Int) + 1))) := by
  have hne := h.ne
  refine ⟨rfl, ⟨f, ps.set ((f + l.length) % sz) v, ⟨hne, by simpa using h.len, ?_, ?_, ?_⟩⟩, ((Only.refl _ _ _).set (.inr rfl) _).set (.inl rfl) _⟩
  · have := h.q.push (by rw [h.len]; exact hl) v
    rw [h.len] at this
    exact this
  · rw [Below.heap_setCell _ _ _ _ (by exact fun e => hne e.symm), heap_setCell_same w p _ _ _ _ h.hp, iA_set]
  · rw [heap_setCell_same _ a 2 _ _ _ (by rw [Below.heap_setCell _ _ _ _ (by exact hne)]; exact h.ha)]
    simp

theorem rpush_room {a p sz : Nat} {l : List Int} (v : Int) (w : World) (h : RG w a p sz l) (hz : sz ≤ 64) (hl : l.length < sz) : Calls Try.prog 76 #[.pointer (some ⟨a, 0, none⟩), .int .i64 v] w (rPushR a p sz (l ++ [v]) true w) := by
  obtain ⟨f, ps, h⟩ := h
  have h0 := h.c0
  have h1 := h.c1
  have h2 := h.c2
  have hne := h.ne
  have hf := h.lt (by omega)
  have HE := Lib.hid (h.pushed hl v)
  obtain ⟨x, hx⟩ : ∃ x, ps[(f + l.length) % sz]? = some x := ⟨_, List.getElem?_eq_getElem (by rw [h.len]; exact Nat.mod_lt _ (by omega))⟩
  have hcp := h.cp hx
  have hfp := h.fp ((f + l.length) % sz)
  have hfa := h.fa 2
  have hi : (f + l.length) % sz < sz := Nat.mod_lt _ (by omega)
  have k1 : ((l.length : Int) == (sz : Int)) = false := by simp; omega
  have k2 : (((f + l.length) % sz : Nat) : Int) < (sz : Int) := by omega
  have k3 : (0 : Int) ≤ (((f + l.length) % sz : Nat) : Int) := by omega
  clear h hx
  generalize hg : (f + l.length) % sz = j at *
  have HG := Lib.hid hg
  clear hg
  go_enter Try.func76, Try.ntmps76
  go_wp2_with fail
  go_quiet (fail)
  go_wp2_with fail
  go_region_with (go_at_call 90; go_loud (refine (rplace_any a sz f l.length (some ⟨p, 0, none⟩) _ (by first | exact h0 | simpa using h0) (by first | exact h1 | simpa using h1) (by omega) hz hf (by omega)).mono ?_; rintro e w2 ⟨rfl, n2, rfl⟩; rw [HG.out]))
  all_goals
    clear hcp hfp h0 h1 k1 k2 k3
    go_wp2
    go_ret
    exact HE.out.draw rfl rfl rfl rfl


def rPopR (a p sz : Nat) (l : List Int) (x : Int) (b : Bool) (w : World) (e : Ending) (w' : World) : Prop := e = .returned (.tuple #[.int .i64 x, .bool b]) ∧ RG w' a p sz l ∧ Only a p w w'
theorem rPopR.draw {a p sz : Nat} {l : List Int} {x : Int} {b : Bool} {w w' w'' : World} {e : Ending} (h : rPopR a p sz l x b w e w') (hh : w''.heap = w'.heap) (h1 : w''.os = w'.os) (h2 : w''.tape = w'.tape) (h3 : w''.output = w'.output) : rPopR a p sz l x b w e w'' :=
  ⟨h.1, h.2.1.keep (by rw [hh]) (by rw [hh]), ⟨h1.trans h.2.2.os, h2.trans h.2.2.tape, h3.trans h.2.2.output, by rw [hh]; exact h.2.2.size, fun k q r => by rw [hh]; exact h.2.2.block k q r⟩⟩
theorem RI.popped {a p sz f : Nat} {ps l : List Int} {x : Int} {w : World} (h : RI w a p sz f ps (x :: l)) :
    rPopR a p sz l x true w (.returned (.tuple #[.int .i64 x, .bool true])) (((w.setCell ⟨p, f, none⟩ (.int .i64 0)).setCell ⟨a, 1, none⟩ (.int .i64 (((f + 1) % sz : Nat) : Int))).setCell ⟨a, 2, none⟩ (.int .i64 (l.length : Int))) := by
  have hne := h.ne
  refine ⟨rfl, ⟨(f + 1) % sz, ps.set f 0, ⟨hne, by simpa using h.len, ?_, ?_, ?_⟩⟩, (((Only.refl _ _ _).set (.inr rfl) _).set (.inl rfl) _).set (.inl rfl) _⟩
  · have := h.q.pop
    rw [h.len] at this
    exact this
  · rw [Below.heap_setCell _ _ _ _ (by exact fun e => hne e.symm), Below.heap_setCell _ _ _ _ (by exact fun e => hne e.symm), heap_setCell_same w p _ _ _ _ h.hp, iA_set]
  · rw [heap_setCell_same _ a 2 _ _ _ (heap_setCell_same _ a 1 _ _ _ (by rw [Below.heap_setCell _ _ _ _ (by exact hne)]; exact h.ha))]
    simp

end Go.Proofs.Ytdpapnfjpefhkaa.Ch
namespace Go.Proofs.Ytdpapnfjpefhkaa.Ch
open Go.RowKit
set_option linter.unusedVariables false
set_option maxRecDepth 100000

theorem head_any {w : World} {s : Bool} {q : Nat} {R : Rs} {ns : Ns} (h : LQ w s q R ns) : Calls Try.prog 65 #[.pointer (some ⟨q, off s, none⟩)] w fun e w' => e = .returned (.pointer (adr (hd ns none))) ∧ w = w' := by
  have h0 := h.hq.c0
  clear h
  cases s
  all_goals
    simp only [off] at h0 ⊢
    go_enter Try.func65, Try.ntmps65
    go_wp2
    go_ret
    exact ⟨rfl, rfl⟩
def CutR (s : Bool) (q : Nat) (R : Rs) (b : Nat) (ns ns' : Ns) (w : World) (e : Ending) (w' : World) : Prop := e = .returned (.tuple #[]) ∧ LQ w' s q R ns' ∧ w'.heap[b]? = w.heap[b]? ∧ Tn (qF q ns) w w'
theorem CutR.draw {s : Bool} {q : Nat} {R : Rs} {b : Nat} {ns ns' : Ns} {w w' w'' : World} {e : Ending} (h : CutR s q R b ns ns' w e w') (hh : w''.heap = w'.heap) (h1 : w''.os = w'.os) (h2 : w''.tape = w'.tape) (h3 : w''.output = w'.output) : CutR s q R b ns ns' w e w'' :=
  ⟨h.1, h.2.1.keep (fun k _ => by rw [hh]), by rw [hh]; exact h.2.2.1, h.2.2.2.draws hh h1 h2 h3⟩

theorem nodup_mid {l r : Ns} {b : Nat} {x : Wt} (h : ((l ++ (b, x) :: r).map (·.1)).Nodup) : (∀ m ∈ l, m.1 ≠ b) ∧ (∀ m ∈ r, m.1 ≠ b) ∧ ((l ++ r).map (·.1)).Nodup ∧ (∀ m ∈ l, ∀ k ∈ r, m.1 ≠ k.1) := by
  simp only [List.map_append, List.map_cons, List.nodup_append, List.nodup_cons, List.mem_map, List.mem_cons] at h ⊢
  obtain ⟨h1, ⟨h2, h3⟩, h4⟩ := h
  refine ⟨fun m hm => h4 _ ⟨m, hm, rfl⟩ _ (.inl rfl), fun m hm e => h2 ⟨m, hm, e⟩, ⟨h1, h3, fun a ha c hc => h4 a ha c (.inr hc)⟩, fun m hm k hk => h4 _ ⟨m, hm, rfl⟩ _ (.inr ⟨k, hk, rfl⟩)⟩
theorem lst_snoc (l : Ns) (a : Nat) (y : Wt) (p : Option Nat) : lst (l ++ [(a, y)]) p = some a := by rw [lst_app]; rfl
theorem nodup_last {l : Ns} {a : Nat} {y : Wt} (h : ((l ++ [(a, y)]).map (·.1)).Nodup) : ∀ m ∈ l, m.1 ≠ a := (nodup_mid h).1
theorem nodup_app {l r : Ns} (h : ((l ++ r).map (·.1)).Nodup) : (l.map (·.1)).Nodup ∧ (r.map (·.1)).Nodup := by
  simp only [List.map_append, List.nodup_append] at h; exact ⟨h.1, h.2.1⟩

section
variable {w : World} {s : Bool} {R : Rs} {q b : Nat} {x : Wt}
theorem LQ.mid {l r : Ns} (h : LQ w s q R (l ++ (b, x) :: r)) : Sg w none l (some b) ∧ Nd w b x (lst l none) (hd r none) ∧ Sg w (some b) r none := by
  have := (Sg.app _ _ _ _).1 h.sg
  exact ⟨this.1, this.2.1, this.2.2⟩
theorem fq {ns : Ns} : qF q ns q := .inl rfl
theorem fn {ns : Ns} {m : Nat × Wt} (h : m ∈ ns) : qF q ns m.1 := .inr ⟨m, h, rfl⟩
theorem CutR.one (h : LQ w s q R [(b, x)]) : CutR s q R b [(b, x)] [] w (.returned (.tuple #[])) (((w.setCell ⟨q, off s, none⟩ (.pointer (adr none))).setCell ⟨q, off s + 1, none⟩ (.pointer (adr none))).setCell ⟨q, off s + 2, none⟩ (.int .i64 0)) := by
  have hne := h.ne (b, x) (by simp)
  refine ⟨rfl, ⟨(((h.hq.s0 _).s1 _).s2 0), trivial, List.nodup_nil⟩, ?_, (((Tn.refl _ w).set (.inl fq) _).set (.inl fq) _).set (.inl fq) _⟩
  rw [Below.heap_setCell _ _ _ _ hne, Below.heap_setCell _ _ _ _ hne, Below.heap_setCell _ _ _ _ hne]
theorem CutR.first {c : Nat} {z : Wt} {r : Ns} (h : LQ w s q R ((b, x) :: (c, z) :: r)) : CutR s q R b ((b, x) :: (c, z) :: r) ((c, z) :: r) w (.returned (.tuple #[])) (((w.setCell ⟨q, off s, none⟩ (.pointer (adr (some c)))).setCell ⟨c, 3, none⟩ (.pointer (adr none))).setCell ⟨q, off s + 2, none⟩ (.int .i64 ((r.length + 1 : Nat) : Int))) := by
  have hb := h.ne (b, x) (by simp)
  have hc := h.ne (c, z) (by simp)
  obtain ⟨_, hr, hnd, _⟩ := nodup_mid (l := []) h.nd
  have hbc := hr (c, z) (by simp)
  have hcr := (nodup_mid (l := []) hnd).2.1
  have hsg : Sg w (some b) ((c, z) :: r) none := h.sg.2
  have hqr : ∀ m ∈ (c, z) :: r, m.1 ≠ q := fun m hm => h.ne m (List.mem_cons_of_mem _ hm)
  refine ⟨rfl, ⟨?_, ?_, hnd⟩, ?_, (((Tn.refl _ w).set (.inl fq) _).set (.inl (fn (m := (c, z)) (by simp))) _).set (.inl fq) _⟩
  · exact Hd.s2 ((h.hq.s0 (some c)).keep (Below.heap_setCell _ _ _ _ (by exact fun e => hc e.symm))) _
  · exact Sg.other (Sg.prev (Sg.other hsg hqr) hcr none) hqr
  · rw [Below.heap_setCell _ _ _ _ hb, Below.heap_setCell _ _ _ _ (by exact fun e => hbc e.symm), Below.heap_setCell _ _ _ _ hb]
theorem CutR.last {a : Nat} {y : Wt} {l : Ns} (h : LQ w s q R (l ++ [(a, y)] ++ [(b, x)])) : CutR s q R b (l ++ [(a, y)] ++ [(b, x)]) (l ++ [(a, y)]) w (.returned (.tuple #[])) (((w.setCell ⟨a, 4, none⟩ (.pointer (adr none))).setCell ⟨q, off s + 1, none⟩ (.pointer (adr (some a)))).setCell ⟨q, off s + 2, none⟩ (.int .i64 ((l.length + 1 : Nat) : Int))) := by
  have hb := h.ne (b, x) (by simp)
  have ha := h.ne (a, y) (by simp)
  obtain ⟨hl, _, hnd, _⟩ := nodup_mid h.nd
  rw [List.append_nil] at hnd
  have hab := hl (a, y) (by simp)
  have hal := nodup_last hnd
  have hsg : Sg w none (l ++ [(a, y)]) (some b) := h.mid.1
  have hql : ∀ m ∈ l ++ [(a, y)], m.1 ≠ q := fun m hm => h.ne m (List.mem_append_left _ hm)
  have hq := h.hq
  rw [hd_app, hd_app] at hq
  refine ⟨rfl, ⟨?_, ?_, hnd⟩, ?_, (((Tn.refl _ w).set (.inl (fn (m := (a, y)) (by simp))) _).set (.inl fq) _).set (.inl fq) _⟩
  · rw [lst_snoc, List.length_append, hd_app]
    exact Hd.s2 (Hd.s1 (hq.keep (Below.heap_setCell _ _ _ _ (by exact fun e => ha e.symm))) _) _
  · exact Sg.other (Sg.other (Sg.next hsg hal none) hql) hql
  · rw [Below.heap_setCell _ _ _ _ hb, Below.heap_setCell _ _ _ _ hb, Below.heap_setCell _ _ _ _ (by exact fun e => hab e.symm)]
theorem CutR.midst {a c : Nat} {y z : Wt} {l r : Ns} (h : LQ w s q R (l ++ [(a, y)] ++ (b, x) :: (c, z) :: r)) : CutR s q R b (l ++ [(a, y)] ++ (b, x) :: (c, z) :: r) (l ++ [(a, y)] ++ (c, z) :: r) w (.returned (.tuple #[])) (((w.setCell ⟨a, 4, none⟩ (.pointer (adr (some c)))).setCell ⟨c, 3, none⟩ (.pointer (adr (some a)))).setCell ⟨q, off s + 2, none⟩ (.int .i64 (((l ++ [(a, y)] ++ (c, z) :: r).length : Nat) : Int))) := by
  have hb := h.ne (b, x) (by simp)
  have ha := h.ne (a, y) (by simp)
  have hc := h.ne (c, z) (by simp)
  obtain ⟨hl, hr, hnd, hx⟩ := nodup_mid h.nd
  have hab := hl (a, y) (by simp)
  have hcb := hr (c, z) (by simp)
  have hal := nodup_last (nodup_app hnd).1
  have hcr := (nodup_mid (l := []) (nodup_app hnd).2).2.1
  obtain ⟨s1, _, s2⟩ := h.mid
  have hql : ∀ m ∈ l ++ [(a, y)], m.1 ≠ q := fun m hm => h.ne m (List.mem_append_left _ hm)
  have hqr : ∀ m ∈ (c, z) :: r, m.1 ≠ q := fun m hm => h.ne m (List.mem_append_right _ (List.mem_cons_of_mem _ hm))
  have hq := h.hq
  rw [hd_app, hd_app, lst_app] at hq
  refine ⟨rfl, ⟨?_, ?_, hnd⟩, ?_, (((Tn.refl _ w).set (.inl (fn (m := (a, y)) (by simp))) _).set (.inl (fn (m := (c, z)) (by simp))) _).set (.inl fq) _⟩
  · rw [hd_app, hd_app, lst_app]
    exact Hd.s2 ((hq.keep (Below.heap_setCell _ _ _ _ (by exact fun e => ha e.symm))).keep (Below.heap_setCell _ _ _ _ (by exact fun e => hc e.symm))) _
  · refine Sg.other ((Sg.app _ _ _ _).2 ⟨?_, ?_⟩) (fun m hm => ?_)
    · exact Sg.other (Sg.next s1 hal (some c)) (fun m hm => hx m hm (c, z) (by simp))
    · rw [lst_snoc]
      exact Sg.prev (Sg.other s2 (fun m hm e => hx (a, y) (by simp) m hm e.symm)) hcr (some a)
    · rcases List.mem_append.1 hm with hm | hm
      · exact hql m hm
      · exact hqr m hm
  · rw [Below.heap_setCell _ _ _ _ hb, Below.heap_setCell _ _ _ _ (by exact fun e => hcb e.symm), Below.heap_setCell _ _ _ _ (by exact fun e => hab e.symm)]
end
end Go.Proofs.Ytdpapnfjpefhkaa.Ch
namespace Go.Proofs.Ytdpapnfjpefhkaa.Ch
open Go.RowKit
set_option linter.unusedVariables false
set_option maxRecDepth 100000

section
variable {w : World} {s : Bool} {R : Rs} {q b : Nat} {x : Wt}
theorem cut_one (h : LQ w s q R [(b, x)]) : Calls Try.prog 89 #[.pointer (some ⟨q, off s, none⟩), .pointer (some ⟨b, 0, none⟩)] w (CutR s q R b [(b, x)] [] w) := by
  have HE := Lib.hid (CutR.one h)
  have hne := h.ne (b, x) (by simp)
  have hN := h.sg.1
  have n3 := hN.c3
  have n4 := hN.c4
  have q2 : w.cell? ⟨q, off s + 2, none⟩ = some (.int .i64 1) := h.hq.c2
  have q0 := h.hq.c0
  have q1 := h.hq.c1
  have f0 := h.hq.fz (off s)
  have f1 := h.hq.fz (off s + 1)
  have f2 := h.hq.fz (off s + 2)
  simp only [hd, lst, adr_none, adr_some] at n3 n4 q0 q1
  clear h hN
  cases s
  all_goals
   simp only [off, Nat.reduceAdd] at *
   go_enter Try.func89, Try.ntmps89
   go_wp2
   go_end0
   exact HE.out
theorem cut_first {c : Nat} {z : Wt} {r : Ns} (h : LQ w s q R ((b, x) :: (c, z) :: r)) (hl : r.length ≤ 1000000) : Calls Try.prog 89 #[.pointer (some ⟨q, off s, none⟩), .pointer (some ⟨b, 0, none⟩)] w (CutR s q R b (((b, x) :: (c, z) :: r)) ((c, z) :: r) w) := by
  have HE := Lib.hid (CutR.first h)
  have hne := h.ne (b, x) (by simp)
  have hnc := h.ne (c, z) (by simp)
  have hbc := (nodup_mid (l := []) h.nd).2.1 (c, z) (by simp)
  have hN := h.sg.1
  have hC := h.sg.2.1
  have n3 := hN.c3
  have n4 := hN.c4
  have c3 := hC.c3
  have fc := hC.fz 3
  have q2 : w.cell? ⟨q, off s + 2, none⟩ = some (.int .i64 ((r.length : Int) + 1 + 1)) := h.hq.c2
  have q0 := h.hq.c0
  have f0 := h.hq.fz (off s)
  have f2 := h.hq.fz (off s + 2)
  simp only [hd, adr_none, adr_some] at n3 n4 q0 c3 hne hnc hbc
  clear h hN hC
  cases s
  all_goals
   simp only [off, Nat.reduceAdd] at *
   go_enter Try.func89, Try.ntmps89
   go_wp2_with fail
   go_region
   go_wp2
   go_end0
   exact HE.out.draw rfl rfl rfl rfl
theorem cut_last {a : Nat} {y : Wt} {l : Ns} (h : LQ w s q R (l ++ [(a, y)] ++ [(b, x)])) (hl : l.length ≤ 1000000) : Calls Try.prog 89 #[.pointer (some ⟨q, off s, none⟩), .pointer (some ⟨b, 0, none⟩)] w (CutR s q R b (l ++ [(a, y)] ++ [(b, x)]) (l ++ [(a, y)]) w) := by
  have HE := Lib.hid (CutR.last h)
  have hne := h.ne (b, x) (by simp)
  have hna := h.ne (a, y) (by simp)
  have hab := (nodup_mid h.nd).1 (a, y) (by simp)
  obtain ⟨s1, hN, _⟩ := h.mid
  have hA := ((Sg.app _ _ _ _).1 s1).2.1
  rw [lst_snoc] at hN
  have n3 := hN.c3
  have n4 := hN.c4
  have a4 := hA.c4
  have fa := hA.fz 4
  have q2 : w.cell? ⟨q, off s + 2, none⟩ = some (.int .i64 ((l.length : Int) + 1 + 1)) := by have := h.hq.c2; rw [this]; simp; omega
  have q1 := h.hq.c1
  rw [lst_snoc] at q1
  have f1 := h.hq.fz (off s + 1)
  have f2 := h.hq.fz (off s + 2)
  simp only [hd, adr_none, adr_some] at n3 n4 q1 a4 hne hna hab
  clear h hN hA s1
  cases s
  all_goals
   simp only [off, Nat.reduceAdd] at *
   go_enter Try.func89, Try.ntmps89
   go_wp2_with fail
   go_region
   go_wp2
   go_end0
   exact HE.out.draw rfl rfl rfl rfl
theorem cut_midst {a c : Nat} {y z : Wt} {l r : Ns} (h : LQ w s q R (l ++ [(a, y)] ++ (b, x) :: (c, z) :: r)) (hl : l.length ≤ 1000000) (hr : r.length ≤ 1000000) : Calls Try.prog 89 #[.pointer (some ⟨q, off s, none⟩), .pointer (some ⟨b, 0, none⟩)] w (CutR s q R b (l ++ [(a, y)] ++ (b, x) :: (c, z) :: r) (l ++ [(a, y)] ++ (c, z) :: r) w) := by
  have HE := CutR.midst h
  rw [show (((l ++ [(a, y)] ++ (c, z) :: r).length : Nat) : Int) = (l.length : Int) + (r.length : Int) + 2 from by simp; omega] at HE
  replace HE := Lib.hid HE
  have hne := h.ne (b, x) (by simp)
  have hna := h.ne (a, y) (by simp)
  have hnc := h.ne (c, z) (by simp)
  obtain ⟨hL, hR, _, hX⟩ := nodup_mid h.nd
  have hab := hL (a, y) (by simp)
  have hcb := hR (c, z) (by simp)
  have hac := hX (a, y) (by simp) (c, z) (by simp)
  obtain ⟨s1, hN, s2⟩ := h.mid
  have hA := ((Sg.app _ _ _ _).1 s1).2.1
  have hC := s2.1
  rw [lst_snoc] at hN
  have n3 := hN.c3
  have n4 := hN.c4
  have a4 := hA.c4
  have fa := hA.fz 4
  have c3 := hC.c3
  have fc := hC.fz 3
  have q2 : w.cell? ⟨q, off s + 2, none⟩ = some (.int .i64 ((l.length : Int) + (r.length : Int) + 3)) := by
    have := h.hq.c2
    rw [this, show (((l ++ [(a, y)] ++ (b, x) :: (c, z) :: r).length : Nat) : Int) = (l.length : Int) + (r.length : Int) + 3 from by simp; omega]
  have f2 := h.hq.fz (off s + 2)
  simp only [hd, adr_some] at n3 n4 a4 c3 hne hna hab hnc hcb hac
  have k1 : (0 : Int) ≤ (l.length : Int) + (r.length : Int) := by omega
  have k2 : (l.length : Int) + (r.length : Int) ≤ 2000000 := by omega
  have k3 : (l.length : Int) + (r.length : Int) + 3 - 1 = (l.length : Int) + (r.length : Int) + 2 := by omega
  clear h hN hA hC s1 s2 hL hR hX
  cases s
  all_goals
   simp only [off, Nat.reduceAdd] at *
   go_enter Try.func89, Try.ntmps89
   go_wp2_with fail
   go_region
   go_wp2_with fail
   go_region
   go_wp2
   go_end0
   exact HE.out.draw rfl rfl rfl rfl
end
/-- At any place. -/
theorem snoc_cases (l : Ns) : l = [] ∨ ∃ l0 a y, l = l0 ++ [(a, y)] := by
  rcases l.eq_nil_or_concat with h | ⟨l0, ⟨a, y⟩, h⟩
  · exact .inl h
  · exact .inr ⟨l0, a, y, by rw [h, List.concat_eq_append]⟩
theorem cut_any {w : World} {s : Bool} {R : Rs} {q b : Nat} {x : Wt} {l r : Ns} (h : LQ w s q R (l ++ (b, x) :: r)) (hl : l.length ≤ 1000000) (hr : r.length ≤ 1000000) : Calls Try.prog 89 #[.pointer (some ⟨q, off s, none⟩), .pointer (some ⟨b, 0, none⟩)] w (CutR s q R b (l ++ (b, x) :: r) (l ++ r) w) := by
  rcases snoc_cases l with rfl | ⟨l0, a, y, rfl⟩
  · cases r with
    | nil => exact cut_one h
    | cons cz r => exact cut_first h (by simp at hr; omega)
  · cases r with
    | nil => rw [List.append_nil]; exact cut_last h (by simp at hl; omega)
    | cons cz r => exact cut_midst h (by simp at hl; omega) (by simp at hr; omega)
end Go.Proofs.Ytdpapnfjpefhkaa.Ch
