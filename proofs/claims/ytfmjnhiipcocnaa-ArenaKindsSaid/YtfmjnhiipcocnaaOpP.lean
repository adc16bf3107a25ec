/- What each call of package arena does to an arena of pairs in memory. Conditions: each theorem's own premises. -/
import Derived.Test.YtfmjnhiipcocnaaMem
import Derived.Laws.ResultCell
namespace Go.Proofs.Ytfmjnhiipcocnaa.P
open Go.RowKit
set_option linter.unusedVariables false

theorem inf : (Try.prog.info? 29).map (fun i => (i.zero, i.size, i.bytes)) = some (some (.agg #[.int .i64 0, .int .i64 0]), 2, 16) := by kernel_rfl
/-- An arena of pairs. -/
abbrev A (B : Nat) (w : World) (a most n : Nat) (P : Option Addr) (c : Nat) (xs : List Value) : Prop := AR 29 59 2 B w a most n P c xs
theorem one_cell (x y : Int) : ∀ u ∈ ([.int .i64 x, .int .i64 y] : List Value), u.oneCell' = true := by intro u hu; simp at hu; rcases hu with rfl | rfl <;> rfl

theorem new_no (m : Int) (w : World) (h : m < 1 ∨ 1000 < m) : Calls Try.prog 14 #[.int .i64 m] w fun e w' => e = .returned (.tuple #[.pointer none, .int .i64 1]) ∧ w = w' := by
  by_cases c1 : m < 1
  · go_enter Try.func14, Try.ntmps14
    go_wp2
    go_ret2
    exact ⟨rfl, rfl⟩
  · have c2 : 1000 < m := by omega
    clear h
    go_enter Try.func14, Try.ntmps14
    go_wp2
    go_ret2
    exact ⟨rfl, rfl⟩
def NewR (m : Nat) (w : World) (e : Ending) (w' : World) : Prop :=
  e = .returned (.tuple #[.pointer (some ⟨w.heap.size, 0, none⟩), .int .i64 0]) ∧ (∀ B, B ≤ w.heap.size → A B w' w.heap.size m 0 none 0 []) ∧ Below w.heap.size w w' ∧ w'.heap.size = w.heap.size + 1
theorem new_at (w : World) (m : Nat) : NewR m w (.returned (.tuple #[.pointer (some ⟨w.heap.size, 0, none⟩), .int .i64 0])) (w.alloc (.cells #[.slice none 0 0, .int .i64 (m : Int)] 59)) :=
  ⟨rfl, fun B hB => AR.new _ _ _ B w m hB, below_al _ _, by simp⟩
theorem new_yes (m : Nat) (w : World) (h1 : 1 ≤ m) (h2 : m ≤ 1000) : Calls Try.prog 14 #[.int .i64 (m : Int)] w (NewR m w) := by
  have b1 : (1 : Int) ≤ (m : Int) := by omega
  have b2 : (m : Int) ≤ 1000 := by omega
  go_enter Try.func14, Try.ntmps14
  go_wp2
  go_ret2
  exact new_at w m

theorem len_nil (w : World) : Calls Try.prog 27 #[.pointer none] w fun e w' => e = .returned (.int .i64 0) ∧ w = w' := by
  go_enter Try.func27, Try.ntmps27
  go_wp2
  go_ret
  exact ⟨rfl, rfl⟩
theorem left_nil (w : World) : Calls Try.prog 24 #[.pointer none] w fun e w' => e = .returned (.int .i64 0) ∧ w = w' := by
  go_enter Try.func24, Try.ntmps24
  go_wp2
  go_ret
  exact ⟨rfl, rfl⟩
section
variable {B a most n c : Nat} {P : Option Addr} {xs : List Value}
theorem len_any (w : World) (h : A B w a most n P c xs) : Calls Try.prog 27 #[.pointer (some ⟨a, 0, none⟩)] w fun e w' => e = .returned (.int .i64 (n : Int)) ∧ w = w' := by
  have h0 := h.c0
  clear h
  go_enter Try.func27, Try.ntmps27
  go_wp2
  go_ret
  exact ⟨rfl, rfl⟩
theorem left_any (w : World) (h : A B w a most n P c xs) (hm : most ≤ 1000) : Calls Try.prog 24 #[.pointer (some ⟨a, 0, none⟩)] w fun e w' => e = .returned (.int .i64 ((most : Int) - (n : Int))) ∧ ∃ q, w' = w.drewN q := by
  have h0 := h.c0
  have h1 := h.c1
  have b1 : (n : Int) ≤ (most : Int) := by have := h.le; omega
  have b2 : (most : Int) ≤ 1000 := by omega
  have b3 : IntKind.i64.wrap ((most : Int) - (n : Int)) = (most : Int) - (n : Int) := by rw [IntKind.wrap_i64]; omega
  clear h
  go_enter Try.func24, Try.ntmps24
  go_wp2_with fail
  go_quiet (fail)
  go_wp2
  go_ret
  exact ⟨rfl, _, rfl⟩
theorem has_yes (w : World) (h : A B w a most n P c xs) (i : Nat) (hi : i < n) : Calls Try.prog 26 #[.pointer (some ⟨a, 0, none⟩), .int .i64 (i : Int)] w fun e w' => e = .returned (.bool true) ∧ w = w' := by
  have b1 : (i : Int) < (n : Int) := by omega
  have b2 : (0 : Int) ≤ (i : Int) := by omega
  go_enter Try.func26, Try.ntmps26
  go_wp2_with fail
  refine (len_any w h).mono ?_
  rintro e w' ⟨rfl, rfl⟩
  go_wp2_with fail
  go_ret
  exact ⟨rfl, rfl⟩
theorem has_no (w : World) (h : A B w a most n P c xs) (i : Int) (hi : i < 0 ∨ (n : Int) ≤ i) : Calls Try.prog 26 #[.pointer (some ⟨a, 0, none⟩), .int .i64 i] w fun e w' => e = .returned (.bool false) ∧ w = w' := by
  by_cases c1 : i < 0
  · have c2 : ¬ 0 ≤ i := by omega
    clear hi h
    go_enter Try.func26, Try.ntmps26
    go_wp2_with fail
    go_ret
    exact ⟨rfl, rfl⟩
  · have c2 : 0 ≤ i := by omega
    have c3 : ¬ i < (n : Int) := by omega
    clear hi c1
    go_enter Try.func26, Try.ntmps26
    go_wp2_with fail
    refine (len_any w h).mono ?_
    rintro e w' ⟨rfl, rfl⟩
    go_wp2_with fail
    go_ret
    exact ⟨congrArg (fun b => Ending.returned (.bool b)) (decide_eq_false (by omega)), rfl⟩
theorem add_full (x y : Int) (w : World) (h : A B w a most n P c xs) (hm : most ≤ 1000) (hn : n = most) : Calls Try.prog 16 #[.pointer (some ⟨a, 0, none⟩), .agg #[.int .i64 x, .int .i64 y]] w fun e w' => e = .returned (.tuple #[.int .i64 0, .int .i64 3]) ∧ Below w.heap.size w w' := by
  subst hn
  go_enter Try.func16, Try.ntmps16
  go_wp2_with fail
  refine (left_any _ (h.later (below_al w _)) hm).mono ?_
  rintro e w' ⟨rfl, q, rfl⟩
  have e1 : ((n : Int) - (n : Int)) = 0 := by omega
  rw [e1]
  have HB := Lib.hid ((below_al w (.cells #[.int .i64 x, .int .i64 y] 29)).trans (below_drewN _ q |>.mono (Nat.le_of_lt (by simp))))
  go_wp2_with fail
  go_ret2
  exact ⟨rfl, HB.out⟩

/-- One more is there, under the next number. -/
def AddR (B a most n : Nat) (P : Option Addr) (xs : List Value) (w : World) (e : Ending) (w' : World) : Prop :=
  e = .returned (.tuple #[.int .i64 (n : Int), .int .i64 0]) ∧ ∃ g c', A B w' a most (n + 1) (some ⟨g, 0, none⟩) c' xs ∧ Chg a (blk P) (some g) w w'

theorem below_two {w wx : World} {o1 o2 : Obj} (hh : wx.heap = ((w.alloc o1).alloc o2).heap) (h1 : wx.os = w.os) (h2 : wx.tape = w.tape) (h3 : wx.output = w.output) : Below w.heap.size w wx :=
  ⟨h1, h2, h3, by rw [hh]; simp; omega, fun k hk => by rw [hh]; exact (Below.heap_alloc _ _ k (by simp; omega)).trans (Below.heap_alloc _ _ k hk)⟩
theorem news_two {w wx : World} {o1 : Obj} {cs : Array Value} {t : TypeId} (hh : wx.heap = ((w.alloc o1).alloc (.cells cs t)).heap) : wx.heap[w.heap.size + 1]? = some (.cells cs t (0, 0)) := by
  rw [hh]
  have := heap_alloc_new (w.alloc o1) (.cells cs t)
  rw [World.size_alloc] at this
  exact this
theorem add_mid {wx w w1 : World} (hg : wx.grownBy w1 (Value.slice P n c).ownBlock) (h : A B w a most n P c xs) (hx : Below w.heap.size w wx) : w1.cell? ⟨a, 0, none⟩ = some (.slice P n c) ∧ w1.frozen? ⟨a, 0, none⟩ = false := by
  have hk := (hg.block a (by have := hx.size; have := h.lt; omega) (by rw [own_blk]; exact fun e => h.ne e.symm)).trans (hx.block a h.lt)
  exact ⟨(cell_blk hk 0).trans h.c0, (World.frozen?_of_block (a := ⟨a, 0, none⟩) hk).trans (h.fa 0)⟩
set_option maxHeartbeats 1000000 in
theorem add_room (x y : Int) (w : World) (h : A B w a most n P c xs) (hm : most ≤ 1000) (hn : n < most) (hB : B ≤ w.heap.size) : Calls Try.prog 16 #[.pointer (some ⟨a, 0, none⟩), .agg #[.int .i64 x, .int .i64 y]] w (AddR B a most n P (xs ++ [.int .i64 x, .int .i64 y]) w) := by
  obtain ⟨i0, hi, hz0, hz1, hz2⟩ := info_parts inf
  have b1 : (((most : Int) - (n : Int)) == 0) = false := by simp; omega
  have b2 : (n : Int) ≤ 1000 := by omega
  have b3 : (0 : Int) ≤ (n : Int) := by omega
  have hlt := h.lt
  have hla : a ≠ w.heap.size := by omega
  have HA := Lib.hid h
  have h0 := h.c0
  have hfa := h.fa 0
  have hne := Lib.hid h.ne
  have hw := (h.own)
  clear h
  go_enter Try.func16, Try.ntmps16
  go_wp2_with fail
  refine (left_any _ (HA.out.later (below_al w _)) hm).mono ?_
  rintro e w' ⟨rfl, q, rfl⟩
  go_wp2_with fail
  go_region_law (go_loud (refine step_append_lies _ (by rfl) _ _ _ (by rfl) B 29 i0 (.agg #[.int .i64 0, .int .i64 0]) 2 16 Try.underlying22 hi hz0 hz1 hz2 rfl (by omega) (.slice P n c) n xs (by rfl) (row_later HA.out.own (below_two rfl rfl rfl rfl)) ⟨w.heap.size + 1, 0, none⟩ 1 1 [.int .i64 x, .int .i64 y] (by rfl) (by rfl) (World.news_of_block (cs := #[.int .i64 x, .int .i64 y]) (t := 29) (fr := (0, 0)) (news_two (w := w) (by rfl))) (one_cell x y) (by omega) (by unfold maxLen; omega) (by omega) (by simp; omega) (w.heap.size + 2) (by simp) ?_; intro g cap w1 hown hgrow hat hlt1; have HM := add_mid hgrow HA.out (by exact below_two rfl rfl rfl rfl); have HE := Lib.hid (AR.added HA.out hn (by decide) (by exact below_two rfl rfl rfl rfl) hown hgrow (hat.imp id (by omega))); have hc1 := HM.1; have hf1 := HM.2; clear HM hown hgrow hat hlt1 h0 hfa))
  all_goals
    go_wp2_with fail
    go_ret2
    exact ⟨rfl, g, cap, HE.out⟩
/-- One is told. -/
def GetR (x y : Int) (b : Bool) (w : World) (e : Ending) (w' : World) : Prop := e = .returned (.tuple #[.agg #[.int .i64 x, .int .i64 y], .bool b]) ∧ Below w.heap.size w w'
theorem get_yes (x y : Int) (w : World) (h : A B w a most n P c xs) (i : Nat) (hi : i < n) (hx : xs[i * 2]? = some (.int .i64 x)) (hy : xs[i * 2 + 1]? = some (.int .i64 y)) : Calls Try.prog 20 #[.pointer (some ⟨a, 0, none⟩), .int .i64 (i : Int)] w (GetR x y true w) := by
  obtain ⟨g, rfl, hc⟩ := row_form h.own (by omega)
  have h0 := h.c0
  have hcl : w.cell? ⟨g, i * 2, none⟩ = some (.int .i64 x) := by rw [h.own.cellAt (i * 2) (by omega)]; exact hx
  have hcl2 : w.cell? ⟨g, i * 2 + 1, none⟩ = some (.int .i64 y) := by rw [h.own.cellAt (i * 2 + 1) (by omega)]; exact hy
  have hgl := (row_lt h.own (k := g) rfl).2
  have b1 : (i : Int) < (n : Int) := by omega
  have b2 : (0 : Int) ≤ (i : Int) := by omega
  have hlt := h.lt
  have hla : a ≠ w.heap.size := by omega
  have hlg : g ≠ w.heap.size := by omega
  have HA := Lib.hid h
  clear h
  go_enter Try.func20, Try.ntmps20
  go_wp2_with fail
  refine (has_yes _ (HA.out.later (below_al w _)) i hi).mono ?_
  rintro e w' ⟨rfl, rfl⟩
  go_wp2_with fail
  refine bodyPost_ret (v := .tuple #[.agg #[.int .i64 x, .int .i64 y], .bool true]) ?_ rfl ⟨rfl, below_al w _⟩
  rw [results_cell_tmp rfl]; go_simp
end
end Go.Proofs.Ytfmjnhiipcocnaa.P
