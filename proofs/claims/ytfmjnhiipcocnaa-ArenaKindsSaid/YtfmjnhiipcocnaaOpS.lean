/- What each call of package arena does to an arena of texts in memory. Conditions: each theorem's own premises. -/
import Derived.Test.YtfmjnhiipcocnaaMem
namespace Go.Proofs.Ytfmjnhiipcocnaa.S
open Go.RowKit
set_option linter.unusedVariables false

theorem inf : (Try.prog.info? 9).map (fun i => (i.zero, i.size, i.bytes)) = some (some (.string ⟨#[]⟩), 1, 16) := by kernel_rfl
/-- An arena of texts. -/
abbrev A (B : Nat) (w : World) (a most n : Nat) (P : Option Addr) (c : Nat) (xs : List Value) : Prop := AR 9 57 1 B w a most n P c xs
theorem one_cell (x : ByteArray) : ∀ u ∈ ([.string x] : List Value), u.oneCell' = true := by intro u hu; simp at hu; rcases hu with rfl | rfl <;> rfl

theorem new_no (m : Int) (w : World) (h : m < 1 ∨ 1000 < m) : Calls Try.prog 13 #[.int .i64 m] w fun e w' => e = .returned (.tuple #[.pointer none, .int .i64 1]) ∧ w = w' := by
  by_cases c1 : m < 1
  · go_enter Try.func13, Try.ntmps13
    go_wp2
    go_ret2
    exact ⟨rfl, rfl⟩
  · have c2 : 1000 < m := by omega
    clear h
    go_enter Try.func13, Try.ntmps13
    go_wp2
    go_ret2
    exact ⟨rfl, rfl⟩
def NewR (m : Nat) (w : World) (e : Ending) (w' : World) : Prop :=
  e = .returned (.tuple #[.pointer (some ⟨w.heap.size, 0, none⟩), .int .i64 0]) ∧ (∀ B, B ≤ w.heap.size → A B w' w.heap.size m 0 none 0 []) ∧ Below w.heap.size w w' ∧ w'.heap.size = w.heap.size + 1
theorem new_at (w : World) (m : Nat) : NewR m w (.returned (.tuple #[.pointer (some ⟨w.heap.size, 0, none⟩), .int .i64 0])) (w.alloc (.cells #[.slice none 0 0, .int .i64 (m : Int)] 57)) :=
  ⟨rfl, fun B hB => AR.new _ _ _ B w m hB, below_al _ _, by simp⟩
theorem new_yes (m : Nat) (w : World) (h1 : 1 ≤ m) (h2 : m ≤ 1000) : Calls Try.prog 13 #[.int .i64 (m : Int)] w (NewR m w) := by
  have b1 : (1 : Int) ≤ (m : Int) := by omega
  have b2 : (m : Int) ≤ 1000 := by omega
  go_enter Try.func13, Try.ntmps13
  go_wp2
  go_ret2
  exact new_at w m

theorem len_nil (w : World) : Calls Try.prog 22 #[.pointer none] w fun e w' => e = .returned (.int .i64 0) ∧ w = w' := by
  go_enter Try.func22, Try.ntmps22
  go_wp2
  go_ret
  exact ⟨rfl, rfl⟩
theorem left_nil (w : World) : Calls Try.prog 17 #[.pointer none] w fun e w' => e = .returned (.int .i64 0) ∧ w = w' := by
  go_enter Try.func17, Try.ntmps17
  go_wp2
  go_ret
  exact ⟨rfl, rfl⟩
section
variable {B a most n c : Nat} {P : Option Addr} {xs : List Value}
theorem len_any (w : World) (h : A B w a most n P c xs) : Calls Try.prog 22 #[.pointer (some ⟨a, 0, none⟩)] w fun e w' => e = .returned (.int .i64 (n : Int)) ∧ w = w' := by
  have h0 := h.c0
  clear h
  go_enter Try.func22, Try.ntmps22
  go_wp2
  go_ret
  exact ⟨rfl, rfl⟩
theorem left_any (w : World) (h : A B w a most n P c xs) (hm : most ≤ 1000) : Calls Try.prog 17 #[.pointer (some ⟨a, 0, none⟩)] w fun e w' => e = .returned (.int .i64 ((most : Int) - (n : Int))) ∧ ∃ q, w' = w.drewN q := by
  have h0 := h.c0
  have h1 := h.c1
  have b1 : (n : Int) ≤ (most : Int) := by have := h.le; omega
  have b2 : (most : Int) ≤ 1000 := by omega
  have b3 : IntKind.i64.wrap ((most : Int) - (n : Int)) = (most : Int) - (n : Int) := by rw [IntKind.wrap_i64]; omega
  clear h
  go_enter Try.func17, Try.ntmps17
  go_wp2_with fail
  go_quiet (fail)
  go_wp2
  go_ret
  exact ⟨rfl, _, rfl⟩
theorem has_yes (w : World) (h : A B w a most n P c xs) (i : Nat) (hi : i < n) : Calls Try.prog 25 #[.pointer (some ⟨a, 0, none⟩), .int .i64 (i : Int)] w fun e w' => e = .returned (.bool true) ∧ w = w' := by
  have b1 : (i : Int) < (n : Int) := by omega
  have b2 : (0 : Int) ≤ (i : Int) := by omega
  go_enter Try.func25, Try.ntmps25
  go_wp2_with fail
  refine (len_any w h).mono ?_
  rintro e w' ⟨rfl, rfl⟩
  go_wp2_with fail
  go_ret
  exact ⟨rfl, rfl⟩
theorem has_no (w : World) (h : A B w a most n P c xs) (i : Int) (hi : i < 0 ∨ (n : Int) ≤ i) : Calls Try.prog 25 #[.pointer (some ⟨a, 0, none⟩), .int .i64 i] w fun e w' => e = .returned (.bool false) ∧ w = w' := by
  by_cases c1 : i < 0
  · have c2 : ¬ 0 ≤ i := by omega
    clear hi h
    go_enter Try.func25, Try.ntmps25
    go_wp2_with fail
    go_ret
    exact ⟨rfl, rfl⟩
  · have c2 : 0 ≤ i := by omega
    have c3 : ¬ i < (n : Int) := by omega
    clear hi c1
    go_enter Try.func25, Try.ntmps25
    go_wp2_with fail
    refine (len_any w h).mono ?_
    rintro e w' ⟨rfl, rfl⟩
    go_wp2_with fail
    go_ret
    exact ⟨congrArg (fun b => Ending.returned (.bool b)) (decide_eq_false (by omega)), rfl⟩
theorem add_full (x : ByteArray) (w : World) (h : A B w a most n P c xs) (hm : most ≤ 1000) (hn : n = most) : Calls Try.prog 15 #[.pointer (some ⟨a, 0, none⟩), .string x] w fun e w' => e = .returned (.tuple #[.int .i64 0, .int .i64 3]) ∧ Below w.heap.size w w' := by
  subst hn
  go_enter Try.func15, Try.ntmps15
  go_wp2_with fail
  refine (left_any w h hm).mono ?_
  rintro e w' ⟨rfl, q, rfl⟩
  have e1 : ((n : Int) - (n : Int)) = 0 := by omega
  rw [e1]
  go_wp2_with fail
  go_ret2
  exact ⟨rfl, below_drewN w q⟩

/-- One more is there, under the next number. -/
def AddR (B a most n : Nat) (P : Option Addr) (xs : List Value) (w : World) (e : Ending) (w' : World) : Prop :=
  e = .returned (.tuple #[.int .i64 (n : Int), .int .i64 0]) ∧ ∃ g c', A B w' a most (n + 1) (some ⟨g, 0, none⟩) c' xs ∧ Chg a (blk P) (some g) w w'

theorem add_room (x : ByteArray) (w : World) (h : A B w a most n P c xs) (hm : most ≤ 1000) (hn : n < most) (hB : B ≤ w.heap.size) : Calls Try.prog 15 #[.pointer (some ⟨a, 0, none⟩), .string x] w (AddR B a most n P (xs ++ [.string x]) w) := by
  obtain ⟨i0, hi, hz0, hz1, hz2⟩ := info_parts inf
  have b1 : (((most : Int) - (n : Int)) == 0) = false := by simp; omega
  have b2 : (n : Int) ≤ 1000 := by omega
  have b3 : (0 : Int) ≤ (n : Int) := by omega
  have hlt := h.lt
  have HA := Lib.hid h
  have h0 := h.c0
  have hfa := h.fa 0
  have hne := Lib.hid h.ne
  clear h
  go_enter Try.func15, Try.ntmps15
  go_wp2_with fail
  refine (left_any w HA.out hm).mono ?_
  rintro e w' ⟨rfl, q, rfl⟩
  have HX := Lib.hid ((below_drewN w q).trans ((below_al (w.drewN q) (.cells #[.string x] 9)).mono (Nat.le_refl _)))
  go_wp2_with (at_builtin; go_loud (refine wpList_append_lies _ rfl (.tmp 13) (.tmp 15) 37 rfl B 9 i0 _ 1 16 Try.underlying37 hi hz0 hz1 hz2 rfl (by omega) (.slice P n c) n xs rfl (row_later HA.out.own HX.out) ⟨w.heap.size, 0, none⟩ 1 1 [.string x] rfl rfl (World.news_of_block (cs := #[.string x]) (heap_alloc_new (w.drewN q) _)) (one_cell x) (by omega) (by unfold maxLen; omega) (by omega) (by have := HX.out.size; omega) (w.heap.size + 1) (by first | (simp; done) | (simp; rfl)) ?_; intro g cap w1 hown hgrow hat hlt1; have HE := Lib.hid (AR.added HA.out hn (by decide) HX.out hown hgrow (hat.imp id (by omega))); have hc1 : w1.cell? ⟨a, 0, none⟩ = some (.slice P n c) := (cell_blk ((hgrow.block a (by have := HX.out.size; omega) (by rw [own_blk]; exact fun e => hne.out e.symm)).trans (HX.out.block a hlt)) 0).trans h0; have hf1 : w1.frozen? ⟨a, 0, none⟩ = false := (World.frozen?_of_block (a := ⟨a, 0, none⟩) ((hgrow.block a (by have := HX.out.size; omega) (by rw [own_blk]; exact fun e => hne.out e.symm)).trans (HX.out.block a hlt))).trans hfa; clear hown hgrow hat hlt1 HX h0 hfa))
  go_wp2_with fail
  go_ret2
  exact ⟨rfl, g, cap, HE.out⟩
theorem get_yes (x : ByteArray) (w : World) (h : A B w a most n P c xs) (i : Nat) (hi : i < n) (hx : xs[i]? = some (.string x)) : Calls Try.prog 19 #[.pointer (some ⟨a, 0, none⟩), .int .i64 (i : Int)] w fun e w' => e = .returned (.tuple #[.string x, .bool true]) ∧ w = w' := by
  obtain ⟨g, rfl, hc⟩ := row_form h.own (by omega)
  have h0 := h.c0
  have hcl : w.cell? ⟨g, i, none⟩ = some (.string x) := by rw [h.own.cellAt i (by omega)]; exact hx
  have b1 : (i : Int) < (n : Int) := by omega
  have b2 : (0 : Int) ≤ (i : Int) := by omega
  have HA := Lib.hid h
  clear h
  go_enter Try.func19, Try.ntmps19
  go_wp2_with fail
  refine (has_yes w HA.out i hi).mono ?_
  rintro e w' ⟨rfl, rfl⟩
  go_wp2_with fail
  go_ret2
  exact ⟨rfl, rfl⟩
theorem get_no (w : World) (h : A B w a most n P c xs) (i : Int) (hi : i < 0 ∨ (n : Int) ≤ i) : Calls Try.prog 19 #[.pointer (some ⟨a, 0, none⟩), .int .i64 i] w fun e w' => e = .returned (.tuple #[.string ⟨#[]⟩, .bool false]) ∧ w = w' := by
  go_enter Try.func19, Try.ntmps19
  go_wp2_with fail
  refine (has_no w h i hi).mono ?_
  rintro e w' ⟨rfl, rfl⟩
  go_wp2_with fail
  go_ret2
  exact ⟨rfl, rfl⟩
theorem set_no (x : ByteArray) (w : World) (h : A B w a most n P c xs) (i : Int) (hi : i < 0 ∨ (n : Int) ≤ i) : Calls Try.prog 21 #[.pointer (some ⟨a, 0, none⟩), .int .i64 i, .string x] w fun e w' => e = .returned (.bool false) ∧ w = w' := by
  go_enter Try.func21, Try.ntmps21
  go_wp2_with fail
  refine (has_no w h i hi).mono ?_
  rintro e w' ⟨rfl, rfl⟩
  go_wp2_with fail
  go_ret
  exact ⟨rfl, rfl⟩
/-- One is changed. -/
def SetR (B a most n : Nat) (P : Option Addr) (c : Nat) (xs : List Value) (w : World) (e : Ending) (w' : World) : Prop :=
  e = .returned (.bool true) ∧ A B w' a most n P c xs ∧ Chg a (blk P) (blk P) w w'
theorem set_yes (x : ByteArray) (y : ByteArray) (w : World) (h : A B w a most n P c xs) (i : Nat) (hi : i < n) (hx : xs[i]? = some (.string y)) : Calls Try.prog 21 #[.pointer (some ⟨a, 0, none⟩), .int .i64 (i : Int), .string x] w (SetR B a most n P c (xs.set i (.string x)) w) := by
  obtain ⟨g, rfl, hc⟩ := row_form h.own (by omega)
  have h0 := h.c0
  have hcl : w.cell? ⟨g, i, none⟩ = some (.string y) := by rw [h.own.cellAt i (by omega)]; exact hx
  have hfr : w.frozen? ⟨g, i, none⟩ = false := h.own.frozenAt i
  have b1 : (i : Int) < (n : Int) := by omega
  have b2 : (0 : Int) ≤ (i : Int) := by omega
  have HA := Lib.hid h
  have HE := Lib.hid (h.turned (j := i) rfl (.string x))
  clear h
  go_enter Try.func21, Try.ntmps21
  go_wp2_with fail
  refine (has_yes w HA.out i hi).mono ?_
  rintro e w' ⟨rfl, rfl⟩
  go_wp2_with fail
  go_ret
  exact ⟨rfl, HE.out⟩
theorem add_nil (x : ByteArray) (w : World) : Calls Try.prog 15 #[.pointer none, .string x] w fun e w' => e = .returned (.tuple #[.int .i64 0, .int .i64 3]) ∧ w = w' := by
  go_enter Try.func15, Try.ntmps15
  go_wp2_with fail
  refine (left_nil w).mono ?_
  rintro e w' ⟨rfl, rfl⟩
  go_wp2_with fail
  go_ret2
  exact ⟨rfl, rfl⟩
end
end Go.Proofs.Ytfmjnhiipcocnaa.S
