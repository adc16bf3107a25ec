/- What each call of package arena does to an arena of tasks in memory. Conditions: each theorem's own premises. -/
import Derived.Test.YthiifnbgdajgaaaDoorAMem
import Derived.Laws.ResultCell
namespace Go.Proofs.YthiifnbgdajgaaaDoor.Ar
open Go.RowKit
set_option linter.unusedVariables false
set_option maxRecDepth 100000

abbrev zR : Array Value := #[.int .i64 0, .int .i64 0, .int .i64 0, .int .i64 0, .int .i64 0, .int .i64 0, .int .i64 0, .int .i64 0, .int .i64 0, .int .i64 0, .int .i64 0, .int .i64 0, .int .i64 0, .int .i64 0, .int .i64 0, .int .i64 0, .slice none 0 0, .bool false]
theorem inf : (Tryd.prog.info? 47).map (fun i => (i.zero, i.size, i.bytes)) = some (some (.agg zR), 18, 160) := by kernel_rfl
def NewR (m : Nat) (w : World) (e : Ending) (w' : World) : Prop :=
  e = .returned (.tuple #[.pointer (some ⟨w.heap.size, 0, none⟩), .int .i64 0]) ∧ w' = w.alloc (.cells #[.slice none 0 0, .int .i64 (m : Int)] 76)
theorem new_yes (m : Nat) (w : World) (h1 : 1 ≤ m) (h2 : m ≤ 1000) : Calls Tryd.prog 22 #[.int .i64 (m : Int)] w (NewR m w) := by
  have b1 : (1 : Int) ≤ (m : Int) := by omega
  have b2 : (m : Int) ≤ 1000 := by omega
  go_enter Tryd.func22, Tryd.ntmps22
  go_wp2
  go_ret2
  exact ⟨rfl, rfl⟩
section
variable {B a most n c : Nat} {P : Option Addr} {D : List Tk}
theorem len_any (w : World) (h : TA B w a most n P c D) : Calls Tryd.prog 35 #[.pointer (some ⟨a, 0, none⟩)] w fun e w' => e = .returned (.int .i64 (n : Int)) ∧ w = w' := by
  have h0 := h.c0
  clear h
  go_enter Tryd.func35, Tryd.ntmps35
  go_wp2
  go_ret
  exact ⟨rfl, rfl⟩
theorem left_any (w : World) (h : TA B w a most n P c D) (hm : most ≤ 1000) : Calls Tryd.prog 37 #[.pointer (some ⟨a, 0, none⟩)] w fun e w' => e = .returned (.int .i64 ((most : Int) - (n : Int))) ∧ ∃ q, w' = w.drewN q := by
  have h0 := h.c0
  have h1 := h.c1
  have b1 : (n : Int) ≤ (most : Int) := by have := h.le; omega
  have b2 : (most : Int) ≤ 1000 := by omega
  have b3 : IntKind.i64.wrap ((most : Int) - (n : Int)) = (most : Int) - (n : Int) := by rw [IntKind.wrap_i64]; omega
  clear h
  go_enter Tryd.func37, Tryd.ntmps37
  go_wp2_with fail
  go_quiet (fail)
  go_wp2
  go_ret
  exact ⟨rfl, _, rfl⟩
theorem has_yes (w : World) (h : TA B w a most n P c D) (i : Nat) (hi : i < n) : Calls Tryd.prog 40 #[.pointer (some ⟨a, 0, none⟩), .int .i64 (i : Int)] w fun e w' => e = .returned (.bool true) ∧ w = w' := by
  have b1 : (i : Int) < (n : Int) := by omega
  have b2 : (0 : Int) ≤ (i : Int) := by omega
  go_enter Tryd.func40, Tryd.ntmps40
  go_wp2_with fail
  refine (len_any w h).mono ?_
  rintro e w' ⟨rfl, rfl⟩
  go_wp2_with fail
  go_ret
  exact ⟨rfl, rfl⟩
theorem add_full (t : T0) (A : Option Addr) (cap : Nat) (w : World) (h : TA B w a most n P c D) (hm : most ≤ 1000) (hn : n = most) : Calls Tryd.prog 24 #[.pointer (some ⟨a, 0, none⟩), .agg (tW t A cap)] w fun e w' => e = .returned (.tuple #[.int .i64 0, .int .i64 3]) ∧ Below w.heap.size w w' := by
  subst hn
  go_enter Tryd.func24, Tryd.ntmps24
  go_wp2_with fail
  refine (left_any _ (h.later (below_al w _)) hm).mono ?_
  rintro e w' ⟨rfl, q, rfl⟩
  have e1 : ((n : Int) - (n : Int)) = 0 := by omega
  rw [e1]
  have HB := Lib.hid ((below_al w (.cells (tW t A cap) 47)).trans (below_drewN _ q |>.mono (Nat.le_of_lt (by simp))))
  go_wp2_with fail
  go_ret2
  exact ⟨rfl, HB.out⟩
/-- One is told. -/
theorem get_yes (x : Tk) (w : World) (h : TA B w a most n P c D) (hl : D.length = n) (i : Nat) (hx : D[i]? = some x) : Calls Tryd.prog 34 #[.pointer (some ⟨a, 0, none⟩), .int .i64 (i : Int)] w fun e w' => e = .returned (.tuple #[.agg (tW x.t x.A x.cap), .bool true]) ∧ Below w.heap.size w w' := by
  have hi : i < n := by have := (List.getElem?_eq_some_iff.1 hx).1; omega
  obtain ⟨g, rfl, hgl, hrg, hth⟩ := TA.cells h hl hx
  have h0 := h.c0
  have b1 : (i : Int) < (n : Int) := by omega
  have b2 : (0 : Int) ≤ (i : Int) := by omega
  have hlt := h.lt
  have hla : a ≠ w.heap.size := by omega
  have hlg : g ≠ w.heap.size := by omega
  have HA := Lib.hid h
  have HR := Lib.hid hrg
  clear h hrg hth hx hl
  go_enter Tryd.func34, Tryd.ntmps34
  go_wp2_with fail
  refine (has_yes _ (HA.out.later (below_al w _)) i hi).mono ?_
  rintro e w' ⟨rfl, rfl⟩
  go_wp2_with (first
    | (refine wp_ldM rfl (.tmp 17) rfl rfl (World.rangeAt_alloc HR.out _) Tryd.underlying47 rfl i47 ?_)
    | (refine wp_stN rfl (.tmp 4) (.tmp 18) rfl rfl rfl rfl i47 (tU_one ..) ?_))
  refine bodyPost_ret (v := .tuple #[.agg (tW x.t x.A x.cap), .bool true]) ?_ rfl ⟨rfl, below_al w _⟩
  exact (res_cell (p := 4) (q := 5) (ty := 47) (b := w.heap.size) (u := tW x.t x.A x.cap) rfl _ rfl (Bk.new w _ 47) Tryd.underlying47 rfl i47).trans rfl
end
end Go.Proofs.YthiifnbgdajgaaaDoor.Ar
