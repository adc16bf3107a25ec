/- The law on what an error says returns true. Conditions: the variable errors.errorType, and the table that strconv reads, read as their programs lay them. -/
import Derived.Test.YtbdicgnmaonjgaaDoorTxW
namespace Go.Proofs.YtbdicgnmaonjgaaDoor
open Go.RowKit Go.Extern.Stop Go.Stop Go.Extern
set_option linter.unusedVariables false

/-- What a walk is told of a slice of integers that came in: it is nil; or it leads to a row of cap cells. -/
def IsRow (k : IntKind) (w : World) (a : Option Addr) (len cap : Nat) (zs : List Int) : Prop :=
  (a = none ∧ len = 0 ∧ cap = 0 ∧ zs = []) ∨
  ∃ x, a = some x ∧ len ≤ cap ∧ cap ≤ maxLen ∧ zs.length = cap ∧ (∀ i, i < zs.length → w.cell? (x.add i) = some (.int k (zs.getD i 0))) ∧ ∀ n ∈ zs, (Lit.int k n).wf = true

theorem i64_range {z : Int} (h : (Lit.int .i64 z).wf = true) : -9223372036854775808 ≤ z ∧ z ≤ 9223372036854775807 := by
  simp [Lit.wf, IntKind.min, IntKind.max, IntKind.signed, IntKind.bits] at h; omega

/-- The elements of a slice that came in. -/
theorem row_open {w : World} {a : Option Addr} {n cap : Nat} {zs : List Int} (h : IsRow .i64 w a n cap zs) (hn : 0 < n) :
    ∃ b off, a = some ⟨b, off, none⟩ ∧ b < w.heap.size ∧ n ≤ cap ∧ ∃ ys : List Int, ys.length = n ∧ (∀ i z, ys[i]? = some z → w.cell? ⟨b, off + i, none⟩ = some (.int .i64 z)) ∧ ∀ z ∈ ys, -9223372036854775808 ≤ z ∧ z ≤ 9223372036854775807 := by
  rcases h with ⟨_, h, _⟩ | ⟨x, rfl, hl, hm, hz, hcell, hwf⟩
  · omega
  · have hc := hcell 0 (by omega)
    obtain ⟨b, off, spot⟩ := x
    have hspot : spot = none := by simpa [Addr.add] using World.cell?_spot hc
    subst hspot
    have e : ∀ i, (⟨b, off, none⟩ : Addr).add i = ⟨b, off + i, none⟩ := by
      intro i; unfold Addr.add
      by_cases h : i = 0
      · subst h; simp
      · simp [h]
    refine ⟨b, off, rfl, by have := World.block_lt_of_cell? w _ hc; simpa [e] using this, hl, zs.take n, by rw [List.length_take]; omega, fun i z hi => ?_, fun z hi => i64_range (hwf z (List.mem_of_mem_take hi))⟩
    rw [List.getElem?_take] at hi
    split at hi
    · have h2 := hcell i (by omega)
      rw [e] at h2
      rw [h2]
      have : zs.getD i 0 = z := by rw [List.getD_eq_getElem?_getD, hi]; rfl
      rw [this]
    · cases hi

theorem txt_walk (op : ByteArray) (a : Option Addr) (n cap : Nat) (zs : List Int) (W : World) (ho : op.size ≤ maxLen) (hR : IsRow .i64 W a n cap zs) (hE : ETy W) (hT : TabW W) (h1 : 1 < W.heap.size) : Calls Tryd.prog 5 #[.string op, .slice a n cap] W (BoolPost true W) := by
  have hnm : n ≤ maxLen := by rcases hR with ⟨_, h, _⟩ | ⟨_, _, h, h2, _⟩ <;> omega
  unfold maxLen at ho hnm
  have HC := Lib.hid (awake_any W hE)
  have HR := Lib.hid hR
  have HE := Lib.hid hE
  have HT := Lib.hid hT
  clear hR hE hT
  by_cases q1 : op.size = 0
  · obtain rfl := str_empty q1
    clear q1
    go_enter Tryd.func5, Tryd.ntmps5
    go_wp2_with (go_at_call 7; (with_reducible refine HC.out.mono ?_); rintro e w1 ⟨rfl, hb⟩; have HB := Lib.hid hb; clear hb)
    go_ret
    exact ⟨rfl, HB.out⟩
  have g1 := str_full q1
  have g2 : op.toList.isEmpty = false := by cases h : op.toList with | nil => exact absurd h g1 | cons a l => rfl
  by_cases r1 : 50 < op.size
  · go_enter Tryd.func5, Tryd.ntmps5
    go_wp2_with (go_at_call 7; (with_reducible refine HC.out.mono ?_); rintro e w1 ⟨rfl, hb⟩; have HB := Lib.hid hb; clear hb)
    go_ret
    exact ⟨rfl, HB.out⟩
  by_cases r2 : n < 1
  · go_enter Tryd.func5, Tryd.ntmps5
    go_wp2_with (go_at_call 7; (with_reducible refine HC.out.mono ?_); rintro e w1 ⟨rfl, hb⟩; have HB := Lib.hid hb; clear hb)
    go_ret
    exact ⟨rfl, HB.out⟩
  by_cases r3 : 20 < n
  · go_enter Tryd.func5, Tryd.ntmps5
    go_wp2_with (go_at_call 7; (with_reducible refine HC.out.mono ?_); rintro e w1 ⟨rfl, hb⟩; have HB := Lib.hid hb; clear hb)
    go_ret
    exact ⟨rfl, HB.out⟩
  obtain ⟨b, off, rfl, hb, hc, ys, hy1, hy2, hy3⟩ := row_open HR.out (by omega)
  exact txt_in op ys W b off n cap hy1 (by omega) (by omega) hc q1 (by omega) hb hy2 hy3 HE.out HT.out h1
end Go.Proofs.YtbdicgnmaonjgaaDoor
