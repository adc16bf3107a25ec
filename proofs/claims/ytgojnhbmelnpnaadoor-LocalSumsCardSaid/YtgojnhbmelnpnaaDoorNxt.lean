/- Where a task is when it has done an instruction. Conditions: each theorem's own premises. -/
import Derived.Test.YtgojnhbmelnpnaaDoorAri
namespace Go.Proofs.YtgojnhbmelnpnaaDoor.Pg
open Go.RowKit
set_option linter.unusedVariables false
set_option maxRecDepth 100000

theorem two_new (w : World) (o p : Obj) : Below w.heap.size w ((w.alloc o).alloc p) := ((Below.refl w.heap.size w).alloc (Nat.le_refl _) _).alloc (by simp) _
section
variable {a b c : Int} {A : Option Addr} {n cap : Nat} {d : Bool} {cs : List Ca} {g : Nat → Int} {op pc : Int} {na : Nat}
theorem next_zero (w : World) (hna : na < 8) (h0 : g na = 0) : Calls Tryd.prog 16 #[vI ⟨5, (na : Int), b, c, A, n, cap, d, cs⟩, .int .i64 pc, .agg (gR g)] w (IntR b w) := by
  have hg : (gR g)[na]? = some (.int .i64 0) := by rw [gR_at g hna, h0]
  have b1 : (na : Int) < 8 := by omega
  have HB := Lib.hid (two_new w (.cells #[.int .i64 5, .int .i64 (na : Int), .int .i64 b, .int .i64 c, .slice A n cap, .bool d] 39) (.cells (gR g) 23))
  clear h0
  go_enter Tryd.func16, Tryd.ntmps16
  go_wp2_with fail
  go_ret
  exact ⟨rfl, HB.out⟩
theorem next_not (w : World) (hna : na < 8) (h0 : g na ≠ 0) (hp : 0 ≤ pc) (hp2 : pc ≤ 100) : Calls Tryd.prog 16 #[vI ⟨5, (na : Int), b, c, A, n, cap, d, cs⟩, .int .i64 pc, .agg (gR g)] w (IntR (pc + 1) w) := by
  have hg : (gR g)[na]? = some (.int .i64 (g na)) := gR_at g hna
  have b1 : (na : Int) < 8 := by omega
  have HB := Lib.hid (two_new w (.cells #[.int .i64 5, .int .i64 (na : Int), .int .i64 b, .int .i64 c, .slice A n cap, .bool d] 39) (.cells (gR g) 23))
  have h1 : (g na == 0) = false := by simpa using h0
  generalize g na = z at *
  go_enter Tryd.func16, Tryd.ntmps16
  go_wp2_with fail
  go_ret
  exact ⟨rfl, HB.out⟩
theorem next_jump (w : World) : Calls Tryd.prog 16 #[vI ⟨4, a, b, c, A, n, cap, d, cs⟩, .int .i64 pc, .agg (gR g)] w (IntR a w) := by
  have HB := Lib.hid (two_new w (.cells #[.int .i64 4, .int .i64 a, .int .i64 b, .int .i64 c, .slice A n cap, .bool d] 39) (.cells (gR g) 23))
  go_enter Tryd.func16, Tryd.ntmps16
  go_wp2_with fail
  go_ret
  exact ⟨rfl, HB.out⟩
theorem next_exit (w : World) : Calls Tryd.prog 16 #[vI ⟨7, a, b, c, A, n, cap, d, cs⟩, .int .i64 pc, .agg (gR g)] w (IntR pc w) := by
  have HB := Lib.hid (two_new w (.cells #[.int .i64 7, .int .i64 a, .int .i64 b, .int .i64 c, .slice A n cap, .bool d] 39) (.cells (gR g) 23))
  go_enter Tryd.func16, Tryd.ntmps16
  go_wp2_with fail
  go_ret
  exact ⟨rfl, HB.out⟩
theorem next_else (w : World) (h5 : op ≠ 5) (h4 : op ≠ 4) (h7 : op ≠ 7) (hp : 0 ≤ pc) (hp2 : pc ≤ 100) : Calls Tryd.prog 16 #[vI ⟨op, a, b, c, A, n, cap, d, cs⟩, .int .i64 pc, .agg (gR g)] w (IntR (pc + 1) w) := by
  have HB := Lib.hid (two_new w (.cells #[.int .i64 op, .int .i64 a, .int .i64 b, .int .i64 c, .slice A n cap, .bool d] 39) (.cells (gR g) 23))
  have g5 : (op == 5) = false := by simpa using h5
  have g4 : (op == 4) = false := by simpa using h4
  have g7 : (op == 7) = false := by simpa using h7
  clear h5 h4 h7
  go_enter Tryd.func16, Tryd.ntmps16
  go_wp2_with fail
  go_ret
  exact ⟨rfl, HB.out⟩
end
theorem next_any {ins : Int} {e : In} (h : mayB ins 16 e = true) (pc : Int) (hp : 0 ≤ pc) (hp2 : pc ≤ 100) (g : Nat → Int) (w : World) : Calls Tryd.prog 16 #[vI e, .int .i64 pc, .agg (gR g)] w (IntR (nxt e pc g) w) := by
  by_cases h5 : e.op = 5
  · obtain ⟨k, hk, ea⟩ := may_a h (.inr (.inr (.inr (.inl h5))))
    obtain ⟨op, a, b, c, A, n, cap, d, cs⟩ := e
    simp only at h5 ea
    subst h5 ea
    by_cases h0 : g k = 0
    · have : nxt ⟨5, (k : Int), b, c, A, n, cap, d, cs⟩ pc g = b := by simp [nxt, h0]
      rw [this]; exact next_zero w hk h0
    · have : nxt ⟨5, (k : Int), b, c, A, n, cap, d, cs⟩ pc g = pc + 1 := by simp [nxt, h0]
      rw [this]; exact next_not w hk h0 hp hp2
  · obtain ⟨op, a, b, c, A, n, cap, d, cs⟩ := e
    simp only at h5
    by_cases h4 : op = 4
    · subst h4; exact next_jump w
    · by_cases h7 : op = 7
      · subst h7; exact next_exit w
      · have : nxt ⟨op, a, b, c, A, n, cap, d, cs⟩ pc g = pc + 1 := by simp [nxt, h5, h4, h7]
        rw [this]; exact next_else w h5 h4 h7 hp hp2
end Go.Proofs.YtgojnhbmelnpnaaDoor.Pg
