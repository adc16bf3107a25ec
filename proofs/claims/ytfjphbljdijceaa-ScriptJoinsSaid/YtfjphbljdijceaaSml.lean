/- size, hasBytes, Check, Pick and Round tell what they say; writeNumber writes a number's bytes. Conditions: each theorem's own premises. -/
import Derived.Test.YtfjphbljdijceaaRdn
namespace Go.Proofs.Ytfjphbljdijceaa
open Go.RowKit
set_option linter.unusedVariables false

theorem size1 (w : World) : Calls Try.prog 20 #[.int .i64 1] w fun e w' => e = .returned (.int .i64 17) ∧ w = w' := by
  go_enter Try.func20, Try.ntmps20
  go_wp2
  go_ret
  exact ⟨rfl, rfl⟩
theorem size2 (w : World) : Calls Try.prog 20 #[.int .i64 2] w fun e w' => e = .returned (.int .i64 9) ∧ w = w' := by
  go_enter Try.func20, Try.ntmps20
  go_wp2
  go_ret
  exact ⟨rfl, rfl⟩
theorem size0 (k : Int) (w : World) (h1 : (k == 1) = false) (h2 : (k == 2) = false) : Calls Try.prog 20 #[.int .i64 k] w fun e w' => e = .returned (.int .i64 0) ∧ w = w' := by
  go_enter Try.func20, Try.ntmps20
  go_wp2
  go_ret
  exact ⟨rfl, rfl⟩
theorem size_any (k : Int) (w : World) : Calls Try.prog 20 #[.int .i64 k] w fun e w' => e = .returned (.int .i64 (sz k)) ∧ w = w' := by
  by_cases h1 : k = 1
  · subst h1; exact size1 w
  · by_cases h2 : k = 2
    · subst h2; exact size2 w
    · have e : sz k = 0 := by simp [sz, h1, h2]
      rw [e]
      exact size0 k w (by simpa using h1) (by simpa using h2)

theorem ret_bool {a b : Bool} (h : a = b) : Ending.returned (.bool a) = .returned (.bool b) := by rw [h]
def okB (e : En) : Bool := e.k == 1 || (e.k == 2 && e.d == 0)
theorem okB_iff (e : En) : okB e = true ↔ eOk e := by simp [okB, eOk]
def BoolR (b : Bool) (w : World) (e : Ending) (w' : World) : Prop := e = .returned (.bool b) ∧ Below w.heap.size w w'
theorem has_any (k n d : Int) (w : World) : Calls Try.prog 18 #[.agg #[.int .i64 k, .int .i64 n, .int .i64 d]] w (BoolR (okB ⟨k, n, d⟩) w) := by
  have hb := below_al w (.cells #[.int .i64 k, .int .i64 n, .int .i64 d] 35)
  by_cases h1 : k = 1
  · subst h1
    go_enter Try.func18, Try.ntmps18
    go_wp2
    go_ret
    exact ⟨rfl, hb⟩
  · have g1 : (k == 1) = false := by simpa using h1
    have HB : Hid (∀ b, (k == 2 && d == 0) = b → okB ⟨k, n, d⟩ = b) := fun b h => by rw [← h]; simp [okB, g1]
    by_cases h2 : k = 2
    · subst h2
      by_cases h3 : d = 0
      · subst h3
        go_enter Try.func18, Try.ntmps18
        go_wp2
        go_ret
        exact ⟨ret_bool (HB.out true rfl).symm, hb⟩
      · have g3 : (d == 0) = false := by simpa using h3
        go_enter Try.func18, Try.ntmps18
        go_wp2
        go_ret
        exact ⟨ret_bool (HB.out false (by simp [g3])).symm, hb⟩
    · have g2 : (k == 2) = false := by simpa using h2
      go_enter Try.func18, Try.ntmps18
      go_wp2
      go_ret
      exact ⟨ret_bool (HB.out false (by simp [g2])).symm, hb⟩

def putK (cs : Array Value) (off : Nat) (x : Int) : Nat → Array Value
  | 0 => cs
  | k + 1 => (putK cs off x k).setIfInBounds (off + k) (.int .u8 (x / 256 ^ k % 256))
theorem putK_size (cs : Array Value) (off : Nat) (x : Int) (k : Nat) : (putK cs off x k).size = cs.size := by
  induction k with
  | zero => rfl
  | succ k ih => simp [putK, ih]
theorem put_step {w wr : World} {g off k : Nat} {cs : Array Value} {x : Int} (hg : w.grownBy wr (some g)) (hw : wr.heap[g]? = some (.cells (putK cs off x k) 5 (0, 0))) :
    Hid (w.grownBy (wr.setCell ⟨g, off + k, none⟩ (.int .u8 (x / 2 ^ (8 * k) % 256))) (some g)) ∧ Hid ((wr.setCell ⟨g, off + k, none⟩ (.int .u8 (x / 2 ^ (8 * k) % 256))).heap[g]? = some (.cells (putK cs off x (k + 1)) 5 (0, 0))) := by
  have e1 : (2 : Int) ^ (8 * k) = 256 ^ k := by rw [Int.pow_mul]; rfl
  refine ⟨⟨hg.os, hg.tape, hg.output, by simpa [World.setCell] using hg.size, fun i hi hne => (Below.heap_setCell wr _ _ i (fun e => hne (by rw [e]))).trans (hg.block i hi hne)⟩, ?_⟩
  show _ = _
  rw [heap_setCell_same wr g _ _ 5 _ hw, e1]
  rfl
theorem writeNumber_any (g off n cap : Nat) (cs : Array Value) (x : Int) (w : World) (hb : Hid (w.heap[g]? = some (.cells cs 5 (0, 0)))) (hoff : off + 8 ≤ cs.size) (hn : 8 ≤ n) :
    Calls Try.prog 22 #[.slice (some ⟨g, off, none⟩) n cap, .int .i64 x] w fun e w' => e = .returned (.tuple #[]) ∧ w.grownBy w' (some g) ∧ w'.heap[g]? = some (.cells (putK cs off x 8) 5 (0, 0)) := by
  go_enter Try.func22, Try.ntmps22
  go_wp2
  go_loopw [5] (fun i wr => ∃ k : Nat, k ≤ 8 ∧ i = .int .i64 k ∧ Hid (w.grownBy wr (some g)) ∧ Hid (wr.heap[g]? = some (.cells (putK cs off x k) 5 (0, 0)))) (fun i _ => 8 - (intOf i).toNat)
  case atStart => exact ⟨0, by omega, rfl, World.grownBy.refl _ _, hb.out⟩
  case round =>
    obtain ⟨k, hk, rfl, hg, hw⟩ := hrel
    by_cases hlt : k < 8
    · obtain ⟨v, hv⟩ : ∃ v, wr.cell? ⟨g, off + k, none⟩ = some v := ⟨_, by rw [cell_of_row wr g _ _ _ _ hw.out, Array.getElem?_eq_getElem (by rw [putK_size]; omega)]⟩
      have hf : wr.frozen? ⟨g, off + k, none⟩ = false := frozen_of_row wr g _ _ _ hw.out
      go_wp2
      go_roundw
      case rel => exact ⟨k + 1, by omega, by go_num, put_step hg.out hw.out⟩
      case measure => simp [intOf]; omega
    · have e : k = 8 := by omega
      subst e
      go_wp2
      go_end0
      exact ⟨rfl, hg.out, hw.out⟩
end Go.Proofs.Ytfjphbljdijceaa
