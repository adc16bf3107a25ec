/- Two arenas of the call's own, one of texts and one of pairs. No condition. -/
import Derived.Test.YtfmjnhiipcocnaaTwo
namespace Go.Proofs.Ytfmjnhiipcocnaa
open Go.RowKit
set_option linter.unusedVariables false

theorem tag_ne {w : World} {k e t : Nat} {cs cs' : Array Value} {fr fr' : Nat × Nat} (h : w.heap[k]? = some (.cells cs e fr)) (h' : w.heap[k]? = some (.cells cs' t fr')) (hne : e ≠ t) : False := by
  rw [h] at h'
  injection h' with h'
  injection h' with _ h'
  exact hne h'
structure KS (W : World) (n1 : Nat) (P1 : Option Addr) (c1 : Nat) (x1 : List Value) (n2 : Nat) (P2 : Option Addr) (c2 : Nat) (x2 : List Value) (w : World) : Prop where
  bel : Below W.heap.size W w
  a1 : AR 9 57 1 W.heap.size w W.heap.size 40 n1 P1 c1 x1
  a2 : AR 29 59 2 W.heap.size w (W.heap.size + 1) 40 n2 P2 c2 x2
section
variable {W w w' : World} {n1 n2 c1 c2 n' c' : Nat} {P1 P2 P' : Option Addr} {x1 x2 x' : List Value}
theorem KS.later (h : KS W n1 P1 c1 x1 n2 P2 c2 x2 w) (hb : Below w.heap.size w w') : KS W n1 P1 c1 x1 n2 P2 c2 x2 w' := ⟨h.bel.trans (hb.mono h.bel.size), h.a1.later hb, h.a2.later hb⟩
theorem KS.go1 (h : KS W n1 P1 c1 x1 n2 P2 c2 x2 w) (h1 : AR 9 57 1 W.heap.size w' W.heap.size 40 n' P' c' x' ∧ Chg W.heap.size (blk P1) (blk P') w w') : KS W n' P' c' x' n2 P2 c2 x2 w' := by
  refine ⟨h.bel.trans (h1.2.below (Nat.le_refl _) (fun k hk => (row_lt h.a1.own hk).1) h.bel.size), h1.1, h.a2.other h1.2 (by omega) (fun e => ?_) (fun e => ?_) (fun k hk e => ?_)⟩
  · obtain ⟨cs, fr, ht⟩ := row_tag h.a1.own e; exact tag_ne ht h.a2.ha (by decide)
  · obtain ⟨cs, fr, ht⟩ := row_tag h.a2.own e; exact tag_ne ht h.a1.ha (by decide)
  · obtain ⟨cs, fr, ht⟩ := row_tag h.a1.own e; obtain ⟨cs', fr', ht'⟩ := row_tag h.a2.own hk; exact tag_ne ht ht' (by decide)
theorem KS.go2 (h : KS W n1 P1 c1 x1 n2 P2 c2 x2 w) (h1 : AR 29 59 2 W.heap.size w' (W.heap.size + 1) 40 n' P' c' x' ∧ Chg (W.heap.size + 1) (blk P2) (blk P') w w') : KS W n1 P1 c1 x1 n' P' c' x' w' := by
  refine ⟨h.bel.trans (h1.2.below (Nat.le_succ _) (fun k hk => (row_lt h.a2.own hk).1) h.bel.size), h.a1.other h1.2 (by omega) (fun e => ?_) (fun e => ?_) (fun k hk e => ?_), h1.1⟩
  · obtain ⟨cs, fr, ht⟩ := row_tag h.a2.own e; exact tag_ne ht h.a1.ha (by decide)
  · obtain ⟨cs, fr, ht⟩ := row_tag h.a1.own e; exact tag_ne ht h.a2.ha (by decide)
  · obtain ⟨cs, fr, ht⟩ := row_tag h.a2.own e; obtain ⟨cs', fr', ht'⟩ := row_tag h.a1.own hk; exact tag_ne ht ht' (by decide)
end
theorem KS.start {W w1 w2 : World} {e1 e2 : Ending} (h1 : S.NewR 40 W e1 w1) (h2 : P.NewR 40 w1 e2 w2) : KS W 0 none 0 [] 0 none 0 [] w2 ∧ w1.heap.size = W.heap.size + 1 := by
  have hs := h1.2.2.2
  have ha := h2.2.1 W.heap.size (by omega)
  rw [hs] at ha
  exact ⟨⟨h1.2.2.1.trans (h2.2.2.1.mono h1.2.2.1.size), (h1.2.1 _ (Nat.le_refl _)).later h2.2.2.1, ha⟩, hs⟩

/-- The first n texts; their sizes with their places. -/
def sV (f : Nat → ByteArray) (n : Nat) : List Value := (List.range n).map fun i => Value.string (f i)
def pV (f : Nat → ByteArray) (n : Nat) : List Value := (List.range n).flatMap fun i => [Value.int .i64 ((f i).size : Int), Value.int .i64 (i : Int)]
theorem sV_snoc (f : Nat → ByteArray) (n : Nat) : sV f n ++ [.string (f n)] = sV f (n + 1) := by simp [sV, List.range_succ]
theorem pV_snoc (f : Nat → ByteArray) (n : Nat) : pV f n ++ [.int .i64 ((f n).size : Int), .int .i64 (n : Int)] = pV f (n + 1) := by simp [pV, List.range_succ]
theorem sV_at (f : Nat → ByteArray) {n i : Nat} (h : i < n) : (sV f n)[i]? = some (.string (f i)) := by simp [sV, h]
theorem pV_len (f : Nat → ByteArray) : ∀ n, (pV f n).length = n * 2
  | 0 => rfl
  | n + 1 => by rw [← pV_snoc, List.length_append, pV_len f n]; simp; omega
theorem pV_at (f : Nat → ByteArray) {i : Nat} : ∀ {n : Nat}, i < n → (pV f n)[i * 2]? = some (.int .i64 ((f i).size : Int)) ∧ (pV f n)[i * 2 + 1]? = some (.int .i64 (i : Int))
  | n + 1, h => by
    have hl := pV_len f n
    rw [← pV_snoc]
    by_cases hi : i < n
    · obtain ⟨h1, h2⟩ := pV_at f hi
      rw [List.getElem?_append_left (by omega), List.getElem?_append_left (by omega)]
      exact ⟨h1, h2⟩
    · obtain rfl : i = n := by omega
      rw [List.getElem?_append_right (by omega), List.getElem?_append_right (by omega), hl]
      simp

def RoundR (n : Nat) (w : World) (e : Ending) (w' : World) : Prop := ∃ r : Nat, r < n ∧ e = .returned (.int .i64 (r : Int)) ∧ w = w'
theorem round_any (k : Int) (n : Nat) (w : World) (h0 : 0 < n) (h1 : n ≤ 40) : Calls Try.prog 18 #[.int .i64 k, .int .i64 (n : Int)] w (RoundR n w) := by
  have b1 : (0 : Int) < (n : Int) := by omega
  have b2 : (n : Int) ≤ 40 := by omega
  have t1 : k.tmod n < n := Int.tmod_lt_of_pos _ (by omega)
  have t2 : -(n : Int) < k.tmod n := by
    have := Int.tmod_lt_of_pos (-k) (show (0 : Int) < n by omega)
    rw [Int.neg_tmod] at this; omega
  have HE : Hid (RoundR n w (.returned (.int .i64 ((k.tmod n + n) % n))) w) := by
    refine ⟨((k.tmod n + n) % n).toNat, ?_, ?_, rfl⟩
    · have := Int.emod_lt_of_pos (k.tmod n + n) (show (0 : Int) < n by omega); omega
    · rw [Int.toNat_of_nonneg (Int.emod_nonneg _ (by omega))]
  go_enter Try.func18, Try.ntmps18
  go_wp2
  go_ret
  exact HE.out
end Go.Proofs.Ytfmjnhiipcocnaa
