/- readEntry reads an entry of its bytes. Condition: the bytes lie there. -/
import Derived.Test.YtfjphbljdijceaaEnc
namespace Go.Proofs.Ytfjphbljdijceaa
open Go.RowKit
set_option linter.unusedVariables false

def ReR (x : En) (w : World) (e : Ending) (w' : World) : Prop := e = .returned (.agg #[.int .i64 x.k, .int .i64 x.n, .int .i64 x.d]) ∧ Below w.heap.size w w'
/-- Bytes at a place. -/
def At8 (w : World) (b off : Nat) (l : List Int) : Prop := ∀ j x, l[j]? = some x → w.cell? ⟨b, off + j, none⟩ = some (.int .u8 x)
theorem At8.drop {w : World} {b off : Nat} {l : List Int} (h : At8 w b off l) (k : Nat) : At8 w b (off + k) (l.drop k) := by
  intro j x hx
  rw [List.getElem?_drop] at hx
  rw [Nat.add_assoc]
  exact h _ _ hx
theorem At8.take {w : World} {b off : Nat} {l : List Int} (h : At8 w b off l) (k : Nat) : At8 w b off (l.take k) := by
  intro j x hx
  rw [List.getElem?_take] at hx
  split at hx
  · exact h _ _ hx
  · cases hx
theorem At8.later {w w' : World} {b off : Nat} {l : List Int} (h : At8 w b off l) (hl : b < w.heap.size) (hb : Below w.heap.size w w') : At8 w' b off l :=
  fun j x hx => (cell_blk (hb.block b hl) _).trans (h j x hx)
theorem rn_later {w : World} {b off : Nat} {l : List Int} (hb : Byt l) (h : At8 w b off l) (hl : b < w.heap.size) (k n cap : Nat) (hk : k + 8 ≤ l.length) (hn : 8 ≤ n) :
    ∀ w', Below w.heap.size w w' → Calls Try.prog 23 #[.slice (some ⟨b, off + k, none⟩) n cap] w' fun e w'' => e = .returned (.int .i64 (num ((l.drop k).take 8))) ∧ w' = w'' := fun w' hw =>
  readNumber_any b (off + k) n cap _ w' (by show _ = _; rw [List.length_take, List.length_drop]; omega) (byt_take (byt_drop hb k) 8) hn (((h.later hl hw).drop k).take 8)

theorem ren1 (b off cap : Nat) (r : List Int) (w : World) (hB : Hid (Byt (1 :: r))) (hA : Hid (At8 w b off (1 :: r))) (hl : b < w.heap.size) (hr : Hid (r.length = 16)) (hc : 17 ≤ cap) :
    Calls Try.prog 21 #[.slice (some ⟨b, off, none⟩) 17 cap] w (ReR ⟨1, num (r.take 8), num ((r.drop 8).take 8)⟩ w) := by
  have c0 := hA.out 0 1 rfl
  rw [Nat.add_zero] at c0
  have R9 := Lib.hid (rn_later hB.out hA.out hl 9 8 (cap - 9) (by rw [List.length_cons, hr.out]; omega) (by omega))
  have R1 := Lib.hid (rn_later hB.out hA.out hl 1 16 (cap - 1) (by rw [List.length_cons, hr.out]; omega) (by omega))
  go_enter Try.func21, Try.ntmps21
  go_wp2_with fail
  (with_reducible refine (R9.out _ (((Below.refl _ _).alloc (Nat.le_refl _) _).alloc (by simp) _)).mono ?_); rintro e w1 ⟨rfl, rfl⟩
  rw [show List.drop 9 (1 :: r) = r.drop 8 from rfl]
  clear R9
  go_wp2_with fail
  (with_reducible refine (R1.out _ (((Below.refl _ _).alloc (Nat.le_refl _) _).alloc (by simp) _)).mono ?_); rintro e w1 ⟨rfl, rfl⟩
  rw [show List.drop 1 (1 :: r) = r from rfl]
  clear R1
  go_wp2_with fail
  exact bodyPost_ret (v := .agg #[.int .i64 1, .int .i64 (num (r.take 8)), .int .i64 (num ((r.drop 8).take 8))]) (by simp [results, Try.results21, go_sem]) rfl ⟨rfl, ((Below.refl _ _).alloc (Nat.le_refl _) _).alloc (by simp) _⟩
theorem ren2 (b off cap : Nat) (r : List Int) (w : World) (hB : Hid (Byt (2 :: r))) (hA : Hid (At8 w b off (2 :: r))) (hl : b < w.heap.size) (hr : Hid (r.length = 8)) (hc : 9 ≤ cap) :
    Calls Try.prog 21 #[.slice (some ⟨b, off, none⟩) 9 cap] w (ReR ⟨2, num (r.take 8), 0⟩ w) := by
  have c0 := hA.out 0 2 rfl
  rw [Nat.add_zero] at c0
  have R1 := Lib.hid (rn_later hB.out hA.out hl 1 8 (cap - 1) (by rw [List.length_cons, hr.out]; omega) (by omega))
  go_enter Try.func21, Try.ntmps21
  go_wp2_with fail
  (with_reducible refine (R1.out _ (((Below.refl _ _).alloc (Nat.le_refl _) _).alloc (by simp) _)).mono ?_); rintro e w1 ⟨rfl, rfl⟩
  rw [show List.drop 1 (2 :: r) = r from rfl]
  clear R1
  go_wp2_with fail
  exact bodyPost_ret (v := .agg #[.int .i64 2, .int .i64 (num (r.take 8)), .int .i64 0]) (by simp [results, Try.results21, go_sem]) rfl ⟨rfl, ((Below.refl _ _).alloc (Nat.le_refl _) _).alloc (by simp) _⟩
theorem ren_any (b off m cap : Nat) (c : Int) (r : List Int) (w : World) (hB : Byt (c :: r)) (hA : At8 w b off (c :: r)) (hl : b < w.heap.size) (h0 : sz c ≠ 0) (hm : m = sz c) (hr : (c :: r).length = m) (hc : m ≤ cap) :
    Calls Try.prog 21 #[.slice (some ⟨b, off, none⟩) m cap] w (ReR (re (c :: r)) w) := by
  subst hm
  rcases sz_pos h0 with ⟨rfl, h1⟩ | ⟨rfl, h1⟩
  · rw [h1] at hr hc
    have h2 := ren1 b off cap r w hB hA hl (by show _ = _; simp at hr; omega) hc
    have e : re (1 :: r) = ⟨1, num (r.take 8), num ((r.drop 8).take 8)⟩ := by simp [re]
    rw [e]
    exact h2
  · rw [h1] at hr hc
    have h2 := ren2 b off cap r w hB hA hl (by show _ = _; simp at hr; omega) hc
    have e : re (2 :: r) = ⟨2, num (r.take 8), 0⟩ := by simp [re]
    rw [e]
    exact h2
end Go.Proofs.Ytfjphbljdijceaa
