/- A copy of a program with one instruction turned: as memory and as mathematics. No condition. -/
import Derived.Test.YtifmamobhkgmfaaDoorAlk
namespace Go.Proofs.YtifmamobhkgmfaaDoor
open Go.RowKit
set_option linter.unusedVariables false

theorem fits_mono {i j pr qr n k : Int} (hi : i ≤ j) (hp : pr ≤ qr) (h : fitsB i pr n k = true) : fitsB j qr n k = true := by
  unfold fitsB mostB at *
  rw [decide_eq_true_eq] at *
  rcases h with h | ⟨h1, h2⟩
  · exact .inl h
  · refine .inr ⟨h1, ?_⟩
    split at h2
    · simp_all
    · split at h2
      · simp_all; omega
      · split at h2
        · simp_all; omega
        · simp_all
theorem may_mono {i j pr qr : Int} {e : In} (hi : i ≤ j) (hp : pr ≤ qr) (h : mayB i pr e = true) : mayB j qr e = true := by
  unfold mayB at *
  simp only [Bool.and_eq_true] at *
  exact ⟨h.1, fits_mono hi hp h.2.1, fits_mono hi hp h.2.2.1, fits_mono hi hp h.2.2.2.1, h.2.2.2.2⟩
theorem check_mono {l : List In} {pr qr : Int} (hp : pr ≤ qr) (h : checkB l pr = true) : checkB l qr = true := by
  unfold checkB at *
  simp only [Bool.and_eq_true, List.all_eq_true] at *
  exact ⟨h.1, fun e he => may_mono (Int.le_refl _) hp (h.2 e he)⟩
theorem all_one_no {A : Option Addr} {n cap : Nat} {l : List In} (h : checkB l 16 = false) : allB [⟨A, n, cap, l⟩] = false := by
  have h1 : allB [⟨A, n, cap, l⟩] = checkB l 1 := by unfold allB; simp
  rw [h1]
  cases h2 : checkB l 1 with
  | false => rfl
  | true => rw [check_mono (by omega) h2] at h; cases h
theorem check_set_no {l : List In} {r : Nat} {e' : In} (hr : r < l.length) (h : mayB l.length 16 e' = false) : checkB (l.set r e') 16 = false := by
  unfold checkB
  rw [List.length_set, all_no (x := e') (by exact List.mem_iff_getElem?.2 ⟨r, by rw [List.getElem?_set_self hr]⟩) h, Bool.and_false]
theorem check_mem {l : List In} {e : In} (h : checkB l 16 = true) (he : e ∈ l) : mayB l.length 16 e = true := by
  unfold checkB at h
  simp only [Bool.and_eq_true, List.all_eq_true] at h
  exact h.2 e he
theorem check_len {l : List In} (h : checkB l 16 = true) : l.length ≤ 100 := by
  unfold checkB at h
  simp only [Bool.and_eq_true, decide_eq_true_eq] at h
  exact h.1
theorem row_a : ∀ k : Fin 33, k.val ≠ 4 → (row k.val).a = 0 ∨ (row k.val).a = 1 := by decide +kernel
/-- The field A turned to 8, or behind the end, makes it one that may not be. -/
theorem odd_no {m : Int} {op a b c : Int} {A : Option Addr} {n cap : Nat} {d : Bool} {cs : List Ca} (h : mayB m 16 ⟨op, a, b, c, A, n, cap, d, cs⟩ = true) (v : Int) (hv : op = 4 ∧ m < v ∨ op ≠ 4 ∧ v = 8) : mayB m 16 ⟨op, v, b, c, A, n, cap, d, cs⟩ = false := by
  have ho := may_op h
  simp only at ho
  obtain ⟨k, rfl⟩ := Int.eq_ofNat_of_zero_le (show 0 ≤ op by omega)
  rw [mayB_in m 16 k (by omega) (by omega)]
  have hf : fitsB m 16 v (row k).a = false := by
    rcases hv with ⟨h4, hm⟩ | ⟨h4, rfl⟩
    · have : k = 4 := by omega
      subst this
      unfold fitsB mostB
      rw [show (row 4).a = 2 from rfl, decide_eq_false]
      simp; omega
    · rcases row_a ⟨k, by omega⟩ (by simp; omega) with h5 | h5
      · simp only at h5; rw [h5]; rfl
      · simp only at h5; rw [h5]; rfl
  rw [hf]; rfl
theorem none_no (m : Int) (op a b c : Int) (A : Option Addr) (n cap : Nat) (d : Bool) (cs : List Ca) (h : ¬ (1 ≤ op ∧ op ≤ 32)) : mayB m 16 ⟨op, a, b, c, A, n, cap, d, cs⟩ = false := mayB_out _ _ _ h
theorem check_snoc {l : List In} (h : checkB l 16 = true) (hl : l.length < 100) : checkB (l ++ [pl 7 0 0]) 16 = true := by
  unfold checkB
  simp only [Bool.and_eq_true, List.all_eq_true, decide_eq_true_eq, List.length_append, List.length_cons, List.length_nil]
  refine ⟨by omega, fun e he => ?_⟩
  rcases List.mem_append.1 he with he | he
  · exact may_mono (by omega) (Int.le_refl _) (check_mem h he)
  · simp only [List.mem_cons, List.not_mem_nil, or_false] at he
    subst he
    have h9 := mayB_in ((l.length + 1 : Nat) : Int) 16 7 (by omega) (by omega) 0 0 0 none 0 0 false []
    exact h9

theorem flat_set {α : Type} (f : α → List Value) (s : Nat) (hs : ∀ x, (f x).length = s) : ∀ (l : List α) (r : Nat) (x x' : α) (j : Nat) (u : Value), l[r]? = some x → j < s → f x' = (f x).set j u → (l.flatMap f).set (r * s + j) u = (l.set r x').flatMap f
  | [], r, x, x', j, u, h, _, _ => by simp at h
  | a :: l, 0, x, x', j, u, h, hj, hf => by
    simp at h; subst h
    rw [List.set_cons_zero, List.flatMap_cons, List.flatMap_cons, Nat.zero_mul, Nat.zero_add, List.set_append_left _ _ (by rw [hs]; exact hj), hf]
  | a :: l, r + 1, x, x', j, u, h, hj, hf => by
    rw [List.set_cons_succ, List.flatMap_cons, List.flatMap_cons, List.set_append_right _ _ (by rw [hs, Nat.add_mul]; omega), hs, ← flat_set f s hs l r x x' j u (by simpa using h) hj hf]
    congr 2
    rw [Nat.add_mul]; omega

structure OnS (W w : World) (A : Option Addr) (n : Nat) (l : List In) : Prop where
  bel : Below W.heap.size W w
  ft : FT w
  rd : RdI w A n l
theorem OnS.later {W w w' : World} {A : Option Addr} {n : Nat} {l : List In} (h : OnS W w A n l) (hb : Below w.heap.size w w') : OnS W w' A n l :=
  ⟨h.bel.trans (hb.mono h.bel.size), h.ft.later hb, h.rd.later hb⟩
theorem size_set (w : World) (a : Addr) (u : Value) : (w.setCell a u).heap.size = w.heap.size := by simp [World.setCell]
/-- Behind the copy: a row of the call's own. -/
theorem cp_of {w w' : World} {n N : Nat} {l : List In} {v' : Value} (h0 : 0 < n) (hN : N = w.heap.size) (ho : w'.ownsRow N 36 6 v' (0 + n) ([] ++ l.flatMap iV)) (hg : (w.alloc (.cells #[] 36)).grownBy w' (Value.slice (some ⟨N, 0, none⟩) 0 0).ownBlock) :
    ∃ g c, v' = .slice (some ⟨g, 0, none⟩) n c ∧ n ≤ c ∧ c ≤ 9223372036854775807 ∧ N ≤ g ∧ g < w'.heap.size ∧ Below w.heap.size w w' ∧ w'.ownsRow N 36 6 (.slice (some ⟨g, 0, none⟩) n c) n (l.flatMap iV) := by
  subst hN
  rw [Nat.zero_add, List.nil_append] at ho
  obtain ⟨g, c, rfl, hlo, hlt⟩ := ho.form h0
  obtain ⟨a, c', e, h1, h2⟩ := own_cap ho
  simp only [Value.slice.injEq, true_and] at e
  obtain ⟨_, rfl⟩ := e
  refine ⟨g, c, rfl, h1, h2, hlo, hlt, below_app (below_al w (.cells #[] 36)) (Nat.le_refl _) (by simp) (own_empty w 36 6 w.heap.size w.heap.size rfl (Nat.le_refl _)) hg, ho⟩
/-- Behind the store. -/
theorem st_of {w w' : World} {N g n c r j q : Nat} {l : List In} {x e' : In} {u : Value} (ho : w'.ownsRow N 36 6 (.slice (some ⟨g, 0, none⟩) n c) n (l.flatMap iV)) (hlo : w.heap.size ≤ g) (hb : Below w.heap.size w w') (hx : l[r]? = some x) (hj : j < 6) (hq : q = r * 6 + j) (he : iV e' = (iV x).set j u) (hl : l.length = n) :
    (∃ v, w'.cell? ⟨g, q, none⟩ = some v) ∧ w'.frozen? ⟨g, q, none⟩ = false ∧ Below w.heap.size w (w'.setCell ⟨g, q, none⟩ u) ∧ (w'.setCell ⟨g, q, none⟩ u).ownsRow N 36 6 (.slice (some ⟨g, 0, none⟩) n c) n ((l.set r e').flatMap iV) := by
  subst hq
  have hr : r < n := by rw [← hl]; exact (List.getElem?_eq_some_iff.1 hx).1
  have hlen : r * 6 + j < n * 6 := by omega
  refine ⟨⟨(l.flatMap iV)[r * 6 + j]'(by rw [flat_len iV 6 iV_len, hl]; exact hlen), ?_⟩, ho.frozenAt _, hb.setCell (p := ⟨g, r * 6 + j, none⟩) hlo _, ?_⟩
  · rw [ho.cellAt _ hlen]; exact List.getElem?_eq_getElem _
  · have h1 := (ho.stored (r * 6 + j) u).1
    rw [flat_set iV 6 iV_len l r x e' j u hx hj he] at h1
    exact h1
theorem RdI.of_row {w : World} {base g n c : Nat} {l : List In} (h : w.ownsRow base 36 6 (.slice (some ⟨g, 0, none⟩) n c) n (l.flatMap iV)) (hl : l.length = n) (ha : ∀ e ∈ l, In.At w e) : RdI w (some ⟨g, 0, none⟩) n l := ⟨hl, Rd.of_own h, ha⟩
theorem At_set {w : World} {l : List In} {r : Nat} {x e' : In} (hx : l[r]? = some x) (h : ∀ e ∈ l, In.At w e) (he : In.At w x → In.At w e') : ∀ e ∈ l.set r e', In.At w e := by
  intro e hm
  rcases List.mem_or_eq_of_mem_set hm with h1 | rfl
  · exact h e h1
  · exact he (h x (List.mem_of_getElem? hx))
theorem flI_one (l : List In) : ∀ u ∈ l.flatMap iV, u.oneCell' = true := by
  intro u hu
  simp only [List.mem_flatMap] at hu
  obtain ⟨e, _, hu⟩ := hu
  exact iV_one e u hu
end Go.Proofs.YtifmamobhkgmfaaDoor
