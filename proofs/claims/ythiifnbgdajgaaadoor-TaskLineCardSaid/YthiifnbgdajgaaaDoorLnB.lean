/- Lists, and what a line's law wants beside: a copy with one more; all but one. Conditions: each theorem's own premises. -/
import Derived.Test.YthiifnbgdajgaaaDoorRow
namespace Go.Proofs.YthiifnbgdajgaaaDoor
open Go.RowKit
set_option linter.unusedVariables false
set_option maxRecDepth 100000

section
variable {w2 wx : World} {ops : Array Oper} {rest : List Oper} {o : Oper} {a : Act} {K : Act → World → Prop} {Q : Exit → Act → World → Prop} {E : Prop}
theorem own_e {base N : Nat} (hN : wx.heap[N]? = some (.cells #[] 3 (0, 0))) (h : base ≤ N) : wx.ownsRow base 3 1 (.slice (some ⟨N, 0, none⟩) 0 0) 0 (iV []) :=
  ⟨rfl, .inr ⟨N, 0, #[], rfl, h, hN, Nat.le_refl _, by unfold maxLen; omega, rfl, rfl⟩⟩
theorem wp_copy (hgd : o.guard = none) (s x : Operand) (hop : o.op = .call { callee := .builtin .append, args := #[s, x], argTypes := #[22, 22] })
    (N : Nat) (A : Option Addr) (m c : Nat) (l : List Int) (hv : a.eval s = .slice (some ⟨N, 0, none⟩) 0 0) (hx : a.eval x = .slice A m c)
    (hN : wx.heap[N]? = some (.cells #[] 3 (0, 0))) (hle : w2.heap.size ≤ N) (hb : Below w2.heap.size w2 wx) (hr : Rn w2 A m l) (hm : m ≤ 400)
    (hK : ∀ v' w', w'.ownsRow w2.heap.size 3 1 v' m (iV l) → Below w2.heap.size w2 w' → wpList Tryd.prog ops Q rest (a.put o.dst v') w') : wpList Tryd.prog ops Q (o :: rest) a wx := by
  have hE := own_e hN hle
  refine wp_app hgd s x hop w2.heap.size _ 0 [] hv hE A m c l hx (hr.later hb) (by omega) hb.size fun v' w' ho hg => ?_
  rw [Nat.zero_add, List.nil_append] at ho
  exact hK v' w' ho (below_own hb hE hg)
theorem wp_more (hgd : o.guard = none) (s x : Operand) (hop : o.op = .call { callee := .builtin .append, args := #[s, x], argTypes := #[22, 22] })
    (v : Value) (A : Option Addr) (n m c : Nat) (l l' : List Int) (hv : a.eval s = v) (hx : a.eval x = .slice A m c)
    (ho : wx.ownsRow w2.heap.size 3 1 v n (iV l)) (hb : Below w2.heap.size w2 wx) (hr : Rn wx A m l') (hn : n ≤ 400) (hm : m ≤ 400)
    (hK : ∀ v' w', w'.ownsRow w2.heap.size 3 1 v' (n + m) (iV (l ++ l')) → Below w2.heap.size w2 w' → wpList Tryd.prog ops Q rest (a.put o.dst v') w') : wpList Tryd.prog ops Q (o :: rest) a wx := by
  refine wp_app hgd s x hop w2.heap.size v n l hv ho A m c l' hx hr (by omega) hb.size fun v' w' ho' hg => ?_
  exact hK v' w' ho' (below_own hb ho hg)
end
/-- A row with one more, in new memory. -/
theorem LS.renew {W w w' : World} {t i n : Nat} {S : List T0} {L l : List Int} {rs : List Rr} {r : Rr} {v : Value} (h : LS W t S L rs w) (hr : rs[i]? = some r) (ho : w'.ownsRow w.heap.size 3 1 v n (iV l)) (hb : Below w.heap.size w w') : ∃ P c, v = .slice P n c ∧ Hid (n = l.length) ∧ Hid (LS W t S L (rs.set i (rI P c l)) w') := by
  obtain ⟨P, c, rfl⟩ := slice_of ho
  have hn : n = l.length := by have := ho.1; simp [iV] at this; omega
  subst hn
  refine ⟨P, c, rfl, rfl, h.turn hr (Tn.of_below hb) (row_low ho (Nat.zero_le _)) fun k hk => ⟨.inr (row_lt ho hk).1, (row_lt ho hk).2⟩⟩
theorem rn_one {w : World} {N : Nat} {x : Int} (h : w.heap[N]? = some (.cells #[.int .i64 x] 3 (0, 0))) : Rn w (some ⟨N, 0, none⟩) 1 [x] := rn_blk h
/-- out: a list without one. -/
def OutR (l : List Int) (x : Int) (w : World) (e : Ending) (w' : World) : Prop := ∃ v, e = .returned v ∧ w'.ownsRow w.heap.size 3 1 v (l.filter fun y => decide (y ≠ x)).length (iV (l.filter fun y => decide (y ≠ x))) ∧ Below w.heap.size w w'
theorem filter_take (l : List Int) (x : Int) {k : Nat} {y : Int} (h : l[k]? = some y) : (l.take (k + 1)).filter (fun y => decide (y ≠ x)) = (l.take k).filter (fun y => decide (y ≠ x)) ++ if y = x then [] else [y] := by
  rw [List.take_add_one, h, List.filter_append]
  by_cases e : y = x
  · simp [e]
  · simp [e]
set_option maxHeartbeats 4000000 in
theorem out_any {A : Option Addr} {n c : Nat} {l : List Int} {x : Int} (w : World) (h : Hid (Rn w A n l)) (hn : n ≤ 300) : Calls Tryd.prog 13 #[.slice A n c, .int .i64 x] w (OutR l x w) := by
  obtain ⟨i0, hi, hz0, hz1, hz2⟩ := info_parts inf3
  have hnc : (n : Int) ≤ 300 := by omega
  have HL : Hid (l.length = n) := h.out.1
  go_enter Tryd.func13, Tryd.ntmps13
  go_wp2_with fail
  have S0 : Hid (w.ownsRow w.heap.size 3 1 (.slice none 0 0) 0 (iV [])) := World.ownsRow_nil _ _ _ _
  go_loopw [5, 6] (fun vo vi wr => ∃ (k m : Nat) (P : Option Addr) (c' : Nat), k ≤ n ∧ vo = .slice P m c' ∧ vi = .int .i64 (k : Int) ∧ Hid (m ≤ k) ∧ Hid (wr.ownsRow w.heap.size 3 1 (.slice P m c') m (iV ((l.take k).filter fun y => decide (y ≠ x)))) ∧ Hid (Below w.heap.size w wr)) (fun vo vi _ => n - (intOf vi).toNat)
  case atStart => exact ⟨0, 0, none, 0, by omega, rfl, rfl, Nat.le_refl _, S0, Below.refl _ _⟩
  case round =>
    clear S0
    obtain ⟨k, m, P, c', hk, rfl, rfl, hmk, hS, hB⟩ := hrel
    have k1 : (0 : Int) ≤ (k : Int) := by omega
    by_cases hlt : k < n
    · have hlc : (k : Int) < (n : Int) := by omega
      obtain ⟨b, off, y, rfl, hb, hy, hc⟩ := h.out.cell hB.out hlt
      have hbw : b < wr.heap.size := Nat.lt_of_lt_of_le hb hB.out.size
      have hne : b ≠ wr.heap.size := Nat.ne_of_lt hbw
      have HF := Lib.hid (filter_take l x hy)
      clear hy hb
      by_cases hyx : y = x
      · subst hyx
        have HF2 : Hid ((l.take (k + 1)).filter (fun z => decide (z ≠ y)) = (l.take k).filter (fun z => decide (z ≠ y))) := by have := HF.out; rw [if_pos rfl, List.append_nil] at this; exact this
        have hbq : (y == y) = true := by simp
        go_wp2_with fail
        go_roundw
        case rel => exact ⟨k + 1, m, P, c', by omega, rfl, by go_num, Nat.le_succ_of_le hmk.out, by show World.ownsRow _ _ _ _ _ _ _; rw [HF2.out]; exact hS.out, hB⟩
        case measure => simp [intOf]; omega
      · have HF2 : Hid ((l.take (k + 1)).filter (fun z => decide (z ≠ x)) = (l.take k).filter (fun z => decide (z ≠ x)) ++ [y]) := by have := HF.out; rw [if_neg hyx] at this; exact this
        have hbq : (y == x) = false := by simpa using hyx
        have hmb : (m : Int) ≤ 300 := by have := hmk.out; omega
        have HX := Lib.hid (below_al wr (.cells #[.int .i64 y] 3))
        clear hyx
        go_wp2_with (at_builtin; go_loud (refine wpList_append_lies _ rfl (.tmp 19) (.tmp 24) 22 rfl w.heap.size 3 i0 _ 1 8 Tryd.underlying22 hi hz0 hz1 hz2 rfl (by omega) (.slice P m c') m (iV ((l.take k).filter fun y => decide (y ≠ x))) rfl (row_later hS.out HX.out) ⟨wr.heap.size, 0, none⟩ 1 1 [.int .i64 y] rfl rfl (World.news_of_block (cs := #[.int .i64 y]) (heap_alloc_new wr _)) one_int (by omega) (by unfold maxLen; have := hmk.out; omega) (by have := hmk.out; omega) (Nat.le_trans hB.out.size HX.out.size) (wr.heap.size + 1) (by first | (simp; done) | (simp; rfl)) ?_; intro g cap3 w3 hown hgrow hat hlt1; have HE : Hid (w3.ownsRow w.heap.size 3 1 (.slice (some ⟨g, 0, none⟩) (m + 1) cap3) (m + 1) (iV ((l.take (k + 1)).filter fun y => decide (y ≠ x)))) := (by show World.ownsRow _ _ _ _ _ _ _; rw [HF2.out, ← iV_snoc]; exact hown); have HB3 : Hid (Below w.heap.size w w3) := (below_own (hB.out.trans (HX.out.mono hB.out.size)) (row_later hS.out HX.out) hgrow); clear hown hgrow hat hlt1))
        go_roundw
        case rel => exact ⟨k + 1, m + 1, _, cap3, by omega, rfl, by go_num, Nat.succ_le_succ hmk.out, HE, HB3⟩
        case measure => simp [intOf]; omega
    · obtain rfl : k = n := by omega
      have hlc : ¬ (k : Int) < (k : Int) := by omega
      go_wp2_with fail
      go_ret
      have h9 := hS.out
      rw [List.take_of_length_le (by rw [HL.out]; omega)] at h9
      have h8 : (l.filter fun y => decide (y ≠ x)).length = m := by have := h9.1; rw [iV_len, Nat.mul_one] at this; exact this
      exact ⟨_, rfl, by rw [h8]; exact h9, hB.out⟩
theorem idx (r : Nat) {n : Nat} (h : 0 < n) : ∃ j : Nat, (r : Int).tmod (n : Int) = (j : Int) ∧ j < n :=
  ⟨r % n, by rw [Int.tmod_eq_emod_of_nonneg (by omega)]; exact (Int.natCast_emod r n).symm, Nat.mod_lt _ h⟩
/-- Parked at a select without cases. -/
def pkd (s : T0) : Prop := s.st = 1 ∧ s.op = 15 ∧ s.a = 0 ∧ s.cs = []
/-- Who is in that list is parked; nobody has been woken more than k times. -/
structure LI (k : Nat) (S : List T0) (p : List Int) : Prop where
  pi : ∀ y ∈ p, ∃ (j : Nat) (s : T0), y = (j : Int) ∧ S[j]? = some s ∧ pkd s
  sp : ∀ s ∈ S, 0 ≤ s.pc ∧ s.pc ≤ (k : Int)
section
variable {k j : Nat} {S : List T0} {p : List Int} {s y : T0}
theorem LI.next (h : LI k S p) : LI (k + 1) S p := ⟨h.pi, fun s hs => by have := h.sp s hs; omega⟩
theorem LI.more (h : LI k S p) : LI (k + 1) (S ++ [yNew 0 g0]) p := by
  refine ⟨fun z hz => ?_, fun s hs => ?_⟩
  · obtain ⟨i, s, e, hs, hp⟩ := h.pi z hz
    exact ⟨i, s, e, by rw [List.getElem?_append_left (List.getElem?_eq_some_iff.1 hs).1]; exact hs, hp⟩
  · rcases List.mem_append.1 hs with hs | hs
    · have := h.sp s hs; omega
    · rw [List.mem_singleton.1 hs]; exact ⟨Int.le_refl _, show (0 : Int) ≤ ((k + 1 : Nat) : Int) by omega⟩
theorem LI.bound (h : LI k S p) (hy : 0 ≤ y.pc ∧ y.pc ≤ (k + 1 : Nat)) : ∀ s ∈ S.set j y, 0 ≤ s.pc ∧ s.pc ≤ ((k + 1 : Nat) : Int) := fun s hs => by
  rcases List.mem_or_eq_of_mem_set hs with hs | rfl
  · have := h.sp s hs; omega
  · exact hy
theorem LI.keep (h : LI k S p) (hs : S[j]? = some s) (h0 : s.st = 0) (hy : 0 ≤ y.pc ∧ y.pc ≤ (k + 1 : Nat)) : LI (k + 1) (S.set j y) p := by
  refine ⟨fun z hz => ?_, h.bound hy⟩
  obtain ⟨i, s', e, hs', hp⟩ := h.pi z hz
  have hne : j ≠ i := by
    rintro rfl
    rw [hs] at hs'; injection hs' with hs'
    have := hp.1
    rw [← hs'] at this; omega
  exact ⟨i, s', e, by rw [List.getElem?_set_ne hne]; exact hs', hp⟩
theorem LI.off (h : LI k S p) (hy : 0 ≤ y.pc ∧ y.pc ≤ (k + 1 : Nat)) : LI (k + 1) (S.set j y) (wo p j) := by
  refine ⟨fun z hz => ?_, h.bound hy⟩
  obtain ⟨h1, h2⟩ := List.mem_filter.1 hz
  simp only [decide_eq_true_eq] at h2
  obtain ⟨i, s', e, hs', hp⟩ := h.pi z h1
  exact ⟨i, s', e, by rw [List.getElem?_set_ne (by omega)]; exact hs', hp⟩
theorem LI.park (h : LI k S p) (hs : S[j]? = some s) (h0 : s.st = 0) (hp : pkd y) (hy : 0 ≤ y.pc ∧ y.pc ≤ (k + 1 : Nat)) : LI (k + 1) (S.set j y) (p ++ [(j : Int)]) := by
  refine ⟨fun z hz => ?_, h.bound hy⟩
  rcases List.mem_append.1 hz with hz | hz
  · exact (h.keep hs h0 hy).pi z hz
  · rw [List.mem_singleton.1 hz]
    exact ⟨j, y, rfl, by rw [List.getElem?_set_self (List.getElem?_eq_some_iff.1 hs).1], hp⟩
theorem wo_le (L : List Int) (r : Nat) : (wo L r).length ≤ L.length := List.length_filter_le _ _
end
theorem chk15z : Pg.checkB [tI (yI 15 0 0 0) none 0] 16 = true := by decide +kernel
end Go.Proofs.YthiifnbgdajgaaaDoor
