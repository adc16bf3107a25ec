/- The program's tree and the document's, beside one another. No condition. -/
import Derived.Test.YtplckaodenpdbaaRfw
namespace Go.Proofs.Ytplckaodenpdbaa
open Go.RowKit
set_option linter.unusedVariables false
set_option maxRecDepth 100000

/-- Since W: block t is the tree S1, block m the document's tree S2, apart; X, if any, is a block beside them. -/
structure AF (W : World) (t m : Nat) (S1 S2 : TS) (X : Option (Nat × Obj)) (w : World) (F : Nat → Prop) (Q : Option Addr) (c : Nat) : Prop where
  tr : TR F 0 S1 w t
  mx : MX w m Q c S2
  fB : ∀ k, F k → W.heap.size ≤ k ∧ k < w.heap.size
  nm : ¬ F m
  nQ : ∀ k, blk Q = some k → ¬ F k
  mB : W.heap.size ≤ m
  QB : ∀ k, blk Q = some k → W.heap.size ≤ k
  bel : Below W.heap.size W w
  xo : ∀ x o, X = some (x, o) → w.heap[x]? = some o ∧ ¬ F x ∧ x ≠ m ∧ blk Q ≠ some x ∧ W.heap.size ≤ x
def AS (W : World) (t m : Nat) (S1 S2 : TS) (X : Option (Nat × Obj)) (w : World) : Prop := ∃ F Q c, AF W t m S1 S2 X w F Q c
section
variable {W w w' : World} {t m c : Nat} {S1 S2 S' : TS} {X : Option (Nat × Obj)} {F : Nat → Prop} {Q : Option Addr}
theorem AF.later (h : AF W t m S1 S2 X w F Q c) (hb : Below w.heap.size w w') : AF W t m S1 S2 X w' F Q c :=
  ⟨h.tr.later hb, h.mx.later hb, fun k hk => ⟨(h.fB k hk).1, Nat.lt_of_lt_of_le (h.fB k hk).2 hb.size⟩, h.nm, h.nQ, h.mB, h.QB, h.bel.trans (hb.mono h.bel.size), fun x o e => by
    obtain ⟨h1, h2⟩ := h.xo x o e
    exact ⟨(hb.block x (lt_of_blk h1)).trans h1, h2⟩⟩
theorem AS.later (h : AS W t m S1 S2 X w) (hb : Below w.heap.size w w') : AS W t m S1 S2 X w' := by obtain ⟨F, Q, c, h⟩ := h; exact ⟨F, Q, c, h.later hb⟩
theorem AS.drewN (h : AS W t m S1 S2 X w) (q : Nat) : AS W t m S1 S2 X (w.drewN q) := h.later (below_drewN w q)
theorem AS.bel (h : AS W t m S1 S2 X w) : Below W.heap.size W w := by obtain ⟨F, Q, c, h⟩ := h; exact h.bel
theorem AS.wf (h : AS W t m S1 S2 X w) : WF S1 := by obtain ⟨F, Q, c, h⟩ := h; exact h.tr.wf
theorem AS.le (h : AS W t m S1 S2 X w) : S1.length ≤ 1000 := by obtain ⟨F, Q, c, h⟩ := h; exact h.tr.le
theorem AS.none (h : AS W t m S1 S2 X w) : AS W t m S1 S2 Option.none w := by
  obtain ⟨F, Q, c, h⟩ := h
  exact ⟨F, Q, c, h.tr, h.mx, h.fB, h.nm, h.nQ, h.mB, h.QB, h.bel, fun x o e => by cases e⟩
theorem AS.box (h : AS W t m S1 S2 X w) (o : Obj) : AS W t m S1 S2 (some (w.heap.size, o)) (w.alloc o) := by
  obtain ⟨F, Q, c, h⟩ := h
  have h' := h.later (below_al w o)
  refine ⟨F, Q, c, h'.tr, h'.mx, h'.fB, h'.nm, h'.nQ, h'.mB, h'.QB, h'.bel, fun x o' e => ?_⟩
  simp at e
  obtain ⟨rfl, rfl⟩ := e
  refine ⟨heap_alloc_new w _, fun hf => by have := (h.fB _ hf).2; omega, fun e => by have := h.mx.lt; omega, fun e => by have := (row_lt h.mx.own e).2; omega, h.bel.size⟩
theorem AS.cell {x i : Nat} {cs : Array Value} {ty : TypeId} {v : Value} (h : AS W t m S1 S2 (some (x, .cells cs ty)) w) (hv : cs[i]? = some v) : w.cell? ⟨x, i, Option.none⟩ = some v := by
  obtain ⟨F, Q, c, h⟩ := h
  rw [cell_of_row w x i _ _ _ (h.xo x _ rfl).1]; exact hv
theorem AF.goT (h : AF W t m S1 S2 X w F Q c) (g : Go F 0 t S' w w') : AS W t m S' S2 X w' := by
  have hs := g.2.size
  have hW := h.bel.size
  refine ⟨fun k => okN F w.heap.size k ∧ k < w'.heap.size, Q, c, g.1.mono fun k hk hf => ⟨hf, hk⟩, h.mx.keep (g.2.block m h.mx.lt h.nm) fun k hk => g.2.block k (row_lt h.mx.own hk).2 (h.nQ k hk), ?_, ?_, ?_, h.mB, h.QB, h.bel.trans (g.2.below hW fun k hk => (h.fB k hk).1), ?_⟩
  · rintro k ⟨hk | hk, hl⟩
    · exact ⟨(h.fB k hk).1, hl⟩
    · exact ⟨by omega, hl⟩
  · rintro ⟨hf | hf, _⟩
    · exact h.nm hf
    · have := h.mx.lt; omega
  · rintro k hk ⟨hf | hf, _⟩
    · exact h.nQ k hk hf
    · have := (row_lt h.mx.own hk).2; omega
  · intro x o e
    obtain ⟨h1, h2, h3, h4, h5⟩ := h.xo x o e
    have hl := lt_of_blk h1
    refine ⟨(g.2.block x hl h2).trans h1, ?_, h3, h4, h5⟩
    rintro ⟨hf | hf, _⟩
    · exact h2 hf
    · omega
theorem AF.goM (h : AF W t m S1 S2 X w F Q c) (g : MGo m Q S' w w') : AS W t m S1 S' X w' := by
  obtain ⟨Q', c', g1, g2, g3⟩ := g
  have hs := g2.size
  have hW := h.bel.size
  refine ⟨F, Q', c', h.tr.keep fun k hk hf => g2.block k hk ?_, g1, fun k hk => ⟨(h.fB k hk).1, Nat.lt_of_lt_of_le (h.fB k hk).2 hs⟩, h.nm, ?_, h.mB, ?_, h.bel.trans (g2.below hW ?_), ?_⟩
  · rintro (rfl | e)
    · exact h.nm hf
    · exact h.nQ k e hf
  · intro k hk hf
    rcases g3 k hk with e | e
    · exact h.nQ k e hf
    · have := (h.fB k hf).2; omega
  · intro k hk
    rcases g3 k hk with e | e
    · exact h.QB k e
    · omega
  · rintro k (rfl | e)
    · exact h.mB
    · exact h.QB k e
  · intro x o e
    obtain ⟨h1, h2, h3, h4, h5⟩ := h.xo x o e
    have hl := lt_of_blk h1
    refine ⟨(g2.block x hl (by rintro (e1 | e1); exact h3 e1; exact h4 e1)).trans h1, h2, h3, fun e1 => ?_, h5⟩
    rcases g3 x e1 with e2 | e2
    · exact h4 e2
    · omega
end
section
variable {W : World} {t m : Nat} {S : TS}
/-- Add, on both sides. -/
theorem add_both (hwf : WF S) (hS : S.length ≤ 1000) (p : Int) (l : Bool) : ∃ (S' : TS) (x y : Int),
    (∀ w X, AS W t m S S X w → Calls Try.prog 10 #[.pointer (some ⟨t, 0, none⟩), .int .i64 p, .bool l] w fun e w' => e = .returned (.tuple #[.int .i64 x, .int .i64 y]) ∧ Hid (AS W t m S' S X w')) ∧
    (∀ w X, AS W t m S' S X w → Calls Try.prog 11 #[.pointer (some ⟨m, 0, none⟩), .int .i64 p, .bool l] w fun e w' => e = .returned (.tuple #[.int .i64 x, .int .i64 y]) ∧ Hid (AS W t m S' S' X w')) := by
  by_cases c1 : p < -1 ∨ (S.length : Int) ≤ p
  · refine ⟨S, 0, 1, ?_, ?_⟩
    · rintro w X ⟨F, Q, c, h⟩
      refine (add_arg w h.tr p l c1).mono ?_
      rintro e w' ⟨rfl, rfl⟩
      exact ⟨rfl, F, Q, c, h⟩
    · rintro w X ⟨F, Q, c, h⟩
      refine (madd_arg h.mx p l c1).mono ?_
      rintro e w' ⟨rfl, rfl⟩
      exact ⟨rfl, F, Q, c, h⟩
  by_cases c2 : S.length = 1000
  · refine ⟨S, 0, 3, ?_, ?_⟩
    · rintro w X ⟨F, Q, c, h⟩
      refine (add_full w h.tr c2 p l (by omega)).mono ?_
      rintro e w' ⟨rfl, rfl⟩
      exact ⟨rfl, F, Q, c, h⟩
    · rintro w X ⟨F, Q, c, h⟩
      refine (madd_full h.mx c2 p l (by omega)).mono ?_
      rintro e w' ⟨rfl, rfl⟩
      exact ⟨rfl, F, Q, c, h⟩
  obtain ⟨l2, hl2⟩ : ∃ l2, l2 = (l && decide (0 ≤ p)) := ⟨_, rfl⟩
  refine ⟨S ++ [(p, l2)], S.length, 0, ?_, ?_⟩
  · rintro w X ⟨F, Q, c, h⟩
    by_cases c3 : p = -1
    · subst c3
      obtain rfl : l2 = false := by rw [hl2]; simp
      exact (add_root w h.tr (by omega) l).mono fun e w' ⟨he, g⟩ => ⟨he, h.goT g⟩
    · obtain ⟨i, rfl⟩ : ∃ i : Nat, p = (i : Int) := Int.eq_ofNat_of_zero_le (by omega)
      cases l with
      | false =>
        obtain rfl : l2 = false := hl2
        exact (add_off w h.tr (by omega) i (by omega)).mono fun e w' ⟨he, g⟩ => ⟨he, h.goT g⟩
      | true =>
        obtain rfl : l2 = true := by rw [hl2]; simp
        exact (add_hung w h.tr (by omega) i (by omega)).mono fun e w' ⟨he, g⟩ => ⟨he, h.goT g⟩
  · rintro w X ⟨F, Q, c, h⟩
    exact (madd_in h.mx (by omega) p l l2 (by omega) hl2).mono fun e w' ⟨he, g⟩ => ⟨he, h.goM g.out⟩
/-- Detach, on both sides. -/
theorem det_both (hwf : WF S) (p : Int) : ∃ (S' : TS) (b : Bool),
    (∀ w X, AS W t m S S X w → Calls Try.prog 12 #[.pointer (some ⟨t, 0, none⟩), .int .i64 p] w fun e w' => e = .returned (.bool b) ∧ Hid (AS W t m S' S X w')) ∧
    (∀ w X, AS W t m S' S X w → Calls Try.prog 13 #[.pointer (some ⟨m, 0, none⟩), .int .i64 p] w fun e w' => e = .returned (.bool b) ∧ Hid (AS W t m S' S' X w')) := by
  by_cases c1 : p < 0 ∨ (S.length : Int) ≤ p
  · refine ⟨S, false, ?_, ?_⟩
    · rintro w X ⟨F, Q, c, h⟩
      exact (detach_no w h.tr p c1).mono fun e w' ⟨he, b⟩ => ⟨he, F, Q, c, h.later b⟩
    · rintro w X ⟨F, Q, c, h⟩
      refine (mdet_no h.mx p c1).mono ?_
      rintro e w' ⟨rfl, rfl⟩
      exact ⟨rfl, F, Q, c, h⟩
  obtain ⟨i, rfl⟩ : ∃ i : Nat, p = (i : Int) := Int.eq_ofNat_of_zero_le (by omega)
  obtain ⟨⟨q, l⟩, hs⟩ : ∃ y, S[i]? = some y := ⟨_, List.getElem?_eq_getElem (by omega)⟩
  cases l with
  | false =>
    refine ⟨S, false, ?_, ?_⟩
    · rintro w X ⟨F, Q, c, h⟩
      exact (detach_off w h.tr i hs).mono fun e w' ⟨he, b⟩ => ⟨he, F, Q, c, h.later b⟩
    · rintro w X ⟨F, Q, c, h⟩
      refine (mdet_off h.mx i hs).mono ?_
      rintro e w' ⟨rfl, rfl⟩
      exact ⟨rfl, F, Q, c, h⟩
  | true =>
    obtain ⟨j, rfl⟩ : ∃ j : Nat, q = (j : Int) := Int.eq_ofNat_of_zero_le ((hwf i q true hs).2.2 rfl)
    refine ⟨cut S i, true, ?_, ?_⟩
    · rintro w X ⟨F, Q, c, h⟩
      exact (detach_yes w h.tr (fun k hk => (h.fB k hk).2) i hs).mono fun e w' ⟨he, g⟩ => ⟨he, h.goT g⟩
    · rintro w X ⟨F, Q, c, h⟩
      exact (mdet_yes h.mx i hs).mono fun e w' ⟨he, g⟩ => ⟨he, h.goM g.out⟩

/-! Readings, at any number. -/
/-- Whose walk, if it is there. -/
def wz (S : TS) (z : Int) : List Int := if 0 ≤ z ∧ z < (S.length : Int) then nz (walk S z.toNat) else []
/-- Whose kids, if it is there. -/
def kz (S : TS) (z : Int) : List Int := if 0 ≤ z ∧ z < (S.length : Int) then nz (kids S z.toNat) else []
theorem wz_len (hwf : WF S) (z : Int) : (wz S z).length ≤ S.length := by
  unfold wz
  split
  · rename_i h
    rw [nz_len]; exact walk_len hwf (by omega)
  · simp
theorem kz_len (z : Int) : (kz S z).length ≤ S.length := by
  unfold kz
  split
  · rw [nz_len]; exact once_len S.length (kids S _) ((kids_rise S _).imp fun h => by omega) (fun x hx => (kids_lt hx).2)
  · simp
theorem walk_z {w : World} {X : Option (Nat × Obj)} (h : AS W t m S S X w) (z : Int) : Calls Try.prog 20 #[.pointer (some ⟨t, 0, none⟩), .int .i64 z] w (RowR (wz S z) w) := by
  obtain ⟨F, Q, c, h⟩ := h
  unfold wz
  split
  · rename_i hz
    obtain ⟨i, rfl⟩ := Int.eq_ofNat_of_zero_le hz.1
    exact walk_yes w h.tr (fun k hk => (h.fB k hk).2) i (by omega)
  · exact walk_no w h.tr z (by omega)
theorem kids_z {w : World} {X : Option (Nat × Obj)} (h : AS W t m S S X w) (z : Int) : Calls Try.prog 18 #[.pointer (some ⟨t, 0, none⟩), .int .i64 z] w (RowR (kz S z) w) := by
  obtain ⟨F, Q, c, h⟩ := h
  unfold kz
  split
  · rename_i hz
    obtain ⟨i, rfl⟩ := Int.eq_ofNat_of_zero_le hz.1
    exact kids_yes w h.tr i (by omega)
  · exact kids_no w h.tr z (by omega)
theorem mwalk_z {w : World} {X : Option (Nat × Obj)} (h : AS W t m S S X w) (z : Int) : Calls Try.prog 16 #[.pointer (some ⟨m, 0, none⟩), .int .i64 z] w (RowR (wz S z) w) := by
  have hwf := h.wf
  have hle := h.le
  obtain ⟨F, Q, c, h⟩ := h
  unfold wz
  split
  · rename_i hz
    obtain ⟨i, rfl⟩ := Int.eq_ofNat_of_zero_le hz.1
    exact mwalk_call hwf hle _ i (Nat.lt_succ_self _) (by omega) w m c Q h.mx
  · exact mwalk_no h.mx z (by omega)
theorem mkids_z {w : World} {X : Option (Nat × Obj)} (h : AS W t m S S X w) (z : Int) : Calls Try.prog 19 #[.pointer (some ⟨m, 0, none⟩), .int .i64 z] w (RowR (kz S z) w) := by
  have hwf := h.wf
  have hle := h.le
  obtain ⟨F, Q, c, h⟩ := h
  have := mkids h.mx hle z
  unfold kz
  split
  · rename_i hz
    obtain ⟨i, rfl⟩ := Int.eq_ofNat_of_zero_le hz.1
    rw [mk_kids hwf] at this
    exact this
  · rw [mk_none hwf z (by omega)] at this
    exact this
theorem under_z {w : World} {X : Option (Nat × Obj)} (h : AS W t m S S X w) (y z : Int) (hz : z ≤ (S.length : Int)) : Calls Try.prog 21 #[.pointer (some ⟨t, 0, none⟩), .int .i64 y, .int .i64 z] w fun e w' => e = .returned (.bool ((wz S z).contains y)) ∧ w = w' := by
  have hwf := h.wf
  obtain ⟨F, Q, c, h⟩ := h
  by_cases c1 : y < 0 ∨ (S.length : Int) ≤ y
  · have e : (wz S z).contains y = false := by
      cases hc : (wz S z).contains y with
      | false => rfl
      | true =>
        exfalso
        rw [List.contains_iff_mem] at hc
        unfold wz at hc
        split at hc
        · rename_i hz2
          obtain ⟨a, ha, rfl⟩ := List.mem_map.1 hc
          have := ((mem_walk hwf (i := z.toNat) (by omega)).1 ha).1
          omega
        · cases hc
    rw [e]
    exact under_no w h.tr y z c1
  · obtain ⟨k, rfl⟩ : ∃ k : Nat, y = (k : Int) := Int.eq_ofNat_of_zero_le (by omega)
    have hk : k < S.length := by omega
    have e : (wz S z).contains (k : Int) = upZ S k z := by
      unfold wz upZ
      by_cases c2 : 0 ≤ z ∧ z < (S.length : Int)
      · rw [if_pos c2, nz_mem, decide_eq_true c2.1, Bool.true_and]
        have hm := mem_walk hwf (i := z.toNat) (x := k) (by omega)
        cases hu : upTo S k z.toNat with
        | true => exact List.contains_iff_mem.2 (hm.2 ⟨hk, hu⟩)
        | false =>
          cases hc : (walk S z.toNat).contains k with
          | false => rfl
          | true => have := (hm.1 (List.contains_iff_mem.1 hc)).2; rw [hu] at this; cases this
      · rw [if_neg c2]
        by_cases c3 : 0 ≤ z
        · rw [decide_eq_true c3, Bool.true_and]
          cases hu : upTo S k z.toNat with
          | false => rfl
          | true => have := upTo_le hwf _ _ k (Nat.lt_succ_self _) hu; omega
        · rw [decide_eq_false c3]; rfl
    rw [e]
    exact under_yes w h.tr k hk z
theorem par_at {w : World} {X : Option (Nat × Obj)} (h : AS W t m S S X w) (i : Nat) {p : Int} {l : Bool} (hs : S[i]? = some (p, l)) : Calls Try.prog 15 #[.pointer (some ⟨t, 0, none⟩), .int .i64 (i : Int)] w fun e w' => e = .returned (.tuple #[.int .i64 p, .bool l, .bool true]) ∧ Hid (AS W t m S S X w') := by
  obtain ⟨F, Q, c, h⟩ := h
  exact (par_yes w h.tr i hs).mono fun e w' ⟨he, b⟩ => ⟨he, F, Q, c, h.later b⟩
theorem par_not {w : World} {X : Option (Nat × Obj)} (h : AS W t m S S X w) (z : Int) (hz : z < 0 ∨ (S.length : Int) ≤ z) : Calls Try.prog 15 #[.pointer (some ⟨t, 0, none⟩), .int .i64 z] w fun e w' => e = .returned (.tuple #[.int .i64 0, .bool false, .bool false]) ∧ Hid (AS W t m S S X w') := by
  obtain ⟨F, Q, c, h⟩ := h
  exact (par_no w h.tr z hz).mono fun e w' ⟨he, b⟩ => ⟨he, F, Q, c, h.later b⟩
theorem len_a {w : World} {X : Option (Nat × Obj)} (h : AS W t m S S X w) : Calls Try.prog 14 #[.pointer (some ⟨t, 0, none⟩)] w fun e w' => e = .returned (.int .i64 (S.length : Int)) ∧ w = w' := by
  obtain ⟨F, Q, c, h⟩ := h
  exact len_any w h.tr
theorem m_cell {w : World} {X : Option (Nat × Obj)} (h : AS W t m S S X w) : ∃ Q c, w.cell? ⟨m, 0, none⟩ = some (.slice Q S.length c) := by
  obtain ⟨F, Q, c, h⟩ := h
  exact ⟨Q, c, h.mx.c0⟩
theorem m_at {w : World} {X : Option (Nat × Obj)} (h : AS W t m S S X w) {i : Nat} {p : Int} {l : Bool} (hs : S[i]? = some (p, l)) : ∃ q c, w.cell? ⟨m, 0, none⟩ = some (.slice (some ⟨q, 0, none⟩) S.length c) ∧ w.cell? ⟨q, i * 2, none⟩ = some (.int .i64 p) ∧ w.cell? ⟨q, i * 2 + 1, none⟩ = some (.bool l) := by
  obtain ⟨F, Q, c, h⟩ := h
  obtain ⟨q, rfl, _, e1, e2⟩ := h.mx.form hs
  exact ⟨q, c, h.mx.c0, e1, e2⟩
/-- At first. -/
theorem new_as {w : World} (h : LS W t [] [] w) : AS W t w.heap.size [] [] none (w.alloc (.cells #[.slice none 0 0] 29)) := by
  obtain ⟨F, h1, h2, _⟩ := h.ex
  have hb := below_al w (.cells #[.slice none 0 0] 29)
  exact ⟨F, none, 0, h1.later hb, MX.new w, fun k hk => ⟨(h2 k hk).1, Nat.lt_of_lt_of_le (h2 k hk).2 hb.size⟩, fun hf => by have := (h2 _ hf).2; omega, fun k e => (by cases e), h.bel.size, fun k e => (by cases e), h.bel.trans (hb.mono h.bel.size), fun x o e => (by cases e)⟩
end
end Go.Proofs.Ytplckaodenpdbaa
