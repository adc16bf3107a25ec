/- Encode writes entries, or refuses them. Condition: the entries lie there. -/
import Derived.Test.YtfjphbljdijceaaEnt
namespace Go.Proofs.Ytfjphbljdijceaa
open Go.RowKit
set_option linter.unusedVariables false

theorem Try.info5 : (Try.prog.info? 5).map (fun i => (i.zero, i.size, i.bytes)) = some (some (.int .u8 0), 1, 1) := by kernel_rfl
theorem Try.info35 : (Try.prog.info? 35).map (fun i => (i.zero, i.size, i.bytes)) = some (some (.agg #[.int .i64 0, .int .i64 0, .int .i64 0]), 3, 24) := by kernel_rfl

def eV (e : En) : List Value := [.int .i64 e.k, .int .i64 e.n, .int .i64 e.d]
def flV (l : List En) : List Value := l.flatMap eV
theorem flV_cons (e : En) (l : List En) : flV (e :: l) = eV e ++ flV l := rfl
theorem flV_len (l : List En) : (flV l).length = l.length * 3 := by
  induction l with
  | nil => rfl
  | cons e l ih => rw [flV_cons, List.length_append, ih, List.length_cons]; simp [eV]; omega
theorem flV_at : ∀ (l : List En) (i : Nat) (e : En), l[i]? = some e → (flV l)[i * 3]? = some (.int .i64 e.k) ∧ (flV l)[i * 3 + 1]? = some (.int .i64 e.n) ∧ (flV l)[i * 3 + 2]? = some (.int .i64 e.d)
  | [], i, e, h => by simp at h
  | a :: l, 0, e, h => by
    simp at h; subst h
    simp [flV_cons, eV]
  | a :: l, i + 1, e, h => by
    have h1 := flV_at l i e (by simpa using h)
    have e1 : ∀ j, (flV (a :: l))[3 + j]? = (flV l)[j]? := fun j => by rw [flV_cons, List.getElem?_append_right (by simp [eV])]; congr 1; simp [eV]
    rw [show (i + 1) * 3 = 3 + i * 3 from by omega, show 3 + i * 3 + 1 = 3 + (i * 3 + 1) from by omega, show 3 + i * 3 + 2 = 3 + (i * 3 + 2) from by omega, e1, e1, e1]
    exact h1
/-- A slice of entries. -/
def RdE (w : World) (A : Option Addr) (n : Nat) (l : List En) : Prop := l.length = n ∧ Rd w w.heap.size A n 3 (flV l)
theorem RdE.cells {w : World} {A : Option Addr} {n : Nat} {l : List En} (h : RdE w A n l) (h0 : 0 < n) : ∃ b off, A = some ⟨b, off, none⟩ ∧ b < w.heap.size ∧
    ∀ i e, l[i]? = some e → w.cell? ⟨b, off + i * 3, none⟩ = some (.int .i64 e.k) ∧ w.cell? ⟨b, off + i * 3 + 1, none⟩ = some (.int .i64 e.n) ∧ w.cell? ⟨b, off + i * 3 + 2, none⟩ = some (.int .i64 e.d) := by
  obtain ⟨b, off, e, hl, hc⟩ := h.2.2 h0
  refine ⟨b, off, e, hl, fun i x hx => ?_⟩
  obtain ⟨h1, h2, h3⟩ := flV_at l i x hx
  exact ⟨hc _ _ h1, hc _ _ h2, hc _ _ h3⟩

def EncLoop (W wr : World) (l : List En) (bv : Value) : Prop := Below W.heap.size W wr ∧ allOk l ∧ wr.ownsRow W.heap.size 5 1 bv (enL l).length (bV (enL l))

def EncR (l : List En) (w : World) (e : Ending) (w' : World) : Prop :=
  Below w.heap.size w w' ∧ ((l.length ≤ 2000 ∧ allOk l ∧ ∃ A c, (enL l).length ≤ c ∧ c ≤ 9223372036854775807 ∧ e = .returned (.tuple #[.slice A (enL l).length c, .int .i64 0]) ∧ Rd w' w'.heap.size A (enL l).length 1 (bV (enL l))) ∨
    (¬ (l.length ≤ 2000 ∧ allOk l) ∧ e = .returned (.tuple #[.slice none 0 0, .int .i64 1])))

theorem owns_below {w w' : World} {base : Nat} {e : TypeId} {size n : Nat} {v : Value} {xs : List Value} (h : w.ownsRow base e size v n xs) (hb : Below w.heap.size w w') : w'.ownsRow base e size v n xs :=
  h.kept (row := none) ⟨hb.os, hb.tape, hb.output, hb.size, fun k hk _ => hb.block k hk⟩ (by cases v.ownBlock <;> simp)
theorem bV_app (a b : List Int) : bV (a ++ b) = bV a ++ bV b := by simp [bV]
theorem bV_len (a : List Int) : (bV a).length = a.length := by simp [bV]
theorem bV_one (a : List Int) : ∀ u ∈ bV a, u.oneCell' = true := by
  intro u hu
  obtain ⟨x, _, rfl⟩ := List.mem_map.1 hu
  rfl
theorem enL_one (e : En) : enL [e] = eb e := by simp [enL]
theorem cells_block {w : World} {g : Nat} {cs : Array Value} {t : TypeId} {l : List Value} (h : w.heap[g]? = some (.cells cs t (0, 0))) (hl : cs.toList = l) : ∀ j u, l[j]? = some u → w.cell? ((⟨g, 0, none⟩ : Addr).add j) = some u := by
  subst hl
  exact World.news_of_block h
theorem enc_len {l : List En} (h : allOk l) (hl : l.length ≤ 2000) : (enL l).length ≤ 34000 := by have := enL_len h; omega
theorem enc_push {W wr w2 w3 : World} {l l2 : List En} {x : En} {bv bv' : Value} {m : Nat} (hS : EncLoop W wr l bv) (hb : Below wr.heap.size wr w2) (hx : eOk x) (hl2 : l2 = l ++ [x])
    (ho : w3.ownsRow W.heap.size 5 1 bv' ((enL l).length + m) (bV (enL l) ++ bV (eb x))) (hg : w2.grownBy w3 bv.ownBlock) (hm : m = sz x.k) : EncLoop W w3 l2 bv' := by
  obtain ⟨h1, h2, h3⟩ := hS
  subst hl2
  refine ⟨(h1.trans (hb.mono h1.size)).grown hg (Nat.le_trans h1.size hb.size) (fun k hk => (h3.lt k hk).1), ?_, ?_⟩
  · intro e he
    rcases List.mem_append.1 he with he | he
    · exact h2 e he
    · simp at he; subst he; exact hx
  · rw [enL_app, enL_one, bV_app, List.length_append, eb_len hx, ← hm]
    exact ho
theorem enc_end {W w : World} {l : List En} {bv : Value} (hl : l.length ≤ 2000) (h : EncLoop W w l bv) : EncR l W (.returned (.tuple #[bv, .int .i64 0])) w := by
  obtain ⟨h1, h2, h3⟩ := h
  refine ⟨h1, .inl ⟨hl, h2, ?_⟩⟩
  rcases h3.2 with ⟨rfl, h0⟩ | ⟨g, cap, cur, rfl, _, _, h7, h8, _⟩
  · have hn : (enL l) = [] := List.eq_nil_of_length_eq_zero h0
    rw [hn]
    exact ⟨none, 0, by simp, by omega, rfl, Rd.nil _ _ _ _⟩
  · exact ⟨some ⟨g, 0, none⟩, cap, h7, h8, rfl, Rd.of_own h3⟩
theorem has_yes {k n d : Int} (h : eOk ⟨k, n, d⟩) (w : World) : Calls Try.prog 18 #[.agg #[.int .i64 k, .int .i64 n, .int .i64 d]] w (BoolR true w) := by
  have h1 := has_any k n d w
  rw [(okB_iff _).2 h] at h1
  exact h1
theorem has_no {k n d : Int} (h : ¬ eOk ⟨k, n, d⟩) (w : World) : Calls Try.prog 18 #[.agg #[.int .i64 k, .int .i64 n, .int .i64 d]] w (BoolR false w) := by
  have h1 := has_any k n d w
  rw [show okB ⟨k, n, d⟩ = false from by cases h2 : okB ⟨k, n, d⟩ with | false => rfl | true => exact absurd ((okB_iff _).1 h2) h] at h1
  exact h1
theorem enc_any (A : Option Addr) (n cap : Nat) (l : List En) (w : World) (hR : Hid (RdE w A n l)) (hn : n ≤ 4611686018427387904) : Calls Try.prog 10 #[.slice A n cap] w (EncR l w) := by
  by_cases hlen : 2000 < n
  · go_enter Try.func10, Try.ntmps10
    go_wp2
    go_ret2
    exact ⟨Below.refl _ _, .inr ⟨fun h => by have := hR.out.1; omega, rfl⟩⟩
  · obtain ⟨i0, hi, hz0, hz1, hz2⟩ := info_parts Try.info5
    go_enter Try.func10, Try.ntmps10
    go_wp2
    go_loopw [4, 12] (fun bv i wr => ∃ k : Nat, k ≤ n ∧ i = .int .i64 k ∧ Hid (EncLoop w wr (l.take k) bv)) (fun _ i _ => n - (intOf i).toNat)
    case atStart => exact ⟨0, by omega, rfl, Below.refl _ _, fun _ h => by simp at h, World.ownsRow_nil _ _ _ _⟩
    case round =>
      obtain ⟨k, hk, rfl, hS⟩ := hrel
      by_cases hlt : k < n
      · obtain ⟨b, off, rfl, hb, hc⟩ := hR.out.cells (by omega)
        have hky : k < l.length := by rw [hR.out.1]; exact hlt
        obtain ⟨c0, c1, c2⟩ := hc k (l[k]'hky) (List.getElem?_eq_getElem hky)
        have htk : l.take (k + 1) = l.take k ++ [l[k]'hky] := List.take_succ_eq_append_getElem hky
        have hmem : l[k]'hky ∈ l := List.getElem_mem hky
        rw [← cell_blk (hS.out.1.block b hb)] at c0 c1 c2
        generalize l[k]'hky = x at *
        obtain ⟨ek, en, ed⟩ := x
        simp only at c0 c1 c2
        have HTK := Lib.hid htk
        have HM := Lib.hid hmem
        clear htk hmem hc hky
        by_cases hok : eOk ⟨ek, en, ed⟩
        · have HO := Lib.hid hok
          clear hok
          go_wp2_with fail
          refine (has_yes HO.out _).mono ?_
          rintro e w1 ⟨rfl, hb1⟩
          have hs1 : wr.heap.size < w1.heap.size := by have := hb1.size; simp at this; omega
          have d0 : w1.cell? ⟨wr.heap.size, 0, none⟩ = some (.int .i64 ek) := (cell_blk (hb1.block _ (by simp)) _).trans (by simp)
          have d1 : w1.cell? ⟨wr.heap.size, 1, none⟩ = some (.int .i64 en) := (cell_blk (hb1.block _ (by simp)) _).trans (by simp)
          have d2 : w1.cell? ⟨wr.heap.size, 2, none⟩ = some (.int .i64 ed) := (cell_blk (hb1.block _ (by simp)) _).trans (by simp)
          have HB1 := Lib.hid ((below_al wr (.cells #[.int .i64 ek, .int .i64 en, .int .i64 ed] 35)).trans (hb1.mono (by simp)))
          clear hb1 c0 c1 c2
          go_wp2_with fail
          refine (ent_any ek en ed HO.out _).mono ?_
          rintro e w2 ⟨cs, hcs, rfl, hb2, hbl⟩
          have HB2 := Lib.hid (HB1.out.trans (hb2.mono HB1.out.size))
          have hown := owns_below hS.out.2.2 HB2.out
          have HC := Lib.hid (cells_block hbl hcs)
          have hsz : sz ek ≤ 17 := by unfold sz; split <;> (try split) <;> omega
          have hel : (enL (l.take k)).length ≤ 34000 := enc_len hS.out.2.1 (by rw [List.length_take]; omega)
          have HL : Hid ((bV (eb ⟨ek, en, ed⟩)).length = sz ek * 1) := by show _ = _; rw [bV_len, eb_len HO.out, Nat.mul_one]
          have hWs : w.heap.size ≤ w2.heap.size := Nat.le_trans hS.out.1.size HB2.out.size
          clear hcs hb2 hbl d0 d1 d2
          go_wp2_with (at_builtin; go_loud (refine wpList_append_own _ rfl _ _ 24 rfl w.heap.size 5 i0 (.int .u8 0) 1 1 Try.underlying24 hi hz0 hz1 hz2 rfl (by decide) _ _ _ rfl hown ⟨w1.heap.size + 1, 0, none⟩ (sz ek) (sz ek) (bV (eb ⟨ek, en, ed⟩)) rfl HL.out HC.out (bV_one _) (by unfold maxLen; omega) (by omega) hWs ?_; intro v' w3 hown' hgrow _; have HE := Lib.hid (enc_push hS.out HB2.out HO.out HTK.out hown' hgrow rfl); clear hown' hgrow hown))
          go_roundw
          case rel => exact ⟨k + 1, by omega, by go_num, HE⟩
          case measure => simp [intOf]; omega
        · have HO := Lib.hid hok
          clear hok
          go_wp2_with fail
          refine (has_no HO.out _).mono ?_
          rintro e w1 ⟨rfl, hb1⟩
          have HB1 := Lib.hid ((below_al wr (.cells #[.int .i64 ek, .int .i64 en, .int .i64 ed] 35)).trans (hb1.mono (by simp)))
          clear hb1
          go_wp2_with fail
          go_ret2
          exact ⟨hS.out.1.trans (HB1.out.mono hS.out.1.size), .inr ⟨fun h => HO.out (h.2 _ HM.out), rfl⟩⟩
      · obtain rfl : k = n := by omega
        have HK : Hid (EncLoop w wr l u4) := by have h := hS.out; rw [List.take_of_length_le (by rw [hR.out.1]; omega)] at h; exact h
        clear hS
        go_wp2_with fail
        go_ret2
        exact enc_end (by rw [hR.out.1]; omega) HK.out
end Go.Proofs.Ytfjphbljdijceaa
