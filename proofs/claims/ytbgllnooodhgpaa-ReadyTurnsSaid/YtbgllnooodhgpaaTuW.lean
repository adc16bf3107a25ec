/- Picked by numbers in a row, each has its turn. Conditions: a0 and a1 are ints. -/
import Derived.Test.YtbgllnooodhgpaaAwk
namespace Go.Proofs.Ytbgllnooodhgpaa
open Go.RowKit
set_option linter.unusedVariables false

/-- Every third number. -/
def T3 (k : Nat) : List Int := (List.range k).map fun i : Nat => 3 * (i : Int)
theorem T3_succ (k : Nat) : T3 (k + 1) = T3 k ++ [3 * (k : Int)] := by simp [T3, List.range_succ]
theorem T3_len (k : Nat) : (T3 k).length = k := by simp [T3]
theorem T3_at {i k : Nat} (h : i < k) : (T3 k)[i]? = some (3 * (i : Int)) := by simp [T3, h]
theorem T3_new (k : Nat) : 3 * (k : Int) ∉ T3 k := by
  intro h
  obtain ⟨i, hi, e⟩ := List.mem_map.1 h
  have := List.mem_range.1 hi
  omega
/-- A row of bools. -/
def SB (n : Nat) (g : Nat → Bool) : List Value := (List.range n).map fun j => .bool (g j)
theorem SB_new (n : Nat) : List.replicate n (Value.bool false) = SB n (fun _ => false) := by
  apply List.ext_getElem?
  intro j
  by_cases h : j < n <;> simp [SB, h]
theorem SB_at {n j : Nat} {g : Nat → Bool} (h : j < n) : (SB n g)[j]? = some (.bool (g j)) := by simp [SB, h]
theorem SB_set {n j : Nat} {g : Nat → Bool} : (SB n g).set j (.bool true) = SB n (fun i => g i || j == i) := by
  apply List.ext_getElem?
  intro i
  rw [List.getElem?_set]
  by_cases h : i < n
  · by_cases e : j = i
    · subst e; simp [SB, h]
    · simp [SB, h, e]
  · by_cases e : j = i
    · subst e; simp [SB, h]
    · simp [SB, h, e]
/-- Who has had a turn. -/
def sn (a : Int) (n k j : Nat) : Bool := (List.range k).any fun i => pk (a + (i : Int)) n == j
theorem sn_zero (a : Int) (n : Nat) : sn a n 0 = fun _ => false := rfl
theorem sn_succ (a : Int) (n k : Nat) : sn a n (k + 1) = fun j => sn a n k j || pk (a + (k : Int)) n == j := by
  funext j; simp [sn, List.range_succ]
theorem pk_ne {a : Int} {n i k : Nat} (hi : i < k) (hk : k < n) : pk (a + (i : Int)) n ≠ pk (a + (k : Int)) n := by
  unfold pk
  intro e
  have h1 := Int.emod_nonneg (a + (i : Int)) (show (n : Int) ≠ 0 by omega)
  have h2 := Int.emod_nonneg (a + (k : Int)) (show (n : Int) ≠ 0 by omega)
  have h3 : (a + (k : Int)) % (n : Int) = (a + (i : Int)) % (n : Int) := by omega
  have h4 := Int.emod_eq_emod_iff_emod_sub_eq_zero.1 h3
  rw [show a + (k : Int) - (a + (i : Int)) = (k : Int) - (i : Int) by omega, Int.emod_eq_of_lt (by omega) (by omega)] at h4
  omega
theorem sn_new {a : Int} {n k : Nat} (h : k < n) : sn a n k (pk (a + (k : Int)) n) = false := by
  unfold sn
  rw [List.any_eq_false]
  intro i hi
  have := pk_ne (a := a) (List.mem_range.1 hi) h
  simpa using this

theorem inf4 : (Try.prog.info? 4).map (fun i => (i.zero, i.size, i.bytes)) = some (some (.bool false), 1, 1) := by kernel_rfl
theorem ST.cell {W w : World} {P : Option Addr} {c : Nat} {l : List Int} {s j : Nat} (h : ST W P c l w) (hs : W.heap.size ≤ s) {cs : Array Value} {fr : Nat × Nat} (ht : w.heap[s]? = some (.cells cs 4 fr)) (v : Value) : ST W P c l (w.setCell ⟨s, j, none⟩ v) := by
  obtain ⟨f, h1, h2⟩ := h.rg
  refine ⟨h.bel.setCell hs _, f, h1.keep (Below.heap_setCell _ _ _ _ ?_) (Below.heap_setCell _ _ _ _ ?_) (fun k hk => Below.heap_setCell _ _ _ _ ?_), h2⟩
  · intro e
    have e' : W.heap.size + 1 = s := e
    rw [← e', h1.ho] at ht; injection ht with ht; injection ht with _ ht; cases ht
  · intro e
    have e' : W.heap.size = s := e
    obtain ⟨es, cl, hb⟩ := h1.tm.blk
    rw [← e', hb] at ht; cases ht
  · intro e
    have e' : k = s := e
    obtain ⟨cs', fr', hb⟩ := row_tag h1.own hk
    rw [← e', hb] at ht; injection ht with ht; injection ht with _ ht; cases ht
/-- A list, and a row of bools beside it. -/
structure TS (W : World) (P : Option Addr) (c : Nat) (l : List Int) (s n : Nat) (g : Nat → Bool) (w : World) : Prop where
  st : ST W P c l w
  row : w.ownsRow W.heap.size 4 1 (.slice (some ⟨s, 0, none⟩) n n) n (SB n g)
theorem TS.drewN {W w : World} {P : Option Addr} {c : Nat} {l : List Int} {s n : Nat} {g : Nat → Bool} (h : TS W P c l s n g w) (q : Nat) : TS W P c l s n g (w.drewN q) := ⟨h.st.drewN q, row_later h.row (below_drewN w q)⟩
theorem TS.set {W w : World} {P : Option Addr} {c : Nat} {l : List Int} {s n : Nat} {g : Nat → Bool} (h : TS W P c l s n g w) (j : Nat) : TS W P c l s n (fun i => g i || j == i) (w.setCell ⟨s, j, none⟩ (.bool true)) := by
  obtain ⟨cs, fr, ht⟩ := row_tag h.row (k := s) rfl
  exact ⟨h.st.cell (row_lt h.row (k := s) rfl).1 ht _, by rw [← SB_set]; exact (h.row.stored j _).1⟩

set_option maxRecDepth 100000 in
set_option maxHeartbeats 4000000 in
theorem turns_walk (a0 a1 : Int) (W : World) : Calls Try.prog 4 #[.int .i64 a0, .int .i64 a1] W (BoolR true W) := by
  by_cases c1 : a0 < 1
  · go_enter Try.func4, Try.ntmps4
    go_wp2_with fail
    refine (awake_any W).mono ?_
    rintro e w2 ⟨rfl, b2⟩
    go_wp2_with fail
    go_ret
    exact ⟨rfl, b2⟩
  by_cases c2 : 60 < a0
  · go_enter Try.func4, Try.ntmps4
    go_wp2_with fail
    refine (awake_any W).mono ?_
    rintro e w2 ⟨rfl, b2⟩
    go_wp2_with fail
    go_ret
    exact ⟨rfl, b2⟩
  by_cases c3 : a1 < -1099511627776
  · go_enter Try.func4, Try.ntmps4
    go_wp2_with fail
    refine (awake_any W).mono ?_
    rintro e w2 ⟨rfl, b2⟩
    go_wp2_with fail
    go_ret
    exact ⟨rfl, b2⟩
  by_cases c4 : 1099511627776 < a1
  · go_enter Try.func4, Try.ntmps4
    go_wp2_with fail
    refine (awake_any W).mono ?_
    rintro e w2 ⟨rfl, b2⟩
    go_wp2_with fail
    go_ret
    exact ⟨rfl, b2⟩
  obtain ⟨n, rfl⟩ : ∃ n : Nat, a0 = (n : Int) := ⟨a0.toNat, by omega⟩
  obtain ⟨i0, hi, hz0, hz1, hz2⟩ := info_parts inf4
  have q0 : (n : Int) ≤ 60 := by omega
  have q1 : (1 : Int) ≤ (n : Int) := by omega
  go_enter Try.func4, Try.ntmps4
  go_wp2_with fail
  refine (new_any W).mono ?_
  rintro e w1 h1
  obtain rfl := h1.1
  have S1 : Hid (ST W none 0 (T3 0) w1) := start h1
  clear h1
  go_wp2_with fail
  go_loopw [6] (fun i wr => ∃ k : Nat, k ≤ n ∧ i = .int .i64 k ∧ Hid (∃ P c, ST W P c (T3 k) wr)) (fun i _ => n - (intOf i).toNat)
  case atStart => exact ⟨0, by omega, rfl, ⟨_, _, S1.out⟩⟩
  case round =>
    clear S1
    obtain ⟨k, hk, rfl, HS⟩ := hrel
    obtain ⟨P, c, S2⟩ := HS.out
    replace S2 := Lib.hid S2
    clear HS
    by_cases hlt : k < n
    · have hlc : (k : Int) < (n : Int) := by omega
      have b1 : IntKind.i64.wrap (3 * (k : Int)) = 3 * (k : Int) := by rw [IntKind.wrap_i64]; omega
      go_wp2_with fail
      refine (g_add_new (x := 3 * (k : Int)) S2.out.rg ⟨by omega, wf_of (by omega) (by omega)⟩ (T3_new k) (by rw [T3_len]; omega) S2.out.bel.size).mono ?_
      rintro e w2 r2
      obtain rfl := r2.1
      have S3 : Hid (∃ P c, ST W P c (T3 (k + 1)) w2) := by rw [T3_succ]; exact S2.out.add r2
      clear r2 S2
      go_wp2_with fail
      go_roundw
      case rel => exact ⟨k + 1, by omega, by go_num, S3⟩
      case measure => simp [intOf]; omega
    · obtain rfl : k = n := by omega
      go_wp2_with (at_make; go_loud (refine wpList_make_full _ rfl _ _ 38 rfl W.heap.size 4 i0 (.bool false) 1 Try.underlying38 hi hz0 hz1 .i64 .i64 _ _ k rfl rfl rfl rfl (by rw [hz2]; omega) (by unfold maxLen; omega) S2.out.bel.size ?_; intro w0 hown0 hgrow0; have HT : Hid (TS W P c (T3 k) wr.heap.size k (sn a1 k 0) w0) := ⟨S2.out.later ⟨hgrow0.os, hgrow0.tape, hgrow0.output, hgrow0.size, fun i hi => hgrow0.block i hi (by simp)⟩, by rw [sn_zero, ← SB_new]; rw [show (Value.bool false).cells = #[.bool false] from rfl, toList_madeCells_one, Nat.mul_one] at hown0; exact hown0⟩; clear hown0 hgrow0 S2))
      generalize wr.heap.size = s at *
      go_wp2_with fail
      clear hk hlt hi hz0 hz1 hz2
      go_loopw [8] (fun i wx => ∃ m : Nat, m ≤ k ∧ i = .int .i64 m ∧ Hid (TS W P c (T3 k) s k (sn a1 k m) wx)) (fun i _ => k - (intOf i).toNat)
      case atStart => exact ⟨0, by omega, rfl, HT⟩
      case round =>
        clear HT
        obtain ⟨m, hm, rfl, HT⟩ := hrel
        by_cases hlt : m < k
        · have hlc : (m : Int) < (k : Int) := by omega
          have b1 : IntKind.i64.wrap (a1 + (m : Int)) = a1 + (m : Int) := by rw [IntKind.wrap_i64]; omega
          have hpk := pk_lt (a1 + (m : Int)) (m := k) (by omega)
          have hg : (T3 k)[pk (a1 + (m : Int)) (T3 k).length]? = some (3 * (pk (a1 + (m : Int)) k : Int)) := by rw [T3_len]; exact T3_at hpk
          have hS := SB_at (g := sn a1 k m) hpk
          rw [sn_new hlt] at hS
          have HG := Lib.hid hg
          clear hg
          go_wp2_with fail
          refine (g_pick_any (n := a1 + (m : Int)) (x := 3 * (pk (a1 + (m : Int)) k : Int)) HT.out.st.rg (by rw [T3_len]; omega) HG.out).mono ?_
          rintro e w' ⟨rfl, q, rfl⟩
          have HT2 := Lib.hid (HT.out.drewN q)
          generalize wr.drewN q = w2 at *
          have HT3 := HT2.out.set (pk (a1 + (m : Int)) k)
          rw [← sn_succ] at HT3
          replace HT3 := Lib.hid HT3
          generalize pk (a1 + (m : Int)) k = p at *
          have hcell : w2.cell? ⟨s, p, none⟩ = some (.bool false) := by rw [HT2.out.row.cellAt p (by omega)]; exact hS
          have hfr : w2.frozen? ⟨s, p, none⟩ = false := HT2.out.row.frozenAt p
          obtain ⟨t, ht⟩ : ∃ t : Int, t = 3 * (p : Int) := ⟨_, rfl⟩
          have t1 : ¬ t < 0 := by omega
          have t2 : t.tmod 3 = 0 := by rw [ht]; exact Int.mul_tmod_right 3 _
          have t3 : t.tdiv 3 = (p : Int) := by rw [ht]; exact Int.mul_tdiv_cancel_left _ (by omega)
          have t4 : (p : Int) < (k : Int) := by omega
          have t5 : (p : Int) ≤ 60 := by omega
          have t6 : IntKind.i64.wrap (p : Int) = (p : Int) := by rw [IntKind.wrap_i64]; omega
          rw [← ht]
          clear ht HG hS HT HT2
          go_wp2_with fail
          go_roundw
          case rel => exact ⟨m + 1, by omega, by go_num, HT3⟩
          case measure => simp [intOf]; omega
        · obtain rfl : m = k := by omega
          have hlc : ¬ (m : Int) < (m : Int) := by omega
          go_wp2_with fail
          refine (g_len HT.out.st.rg).mono ?_
          rintro e w' ⟨rfl, rfl⟩
          have e1 : ((T3 m).length : Int) = (m : Int) := by rw [T3_len]
          rw [e1]
          go_wp2_with fail
          refine (awake_any wr).mono ?_
          rintro e w2 ⟨rfl, b2⟩
          have HB := Lib.hid (HT.out.st.later b2).bel
          go_wp2_with fail
          go_ret
          exact ⟨rfl, HB.out⟩
end Go.Proofs.Ytbgllnooodhgpaa
