/- What is popped rises, all of it, each once. Condition: the slice reads as it came. -/
import Derived.Test.YtcfdfepndjkllaaBls
import Derived.Deep.RegionHeld3
namespace Go.Proofs.Ytcfdfepndjkllaa
open Go.RowKit
set_option linter.unusedVariables false
/-- Who has been popped. -/
def pd (S : List It) (i j : Nat) : Bool := (S.take i).any fun x => x.id == (j : Int)
theorem pd_zero (S : List It) : pd S 0 = fun _ => false := rfl
theorem pd_succ {S : List It} {i j : Nat} {x : It} (h : S[i]? = some x) (e : x.id = (j : Int)) : pd S (i + 1) = fun k => pd S i k || j == k := by
  funext k
  have e1 : ((j : Int) == (k : Int)) = (j == k) := by rw [Bool.eq_iff_iff, beq_iff_eq, beq_iff_eq]; omega
  unfold pd
  rw [List.take_add_one, h, List.any_append, ← e1, ← e]
  simp [List.any_cons]
theorem pd_new {S : List It} {i j : Nat} {x : It} (hn : (ids S).Nodup) (h : S[i]? = some x) (e : x.id = (j : Int)) : pd S i j = false := by
  unfold pd
  rw [List.any_eq_false]
  intro y hy
  obtain ⟨k, hk, _⟩ := mem_at hy
  have hki : k < i := by have := at_lt hk; simp at this; omega
  rw [List.getElem?_take_of_lt hki] at hk
  simp
  intro e2
  have := ids_inj hn hk h (e2.trans e.symm)
  omega
/-- The one popped before. -/
def pv (S : List It) : Nat → It
  | 0 => zI
  | i + 1 => S.getD i zI
theorem pv_succ {S : List It} {i : Nat} {x : It} (h : S[i]? = some x) : pv S (i + 1) = x := by simp [pv, List.getD_eq_getElem?_getD, h]
theorem pv_lt {S : List It} {i : Nat} {x : It} (hs : Srt S) (h : S[i]? = some x) (h0 : 0 < i) : (pv S i).lt x := by
  obtain ⟨j, rfl⟩ : ∃ j, i = j + 1 := ⟨i - 1, by omega⟩
  have hj : j < S.length := by have := at_lt h; omega
  obtain ⟨y, hy⟩ := ex_at hj
  rw [pv_succ hy]
  obtain ⟨h1, e1⟩ := List.getElem?_eq_some_iff.1 hy
  obtain ⟨h2, e2⟩ := List.getElem?_eq_some_iff.1 h
  have := (List.pairwise_iff_getElem.1 hs) j (j + 1) h1 h2 (by omega)
  rwa [e1, e2] at this
set_option maxRecDepth 100000 in
set_option maxHeartbeats 8000000 in
theorem sorts_walk (A0 : Option Addr) (n c0 : Nat) (l : List Int) (W : World) (h1 : Rn W A0 n l) : Calls Try.prog 4 #[.slice A0 n c0] W (BoolR true W) := by
  by_cases hn : 200 < n
  · have c1 : (200 : Int) < (n : Int) := by omega
    clear h1
    go_enter Try.func4, Try.ntmps4
    go_wp2_with fail
    refine (awake_any W).mono ?_
    rintro e w' ⟨rfl, hb⟩
    go_wp2_with fail
    go_ret
    exact ⟨rfl, hb⟩
  obtain ⟨i0, hi, hz0, hz1, hz2⟩ := info_parts inf4
  have c1 : ¬ (200 : Int) < (n : Int) := by omega
  have c2 : (n : Int) ≤ 200 := by omega
  have R1 := Lib.hid h1
  clear h1
  go_enter Try.func4, Try.ntmps4
  go_wp2_with fail
  refine (st_new (Below.refl _ W)).mono ?_
  rintro e w0 ⟨rfl, h0, -⟩
  have H0 : Hid (ST W (W.heap.size + 1) W.heap.size 0 (adds l 0) [] w0) := h0
  clear h0
  go_wp2_with fail
  go_loopw [4] (fun i wr => ∃ k : Nat, k ≤ n ∧ i = .int .i64 k ∧ Hid (ST W (W.heap.size + 1) W.heap.size k (adds l k) [] wr)) (fun i _ => n - (intOf i).toNat)
  case atStart => exact ⟨0, by omega, rfl, H0⟩
  case round =>
    clear H0
    obtain ⟨k, hk, rfl, hS⟩ := hrel
    by_cases hlt : k < n
    · obtain ⟨bb, off, x, rfl, hbb, hzx, hcx⟩ := R1.out.cell hS.out.bel hlt
      have k3 : (k : Int) < (n : Int) := by omega
      have b1 : IntKind.i64.wrap ((k : Int) + 1) = (k : Int) + 1 := by rw [IntKind.wrap_i64]; omega
      have HX := Lib.hid hzx
      clear hzx
      go_wp2_with fail
      refine (st_add (k : Int) x hS.out (wf_small (by omega) (by omega)) (adds_new l k) (by omega) (by rw [adds_len]; omega)).mono ?_
      rintro e w2 ⟨rfl, q2, -⟩
      rw [adds_succ HX.out] at q2
      have S2 := Lib.hid q2
      clear q2 hS
      go_wp2_with fail
      go_roundw
      case rel => exact ⟨k + 1, by omega, by go_num, S2⟩
      case measure => simp [intOf]; omega
    · obtain rfl : k = n := by omega
      have k3 : ¬ (k : Int) < (k : Int) := by omega
      go_wp2_with (at_make; go_loud (refine wpList_make_full _ rfl _ _ 52 rfl W.heap.size 4 i0 (.bool false) 1 Try.underlying52 hi hz0 hz1 .i64 .i64 _ _ k rfl rfl rfl rfl (by rw [hz2]; omega) (by unfold maxLen; omega) hS.out.bel.size ?_; intro w1 hown0 hgrow0; have HT : Hid (SQ W (W.heap.size + 1) W.heap.size k (adds l k) [] wr.heap.size k (pd (adds l k) 0) w1) := ⟨hS.out.later ⟨hgrow0.os, hgrow0.tape, hgrow0.output, hgrow0.size, fun i hi => hgrow0.block i hi (by simp)⟩, by rw [pd_zero, ← SB_new]; rw [show (Value.bool false).cells = #[.bool false] from rfl, toList_madeCells_one, Nat.mul_one] at hown0; exact hown0⟩; clear hown0 hgrow0 hS))
      generalize wr.heap.size = s at *
      have HT2 : Hid (SQ W (W.heap.size + 1) W.heap.size k ((adds l k).drop 0) [(w1.heap.size, pv (adds l k) 0)] s k (pd (adds l k) 0) (w1.alloc (.cells #[.int .i64 0, .int .i64 0, .int .i64 0] 36))) := HT.out.box zI
      have hlen := adds_len l k
      have HMem : Hid (∀ x, x ∈ adds l k → ∃ i : Nat, i < k ∧ x = ⟨(i : Int), l.getD i 0, (i : Int) + 1⟩) := fun x hx => adds_mem.1 hx
      have HOK := Lib.hid HT.out.st.ok
      have HRn : Hid (∀ w, Below W.heap.size W w → ∀ i, i < k → ∃ bb off y, A0 = some ⟨bb, off, none⟩ ∧ bb < W.heap.size ∧ l.getD i 0 = y ∧ w.cell? ⟨bb, off + i, none⟩ = some (.int .i64 y)) := fun w hb i hi => by
        obtain ⟨bb, off, y, e1, e2, e3, e4⟩ := R1.out.cell hb hi
        exact ⟨bb, off, y, e1, e2, by rw [List.getD_eq_getElem?_getD, e3]; rfl, e4⟩
      generalize adds l k = T at *
      clear HT hlt hk hi hz0 hz1 hz2 i0
      go_wp2_with fail
      generalize w1.alloc (.cells #[.int .i64 0, .int .i64 0, .int .i64 0] 36) = w2 at *
      generalize w1.heap.size = t at *
      go_loopw [7] (fun i wr => ∃ j : Nat, j ≤ k ∧ i = .int .i64 j ∧ Hid (SQ W (W.heap.size + 1) W.heap.size k (T.drop j) [(t, pv T j)] s k (pd T j) wr)) (fun i _ => k - (intOf i).toNat)
      case atStart => exact ⟨0, by omega, rfl, HT2⟩
      case round =>
        clear HT2
        obtain ⟨j, hj, rfl, HQ⟩ := hrel
        by_cases hlt : j < k
        · obtain ⟨x, hxj⟩ := ex_at (l := T) (p := j) (by omega)
          have hx : T.drop j = x :: T.drop (j + 1) := by
            obtain ⟨h1, h2⟩ := List.getElem?_eq_some_iff.1 hxj
            rw [← h2]; exact List.drop_eq_getElem_cons h1
          obtain ⟨q, hq, hxe⟩ := HMem.out x (at_mem hxj)
          obtain ⟨bb, off, y, hA, hbb, hy, hcy⟩ := HRn.out wr HQ.out.st.bel q hq
          rw [hy] at hxe
          have hA' := hA
          subst hA
          have k4 : (j : Int) < (k : Int) := by omega
          have b4 : IntKind.i64.wrap ((j : Int) + 1) = (j : Int) + 1 := by rw [IntKind.wrap_i64]; omega
          have hdl2 : (x :: T.drop (j + 1)).length ≤ 1000 := by simp; omega
          have hQ1 : Hid (SQ W (W.heap.size + 1) W.heap.size k (x :: T.drop (j + 1)) [(t, pv T j)] s k (pd T j) wr) := by rw [← hx]; exact HQ.out
          have HPd : Hid (pd T (j + 1) = fun i => pd T j i || q == i) := pd_succ hxj (by rw [hxe])
          have hpn : pd T j q = false := pd_new HOK.out.ids hxj (by rw [hxe])
          have HPv : Hid (pv T (j + 1) = x) := pv_succ hxj
          have HPl : Hid (0 < j → (pv T j).lt x) := fun h => pv_lt HOK.out.srt hxj h
          subst hxe
          clear HQ hx hxj hy
          go_wp2_with fail
          refine (st_pop hQ1.out.st hdl2).mono ?_
          rintro e w3 hr
          have hcy3 : w3.cell? ⟨bb, off + q, none⟩ = some (.int .i64 y) := by
            rw [cell_blk (hr.2.1.bel.block bb hbb)]
            exact (cell_blk (hQ1.out.st.bel.block bb hbb) _).symm.trans hcy
          have hbb3 : bb < w3.heap.size := Nat.lt_of_lt_of_le hbb hr.2.1.bel.size
          have HQ3 : Hid (SQ W (W.heap.size + 1) W.heap.size k (T.drop (j + 1)) [(w3.heap.size, (⟨(q : Int), y, (q : Int) + 1⟩ : It)), (t, pv T j)] s k (pd T j) (w3.alloc (.cells #[.int .i64 (q : Int), .int .i64 y, .int .i64 ((q : Int) + 1)] 36))) := (hQ1.out.go hr).box ⟨(q : Int), y, (q : Int) + 1⟩
          have hcy4 : (w3.alloc (.cells #[.int .i64 (q : Int), .int .i64 y, .int .i64 ((q : Int) + 1)] 36)).cell? ⟨bb, off + q, none⟩ = some (.int .i64 y) := by
            rw [cell_blk ((below_al w3 _).block bb hbb3)]; exact hcy3
          have nrt : w3.heap.size ≠ t := by have := (hr.2.1.blo (s := t) (x := pv T j) (by simp)).2; omega
          obtain rfl := hr.1
          clear hr hQ1 hcy hcy3
          go_wp2_with fail
          generalize w3.alloc (.cells #[.int .i64 (q : Int), .int .i64 y, .int .i64 ((q : Int) + 1)] 36) = w4 at *
          generalize w3.heap.size = r at *
          obtain ⟨r0, r1, r2, -⟩ := (HQ3.out.st.blk (s := r) (x := ⟨(q : Int), y, (q : Int) + 1⟩) (by simp)).cells
          obtain ⟨t0, t1, t2, -⟩ := (HQ3.out.st.blk (s := t) (x := pv T j) (by simp)).cells
          obtain ⟨s0, -⟩ := HQ3.out.at hq
          rw [hpn] at s0
          have q1 : ¬ (q : Int) < 0 := by omega
          have q2 : ¬ (k : Int) ≤ (q : Int) := by omega
          have q3 : (q : Int) < (k : Int) := by omega
          have q4 : IntKind.i64.wrap ((q : Int) + 1) = (q : Int) + 1 := by rw [IntKind.wrap_i64]; omega
          have q5 : (q : Int) ≤ 200 := by omega
          by_cases hj0 : j = 0
          · subst hj0
            have e9 : ((0 : Nat) : Int) = 0 := rfl
            rw [e9]
            go_quiet (fail)
            have HQ5 := Lib.hid (HQ3.out.drewN nq)
            generalize w4.drewN nq = w5 at *
            clear r0 r1 r2 t0 t1 t2 s0 hcy4 HQ3
            obtain ⟨r0, r1, r2, -⟩ := (HQ5.out.st.blk (s := r) (x := ⟨(q : Int), y, (q : Int) + 1⟩) (by simp)).cells
            obtain ⟨t0, t1, t2, f0, f1, f2⟩ := (HQ5.out.st.blk (s := t) (x := pv T 0) (by simp)).cells
            obtain ⟨s0, s1⟩ := HQ5.out.at hq
            have nrs := HQ5.out.ne (t := r) (x := ⟨(q : Int), y, (q : Int) + 1⟩) (by simp)
            have nts := HQ5.out.ne (t := t) (x := pv T 0) (by simp)
            have HE : Hid (SQ W (W.heap.size + 1) W.heap.size k (T.drop (0 + 1)) [(t, pv T (0 + 1))] s k (pd T (0 + 1)) ((((w5.setCell ⟨s, q, none⟩ (.bool true)).setCell ⟨t, 0, none⟩ (.int .i64 (q : Int))).setCell ⟨t, 1, none⟩ (.int .i64 y)).setCell ⟨t, 2, none⟩ (.int .i64 ((q : Int) + 1)))) := by
              rw [HPd.out, HPv.out]
              exact SQ.sub (SQ.put3 (x := pv T 0) (L := [(r, (⟨(q : Int), y, (q : Int) + 1⟩ : It))]) ((HQ5.out.set q).sub (by intro a ha; simp at ha ⊢; rcases ha with h | h <;> simp [h])) (by intro a ha; simp at ha; subst ha; exact nrt) ⟨(q : Int), y, (q : Int) + 1⟩) (by intro a ha; simp at ha ⊢; simp [ha])
            clear HQ5
            go_wp2_with fail
            go_roundw
            case rel => exact ⟨0 + 1, by omega, by go_num, HE⟩
            case measure => simp [intOf]; omega
          · have hj1 : (0 : Int) < (j : Int) := by omega
            have dj : decide (0 < j) = true := by simp; omega
            go_still_tail 45, (by kernel_rfl)
            change wpList _ _ _ _ _ w4.drew
            have HQ4 := Lib.hid (HQ3.out.later (Below.refl _ _).drew)
            have HBh : Hid (Calls Try.prog 27 #[vI ⟨(q : Int), y, (q : Int) + 1⟩, vI (pv T j)] w4.drew (BoolR true w4.drew)) := by have := behind_any ⟨(q : Int), y, (q : Int) + 1⟩ (pv T j) w4.drew; rwa [decide_eq_true (HPl.out (by omega))] at this
            generalize w4.drew = w6 at *
            clear r0 r1 r2 t0 t1 t2 s0 hcy4 HQ3
            go_wp2_with fail
            refine HBh.out.mono ?_
            rintro e w5 ⟨rfl, hb5⟩
            have HQ5 := Lib.hid (HQ4.out.later hb5)
            clear HQ4 hb5 HBh
            obtain ⟨r0, r1, r2, -⟩ := (HQ5.out.st.blk (s := r) (x := ⟨(q : Int), y, (q : Int) + 1⟩) (by simp)).cells
            obtain ⟨t0, t1, t2, f0, f1, f2⟩ := (HQ5.out.st.blk (s := t) (x := pv T j) (by simp)).cells
            obtain ⟨s0, s1⟩ := HQ5.out.at hq
            have nrs := HQ5.out.ne (t := r) (x := ⟨(q : Int), y, (q : Int) + 1⟩) (by simp)
            have nts := HQ5.out.ne (t := t) (x := pv T j) (by simp)
            have HE : Hid (SQ W (W.heap.size + 1) W.heap.size k (T.drop (j + 1)) [(t, pv T (j + 1))] s k (pd T (j + 1)) ((((w5.setCell ⟨s, q, none⟩ (.bool true)).setCell ⟨t, 0, none⟩ (.int .i64 (q : Int))).setCell ⟨t, 1, none⟩ (.int .i64 y)).setCell ⟨t, 2, none⟩ (.int .i64 ((q : Int) + 1)))) := by
              rw [HPd.out, HPv.out]
              exact SQ.sub (SQ.put3 (x := pv T j) (L := [(r, (⟨(q : Int), y, (q : Int) + 1⟩ : It))]) ((HQ5.out.set q).sub (by intro a ha; simp at ha ⊢; rcases ha with h | h <;> simp [h])) (by intro a ha; simp at ha; subst ha; exact nrt) ⟨(q : Int), y, (q : Int) + 1⟩) (by intro a ha; simp at ha ⊢; simp [ha])
            clear HQ5
            go_wp2_with fail
            go_roundw
            case rel => exact ⟨j + 1, by omega, by go_num, HE⟩
            case measure => simp [intOf]; omega
        · obtain rfl : j = k := by omega
          have k4 : ¬ (j : Int) < (j : Int) := by omega
          have hnil : T.drop j = [] := List.drop_eq_nil_of_le (by omega)
          have HS : Hid (ST W (W.heap.size + 1) W.heap.size j [] [] wr) := by have := HQ.out.st.sub (L' := []) (fun _ h => (by cases h)); rwa [hnil] at this
          clear HQ
          go_wp2_with fail
          refine (st_len HS.out).mono ?_
          rintro e w8 ⟨rfl, rfl⟩
          go_wp2_with fail
          refine (awake_any wr).mono ?_
          rintro e w9 ⟨rfl, b9⟩
          have S9 := Lib.hid (HS.out.later b9).bel
          clear HS b9
          go_wp2_with fail
          go_ret
          exact ⟨rfl, S9.out⟩
end Go.Proofs.Ytcfdfepndjkllaa
