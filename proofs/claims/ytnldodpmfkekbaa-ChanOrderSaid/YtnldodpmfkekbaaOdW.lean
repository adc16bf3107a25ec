/- The walk of ChanOrder. Condition: the slice that came in reads as l. -/
import Derived.Test.YtnldodpmfkekbaaOdM
namespace Go.Proofs.Ytnldodpmfkekbaa
open Go.RowKit
set_option linter.unusedVariables false

theorem inf3' : (Try.prog.info? 3).map (fun i => (i.zero, i.size, i.bytes)) = some (some (.int .i64 0), 1, 8) := by kernel_rfl
theorem os_len9 {W w : World} {c g sz g' m q : Nat} {v : Value} {rs : List Wt} (h : OS W c g v (oS9 sz g' m q rs) w) : Calls Try.prog 19 #[.pointer (some ⟨c, 0, none⟩)] w fun e w' => e = .returned (.int .i64 m) ∧ w = w' := by
  refine (os_len h).mono ?_
  rintro e w' ⟨rfl, rfl⟩
  refine ⟨?_, rfl⟩
  show Ending.returned (.int .i64 (if (0 : Nat) = 1 then 0 else ((lI g' m).length : Int))) = _
  rw [if_neg (by omega), lI_len]
theorem os_wait9 {W w : World} {c g : Nat} {v : Value} {s : CS} (b : Bool) (h : OS W c g v s w) (hn : (s.q b).length ≤ 1000000) : Calls Try.prog 20 #[.pointer (some ⟨c, 0, none⟩), .bool b] w fun e w' => ∃ A cap, e = .returned (.slice A (s.q b).length cap) ∧ OS W c g v s w' := by
  refine (os_waiting b h hn).mono ?_
  rintro e w' ⟨A, cap, rfl, _, hb⟩
  exact ⟨A, cap, rfl, h.later hb⟩
set_option maxRecDepth 100000 in
set_option maxHeartbeats 16000000 in
theorem order_in (sz : Nat) (A : Option Addr) (n cap : Nat) (l : List Bool) (W : World) (hA : IsB W A n cap l) (h1 : sz ≤ 64) (hn : n ≤ 80) : Calls Try.prog 4 #[.int .i64 sz, .slice A n cap] W (BoolR true W) := by
  obtain ⟨i0, hi, hz0, hz1, hz2⟩ := info_parts inf3'
  have b1 : (n : Int) ≤ 80 := by omega
  have b2 : 0 ≤ (n : Int) := by omega
  have b3 : (sz : Int) ≤ 64 := by omega
  have b4 : 0 ≤ (sz : Int) := by omega
  have HA := Lib.hid hA
  have HLN := Lib.hid hA.2.2.1
  clear hA
  go_enter Try.func4, Try.ntmps4
  go_wp2_with fail
  refine (new_yes sz W h1).mono ?_
  rintro e w1 ⟨c, rfl, m1⟩
  have S1 : Hid (OS W c 0 (.slice none 0 0) (oS9 sz 0 0 0 []) w1) := by
    obtain ⟨⟨F, hc, hF⟩, hb, _⟩ := m1
    exact ⟨hb, ⟨F, hc, hF, fun b h => by cases h⟩, World.ownsRow_nil _ _ _ _⟩
  have I1 := Lib.hid (IV.start sz)
  clear m1
  go_wp2_with fail
  go_loopw [7, 8, 9, 10] (fun s t v i wr => ∃ (k S N g m q : Nat) (rs : List Wt), k ≤ n ∧ S + N ≤ k ∧ s = .int .i64 S ∧ t = .int .i64 N ∧ i = .int .i64 k ∧ Hid (IV sz S N g m q rs) ∧ Hid (OS W c g v (oS9 sz g m q rs) wr)) (fun _ _ _ i _ => n - (intOf i).toNat)
  case atStart => exact ⟨0, 0, 0, 0, 0, 0, [], by omega, by omega, rfl, rfl, rfl, I1, S1⟩
  case round =>
    clear S1 I1
    obtain ⟨k, S, N, g, m, q, rs, hk, hSN, rfl, rfl, rfl, hI, hS⟩ := hrel
    have hIs := hI.out.sum
    have hIl := hI.out.le
    have hIr := hI.out.rl
    have s1 : 0 ≤ (S : Int) := by omega
    have s2 : (S : Int) ≤ 80 := by omega
    have s3 : 0 ≤ (N : Int) := by omega
    have s4 : (N : Int) ≤ 80 := by omega
    have g1 : 0 ≤ (g : Int) := by omega
    have g2 : (g : Int) ≤ 80 := by omega
    have hg8 : g ≤ 80 := by omega
    by_cases hlt : k < n
    · have k1 : (k : Int) < (n : Int) := by omega
      have k2 : 0 ≤ (k : Int) := by omega
      have k4 : (k : Int) ≤ 80 := by omega
      have hkl : k < l.length := by rw [HLN.out]; exact hlt
      obtain ⟨bb, off, rfl, hbb, c0⟩ := IsB.at HA.out hS.out.bel (List.getElem?_eq_getElem hkl)
      generalize l[k]'hkl = y at *
      have HQ : Hid (q ≤ 80) := by show _ ≤ _; omega
      have hIr9 : Hid (rs.length ≤ 80) := by show _ ≤ _; omega
      clear hkl hbb hIs hIl hIr
      cases y
      · -- a receive
        cases m with
        | zero =>
          cases q with
          | zero =>
            go_wp2_with fail
            refine (os_recv hS.out (by simp [oS9, sI_len]) (rc_o4 sz g rs) rfl).mono ?_
            rintro e w6 ⟨A6, cap6, rfl, r6, t6, _⟩
            have T6 := Lib.hid t6
            clear t6 r6 hS
            go_wp2_with fail
            refine (os_wait (r := 0) ⟨(N : Int) + 1, 0, 0⟩ false (wf_of (by simp only; omega) (by simp only; omega)) T6.out (by intro z; have := hIr9.out; cases z <;> simp [CS.q, oS9, sI_len] <;> omega) (wt_o4 sz g rs _)).mono ?_
            rintro e w7 ⟨rfl, t7, _⟩
            have T := Lib.hid t7
            have HI2 := Lib.hid (IV.come (x := ⟨(N : Int) + 1, 0, 0⟩) hI.out (by simp only; omega))
            clear t7 T6 hI
            go_wp2_with fail
            refine (os_len9 T.out).mono ?_
            rintro e w' ⟨rfl, rfl⟩
            have hle : ((0 : Nat) : Int) ≤ (sz : Int) := by have := (HI2.out).le; omega
            go_wp2_with fail
            go_roundw
            case rel => exact ⟨k + 1, S, N + 1, g, 0, 0, (rs ++ [⟨(N : Int) + 1, 0, 0⟩]), by omega, by omega, by go_num, by go_num, by go_num, HI2, T⟩
            case measure => simp [intOf]; omega
          | succ q =>
            obtain ⟨rfl, hI2⟩ := hI.out.hand
            have HI2 := Lib.hid hI2
            clear hI2 hI
            go_wp2_with fail
            refine (os_recv hS.out (by have := HQ.out; simp only [oS9, sI_len]; omega) (rc_o3 sz g q []) rfl).mono ?_
            rintro e w6 ⟨A6, cap6, rfl, r6, t6, _⟩
            have T := Lib.hid t6
            clear t6 r6 hS
            go_wp2_with (first | (at_builtin; go_loud (refine wpList_append_lies _ rfl (.tmp 131) (.tmp 133) 39 rfl W.heap.size 3 i0 (.int .i64 0) 1 8 Try.underlying39 hi hz0 hz1 hz2 rfl (by decide) u9 g (gV g) rfl (T.out.later (below_al _ _)).row ⟨w6.heap.size, 0, none⟩ 1 1 [.int .i64 ((g : Int) + 1)] rfl rfl (by intro j u hu; rw [add_plain, Nat.zero_add, cell_of_row _ _ _ _ _ _ (heap_alloc_new w6 (.cells #[.int .i64 ((g : Int) + 1)] 3))]; simpa using hu) (by simp [Value.oneCell']) (by omega) (by unfold maxLen; omega) (by omega) (by have := T.out.bel.size; simp; omega) _ rfl ?_; intro gb gc wA hoA hgA hat hlA; have TA : Hid (OS W c (g + 1) (.slice (some ⟨gb, 0, none⟩) (g + 1) gc) (oS9 sz (g + 1) 0 q []) wA) := OS.grow (T.out.later (below_al _ _)) hgA (by rw [← gV_succ]; exact hoA) (by intro b hb; cases hb; exact hat); clear hoA hgA hat hlA T)))
            go_wp2_with fail
            refine (os_len9 TA.out).mono ?_
            rintro e w' ⟨rfl, rfl⟩
            have hle : ((0 : Nat) : Int) ≤ (sz : Int) := by have := (HI2.out).le; omega
            go_wp2_with fail
            go_roundw
            case rel => exact ⟨k + 1, S, N, g + 1, 0, q, [], by omega, by omega, by go_num, by go_num, by go_num, HI2, TA⟩
            case measure => simp [intOf]; omega
        | succ m =>
          cases q with
          | zero =>
            obtain ⟨rfl, hI2⟩ := hI.out.take
            have HI2 := Lib.hid hI2
            clear hI2 hI
            go_wp2_with fail
            refine (os_recv hS.out (by have := HQ.out; simp only [oS9, sI_len]; omega) (rc_o1 sz g m []) rfl).mono ?_
            rintro e w6 ⟨A6, cap6, rfl, r6, t6, _⟩
            have T := Lib.hid t6
            clear t6 r6 hS
            go_wp2_with (first | (at_builtin; go_loud (refine wpList_append_lies _ rfl (.tmp 131) (.tmp 133) 39 rfl W.heap.size 3 i0 (.int .i64 0) 1 8 Try.underlying39 hi hz0 hz1 hz2 rfl (by decide) u9 g (gV g) rfl (T.out.later (below_al _ _)).row ⟨w6.heap.size, 0, none⟩ 1 1 [.int .i64 ((g : Int) + 1)] rfl rfl (by intro j u hu; rw [add_plain, Nat.zero_add, cell_of_row _ _ _ _ _ _ (heap_alloc_new w6 (.cells #[.int .i64 ((g : Int) + 1)] 3))]; simpa using hu) (by simp [Value.oneCell']) (by omega) (by unfold maxLen; omega) (by omega) (by have := T.out.bel.size; simp; omega) _ rfl ?_; intro gb gc wA hoA hgA hat hlA; have TA : Hid (OS W c (g + 1) (.slice (some ⟨gb, 0, none⟩) (g + 1) gc) (oS9 sz (g + 1) m 0 []) wA) := OS.grow (T.out.later (below_al _ _)) hgA (by rw [← gV_succ]; exact hoA) (by intro b hb; cases hb; exact hat); clear hoA hgA hat hlA T)))
            go_wp2_with fail
            refine (os_len9 TA.out).mono ?_
            rintro e w' ⟨rfl, rfl⟩
            have hle : ((m : Nat) : Int) ≤ (sz : Int) := by have := (HI2.out).le; omega
            go_wp2_with fail
            go_roundw
            case rel => exact ⟨k + 1, S, N, g + 1, m, 0, [], by omega, by omega, by go_num, by go_num, by go_num, HI2, TA⟩
            case measure => simp [intOf]; omega
          | succ q =>
            obtain ⟨rfl, hI2⟩ := hI.out.next
            have HI2 := Lib.hid hI2
            clear hI2 hI
            go_wp2_with fail
            refine (os_recv hS.out (by have := HQ.out; simp only [oS9, sI_len]; omega) (rc_o2 sz g m q []) rfl).mono ?_
            rintro e w6 ⟨A6, cap6, rfl, r6, t6, _⟩
            have T := Lib.hid t6
            clear t6 r6 hS
            go_wp2_with (first | (at_builtin; go_loud (refine wpList_append_lies _ rfl (.tmp 131) (.tmp 133) 39 rfl W.heap.size 3 i0 (.int .i64 0) 1 8 Try.underlying39 hi hz0 hz1 hz2 rfl (by decide) u9 g (gV g) rfl (T.out.later (below_al _ _)).row ⟨w6.heap.size, 0, none⟩ 1 1 [.int .i64 ((g : Int) + 1)] rfl rfl (by intro j u hu; rw [add_plain, Nat.zero_add, cell_of_row _ _ _ _ _ _ (heap_alloc_new w6 (.cells #[.int .i64 ((g : Int) + 1)] 3))]; simpa using hu) (by simp [Value.oneCell']) (by omega) (by unfold maxLen; omega) (by omega) (by have := T.out.bel.size; simp; omega) _ rfl ?_; intro gb gc wA hoA hgA hat hlA; have TA : Hid (OS W c (g + 1) (.slice (some ⟨gb, 0, none⟩) (g + 1) gc) (oS9 sz (g + 1) (m + 1) q []) wA) := OS.grow (T.out.later (below_al _ _)) hgA (by rw [← gV_succ]; exact hoA) (by intro b hb; cases hb; exact hat); clear hoA hgA hat hlA T)))
            go_wp2_with fail
            refine (os_len9 TA.out).mono ?_
            rintro e w' ⟨rfl, rfl⟩
            have hle : ((m + 1 : Nat) : Int) ≤ (sz : Int) := by have := (HI2.out).le; omega
            go_wp2_with fail
            go_roundw
            case rel => exact ⟨k + 1, S, N, g + 1, m + 1, q, [], by omega, by omega, by go_num, by go_num, by go_num, HI2, TA⟩
            case measure => simp [intOf]; omega
      · -- a send
        cases rs with
        | cons x r =>
          obtain ⟨hm0, hq0, hSg, hxt, hI2⟩ := hI.out.meet
          subst hm0 hq0
          have HI := Lib.hid hSg
          have HI2 := Lib.hid hI2
          have hxt2 : ¬ 1000 ≤ x.t := by omega
          clear hI2 hI hSg
          go_wp2_with fail
          refine (os_send ((S : Int) + 1) hS.out rfl rfl (by have := hIr9.out; simp only [List.length_cons] at this; simp only [oS9, List.length_cons]; omega) (gv_o1 sz g x r ((S : Int) + 1)) rfl).mono ?_
          rintro e w6 ⟨A6, cap6, rfl, r6, t6, _⟩
          have T := Lib.hid t6
          have HR6 := Lib.hid r6
          clear t6 r6 hS
          go_wp2_with fail
          go_loopw [9, 14] (fun v k wr => ∃ j : Nat, j ≤ 1 ∧ k = .int .i64 j ∧ ((j = 0 ∧ Hid (OS W c g v (oS9 sz (g + 1) 0 0 r) wr) ∧ Hid (RdK wr A6 1 [⟨x.t, x.c, (S : Int) + 1, true, false⟩])) ∨ (j = 1 ∧ Hid (OS W c (g + 1) v (oS9 sz (g + 1) 0 0 r) wr)))) (fun _ k _ => 1 - (intOf k).toNat)
          case atStart => exact ⟨0, by omega, rfl, .inl ⟨rfl, T, HR6⟩⟩
          case round =>
            clear T HR6
            obtain ⟨j, hj, rfl, hst⟩ := hrel
            by_cases hj0 : j < 1
            · rcases hst with ⟨rfl, hT, hR⟩ | ⟨h9, _⟩
              case inr => omega
              obtain ⟨b6, cs6, rfl, hb6, q0, q1, q2, q3, q4⟩ := RdK.cells1 hR.out
              simp only at q0 q1 q2 q3 q4
              have e9 : Hid ((S : Int) + 1 = (g : Int) + 1) := by have := HI.out; show _ = _; omega
              clear hR hb6
              go_wp2_with (first | (at_builtin; go_loud (refine wpList_append_lies _ rfl (.tmp 105) (.tmp 111) 39 rfl W.heap.size 3 i0 (.int .i64 0) 1 8 Try.underlying39 hi hz0 hz1 hz2 rfl (by decide) u9 g (gV g) rfl (hT.out.later (below_al _ _)).row ⟨wr.heap.size, 0, none⟩ 1 1 [.int .i64 ((S : Int) + 1)] rfl rfl (by intro j u hu; rw [add_plain, Nat.zero_add, cell_of_row _ _ _ _ _ _ (heap_alloc_new wr (.cells #[.int .i64 ((S : Int) + 1)] 3))]; simpa using hu) (by simp [Value.oneCell']) (by omega) (by unfold maxLen; omega) (by omega) (by have := hT.out.bel.size; simp; omega) _ rfl ?_; intro gb gc wA hoA hgA hat hlA; have TA : Hid (OS W c (g + 1) (.slice (some ⟨gb, 0, none⟩) (g + 1) gc) (oS9 sz (g + 1) 0 0 r) wA) := OS.grow (hT.out.later (below_al _ _)) hgA (by rw [← gV_succ, ← e9.out]; exact hoA) (by intro b hb; cases hb; exact hat); clear hoA hgA hat hlA hT q0 q1 q2 q3 q4)))
              go_roundw
              case rel => exact ⟨1, by omega, rfl, .inr ⟨rfl, TA⟩⟩
              case measure => simp [intOf]
            · rcases hst with ⟨h9, _⟩ | ⟨rfl, hT⟩
              · omega
              go_wp2_with fail
              refine (os_len9 hT.out).mono ?_
              rintro e w' ⟨rfl, rfl⟩
              have hle : ((0 : Nat) : Int) ≤ (sz : Int) := by have := (HI2.out).le; omega
              go_wp2_with fail
              go_roundw
              case rel => exact ⟨k + 1, S + 1, N, g + 1, 0, 0, r, by omega, by omega, by go_num, by go_num, by go_num, HI2, hT⟩
              case measure => simp [intOf]; omega
        | nil =>
          by_cases hm : m < sz
          · obtain ⟨rfl, hI2⟩ := hI.out.put hm
            have HI := Lib.hid hI.out.sum
            have HI2 := Lib.hid hI2
            clear hI2 hI
            go_wp2_with fail
            refine (os_send ((S : Int) + 1) hS.out rfl rfl (by simp [oS9]) (gv_o2 sz g m ((S : Int) + 1) hm (by have := HI.out; omega)) rfl).mono ?_
            rintro e w6 ⟨A6, cap6, rfl, r6, t6, _⟩
            have T := Lib.hid t6
            clear t6 r6 hS
            go_wp2_with fail
            go_loopw [9, 14] (fun v k wr => k = .int .i64 0 ∧ Hid (OS W c g v (oS9 sz g (m + 1) 0 []) wr)) (fun _ k _ => 1 - (intOf k).toNat)
            case atStart => exact ⟨rfl, T⟩
            case round =>
              clear T
              obtain ⟨rfl, T9⟩ := hrel
              go_wp2_with fail
              refine (os_len9 T9.out).mono ?_
              rintro e w' ⟨rfl, rfl⟩
              have hle : ((m + 1 : Nat) : Int) ≤ (sz : Int) := by have := (HI2.out).le; omega
              go_wp2_with fail
              go_roundw
              case rel => exact ⟨k + 1, S + 1, N, g, m + 1, 0, [], by omega, by omega, by go_num, by go_num, by go_num, HI2, T9⟩
              case measure => simp [intOf]; omega
          · obtain ⟨he, hI2⟩ := hI.out.wait hm
            have he' : sz = m := he.symm
            subst he'
            have HI := Lib.hid hI.out.sum
            have HI2 := Lib.hid hI2
            clear hI2 hI he hm
            go_wp2_with fail
            refine (os_send ((S : Int) + 1) hS.out rfl rfl (by simp [oS9]) (gv_o3 sz g q ((S : Int) + 1)) rfl).mono ?_
            rintro e w6 ⟨A6, cap6, rfl, r6, t6, _⟩
            have T6 := Lib.hid t6
            clear t6 r6 hS
            go_wp2_with fail
            refine (os_wait (r := 0) ⟨1000 + ((S : Int) + 1), 0, (S : Int) + 1⟩ true (wf_of (by simp only; omega) (by simp only; omega)) T6.out (by intro z; have := HQ.out; cases z <;> simp [CS.q, oS9, sI_len] <;> omega) (wt_o3 sz g q ((S : Int) + 1) (by have := HI.out; omega))).mono ?_
            rintro e w7 ⟨rfl, t7, _⟩
            have T := Lib.hid t7
            clear t7 T6
            go_wp2_with fail
            go_loopw [9, 14] (fun v k wr => k = .int .i64 0 ∧ Hid (OS W c g v (oS9 sz g sz (q + 1) []) wr)) (fun _ k _ => 1 - (intOf k).toNat)
            case atStart => exact ⟨rfl, T⟩
            case round =>
              clear T
              obtain ⟨rfl, T9⟩ := hrel
              go_wp2_with fail
              refine (os_len9 T9.out).mono ?_
              rintro e w' ⟨rfl, rfl⟩
              have hle : ((sz : Nat) : Int) ≤ (sz : Int) := by have := (HI2.out).le; omega
              go_wp2_with fail
              go_roundw
              case rel => exact ⟨k + 1, S + 1, N, g, sz, q + 1, [], by omega, by omega, by go_num, by go_num, by go_num, HI2, T9⟩
              case measure => simp [intOf]; omega
    · skip
      obtain rfl : k = n := by omega
      obtain ⟨gA, gcap, hv, hgc, hgc2⟩ := own_cap hS.out.row
      subst hv
      have HROW := Lib.hid hS.out
      have HQ9 : Hid (q ≤ 1000000 ∧ rs.length ≤ 1000000 ∧ m ≤ 1000) := by show _ ∧ _ ∧ _; omega
      have hgi : (g : Int) ≤ 80 := by omega
      have HSUM := Lib.hid hIs
      clear hS hIs hIl hIr
      go_wp2_with fail
      go_loopw [19] (fun i wr2 => ∃ j : Nat, j ≤ g ∧ i = .int .i64 j ∧ wr2 = wr) (fun i _ => g - (intOf i).toNat)
      case atStart => exact ⟨0, by omega, rfl, rfl⟩
      case round =>
        obtain ⟨j, hj, rfl, rfl⟩ := hrel
        by_cases hlt2 : j < g
        · have j1 : (j : Int) < (g : Int) := by omega
          have j2 : 0 ≤ (j : Int) := by omega
          obtain ⟨b7, c7, hv7, _, _⟩ := HROW.out.row.form (by omega)
          cases hv7
          have q0 := (HROW.out.row.cellAt j (by omega)).trans (gV_at hlt2)
          go_wp2_with fail
          go_roundw
          case rel => exact ⟨j + 1, by omega, by go_num, trivial⟩
          case measure => simp [intOf]; omega
        · obtain rfl : j = g := by omega
          go_wp2_with fail
          refine (os_len9 HROW.out).mono ?_
          rintro e w' ⟨rfl, rfl⟩
          go_wp2_with fail
          refine (os_wait9 true HROW.out (by have := HQ9.out; simp only [CS.q, oS9, sI_len]; omega)).mono ?_
          rintro e w5 ⟨A5, n5, rfl, t5⟩
          have T5 := Lib.hid t5
          clear t5 HROW
          simp only [CS.q, oS9, sI_len]
          have q1 : (q : Int) ≤ 1000000 := by have := HQ9.out; omega
          have q2 : 0 ≤ (q : Int) := by omega
          have q3 : (m : Int) ≤ 1000 := by have := HQ9.out; omega
          have q4 : 0 ≤ (m : Int) := by omega
          have q5 : ((j : Int) + ((m : Int) + (q : Int)) == (S : Int)) = true := by rw [beq_iff_eq]; have := HSUM.out; omega
          have q6 : (j : Int) + ((m : Int) + (q : Int)) = (S : Int) := by have := HSUM.out; omega
          go_wp2_with fail
          refine (os_wait9 true T5.out (by have := HQ9.out; simp only [CS.q, oS9, sI_len]; omega)).mono ?_
          rintro e w6 ⟨A6, n6, rfl, t6⟩
          have T6 := Lib.hid t6
          clear t6 T5
          simp only [CS.q, oS9, sI_len]
          by_cases hq : q = 0
          · have q7 : ((q : Int) == 0) = true := by rw [beq_iff_eq]; omega
            have q8 : (q : Int) = 0 := by omega
            go_wp2_with fail
            refine (awake_any _).mono ?_
            rintro e w' ⟨rfl, hb⟩
            have HB := Lib.hid (T6.out.bel.trans (hb.mono T6.out.bel.size))
            clear hb T6
            go_wp2_with fail
            go_ret
            exact ⟨rfl, HB.out⟩
          · have hrs : rs = [] := by
              by_cases h0 : rs = []
              · exact h0
              · exact absurd (hI.out.none h0).2 hq
            subst hrs
            have q7 : ((q : Int) == 0) = false := by rw [beq_eq_false_iff_ne]; omega
            have q8 : ¬ (q : Int) = 0 := by omega
            go_wp2_with fail
            refine (os_wait9 false T6.out (by simp [CS.q, oS9])).mono ?_
            rintro e w7 ⟨A7, n7, rfl, t7⟩
            have T6 := Lib.hid t7
            clear t7
            simp only [CS.q, oS9, List.length_nil]
            go_wp2_with fail
            refine (awake_any _).mono ?_
            rintro e w' ⟨rfl, hb⟩
            have HB := Lib.hid (T6.out.bel.trans (hb.mono T6.out.bel.size))
            clear hb T6
            go_wp2_with fail
            go_ret
            exact ⟨rfl, HB.out⟩
set_option maxRecDepth 100000 in
theorem order_out (sz : Int) (A : Option Addr) (n cap : Nat) (W : World) (h : sz < 0 ∨ 64 < sz ∨ 80 < n) : Calls Try.prog 4 #[.int .i64 sz, .slice A n cap] W (BoolR true W) := by
  by_cases d0 : sz < 0
  · skip
    clear h
    go_enter Try.func4, Try.ntmps4
    go_wp2_with fail
    refine (awake_any W).mono ?_
    rintro e w' ⟨rfl, hb⟩
    have HB := Lib.hid hb
    clear hb
    go_wp2_with fail
    go_ret
    exact ⟨rfl, HB.out⟩
  by_cases d1 : 64 < sz
  · skip
    clear h
    go_enter Try.func4, Try.ntmps4
    go_wp2_with fail
    refine (awake_any W).mono ?_
    rintro e w' ⟨rfl, hb⟩
    have HB := Lib.hid hb
    clear hb
    go_wp2_with fail
    go_ret
    exact ⟨rfl, HB.out⟩
  · have d5 : 80 < (n : Int) := by omega
    clear h
    go_enter Try.func4, Try.ntmps4
    go_wp2_with fail
    refine (awake_any W).mono ?_
    rintro e w' ⟨rfl, hb⟩
    have HB := Lib.hid hb
    clear hb
    go_wp2_with fail
    go_ret
    exact ⟨rfl, HB.out⟩
theorem order_walk (sz : Int) (A : Option Addr) (n cap : Nat) (l : List Bool) (W : World) (hA : IsB W A n cap l) : Calls Try.prog 4 #[.int .i64 sz, .slice A n cap] W (BoolR true W) := by
  by_cases h : sz < 0 ∨ 64 < sz ∨ 80 < n
  · exact order_out sz A n cap W h
  · obtain ⟨sz, rfl⟩ := Int.eq_ofNat_of_zero_le (show 0 ≤ sz by omega)
    exact order_in sz A n cap l W hA (by omega) (by omega)
end Go.Proofs.Ytnldodpmfkekbaa
