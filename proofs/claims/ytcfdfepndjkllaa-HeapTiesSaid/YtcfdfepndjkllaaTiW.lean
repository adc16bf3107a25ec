/- Of one time they come in the order of their coming; each that is moved comes last. Conditions: a0 and a2 are ints; the slice reads as it came. -/
import Derived.Test.YtcfdfepndjkllaaIno
namespace Go.Proofs.Ytcfdfepndjkllaa
open Go.RowKit
set_option linter.unusedVariables false
set_option maxRecDepth 100000 in
set_option maxHeartbeats 1000000 in
theorem ties_out (a0 : Int) (A1 : Option Addr) (n1 c1 : Nat) (a2 : Int) (W : World) (h : a0 < 1 ∨ 40 < a0 ∨ 60 < n1) : Calls Try.prog 8 #[.int .i64 a0, .slice A1 n1 c1, .int .i64 a2] W (BoolR true W) := by
  by_cases d1 : a0 < 1
  · clear h
    go_enter Try.func8, Try.ntmps8
    go_wp2_with fail
    refine (awake_any W).mono ?_
    rintro e w' ⟨rfl, hb⟩
    go_wp2_with fail
    go_ret
    exact ⟨rfl, hb⟩
  by_cases d2 : 40 < a0
  · clear h
    go_enter Try.func8, Try.ntmps8
    go_wp2_with fail
    refine (awake_any W).mono ?_
    rintro e w' ⟨rfl, hb⟩
    go_wp2_with fail
    go_ret
    exact ⟨rfl, hb⟩
  have d3 : (60 : Int) < (n1 : Int) := by omega
  clear h
  go_enter Try.func8, Try.ntmps8
  go_wp2_with fail
  refine (awake_any W).mono ?_
  rintro e w' ⟨rfl, hb⟩
  go_wp2_with fail
  go_ret
  exact ⟨rfl, hb⟩

set_option maxRecDepth 100000 in
set_option maxHeartbeats 8000000 in
theorem ties_in (n : Nat) (A1 : Option Addr) (n1 c1 : Nat) (z1 : List Int) (a2 : Int) (W : World) (h1 : Rn W A1 n1 z1) (hn0 : 1 ≤ n) (hn : n ≤ 40) (hn1 : n1 ≤ 60) : Calls Try.prog 8 #[.int .i64 (n : Int), .slice A1 n1 c1, .int .i64 a2] W (BoolR true W) := by
  obtain ⟨i0, hi, hz0, hz1, hz2⟩ := info_parts inf3
  have b1 : (1 : Int) ≤ (n : Int) := by omega
  have b2 : (n : Int) ≤ 40 := by omega
  have b3 : (n1 : Int) ≤ 60 := by omega
  have R1 := Lib.hid h1
  clear h1
  go_enter Try.func8, Try.ntmps8
  go_wp2_with fail
  refine (st_new (Below.refl _ W)).mono ?_
  rintro e w0 ⟨rfl, h0, -⟩
  have H0 : Hid (SI W (W.heap.size + 1) W.heap.size 0 [] none 0 0 [] w0 ∧ One a2 [] ∧ Full 0 []) := ⟨SI.start h0, fun x h => (by cases h), Full.nil⟩
  clear h0
  go_wp2_with fail
  go_loopw [8, 9] (fun v i wr => ∃ (k : Nat) (P2 : Option Addr) (c2 : Nat) (S : List It), k ≤ n ∧ v = .slice P2 k c2 ∧ i = .int .i64 (k : Int) ∧ S.length = k ∧ Hid (SI W (W.heap.size + 1) W.heap.size k S P2 c2 k (ids S) wr ∧ One a2 S ∧ Full k (ids S))) (fun _ i _ => n - (intOf i).toNat)
  case atStart => exact ⟨0, none, 0, [], by omega, rfl, rfl, rfl, H0⟩
  case round =>
    clear H0
    obtain ⟨k, P2, c2, S, hk, rfl, rfl, hSl, hS⟩ := hrel
    by_cases hlt : k < n
    · have k3 : (k : Int) < (n : Int) := by omega
      have k4 : (0 : Int) ≤ (k : Int) := by omega
      have b4 : IntKind.i64.wrap ((k : Int) + 1) = (k : Int) + 1 := by rw [IntKind.wrap_i64]; omega
      have HL := Lib.hid hSl
      clear hSl
      go_wp2_with fail
      refine (st_add (k : Int) a2 hS.out.1.st (wf_small (by omega) (by omega)) (fun e => by have := (hS.out.2.2 _).1 e; omega) (by omega) (by have := HL.out; omega)).mono ?_
      rintro e w2 hr
      have HI := Lib.hid (hS.out.1.go hr)
      have HO : Hid (One a2 (S ++ [(⟨(k : Int), a2, (k : Int) + 1⟩ : It)]) ∧ Full (k + 1) (ids (S ++ [(⟨(k : Int), a2, (k : Int) + 1⟩ : It)])) ∧ (S ++ [(⟨(k : Int), a2, (k : Int) + 1⟩ : It)]).length = k + 1) := by
        refine ⟨?_, ?_, by simp [HL.out]⟩
        · rw [← ins_one hS.out.2.1 rfl]; exact hS.out.2.1.ins rfl
        · rw [ids_snoc]; exact hS.out.2.2.snoc
      have hin := ins_one (x := ⟨(k : Int), a2, (k : Int) + 1⟩) hS.out.2.1 rfl
      rw [hin] at HI
      have hids := ids_snoc S ⟨(k : Int), a2, (k : Int) + 1⟩
      have HD := Lib.hid hids
      obtain rfl := hr.1
      clear hr hS hin hids
      generalize S ++ [(⟨(k : Int), a2, (k : Int) + 1⟩ : It)] = S' at *
      go_wp2_with (at_builtin; go_loud (refine wpList_append_lies _ rfl (.tmp 42) (.tmp 44) 51 rfl W.heap.size 3 i0 _ 1 8 Try.underlying51 hi hz0 hz1 hz2 rfl (by omega) (.slice P2 k c2) k (nV (ids S)) rfl (row_later HI.out.row (below_al w2 _)) ⟨w2.heap.size, 0, none⟩ 1 1 [.int .i64 (k : Int)] rfl rfl (World.news_of_block (cs := #[.int .i64 (k : Int)]) (heap_alloc_new w2 _)) one_int (by omega) (by unfold maxLen; omega) (by omega) (by have := HI.out.st.bel.size; simp; omega) (w2.heap.size + 1) (by simp) ?_; intro g3 cap3 w3 hown hgrow hat hlt1; have S4 := Lib.hid (HI.out.app (below_al w2 _) hown hgrow); clear hown hgrow hat hlt1 HI))
      rw [← HD.out] at S4
      go_wp2_with fail
      go_roundw
      case rel => exact ⟨k + 1, _, cap3, S', by omega, rfl, by go_num, HO.out.2.2, ⟨S4.out, HO.out.1, HO.out.2.1⟩⟩
      case measure => simp [intOf]; omega
    · obtain rfl : k = n := by omega
      have k3 : ¬ (k : Int) < (k : Int) := by omega
      have S1 : Hid (SI W (W.heap.size + 1) W.heap.size (k + 0) S P2 c2 k (ids S) wr ∧ One a2 S ∧ Full k (ids S) ∧ S.length = k) := ⟨hS.out.1, hS.out.2.1, hS.out.2.2, hSl⟩
      clear hS hk hlt hSl
      go_wp2_with fail
      generalize wr = wz at *
      go_loopw [8, 10] (fun v i wr => ∃ (m : Nat) (P2 : Option Addr) (c2 : Nat) (S : List It), m ≤ n1 ∧ v = .slice P2 k c2 ∧ i = .int .i64 (m : Int) ∧ Hid (SI W (W.heap.size + 1) W.heap.size (k + m) S P2 c2 k (ids S) wr ∧ One a2 S ∧ Full k (ids S) ∧ S.length = k)) (fun _ i _ => n1 - (intOf i).toNat)
      case atStart => exact ⟨0, P2, c2, S, by omega, rfl, rfl, S1⟩
      case round =>
        clear S1
        obtain ⟨m, P2, c2, S, hm, rfl, rfl, hS⟩ := hrel
        by_cases hlt : m < n1
        · obtain ⟨bb, off, x, rfl, hbb, hzx, hcx⟩ := R1.out.cell hS.out.1.st.bel hlt
          have m3 : (m : Int) < (n1 : Int) := by omega
          have m4 : (0 : Int) ≤ (m : Int) := by omega
          have b4 : IntKind.i64.wrap ((m : Int) + 1) = (m : Int) + 1 := by rw [IntKind.wrap_i64]; omega
          clear hzx
          go_wp2_with fail
          refine (round_any x k _ (by omega) (by omega)).mono ?_
          rintro e w' ⟨rfl, rfl⟩
          have hr0 := pk_lt x (show 0 < k by omega)
          generalize pk x k = r at *
          go_wp2_with fail
          refine (st_move (r : Int) a2 hS.out.1.st (wf_small (by omega) (by omega)) ((hS.out.2.2.1 _).2 (by omega)) (by omega) (by have := hS.out.2.2.2; omega)).mono ?_
          rintro e w2 hr
          have HI := Lib.hid (hS.out.1.go hr)
          have hin := ins_one (x := ⟨(r : Int), a2, ((k + m : Nat) : Int) + 1⟩) (hS.out.2.1.del (k := (r : Int))) rfl
          rw [hin] at HI
          have hids := ids_snoc (del (r : Int) S) ⟨(r : Int), a2, ((k + m : Nat) : Int) + 1⟩
          rw [ids_fl] at hids
          have HO : Hid (One a2 (del (r : Int) S ++ [(⟨(r : Int), a2, ((k + m : Nat) : Int) + 1⟩ : It)]) ∧ Full k (ids (del (r : Int) S ++ [(⟨(r : Int), a2, ((k + m : Nat) : Int) + 1⟩ : It)])) ∧ (del (r : Int) S ++ [(⟨(r : Int), a2, ((k + m : Nat) : Int) + 1⟩ : It)]).length = k) := by
            refine ⟨?_, ?_, ?_⟩
            · rw [← hin]; exact hS.out.2.1.del.ins rfl
            · rw [hids]; exact hS.out.2.2.1.move (by omega)
            · have := del_len hS.out.1.st.ok.ids ((hS.out.2.2.1 _).2 (show (0 : Int) ≤ (r : Int) ∧ (r : Int) < (k : Int) by omega))
              have := hS.out.2.2.2
              simp; omega
          have HD := Lib.hid hids
          have HF : Hid ((ids S).length = k) := by rw [ids_len]; exact hS.out.2.2.2
          obtain rfl := hr.1
          clear hr hS hin hids hcx
          generalize del (r : Int) S ++ [(⟨(r : Int), a2, ((k + m : Nat) : Int) + 1⟩ : It)] = S' at *
          generalize ids S = L at *
          have S4 : Hid (SJ W (W.heap.size + 1) W.heap.size (k + m + 1) S' P2 c2 k L none 0 0 (fl (r : Int) (L.take 0)) w2) := SJ.start HI.out
          clear HI
          go_wp2_with fail
          go_loopw [12, 13] (fun v i wr => ∃ (q : Nat) (P3 : Option Addr) (c3 n3 : Nat), q ≤ k ∧ v = .slice P3 n3 c3 ∧ i = .int .i64 (q : Int) ∧ n3 ≤ q ∧ Hid (SJ W (W.heap.size + 1) W.heap.size (k + m + 1) S' P2 c2 k L P3 c3 n3 (fl (r : Int) (L.take q)) wr)) (fun _ i _ => k - (intOf i).toNat)
          case atStart => exact ⟨0, none, 0, 0, by omega, rfl, rfl, by omega, S4⟩
          case round =>
            clear S4
            obtain ⟨q, P3, c3, n3, hq, rfl, rfl, hn3, hS⟩ := hrel
            have n4 : (n3 : Int) ≤ 40 := by omega
            by_cases hqk : q < k
            · have q3 : (q : Int) < (k : Int) := by omega
              have q4 : (0 : Int) ≤ (q : Int) := by omega
              have b5 : IntKind.i64.wrap ((q : Int) + 1) = (q : Int) + 1 := by rw [IntKind.wrap_i64]; omega
              obtain ⟨y, hy⟩ := ex_at (l := L) (p := q) (by rw [HF.out]; exact hqk)
              obtain ⟨g2, rfl, hg2, hcy⟩ := hS.out.a.at hy
              have ht := take_one hy
              by_cases e : y = (r : Int)
              · subst e
                have S5 := Lib.hid hS.out
                rw [← fl_no, ← ht] at S5
                clear hS ht hy
                go_wp2_with fail
                go_roundw
                case rel => exact ⟨q + 1, P3, c3, n3, by omega, rfl, by go_num, by omega, S5⟩
                case measure => simp [intOf]; omega
              · have e2 : fl (r : Int) (L.take q) ++ [y] = fl (r : Int) (L.take (q + 1)) := by rw [ht, fl_yes _ e]
                have HE2 := Lib.hid e2
                clear ht hy e2
                go_wp2_with (at_builtin; go_loud (refine wpList_append_lies _ rfl (.tmp 75) (.tmp 80) 51 rfl W.heap.size 3 i0 _ 1 8 Try.underlying51 hi hz0 hz1 hz2 rfl (by omega) (.slice P3 n3 c3) n3 (nV (fl (r : Int) (L.take q))) rfl (row_later hS.out.row3 (below_al wr _)) ⟨wr.heap.size, 0, none⟩ 1 1 [.int .i64 y] rfl rfl (World.news_of_block (cs := #[.int .i64 y]) (heap_alloc_new wr _)) one_int (by omega) (by unfold maxLen; omega) (by omega) (by have := hS.out.a.st.bel.size; simp; omega) (wr.heap.size + 1) (by simp) ?_; intro g3 cap3 w5 hown hgrow hat hlt1; have S5 := Lib.hid (hS.out.app (below_al wr _) hown hgrow (hat.imp id (by omega))); clear hown hgrow hat hlt1 hS))
                rw [HE2.out] at S5
                clear hcy
                go_wp2_with fail
                go_roundw
                case rel => exact ⟨q + 1, _, cap3, n3 + 1, by omega, rfl, by go_num, by omega, S5⟩
                case measure => simp [intOf]; omega
            · have q3 : ¬ (q : Int) < (k : Int) := by omega
              obtain rfl : q = k := by omega
              have e1 : L.take q = L := List.take_of_length_le (by rw [HF.out]; omega)
              have S5 := Lib.hid hS.out.last
              rw [e1, ] at S5
              have e9 : Hid (n3 + 1 = q) := by
                have a1 := S5.out.len
                have a2 := congrArg List.length HD.out
                rw [ids_len, List.length_append, HO.out.2.2] at a2
                simp at a2
                show n3 + 1 = q
                omega
              clear hS e1
              go_wp2_with (at_builtin; go_loud (refine wpList_append_lies _ rfl (.tmp 82) (.tmp 84) 51 rfl W.heap.size 3 i0 _ 1 8 Try.underlying51 hi hz0 hz1 hz2 rfl (by omega) (.slice P3 n3 c3) n3 (nV (fl (r : Int) L)) rfl (row_later S5.out.row (below_al wr _)) ⟨wr.heap.size, 0, none⟩ 1 1 [.int .i64 (r : Int)] rfl rfl (World.news_of_block (cs := #[.int .i64 (r : Int)]) (heap_alloc_new wr _)) one_int (by omega) (by unfold maxLen; omega) (by omega) (by have := S5.out.st.bel.size; simp; omega) (wr.heap.size + 1) (by simp) ?_; intro g3 cap3 w6 hown hgrow hat hlt1; have S6 := Lib.hid (S5.out.app (below_al wr _) hown hgrow); clear hown hgrow hat hlt1 S5))
              rw [← HD.out] at S6
              rw [e9.out] at S6
              go_wp2_with fail
              go_roundw
              case rel => exact ⟨m + 1, some ⟨g3, 0, none⟩, cap3, S', by omega, by first | rfl | rw [e9.out], by go_num, ⟨S6.out, HO.out.1, HO.out.2.1, HO.out.2.2⟩⟩
              case measure => simp [intOf]; omega
        · obtain rfl : m = n1 := by omega
          have m3 : ¬ (m : Int) < (m : Int) := by omega
          have HSl := Lib.hid hS.out.2.2.2
          have HO := Lib.hid hS.out.2.1
          have HK := Lib.hid hS.out.1.st.ok.ids
          obtain ⟨L, hL⟩ : ∃ L, L = ids S := ⟨_, rfl⟩
          have S2 : Hid (SI W (W.heap.size + 1) W.heap.size (k + m) (S.drop 0) P2 c2 k L wr) := by rw [hL]; exact hS.out.1
          have HLL := Lib.hid hL
          clear hS hL hlt hm
          go_wp2_with fail
          generalize wr = wy at *
          go_loopw [14] (fun i wr => ∃ q : Nat, q ≤ k ∧ i = .int .i64 (q : Int) ∧ Hid (SI W (W.heap.size + 1) W.heap.size (k + m) (S.drop q) P2 c2 k L wr)) (fun i _ => k - (intOf i).toNat)
          case atStart => exact ⟨0, by omega, rfl, S2⟩
          case round =>
            clear S2
            obtain ⟨q, hq, rfl, hS⟩ := hrel
            by_cases hqk : q < k
            · have q3 : (q : Int) < (k : Int) := by omega
              have q4 : (0 : Int) ≤ (q : Int) := by omega
              have b5 : IntKind.i64.wrap ((q : Int) + 1) = (q : Int) + 1 := by rw [IntKind.wrap_i64]; omega
              obtain ⟨x, hxj⟩ := ex_at (l := S) (p := q) (by rw [HSl.out]; exact hqk)
              have hx : S.drop q = x :: S.drop (q + 1) := by
                obtain ⟨h1, h2⟩ := List.getElem?_eq_some_iff.1 hxj
                rw [← h2]; exact List.drop_eq_getElem_cons h1
              have hxw : x.w = a2 := HO.out x (at_mem hxj)
              have hLq : L[q]? = some x.id := by rw [HLL.out]; exact ids_at hxj
              have hdl2 : (x :: S.drop (q + 1)).length ≤ 1000 := by have := HSl.out; simp; omega
              have hQ1 : Hid (SI W (W.heap.size + 1) W.heap.size (k + m) (x :: S.drop (q + 1)) P2 c2 k L wr) := by rw [← hx]; exact hS.out
              have HQL := Lib.hid hLq
              clear hS hx hxj hLq
              obtain ⟨xi, xw, xs⟩ := x
              obtain rfl : xw = a2 := hxw
              go_wp2_with fail
              refine (st_pop hQ1.out.st hdl2).mono ?_
              rintro e w3 hr
              have HI : Hid (SI W (W.heap.size + 1) W.heap.size (k + m) (S.drop (q + 1)) P2 c2 k L (w3.alloc (.cells #[.int .i64 xi, .int .i64 xw, .int .i64 xs] 36))) := (hQ1.out.go hr).later (below_al _ _)
              obtain ⟨g2, rfl, hg2, hcy⟩ := HI.out.at HQL.out
              have x0 : (w3.alloc (.cells #[.int .i64 xi, .int .i64 xw, .int .i64 xs] 36)).cell? ⟨w3.heap.size, 0, none⟩ = some (.int .i64 xi) := new_cell (w := w3) rfl rfl
              have x1 : (w3.alloc (.cells #[.int .i64 xi, .int .i64 xw, .int .i64 xs] 36)).cell? ⟨w3.heap.size, 1, none⟩ = some (.int .i64 xw) := new_cell (w := w3) rfl rfl
              obtain rfl := hr.1
              clear hr hQ1
              go_wp2_with fail
              generalize w3.alloc (.cells #[.int .i64 xi, .int .i64 xw, .int .i64 xs] 36) = w4 at *
              go_quiet (fail)
              have HI2 := Lib.hid (HI.out.drewN nq)
              generalize w4.drewN nq = w5 at *
              clear HI x0 x1 hcy
              go_wp2_with fail
              go_roundw
              case rel => exact ⟨q + 1, by omega, by go_num, HI2⟩
              case measure => simp [intOf]; omega
            · have q3 : ¬ (q : Int) < (k : Int) := by omega
              go_wp2_with fail
              refine (awake_any wr).mono ?_
              rintro e w9 ⟨rfl, b9⟩
              have S9 := Lib.hid (hS.out.st.later b9).bel
              clear hS b9
              go_wp2_with fail
              go_ret
              exact ⟨rfl, S9.out⟩
theorem ties_walk (a0 : Int) (A1 : Option Addr) (n1 c1 : Nat) (z1 : List Int) (a2 : Int) (W : World) (h1 : Rn W A1 n1 z1) : Calls Try.prog 8 #[.int .i64 a0, .slice A1 n1 c1, .int .i64 a2] W (BoolR true W) := by
  by_cases h : a0 < 1 ∨ 40 < a0 ∨ 60 < n1
  · exact ties_out a0 A1 n1 c1 a2 W h
  · obtain ⟨n, rfl⟩ : ∃ n : Nat, a0 = (n : Int) := ⟨a0.toNat, by omega⟩
    exact ties_in n A1 n1 c1 z1 a2 W h1 (by omega) (by omega) (by omega)
end Go.Proofs.Ytcfdfepndjkllaa
