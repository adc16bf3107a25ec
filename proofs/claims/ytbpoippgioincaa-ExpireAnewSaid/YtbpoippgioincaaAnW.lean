/- The walk of ExpireAnew. No condition. -/
import Derived.Test.YtbpoippgioincaaRwb
namespace Go.Proofs.Ytbpoippgioincaa
open Go.RowKit
set_option linter.unusedVariables false
set_option maxRecDepth 100000
/-- The first numbers. -/
def nums (n : Nat) : List Int := (List.range n).map fun j : Nat => (j : Int)
theorem nums_succ (n : Nat) : nums (n + 1) = nums n ++ [(n : Int)] := by simp [nums, List.range_succ]
theorem nums_len (n : Nat) : (nums n).length = n := by simp [nums]
theorem nums_mem {n : Nat} {x : Int} : x ∈ nums n ↔ 0 ≤ x ∧ x < n := by
  simp only [nums, List.mem_map, List.mem_range]
  constructor
  · rintro ⟨j, h, rfl⟩; omega
  · rintro ⟨h1, h2⟩; exact ⟨x.toNat, by omega, by omega⟩
theorem fput_zero (k : Int) : fput (fun _ => (0 : Int)) k 0 = fun _ => 0 := by funext z; unfold fput; split <;> rfl
theorem ins_front {x : It} : ∀ {S : List It}, (∀ y ∈ S, x.w < y.w) → ins x S = x :: S
  | [], _ => rfl
  | y :: S, h => by rw [ins, if_pos (h y (by simp))]
theorem ins_back {x : It} : ∀ {S : List It}, (∀ y ∈ S, ¬ x.w < y.w) → ins x S = S ++ [x]
  | [], _ => rfl
  | y :: S, h => by rw [ins, if_neg (h y (by simp)), ins_back (fun z hz => h z (by simp [hz]))]; rfl
theorem gon_zero {wh now : Int} : ¬ Gon wh 0 now := fun e => by have := (nxB_all e.1).1; omega
theorem fl_ids_len {k : Int} {S : List It} (hn : (ids S).Nodup) (h : k ∈ ids S) : (fl k (ids S)).length + 1 = S.length := by rw [← ids_fl, ids_len]; exact del_len hn h
theorem anew_out (a0 a1 a2 a3 : Int) (W : World) (h : a0 < 1 ∨ 20 < a0 ∨ a2 < 0 ∨ 1000 < a2 ∨ a3 < 0 ∨ 1000 < a3) : Calls Try.prog 7 #[.int .i64 a0, .int .i64 a1, .int .i64 a2, .int .i64 a3] W (BoolR true W) := by
  by_cases h1 : a0 < 1
  · clear h
    go_enter Try.func7, Try.ntmps7
    go_wp2_with fail
    refine (awaket_any W).mono ?_
    rintro e w' ⟨rfl, hb⟩
    have HB := Lib.hid hb
    clear hb
    go_wp2_with fail
    go_ret
    exact ⟨rfl, HB.out⟩
  by_cases h2 : 20 < a0
  · clear h
    go_enter Try.func7, Try.ntmps7
    go_wp2_with fail
    refine (awaket_any W).mono ?_
    rintro e w' ⟨rfl, hb⟩
    have HB := Lib.hid hb
    clear hb
    go_wp2_with fail
    go_ret
    exact ⟨rfl, HB.out⟩
  by_cases h3 : a2 < 0
  · clear h
    go_enter Try.func7, Try.ntmps7
    go_wp2_with fail
    refine (awaket_any W).mono ?_
    rintro e w' ⟨rfl, hb⟩
    have HB := Lib.hid hb
    clear hb
    go_wp2_with fail
    go_ret
    exact ⟨rfl, HB.out⟩
  by_cases h4 : 1000 < a2
  · clear h
    go_enter Try.func7, Try.ntmps7
    go_wp2_with fail
    refine (awaket_any W).mono ?_
    rintro e w' ⟨rfl, hb⟩
    have HB := Lib.hid hb
    clear hb
    go_wp2_with fail
    go_ret
    exact ⟨rfl, HB.out⟩
  by_cases h5 : a3 < 0
  · clear h
    go_enter Try.func7, Try.ntmps7
    go_wp2_with fail
    refine (awaket_any W).mono ?_
    rintro e w' ⟨rfl, hb⟩
    have HB := Lib.hid hb
    clear hb
    go_wp2_with fail
    go_ret
    exact ⟨rfl, HB.out⟩
  have h9 : 1000 < a3 := by omega
  clear h
  go_enter Try.func7, Try.ntmps7
  go_wp2_with fail
  refine (awaket_any W).mono ?_
  rintro e w' ⟨rfl, hb⟩
  have HB := Lib.hid hb
  clear hb
  go_wp2_with fail
  go_ret
  exact ⟨rfl, HB.out⟩

/-- What stands there: r at ag, all others at wh. -/
def Mixed (r : Int) (wh ag : Int) (S : List It) : Prop := ∀ x ∈ S, (x.id = r ∧ x.w = ag) ∨ (x.id ≠ r ∧ x.w = wh)
set_option maxHeartbeats 8000000 in
theorem anew_in (n : Nat) (a1 wh ag : Int) (W : World) (hn0 : 1 ≤ n) (hn : n ≤ 20) (h1 : ¬ wh < 0) (h2 : ¬ 1000 < wh) (h3 : ¬ ag < 0) (h4 : ¬ 1000 < ag) : Calls Try.prog 7 #[.int .i64 (n : Int), .int .i64 a1, .int .i64 wh, .int .i64 ag] W (BoolR true W) := by
  obtain ⟨i0, hi, hz0, hz1, hz2⟩ := info_parts inf3
  have b1 : ¬ (n : Int) < 1 := by omega
  have b2 : ¬ 20 < (n : Int) := by omega
  have F1 : Hid (Fit wh ∧ Fit ag) := ⟨⟨by omega, by omega⟩, ⟨by omega, by omega⟩⟩
  go_enter Try.func7, Try.ntmps7
  go_wp2_with fail
  refine (xs_new (Below.refl _ W)).mono ?_
  rintro e w0 ⟨rfl, h0, -⟩
  have H0 : Hid (XS W (W.heap.size + 3) (W.heap.size + 1) W.heap.size (W.heap.size + 2) 0 [] (fun _ => 0) w0 ∧ One wh [] ∧ ids [] = nums 0) := ⟨h0, fun x h => (by cases h), rfl⟩
  clear h0
  go_wp2_with fail
  generalize W.heap.size + 3 = t at *
  go_loopw [10] (fun i wr => ∃ (k : Nat) (S : List It), k ≤ n ∧ i = .int .i64 (k : Int) ∧ Hid (XS W t (W.heap.size + 1) W.heap.size (W.heap.size + 2) k S (fun _ => 0) wr ∧ One wh S ∧ ids S = nums k)) (fun i _ => n - (intOf i).toNat)
  case atStart => exact ⟨0, [], by omega, rfl, H0⟩
  case round =>
    clear H0
    obtain ⟨k, S, hk, rfl, hS⟩ := hrel
    by_cases hlt : k < n
    · have k3 : (k : Int) < (n : Int) := by omega
      have b4 : IntKind.i64.wrap ((k : Int) + 1) = (k : Int) + 1 := by rw [IntKind.wrap_i64]; omega
      have hnot : (k : Int) ∉ ids S := by rw [hS.out.2.2, nums_mem]; omega
      have hlen : S.length = k := by rw [← ids_len, hS.out.2.2, nums_len]
      have H2 := Lib.hid (hS.out.1.run (tn_arm (k : Int) wh 0 hS.out.1.tn (wf_small (by omega) (by omega)) F1.out.1 (by decide) (by omega) (by omega)))
      rw [del_none hnot, ins_end hS.out.2.1 rfl, fput_zero] at H2
      have HO : Hid (One wh (S ++ [(⟨(k : Int), wh, (k : Int) + 1⟩ : It)]) ∧ ids (S ++ [(⟨(k : Int), wh, (k : Int) + 1⟩ : It)]) = nums (k + 1)) := by
        refine ⟨?_, ?_⟩
        · rw [← ins_end hS.out.2.1 rfl]; exact hS.out.2.1.ins rfl
        · rw [ids_snoc, hS.out.2.2, nums_succ]
      clear hS hnot hlen
      generalize S ++ [(⟨(k : Int), wh, (k : Int) + 1⟩ : It)] = S' at *
      go_wp2_with fail
      refine H2.out.mono ?_
      rintro e w2 ⟨rfl, h, -⟩
      have H3 := Lib.hid h
      clear h H2
      go_wp2_with fail
      go_roundw
      case rel => exact ⟨k + 1, S', by omega, by go_num, ⟨H3.out, HO.out.1, HO.out.2⟩⟩
      case measure => simp [intOf]; omega
    · obtain rfl : k = n := by omega
      have k3 : ¬ (k : Int) < (k : Int) := by omega
      have HR := Lib.hid (round_any a1 k wr (by omega) (by omega))
      have hr0 := pk_lt a1 (show 0 < k by omega)
      generalize pk a1 k = r at *
      have hlen : S.length = k := by rw [← ids_len, hS.out.2.2, nums_len]
      have hmem : (r : Int) ∈ ids S := by rw [hS.out.2.2, nums_mem]; omega
      have hdl := del_len hS.out.1.tn.ok.ids hmem
      have H2 := Lib.hid (hS.out.1.run (tn_arm (r : Int) ag 0 hS.out.1.tn (wf_small (by omega) (by omega)) F1.out.2 (by decide) (by omega) (by omega)))
      rw [fput_zero] at H2
      have hid := ids_fl (r : Int) S
      rw [hS.out.2.2] at hid
      have HM : Hid (Mixed (r : Int) wh ag (ins ⟨(r : Int), ag, (k : Int) + 1⟩ (del (r : Int) S))) := fun x hx => by
        rcases ins_mem.1 hx with rfl | hx
        · exact .inl ⟨rfl, rfl⟩
        · have := del_mem.1 hx
          exact .inr ⟨this.2, hS.out.2.1 x this.1⟩
      have HN : Hid ((ins ⟨(r : Int), ag, (k : Int) + 1⟩ (del (r : Int) S)).length = k) := by show _ = _; rw [ins_len]; omega
      by_cases hag : ag < wh
      · have hag2 : ¬ wh ≤ ag := by omega
        have hin : ins ⟨(r : Int), ag, (k : Int) + 1⟩ (del (r : Int) S) = ⟨(r : Int), ag, (k : Int) + 1⟩ :: del (r : Int) S := ins_front fun y hy => by
          have := hS.out.2.1 y (del_mem.1 hy).1
          show ag < y.w
          omega
        have HD : Hid (ids (ins ⟨(r : Int), ag, (k : Int) + 1⟩ (del (r : Int) S)) = [(r : Int)] ++ fl (r : Int) (nums k)) := by show _ = _; rw [hin]; show _ :: ids _ = _; rw [hid]; rfl
        clear hS hlen hmem hdl hin hid hlt
        generalize ins ⟨(r : Int), ag, (k : Int) + 1⟩ (del (r : Int) S) = S2 at *
        go_wp2_with fail
        refine HR.out.mono ?_
        rintro e w' ⟨rfl, rfl⟩
        go_wp2_with fail
        refine H2.out.mono ?_
        rintro e w2 ⟨rfl, h, -⟩
        have H3 := Lib.hid h
        clear h H2 HR
        go_wp2_with fail
        refine (tn_len H3.out.tn).mono ?_
        rintro e w' ⟨rfl, rfl⟩
        have hn2 := HN.out
        have hn3 : (S2.length : Int) = (k : Int) := by omega
        have S0 := Lib.hid (XI.start H3.out)
        clear H3
        go_wp2_with (at_builtin; go_loud (refine wpList_append_lies _ rfl (.tmp 72) (.tmp 74) 74 rfl W.heap.size 3 i0 _ 1 8 Try.underlying74 hi hz0 hz1 hz2 rfl (by omega) (.slice none 0 0) (0) (nV ([])) rfl (row_later S0.out.row (below_al w2 _)) ⟨w2.heap.size, 0, none⟩ 1 1 [.int .i64 (r : Int)] rfl rfl (World.news_of_block (cs := #[.int .i64 (r : Int)]) (heap_alloc_new w2 _)) one_int (by omega) (by unfold maxLen; omega) (by omega) (by have := S0.out.st.bel.size; simp; omega) (w2.heap.size + 1) (by simp) ?_; intro g3 cap3 w6 hown hgrow hat hlt1; have S1 := Lib.hid (S0.out.app (below_al w2 _) hown hgrow); clear hown hgrow hat hlt1 S0))
        have S1 : Hid (XI W t (W.heap.size + 1) W.heap.size (W.heap.size + 2) (k + 1) S2 (fun _ => 0) (some ⟨g3, 0, none⟩) cap3 1 ([(r : Int)] ++ fl (r : Int) (nums 0)) w6) := S1.out
        go_wp2_with fail
        go_loopw [12, 13] (fun v i wr => ∃ (q : Nat) (P2 : Option Addr) (c2 n2 : Nat), q ≤ k ∧ v = .slice P2 n2 c2 ∧ i = .int .i64 (q : Int) ∧ n2 ≤ q + 1 ∧ Hid (XI W t (W.heap.size + 1) W.heap.size (W.heap.size + 2) (k + 1) S2 (fun _ => 0) P2 c2 n2 ([(r : Int)] ++ fl (r : Int) (nums q)) wr)) (fun _ i _ => k - (intOf i).toNat)
        case atStart => exact ⟨0, _, _, _, by omega, rfl, rfl, by omega, S1⟩
        case round =>
          clear S1
          obtain ⟨q, P2, c2, n2, hq, rfl, rfl, hn9, hS⟩ := hrel
          have n4 : (n2 : Int) ≤ 21 := by omega
          by_cases hqk : q < k
          · have q3 : (q : Int) < (k : Int) := by omega
            have b5 : IntKind.i64.wrap ((q : Int) + 1) = (q : Int) + 1 := by rw [IntKind.wrap_i64]; omega
            have ht := nums_succ q
            by_cases e : (q : Int) = (r : Int)
            · have e2 : fl (r : Int) (nums (q + 1)) = fl (r : Int) (nums q) := by rw [ht, e]; exact fl_no _
              have S5 : Hid (XI W t (W.heap.size + 1) W.heap.size (W.heap.size + 2) (k + 1) S2 (fun _ => 0) P2 c2 n2 ([(r : Int)] ++ fl (r : Int) (nums (q + 1))) wr) := by rw [e2]; exact hS.out
              clear hS ht e2
              go_wp2_with fail
              go_roundw
              case rel => exact ⟨q + 1, P2, c2, n2, by omega, rfl, by go_num, by omega, S5⟩
              case measure => simp [intOf]; omega
            · have e2 : ([(r : Int)] ++ fl (r : Int) (nums q)) ++ [(q : Int)] = [(r : Int)] ++ fl (r : Int) (nums (q + 1)) := by rw [ht, fl_yes _ e]; try simp
              have HE2 := Lib.hid e2
              clear ht e2
              go_wp2_with (at_builtin; go_loud (refine wpList_append_lies _ rfl (.tmp 84) (.tmp 86) 74 rfl W.heap.size 3 i0 _ 1 8 Try.underlying74 hi hz0 hz1 hz2 rfl (by omega) (.slice P2 n2 c2) (n2) (nV ([(r : Int)] ++ fl (r : Int) (nums q))) rfl (row_later hS.out.row (below_al wr _)) ⟨wr.heap.size, 0, none⟩ 1 1 [.int .i64 (q : Int)] rfl rfl (World.news_of_block (cs := #[.int .i64 (q : Int)]) (heap_alloc_new wr _)) one_int (by omega) (by unfold maxLen; omega) (by omega) (by have := hS.out.st.bel.size; simp; omega) (wr.heap.size + 1) (by simp) ?_; intro g3 cap3 w6 hown hgrow hat hlt1; have S5 := Lib.hid (hS.out.app (below_al wr _) hown hgrow); clear hown hgrow hat hlt1 hS))
              rw [HE2.out] at S5
              go_wp2_with fail
              go_roundw
              case rel => exact ⟨q + 1, _, cap3, n2 + 1, by omega, rfl, by go_num, by omega, S5⟩
              case measure => simp [intOf]; omega
          · have q3 : ¬ (q : Int) < (k : Int) := by omega
            obtain rfl : q = k := by omega
            have S6 := Lib.hid hS.out
            rw [← HD.out] at S6
            clear hS
            have hl6 : n2 = q := by have := S6.out.len; rw [ids_len] at this; omega
            subst hl6
            have k9 : ¬ 21 < (n2 : Int) := by omega
            have HQ : Hid (XI W t (W.heap.size + 1) W.heap.size (W.heap.size + 2) (n2 + 1) (S2.drop 0) (fun _ => 0) P2 c2 n2 (ids S2) wr) := S6.out
            clear S6
            go_wp2_with fail
            go_loopw [14] (fun i wr => ∃ j : Nat, j ≤ n2 ∧ i = .int .i64 (j : Int) ∧ Hid (XI W t (W.heap.size + 1) W.heap.size (W.heap.size + 2) (n2 + 1) (S2.drop j) (fun _ => 0) P2 c2 n2 (ids S2) wr)) (fun i _ => n2 - (intOf i).toNat)
            case atStart => exact ⟨0, by omega, rfl, HQ⟩
            case round =>
              clear HQ
              obtain ⟨j, hj, rfl, hS⟩ := hrel
              by_cases hjk : j < n2
              · have q3 : (j : Int) < (n2 : Int) := by omega
                have q6 : ¬ (j : Int) < 0 := by omega
                have q7 : (0 : Int) ≤ (j : Int) := by omega
                have b5 : IntKind.i64.wrap ((j : Int) + 1) = (j : Int) + 1 := by rw [IntKind.wrap_i64]; omega
                obtain ⟨x, hxj⟩ := ex_at (l := S2) (p := j) (by rw [hn2]; exact hjk)
                have hx : S2.drop j = x :: S2.drop (j + 1) := by
                  obtain ⟨h1, h2⟩ := List.getElem?_eq_some_iff.1 hxj
                  rw [← h2]; exact List.drop_eq_getElem_cons h1
                have hLq := Lib.hid (ids_at hxj)
                have hmx := HM.out x (at_mem hxj)
                have hdl2 : (x :: S2.drop (j + 1)).length ≤ 1000 := by simp; omega
                have hQ1 : Hid (XI W t (W.heap.size + 1) W.heap.size (W.heap.size + 2) (n2 + 1) (x :: S2.drop (j + 1)) (fun _ => 0) P2 c2 n2 (ids S2) wr) := by rw [← hx]; exact hS.out
                clear hS hx hxj
                obtain ⟨xi, xw, xs⟩ := x
                have HQL := hLq
                simp only at hmx
                have hle : xw ≤ 1000 := by omega
                have H2 := Lib.hid (hQ1.out.st.run (tn_take_end (now := 1000) hQ1.out.st.tn hdl2 hle gon_zero))
                rw [fput_zero] at H2
                rcases hmx with ⟨rfl, rfl⟩ | ⟨hne, rfl⟩
                · go_wp2_with fail
                  refine H2.out.mono ?_
                  rintro e w3 ⟨rfl, h, ho⟩
                  have HI : Hid (XI W t (W.heap.size + 1) W.heap.size (W.heap.size + 2) (n2 + 1) (S2.drop (j + 1)) (fun _ => 0) P2 c2 n2 (ids S2) (w3.alloc (.cells #[.int .i64 (r : Int), .int .i64 xw, .int .i64 1000] 63))) := (hQ1.out.go ⟨h, ho⟩).box _
                  obtain ⟨g2, rfl, hg2, hcy⟩ := HI.out.at HQL.out
                  obtain ⟨x0, x1, x2, -⟩ := (Dbk.new w3 (r : Int) xw 1000).cells
                  clear h ho hQ1 H2
                  go_wp2_with fail
                  generalize w3.alloc (.cells #[.int .i64 (r : Int), .int .i64 xw, .int .i64 1000] 63) = w4 at *
                  generalize w3.heap.size = rr at *
                  go_quiet (fail)
                  have HI2 := Lib.hid (HI.out.drewN nq)
                  generalize w4.drewN nq = w5 at *
                  clear HI x0 x1 x2 hcy
                  go_wp2_with fail
                  go_roundw
                  case rel => exact ⟨j + 1, by omega, by go_num, HI2⟩
                  case measure => simp [intOf]; omega
                · have hne1 : (xi == (r : Int)) = false := by simp [hne]
                  go_wp2_with fail
                  refine H2.out.mono ?_
                  rintro e w3 ⟨rfl, h, ho⟩
                  have HI : Hid (XI W t (W.heap.size + 1) W.heap.size (W.heap.size + 2) (n2 + 1) (S2.drop (j + 1)) (fun _ => 0) P2 c2 n2 (ids S2) (w3.alloc (.cells #[.int .i64 xi, .int .i64 xw, .int .i64 1000] 63))) := (hQ1.out.go ⟨h, ho⟩).box _
                  obtain ⟨g2, rfl, hg2, hcy⟩ := HI.out.at HQL.out
                  obtain ⟨x0, x1, x2, -⟩ := (Dbk.new w3 xi xw 1000).cells
                  clear h ho hQ1 H2
                  go_wp2_with fail
                  generalize w3.alloc (.cells #[.int .i64 xi, .int .i64 xw, .int .i64 1000] 63) = w4 at *
                  generalize w3.heap.size = rr at *
                  go_quiet (fail)
                  have HI2 := Lib.hid (HI.out.drewN nq)
                  generalize w4.drewN nq = w5 at *
                  clear HI x0 x1 x2 hcy
                  go_wp2_with fail
                  go_roundw
                  case rel => exact ⟨j + 1, by omega, by go_num, HI2⟩
                  case measure => simp [intOf]; omega
              · obtain rfl : j = n2 := by omega
                have q3 : ¬ (j : Int) < (j : Int) := by omega
                have hnil : S2.drop j = [] := List.drop_eq_nil_of_le (by omega)
                have HS : Hid (XS W t (W.heap.size + 1) W.heap.size (W.heap.size + 2) (j + 1) [] (fun _ => 0) wr) := by have := hS.out.st; rwa [hnil] at this
                clear hS
                go_wp2_with fail
                refine (HS.out.run (tn_take_no (now := 1000) HS.out.tn (by simp) trivial)).mono ?_
                rintro e w8 ⟨rfl, h, -⟩
                have H8 := Lib.hid (XS.box h (.cells #[.int .i64 0, .int .i64 0, .int .i64 0] 63))
                clear h HS
                go_wp2_with fail
                refine (tn_len H8.out.tn).mono ?_
                rintro e w9 ⟨rfl, rfl⟩
                go_wp2_with fail
                refine (awaket_any _).mono ?_
                rintro e w9 ⟨rfl, hb⟩
                have H9 := Lib.hid (H8.out.later hb).bel
                clear hb H8
                go_wp2_with fail
                go_ret
                exact ⟨rfl, H9.out⟩
      · have hag2 : wh ≤ ag := by omega
        have hin : ins ⟨(r : Int), ag, (k : Int) + 1⟩ (del (r : Int) S) = del (r : Int) S ++ [⟨(r : Int), ag, (k : Int) + 1⟩] := ins_back fun y hy => by
          have := hS.out.2.1 y (del_mem.1 hy).1
          show ¬ ag < y.w
          omega
        have HD : Hid (ids (ins ⟨(r : Int), ag, (k : Int) + 1⟩ (del (r : Int) S)) = fl (r : Int) (nums k) ++ [(r : Int)]) := by show _ = _; rw [hin, ids_snoc, hid]
        clear hS hlen hmem hdl hin hid hlt
        generalize ins ⟨(r : Int), ag, (k : Int) + 1⟩ (del (r : Int) S) = S2 at *
        go_wp2_with fail
        refine HR.out.mono ?_
        rintro e w' ⟨rfl, rfl⟩
        go_wp2_with fail
        refine H2.out.mono ?_
        rintro e w2 ⟨rfl, h, -⟩
        have H3 := Lib.hid h
        clear h H2 HR
        go_wp2_with fail
        refine (tn_len H3.out.tn).mono ?_
        rintro e w' ⟨rfl, rfl⟩
        have hn2 := HN.out
        have hn3 : (S2.length : Int) = (k : Int) := by omega
        have S1 : Hid (XI W t (W.heap.size + 1) W.heap.size (W.heap.size + 2) (k + 1) S2 (fun _ => 0) none 0 0 (fl (r : Int) (nums 0)) w2) := XI.start H3.out
        clear H3
        go_wp2_with fail
        go_loopw [12, 13] (fun v i wr => ∃ (q : Nat) (P2 : Option Addr) (c2 n2 : Nat), q ≤ k ∧ v = .slice P2 n2 c2 ∧ i = .int .i64 (q : Int) ∧ n2 ≤ q + 1 ∧ Hid (XI W t (W.heap.size + 1) W.heap.size (W.heap.size + 2) (k + 1) S2 (fun _ => 0) P2 c2 n2 (fl (r : Int) (nums q)) wr)) (fun _ i _ => k - (intOf i).toNat)
        case atStart => exact ⟨0, _, _, _, by omega, rfl, rfl, by omega, S1⟩
        case round =>
          clear S1
          obtain ⟨q, P2, c2, n2, hq, rfl, rfl, hn9, hS⟩ := hrel
          have n4 : (n2 : Int) ≤ 21 := by omega
          by_cases hqk : q < k
          · have q3 : (q : Int) < (k : Int) := by omega
            have b5 : IntKind.i64.wrap ((q : Int) + 1) = (q : Int) + 1 := by rw [IntKind.wrap_i64]; omega
            have ht := nums_succ q
            by_cases e : (q : Int) = (r : Int)
            · have e2 : fl (r : Int) (nums (q + 1)) = fl (r : Int) (nums q) := by rw [ht, e]; exact fl_no _
              have S5 : Hid (XI W t (W.heap.size + 1) W.heap.size (W.heap.size + 2) (k + 1) S2 (fun _ => 0) P2 c2 n2 (fl (r : Int) (nums (q + 1))) wr) := by rw [e2]; exact hS.out
              clear hS ht e2
              go_wp2_with fail
              go_roundw
              case rel => exact ⟨q + 1, P2, c2, n2, by omega, rfl, by go_num, by omega, S5⟩
              case measure => simp [intOf]; omega
            · have e2 : (fl (r : Int) (nums q)) ++ [(q : Int)] = fl (r : Int) (nums (q + 1)) := by rw [ht, fl_yes _ e]; try simp
              have HE2 := Lib.hid e2
              clear ht e2
              go_wp2_with (at_builtin; go_loud (refine wpList_append_lies _ rfl (.tmp 84) (.tmp 86) 74 rfl W.heap.size 3 i0 _ 1 8 Try.underlying74 hi hz0 hz1 hz2 rfl (by omega) (.slice P2 n2 c2) (n2) (nV (fl (r : Int) (nums q))) rfl (row_later hS.out.row (below_al wr _)) ⟨wr.heap.size, 0, none⟩ 1 1 [.int .i64 (q : Int)] rfl rfl (World.news_of_block (cs := #[.int .i64 (q : Int)]) (heap_alloc_new wr _)) one_int (by omega) (by unfold maxLen; omega) (by omega) (by have := hS.out.st.bel.size; simp; omega) (wr.heap.size + 1) (by simp) ?_; intro g3 cap3 w6 hown hgrow hat hlt1; have S5 := Lib.hid (hS.out.app (below_al wr _) hown hgrow); clear hown hgrow hat hlt1 hS))
              rw [HE2.out] at S5
              go_wp2_with fail
              go_roundw
              case rel => exact ⟨q + 1, _, cap3, n2 + 1, by omega, rfl, by go_num, by omega, S5⟩
              case measure => simp [intOf]; omega
          · have q3 : ¬ (q : Int) < (k : Int) := by omega
            obtain rfl : q = k := by omega
            go_wp2_with (at_builtin; go_loud (refine wpList_append_lies _ rfl (.tmp 91) (.tmp 93) 74 rfl W.heap.size 3 i0 _ 1 8 Try.underlying74 hi hz0 hz1 hz2 rfl (by omega) (.slice P2 n2 c2) (n2) (nV (fl (r : Int) (nums q))) rfl (row_later hS.out.row (below_al wr _)) ⟨wr.heap.size, 0, none⟩ 1 1 [.int .i64 (r : Int)] rfl rfl (World.news_of_block (cs := #[.int .i64 (r : Int)]) (heap_alloc_new wr _)) one_int (by omega) (by unfold maxLen; omega) (by omega) (by have := hS.out.st.bel.size; simp; omega) (wr.heap.size + 1) (by simp) ?_; intro g3 cap3 w6 hown hgrow hat hlt1; have S6 := Lib.hid (hS.out.app (below_al wr _) hown hgrow); clear hown hgrow hat hlt1 hS))
            rw [← HD.out] at S6
            have hl6 : n2 + 1 = q := by have := S6.out.len; rw [ids_len] at this; omega
            rw [hl6] at S6 ⊢
            clear hl6
            have k9 : ¬ 21 < (q : Int) := by omega
            have HQ : Hid (XI W t (W.heap.size + 1) W.heap.size (W.heap.size + 2) (q + 1) (S2.drop 0) (fun _ => 0) (some ⟨g3, 0, none⟩) cap3 q (ids S2) w6) := S6.out
            clear S6
            go_wp2_with fail
            go_loopw [14] (fun i wr => ∃ j : Nat, j ≤ q ∧ i = .int .i64 (j : Int) ∧ Hid (XI W t (W.heap.size + 1) W.heap.size (W.heap.size + 2) (q + 1) (S2.drop j) (fun _ => 0) (some ⟨g3, 0, none⟩) cap3 q (ids S2) wr)) (fun i _ => q - (intOf i).toNat)
            case atStart => exact ⟨0, by omega, rfl, HQ⟩
            case round =>
              clear HQ
              obtain ⟨j, hj, rfl, hS⟩ := hrel
              by_cases hjk : j < q
              · have q3 : (j : Int) < (q : Int) := by omega
                have q6 : ¬ (j : Int) < 0 := by omega
                have q7 : (0 : Int) ≤ (j : Int) := by omega
                have b5 : IntKind.i64.wrap ((j : Int) + 1) = (j : Int) + 1 := by rw [IntKind.wrap_i64]; omega
                obtain ⟨x, hxj⟩ := ex_at (l := S2) (p := j) (by rw [hn2]; exact hjk)
                have hx : S2.drop j = x :: S2.drop (j + 1) := by
                  obtain ⟨h1, h2⟩ := List.getElem?_eq_some_iff.1 hxj
                  rw [← h2]; exact List.drop_eq_getElem_cons h1
                have hLq := Lib.hid (ids_at hxj)
                have hmx := HM.out x (at_mem hxj)
                have hdl2 : (x :: S2.drop (j + 1)).length ≤ 1000 := by simp; omega
                have hQ1 : Hid (XI W t (W.heap.size + 1) W.heap.size (W.heap.size + 2) (q + 1) (x :: S2.drop (j + 1)) (fun _ => 0) (some ⟨g3, 0, none⟩) cap3 q (ids S2) wr) := by rw [← hx]; exact hS.out
                clear hS hx hxj
                obtain ⟨xi, xw, xs⟩ := x
                have HQL := hLq
                simp only at hmx
                have hle : xw ≤ 1000 := by omega
                have H2 := Lib.hid (hQ1.out.st.run (tn_take_end (now := 1000) hQ1.out.st.tn hdl2 hle gon_zero))
                rw [fput_zero] at H2
                rcases hmx with ⟨rfl, rfl⟩ | ⟨hne, rfl⟩
                · go_wp2_with fail
                  refine H2.out.mono ?_
                  rintro e w3 ⟨rfl, h, ho⟩
                  have HI : Hid (XI W t (W.heap.size + 1) W.heap.size (W.heap.size + 2) (q + 1) (S2.drop (j + 1)) (fun _ => 0) (some ⟨g3, 0, none⟩) cap3 q (ids S2) (w3.alloc (.cells #[.int .i64 (r : Int), .int .i64 xw, .int .i64 1000] 63))) := (hQ1.out.go ⟨h, ho⟩).box _
                  obtain ⟨g2, e9, hg2, hcy⟩ := HI.out.at HQL.out
                  injection e9 with e9; injection e9 with e9; subst e9
                  obtain ⟨x0, x1, x2, -⟩ := (Dbk.new w3 (r : Int) xw 1000).cells
                  clear h ho hQ1 H2
                  go_wp2_with fail
                  generalize w3.alloc (.cells #[.int .i64 (r : Int), .int .i64 xw, .int .i64 1000] 63) = w4 at *
                  generalize w3.heap.size = rr at *
                  go_quiet (fail)
                  have HI2 := Lib.hid (HI.out.drewN nq)
                  generalize w4.drewN nq = w5 at *
                  clear HI x0 x1 x2 hcy
                  go_wp2_with fail
                  go_roundw
                  case rel => exact ⟨j + 1, by omega, by go_num, HI2⟩
                  case measure => simp [intOf]; omega
                · have hne1 : (xi == (r : Int)) = false := by simp [hne]
                  go_wp2_with fail
                  refine H2.out.mono ?_
                  rintro e w3 ⟨rfl, h, ho⟩
                  have HI : Hid (XI W t (W.heap.size + 1) W.heap.size (W.heap.size + 2) (q + 1) (S2.drop (j + 1)) (fun _ => 0) (some ⟨g3, 0, none⟩) cap3 q (ids S2) (w3.alloc (.cells #[.int .i64 xi, .int .i64 xw, .int .i64 1000] 63))) := (hQ1.out.go ⟨h, ho⟩).box _
                  obtain ⟨g2, e9, hg2, hcy⟩ := HI.out.at HQL.out
                  injection e9 with e9; injection e9 with e9; subst e9
                  obtain ⟨x0, x1, x2, -⟩ := (Dbk.new w3 xi xw 1000).cells
                  clear h ho hQ1 H2
                  go_wp2_with fail
                  generalize w3.alloc (.cells #[.int .i64 xi, .int .i64 xw, .int .i64 1000] 63) = w4 at *
                  generalize w3.heap.size = rr at *
                  go_quiet (fail)
                  have HI2 := Lib.hid (HI.out.drewN nq)
                  generalize w4.drewN nq = w5 at *
                  clear HI x0 x1 x2 hcy
                  go_wp2_with fail
                  go_roundw
                  case rel => exact ⟨j + 1, by omega, by go_num, HI2⟩
                  case measure => simp [intOf]; omega
              · obtain rfl : j = q := by omega
                have q3 : ¬ (j : Int) < (j : Int) := by omega
                have hnil : S2.drop j = [] := List.drop_eq_nil_of_le (by omega)
                have HS : Hid (XS W t (W.heap.size + 1) W.heap.size (W.heap.size + 2) (j + 1) [] (fun _ => 0) wr) := by have := hS.out.st; rwa [hnil] at this
                clear hS
                go_wp2_with fail
                refine (HS.out.run (tn_take_no (now := 1000) HS.out.tn (by simp) trivial)).mono ?_
                rintro e w8 ⟨rfl, h, -⟩
                have H8 := Lib.hid (XS.box h (.cells #[.int .i64 0, .int .i64 0, .int .i64 0] 63))
                clear h HS
                go_wp2_with fail
                refine (tn_len H8.out.tn).mono ?_
                rintro e w9 ⟨rfl, rfl⟩
                go_wp2_with fail
                refine (awaket_any _).mono ?_
                rintro e w9 ⟨rfl, hb⟩
                have H9 := Lib.hid (H8.out.later hb).bel
                clear hb H8
                go_wp2_with fail
                go_ret
                exact ⟨rfl, H9.out⟩
theorem anew_walk (a0 a1 a2 a3 : Int) (W : World) : Calls Try.prog 7 #[.int .i64 a0, .int .i64 a1, .int .i64 a2, .int .i64 a3] W (BoolR true W) := by
  by_cases h : a0 < 1 ∨ 20 < a0 ∨ a2 < 0 ∨ 1000 < a2 ∨ a3 < 0 ∨ 1000 < a3
  · exact anew_out a0 a1 a2 a3 W h
  · obtain ⟨n, rfl⟩ : ∃ n : Nat, a0 = (n : Int) := ⟨a0.toNat, by omega⟩
    exact anew_in n a1 a2 a3 W (by omega) (by omega) (by omega) (by omega) (by omega) (by omega)
end Go.Proofs.Ytbpoippgioincaa
