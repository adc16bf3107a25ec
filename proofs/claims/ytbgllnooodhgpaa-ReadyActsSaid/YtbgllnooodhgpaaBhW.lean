/- Who leaves and comes again stands behind all that stayed. Condition: the list of numbers reads as it came. -/
import Derived.Test.YtbgllnooodhgpaaTwo
namespace Go.Proofs.Ytbgllnooodhgpaa
open Go.RowKit
set_option linter.unusedVariables false

/-- The first numbers. -/
def U (k : Nat) : List Int := (List.range k).map fun i : Nat => (i : Int)
theorem U_succ (k : Nat) : U (k + 1) = U k ++ [(k : Int)] := by simp [U, List.range_succ]
theorem U_len (k : Nat) : (U k).length = k := by simp [U]
theorem U_mem {j k : Nat} (h : j < k) : (j : Int) ∈ U k := List.mem_map.2 ⟨j, List.mem_range.2 h, rfl⟩
theorem U_new (k : Nat) : (k : Int) ∉ U k := by
  intro h
  obtain ⟨i, hi, e⟩ := List.mem_map.1 h
  have := List.mem_range.1 hi
  omega
/-- All of them, in some order. -/
def Full (n : Nat) (l : List Int) : Prop := l.length = n ∧ ∀ j : Nat, j < n → (j : Int) ∈ l
theorem Full.start (n : Nat) : Full n (U n) := ⟨U_len n, fun j h => U_mem h⟩
theorem Full.step {n p : Nat} {l : List Int} {x : Int} (h : Full n l) (hn : l.Nodup) (hp : l[p]? = some x) : Full n (l.eraseIdx p ++ [x]) := by
  have := cut_len hp
  refine ⟨by simp; have := h.1; omega, fun j hj => ?_⟩
  by_cases e : (j : Int) = x
  · simp [e]
  · exact List.mem_append_left _ ((cut_mem hn hp).2 ⟨h.2 j hj, e⟩)
/-- Those that are not x. -/
def fl (x : Int) (l : List Int) : List Int := l.filter fun y => !(y == x)
theorem fl_yes {x y : Int} (l : List Int) (h : y ≠ x) : fl x (l ++ [y]) = fl x l ++ [y] := by simp [fl, List.filter_append, h]
theorem fl_no {x : Int} (l : List Int) : fl x (l ++ [x]) = fl x l := by simp [fl, List.filter_append]
theorem fl_same {x : Int} : ∀ l : List Int, x ∉ l → fl x l = l := by
  intro l h
  unfold fl
  rw [List.filter_eq_self]
  intro y hy
  have : y ≠ x := fun e => h (e ▸ hy)
  simp [this]
theorem fl_cut {x : Int} : ∀ (l : List Int) (p : Nat), l.Nodup → l[p]? = some x → fl x l = l.eraseIdx p
  | [], p, _, h => by simp at h
  | a :: l, 0, hn, h => by
    simp at h
    subst h
    have := fl_same l (List.nodup_cons.1 hn).1
    simp [fl] at this ⊢
    exact this
  | a :: l, p + 1, hn, h => by
    simp at h
    have hne : a ≠ x := fun e => (List.nodup_cons.1 hn).1 (e ▸ at_mem h)
    have := fl_cut l p (List.nodup_cons.1 hn).2 h
    simp only [fl] at this ⊢
    rw [List.filter_cons, if_pos (by simp [hne]), this]
    rfl
theorem take_one {l : List Int} {q : Nat} {y : Int} (h : l[q]? = some y) : l.take (q + 1) = l.take q ++ [y] := by
  rw [List.take_add_one, h]; rfl

set_option maxRecDepth 100000 in
set_option maxHeartbeats 1000000 in
theorem behind_out (a0 : Int) (A1 : Option Addr) (n1 c1 : Nat) (W : World) (h : a0 < 1 ∨ 40 < a0 ∨ 60 < n1) : Calls Try.prog 5 #[.int .i64 a0, .slice A1 n1 c1] W (BoolR true W) := by
  by_cases d1 : a0 < 1
  · clear h
    go_enter Try.func5, Try.ntmps5
    go_wp2_with fail
    refine (awake_any W).mono ?_
    rintro e w' ⟨rfl, hb⟩
    go_wp2_with fail
    go_ret
    exact ⟨rfl, hb⟩
  by_cases d2 : 40 < a0
  · clear h
    go_enter Try.func5, Try.ntmps5
    go_wp2_with fail
    refine (awake_any W).mono ?_
    rintro e w' ⟨rfl, hb⟩
    go_wp2_with fail
    go_ret
    exact ⟨rfl, hb⟩
  have d3 : (60 : Int) < (n1 : Int) := by omega
  clear h
  go_enter Try.func5, Try.ntmps5
  go_wp2_with fail
  refine (awake_any W).mono ?_
  rintro e w' ⟨rfl, hb⟩
  go_wp2_with fail
  go_ret
  exact ⟨rfl, hb⟩

set_option maxRecDepth 100000 in
set_option maxHeartbeats 4000000 in
theorem behind_in (n : Nat) (A1 : Option Addr) (n1 c1 : Nat) (z1 : List Int) (W : World) (h1 : Rn W A1 n1 z1) (hn0 : 1 ≤ n) (hn : n ≤ 40) (hn1 : n1 ≤ 60) : Calls Try.prog 5 #[.int .i64 (n : Int), .slice A1 n1 c1] W (BoolR true W) := by
  obtain ⟨i0, hi, hz0, hz1, hz2⟩ := info_parts inf
  have b1 : (1 : Int) ≤ (n : Int) := by omega
  have b2 : (n : Int) ≤ 40 := by omega
  have b3 : (n1 : Int) ≤ 60 := by omega
  have R1 := Lib.hid h1
  clear h1
  go_enter Try.func5, Try.ntmps5
  go_wp2_with fail
  refine (new_any W).mono ?_
  rintro e w1 q1
  obtain rfl := q1.1
  have S0 : Hid (AS W none 0 (U 0) none 0 (U 0) 0 w1) := AS.start (start q1)
  clear q1
  go_wp2_with fail
  go_loopw [6, 7] (fun v i wr => ∃ (k : Nat) (P : Option Addr) (c : Nat) (P2 : Option Addr) (c2 : Nat), k ≤ n ∧ v = .slice P2 k c2 ∧ i = .int .i64 (k : Int) ∧ Hid (AS W P c (U k) P2 c2 (U k) k wr)) (fun _ i _ => n - (intOf i).toNat)
  case atStart => exact ⟨0, none, 0, none, 0, by omega, rfl, rfl, S0⟩
  case round =>
    clear S0
    obtain ⟨k, P, c, P2, c2, hk, rfl, rfl, hS⟩ := hrel
    by_cases hlt : k < n
    · have k3 : (k : Int) < (n : Int) := by omega
      have k4 : (0 : Int) ≤ (k : Int) := by omega
      go_wp2_with fail
      refine (g_add_new (x := (k : Int)) hS.out.st.rg ⟨by omega, wf_of (by omega) (by omega)⟩ (U_new k) (by rw [U_len]; omega) hS.out.st.bel.size).mono ?_
      rintro e w2 r2
      obtain rfl := r2.1
      rw [← U_succ] at r2
      obtain ⟨P', c', S2⟩ := hS.out.add r2
      replace S2 := Lib.hid S2
      clear r2 hS
      go_wp2_with (at_builtin; go_loud (refine wpList_append_lies _ rfl (.tmp 36) (.tmp 38) 26 rfl W.heap.size 3 i0 _ 1 8 Try.underlying26 hi hz0 hz1 hz2 rfl (by omega) (.slice P2 k c2) k (iV (U k)) rfl (row_later S2.out.row (below_al w2 _)) ⟨w2.heap.size, 0, none⟩ 1 1 [.int .i64 (k : Int)] rfl rfl (World.news_of_block (cs := #[.int .i64 (k : Int)]) (heap_alloc_new w2 _)) one_int (by omega) (by unfold maxLen; omega) (by omega) (by have := S2.out.st.bel.size; simp; omega) (w2.heap.size + 1) (by simp) ?_; intro g3 cap3 w3 hown hgrow hat hlt1; have S4 := Lib.hid (S2.out.app (below_al w2 _) hown hgrow (hat.imp id (by omega))); clear hown hgrow hat hlt1 S2))
      rw [← U_succ] at S4
      go_wp2_with fail
      go_roundw
      case rel => exact ⟨k + 1, P', c', _, cap3, by omega, rfl, by go_num, S4⟩
      case measure => simp [intOf]; omega
    · obtain rfl : k = n := by omega
      have k3 : ¬ (k : Int) < (k : Int) := by omega
      have S1 : Hid (AS W P c (U k) P2 c2 (U k) k wr ∧ Full k (U k)) := ⟨hS.out, Full.start k⟩
      clear hS hk hlt
      go_wp2_with fail
      go_loopw [6, 8] (fun v i wx => ∃ (m : Nat) (P : Option Addr) (c : Nat) (P2 : Option Addr) (c2 : Nat) (L : List Int), m ≤ n1 ∧ v = .slice P2 k c2 ∧ i = .int .i64 (m : Int) ∧ Hid (AS W P c L P2 c2 L k wx ∧ Full k L)) (fun _ i _ => n1 - (intOf i).toNat)
      case atStart => exact ⟨0, P, c, P2, c2, U k, by omega, rfl, rfl, S1⟩
      case round =>
        clear S1
        obtain ⟨m, Pa, ca, Pb, cb, L, hm, rfl, rfl, hS⟩ := hrel
        by_cases hlt : m < n1
        · obtain ⟨bb, off, x, rfl, hbb, hzx, hcx⟩ := R1.out.cell hS.out.1.st.bel hlt
          have m3 : (m : Int) < (n1 : Int) := by omega
          have m4 : (0 : Int) ≤ (m : Int) := by omega
          clear hzx
          go_wp2_with fail
          refine (round_any x k _ (by omega) (by omega)).mono ?_
          rintro e w' ⟨r, hr, rfl, rfl⟩
          obtain ⟨p, hp, hpl⟩ := mem_at (hS.out.2.2 r hr)
          have hnd := hS.out.1.st.rg.nd
          have hll : L.length = k := hS.out.2.1
          have HF := Lib.hid (hS.out.2.step hnd hp)
          have HC : Hid (L[p]? = some (r : Int) ∧ L.Nodup) := ⟨hp, hnd⟩
          have S2 := Lib.hid hS.out.1
          clear hS hp hnd hcx
          go_wp2_with fail
          refine (g_remove_yes (x := (r : Int)) (p := p) S2.out.st.rg HC.out.1 (by omega)).mono ?_
          rintro e w2 ⟨rfl, r1, r2⟩
          have S3 := Lib.hid (S2.out.go ⟨r1, r2⟩)
          clear r1 r2 S2
          go_wp2_with fail
          refine (g_remove_no (x := (r : Int)) S3.out.st.rg (wf_of (by omega) (by omega)) (fun h => ((cut_mem HC.out.2 HC.out.1).1 h).2 rfl)).mono ?_
          rintro e w' ⟨rfl, rfl⟩
          go_wp2_with fail
          refine (g_add_new (x := (r : Int)) S3.out.st.rg ⟨by omega, wf_of (by omega) (by omega)⟩ (fun h => ((cut_mem HC.out.2 HC.out.1).1 h).2 rfl) (by have := cut_len HC.out.1; omega) S3.out.st.bel.size).mono ?_
          rintro e w3 q3
          obtain rfl := q3.1
          obtain ⟨P', c', S4⟩ := S3.out.add q3
          replace S4 : Hid (BS W P' c' (L.eraseIdx p ++ [(r : Int)]) Pb cb L k none 0 (fl r (L.take 0)) 0 w3) := BS.start S4
          clear q3 S3
          have hp0 := cut_len HC.out.1
          generalize hL' : L.eraseIdx p = L' at *
          have HL := Lib.hid hL'
          clear hL'
          go_wp2_with fail
          go_loopw [10, 11] (fun v i wx => ∃ (q : Nat) (P3 : Option Addr) (c3 n3 : Nat), q ≤ k ∧ v = .slice P3 n3 c3 ∧ i = .int .i64 (q : Int) ∧ n3 ≤ q ∧ Hid (BS W P' c' (L' ++ [(r : Int)]) Pb cb L k P3 c3 (fl r (L.take q)) n3 wx)) (fun _ i _ => k - (intOf i).toNat)
          case atStart => exact ⟨0, none, 0, 0, by omega, rfl, rfl, by omega, S4⟩
          case round =>
            clear S4
            obtain ⟨q, P3, c3, n3, hq, rfl, rfl, hn3, hS⟩ := hrel
            have n4 : (n3 : Int) ≤ 40 := by omega
            by_cases hqk : q < k
            · have q3 : (q : Int) < (k : Int) := by omega
              have q4 : (0 : Int) ≤ (q : Int) := by omega
              have hy : L[q]? = some (L[q]'(by omega)) := List.getElem?_eq_getElem (by omega)
              generalize L[q]'(by omega) = y at hy
              obtain ⟨g2, rfl, hc2⟩ := row_form hS.out.a.row (by omega)
              have hcy : wr.cell? ⟨g2, q, none⟩ = some (.int .i64 y) := by rw [hS.out.a.row.cellAt q (by omega)]; exact iV_at hy
              have ht := take_one hy
              by_cases e : y = (r : Int)
              · subst e
                have S5 := Lib.hid hS.out
                rw [← fl_no, ← ht] at S5
                clear hS ht hy
                go_wp2_with fail
                go_roundw
                case rel => exact ⟨q + 1, P3, c3, n3, by omega, rfl, by go_num, by omega, S5⟩
                case measure => simp [intOf]; omega
              · have e2 : fl r (L.take q) ++ [y] = fl r (L.take (q + 1)) := by rw [ht, fl_yes _ e]
                have HE2 := Lib.hid e2
                clear ht hy e2
                go_wp2_with (at_builtin; go_loud (refine wpList_append_lies _ rfl (.tmp 79) (.tmp 84) 26 rfl W.heap.size 3 i0 _ 1 8 Try.underlying26 hi hz0 hz1 hz2 rfl (by omega) (.slice P3 n3 c3) n3 (iV (fl r (L.take q))) rfl (row_later hS.out.row3 (below_al wr _)) ⟨wr.heap.size, 0, none⟩ 1 1 [.int .i64 y] rfl rfl (World.news_of_block (cs := #[.int .i64 y]) (heap_alloc_new wr _)) one_int (by omega) (by unfold maxLen; omega) (by omega) (by have := hS.out.a.st.bel.size; simp; omega) (wr.heap.size + 1) (by simp) ?_; intro g3 cap3 w5 hown hgrow hat hlt1; have S5 := Lib.hid (hS.out.app (below_al wr _) hown hgrow (hat.imp id (by omega))); clear hown hgrow hat hlt1 hS))
                rw [HE2.out] at S5
                clear hcy
                go_wp2_with fail
                go_roundw
                case rel => exact ⟨q + 1, _, cap3, n3 + 1, by omega, rfl, by go_num, by omega, S5⟩
                case measure => simp [intOf]; omega
            · have q3 : ¬ (q : Int) < (k : Int) := by omega
              obtain rfl : q = k := by omega
              have e1 : L.take L.length = L := List.take_length
              rw [hll] at e1
              have e3 := fl_cut L p HC.out.2 HC.out.1
              rw [HL.out] at e3
              have S5 := Lib.hid hS.out.last
              rw [e1, e3] at S5
              have e9 : n3 + 1 = q := by have := S5.out.len2; omega
              clear hS e1 e3
              go_wp2_with (at_builtin; go_loud (refine wpList_append_lies _ rfl (.tmp 86) (.tmp 88) 26 rfl W.heap.size 3 i0 _ 1 8 Try.underlying26 hi hz0 hz1 hz2 rfl (by omega) (.slice P3 n3 c3) n3 (iV L') rfl (row_later S5.out.row (below_al wr _)) ⟨wr.heap.size, 0, none⟩ 1 1 [.int .i64 (r : Int)] rfl rfl (World.news_of_block (cs := #[.int .i64 (r : Int)]) (heap_alloc_new wr _)) one_int (by omega) (by unfold maxLen; omega) (by omega) (by have := S5.out.st.bel.size; simp; omega) (wr.heap.size + 1) (by simp) ?_; intro g3 cap3 w6 hown hgrow hat hlt1; have S6 := Lib.hid (S5.out.app (below_al wr _) hown hgrow (hat.imp id (by omega))); clear hown hgrow hat hlt1 S5))
              rw [e9] at S6
              go_wp2_with fail
              go_roundw
              case rel => exact ⟨m + 1, P', c', some ⟨g3, 0, none⟩, cap3, L' ++ [(r : Int)], by omega, by first | rfl | rw [e9], by go_num, S6.out, HF.out⟩
              case measure => simp [intOf]; omega
        · have m3 : ¬ (m : Int) < (n1 : Int) := by omega
          have hll : L.length = k := hS.out.2.1
          have S2 := Lib.hid hS.out.1
          clear hS
          go_wp2_with fail
          refine (g_all S2.out.st.rg (by omega)).mono ?_
          rintro e w6 ⟨A, c6, rfl, r1, r2⟩
          have S6 := Lib.hid (S2.out.later r2)
          rw [hll] at r1 ⊢
          have R6 := Lib.hid r1
          clear r1 r2 S2
          go_wp2_with fail
          refine (ints_eq R6.out (Rn.of_own S6.out.row) (by omega)).mono ?_
          rintro e w' ⟨rfl, q, rfl⟩
          have S7 := Lib.hid (S6.out.drewN q)
          generalize w6.drewN q = w7 at *
          clear S6 R6
          go_wp2_with fail
          refine (awake_any w7).mono ?_
          rintro e w8 ⟨rfl, b8⟩
          have S8 := Lib.hid (S7.out.later b8).st.bel
          clear S7 b8
          go_wp2_with fail
          go_ret
          exact ⟨rfl, S8.out⟩
theorem behind_walk (a0 : Int) (A1 : Option Addr) (n1 c1 : Nat) (z1 : List Int) (W : World) (h1 : Rn W A1 n1 z1) : Calls Try.prog 5 #[.int .i64 a0, .slice A1 n1 c1] W (BoolR true W) := by
  by_cases h : a0 < 1 ∨ 40 < a0 ∨ 60 < n1
  · exact behind_out a0 A1 n1 c1 W h
  · obtain ⟨n, rfl⟩ : ∃ n : Nat, a0 = (n : Int) := ⟨a0.toNat, by omega⟩
    exact behind_in n A1 n1 c1 z1 W h1 (by omega) (by omega) (by omega)
end Go.Proofs.Ytbgllnooodhgpaa
