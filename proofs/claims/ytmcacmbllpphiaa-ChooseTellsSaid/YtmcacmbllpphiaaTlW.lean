/- The walk of ChooseTells. Conditions: the slices that came in read as lists. -/
import Derived.Test.YtmcacmbllpphiaaTl
import Derived.Test.YtmcacmbllpphiaaAwk
import Derived.Deep.RegionHeld3
namespace Go.Proofs.Ytmcacmbllpphiaa
open Go.RowKit
set_option linter.unusedVariables false

def PrZ (W : World) (P1 P2 : Option Addr) (w' : World) : Prop := (P1 = none ∧ P2 = none ∧ Below W.heap.size W w') ∨ ∃ c m s, P1 = some ⟨c, 0, none⟩ ∧ P2 = some ⟨m, 0, none⟩ ∧ nw s = 0 ∧ JS W c m s s w'
theorem pair_opt (kind size : Int) (W : World) : Calls Try.prog 10 #[.int .i64 kind, .int .i64 size] W fun e w' => ∃ P1 P2, e = .returned (.tuple #[.pointer P1, .pointer P2]) ∧ Hid (Below W.heap.size W w' ∧ PrZ W P1 P2 w') := by
  refine (pair_any kind size W).mono ?_
  rintro e w' (⟨rfl, hb⟩ | ⟨c, m, s, rfl, hs, hj⟩)
  · exact ⟨none, none, rfl, hb, .inl ⟨rfl, rfl, hb⟩⟩
  · exact ⟨_, _, rfl, hj.bel, .inr ⟨c, m, s, rfl, rfl, hs, hj⟩⟩
set_option maxRecDepth 100000 in
set_option maxHeartbeats 16000000 in
theorem tells_in (A1 A2 A3 A4 : Option Addr) (n1 n2 n3 n4 p1 p2 p3 p4 : Nat) (L1 L2 : List Int) (L3 : List Sa) (L4 : List Pk) (df : Bool) (draw task : Int) (W : World)
    (h1 : IsN W A1 n1 p1 L1) (h2 : IsN W A2 n2 p2 L2) (h3 : IsL W A3 n3 p3 L3) (h4 : IsP W A4 n4 p4 L4) (hT : Wf task) (q1 : n1 ≤ 4) (q2 : n1 ≤ n2) (q3 : n1 ≤ n3) (q4 : n2 ≤ 8) (q5 : n3 ≤ 8) (q6 : n4 ≤ 20) :
    Calls Try.prog 3 #[.slice A1 n1 p1, .slice A2 n2 p2, .slice A3 n3 p3, .slice A4 n4 p4, .bool df, .int .i64 draw, .int .i64 task] W (BoolR true W) := by
  have b1 : ¬ (4 : Int) < (n1 : Int) := by omega
  have b2 : ¬ (n2 : Int) < (n1 : Int) := by omega
  have b3 : ¬ (n3 : Int) < (n1 : Int) := by omega
  have b4 : ¬ (8 : Int) < (n2 : Int) := by omega
  have b5 : ¬ (8 : Int) < (n3 : Int) := by omega
  have b6 : ¬ (20 : Int) < (n4 : Int) := by omega
  have H1 := Lib.hid h1
  have H2 := Lib.hid h2
  have H3 := Lib.hid h3
  have H4 := Lib.hid h4
  have HN1 := Lib.hid h1.2.2.1
  have HN2 := Lib.hid h2.2.2.1
  have HN3 := Lib.hid h3.2.2.1
  have HN4 := Lib.hid h4.2.2.1
  have HT := Lib.hid hT
  have HS0 := Lib.hid (TS.start W)
  clear h1 h2 h3 h4 hT
  obtain ⟨i0, hi, hz0, hz1, hz2⟩ := info_parts inf28
  obtain ⟨j0, hj0, hy0, hy1, hy2⟩ := info_parts inf29
  go_enter Try.func3, Try.ntmps3
  go_wp2_with fail
  go_loopw [15, 16, 17] (fun u v i wr => ∃ (k : Nat) (B : List Nat) (S : List CS) (C : List Nat) (K : List (Option Nat)), k ≤ n1 ∧ i = .int .i64 k ∧ K.length = k ∧ Hid (TS W B S C K K u v wr)) (fun _ _ i _ => n1 - (intOf i).toNat)
  case atStart => exact ⟨0, [], [], [], [], by omega, rfl, rfl, HS0⟩
  case round =>
    clear HS0
    obtain ⟨k, B, S, C, K, hk, rfl, hKl, hS⟩ := hrel
    by_cases hlt : k < n1
    · have k1 : (k : Int) < (n1 : Int) := by omega
      have k2 : 0 ≤ (k : Int) := by omega
      have k3 : (k : Int) < (n2 : Int) := by omega
      have k4 : (k : Int) < (n3 : Int) := by omega
      have hk1 : k < L1.length := by rw [HN1.out]; omega
      have hk2 : k < L2.length := by rw [HN2.out]; omega
      have hk3 : k < L3.length := by rw [HN3.out]; omega
      have HY1 := Lib.hid (List.getElem?_eq_getElem hk1)
      have HY2 := Lib.hid (List.getElem?_eq_getElem hk2)
      have HY3 := Lib.hid (List.getElem?_eq_getElem hk3)
      obtain ⟨_, a1, o1, rfl, l1, d1⟩ := IsN.at H1.out hS.out.bel HY1.out
      obtain ⟨_, a2, o2, rfl, l2, d2⟩ := IsN.at H2.out hS.out.bel HY2.out
      obtain ⟨hX, a3, o3, rfl, l3, d3⟩ := IsL.at H3.out hS.out.bel HY3.out
      have HX := Lib.hid hX
      generalize L1[k]'hk1 = y1 at *
      generalize L2[k]'hk2 = y2 at *
      generalize L3[k]'hk3 = x at *
      obtain ⟨A5, n5, p5, L5⟩ := x
      have HP := Lib.hid (pair_opt y1 y2 wr.drew)
      have hszW := hS.out.bel.size
      have HS := Lib.hid (hS.out.later (below_drewN (Below.refl _ _) 1))
      have HC : Hid (∀ w' : World, Below wr.drew.heap.size wr.drew w' → w'.cell? ⟨a3, o3 + k, none⟩ = some (.slice A5 n5 p5)) := fun w' hb => (cell_blk (hb.block _ (show a3 < wr.heap.size by omega)) _).trans d3
      have KP : Hid (∀ w' : World, Below wr.drew.heap.size wr.drew w' → w'.cell? ⟨a1, o1 + k, none⟩ = some (.int .i64 y1) ∧ w'.cell? ⟨a2, o2 + k, none⟩ = some (.int .i64 y2)) := fun w' hb => ⟨(cell_blk (hb.block _ (show a1 < wr.heap.size by omega)) _).trans d1, (cell_blk (hb.block _ (show a2 < wr.heap.size by omega)) _).trans d2⟩
      clear hS hX hk1 hk2 hk3 HY1 HY2 HY3
      go_upto_region 8 with fail
      go_region_held3 (fun w' => w'.cell? ⟨a1, o1 + k, none⟩ = some (.int .i64 y1) ∧ w'.cell? ⟨a2, o2 + k, none⟩ = some (.int .i64 y2))
        (first
          | exact ⟨d1, d2⟩
          | exact KP.out _ HPr.out.1)
        (first
          | (go_at_call 10; (with_reducible refine HP.out.mono ?_); rintro e w4 ⟨P1, P2, rfl, HPr⟩))
      have HS1 : Hid (TS W B S C K K u15 u16 wr.drew) := HS
      have HC1 : Hid (∀ w' : World, Below wr.drew.heap.size wr.drew w' → w'.cell? ⟨a3, o3 + k, none⟩ = some (.slice A5 n5 p5)) := HC
      clear HS HC HP KP d1 d2 d3 l1 l2
      generalize wr.drew = w0 at *
      have HN5 := Lib.hid HX.out.2.2.1
      rcases HPr.out.2 with ⟨rfl, rfl, hb⟩ | ⟨c, m, s, rfl, rfl, hs, hj⟩
      · have HB := Lib.hid hb
        clear hb HPr
        have d := HC1.out _ HB.out
        by_cases h20 : 20 < n5
        · have g5 : 20 < (n5 : Int) := by omega
          have HBW := Lib.hid (HS1.out.bel.trans (HB.out.mono HS1.out.bel.size))
          go_wp2_with fail
          refine (awake_any _).mono ?_
          rintro e w9 ⟨rfl, hb9⟩
          have HB9 := Lib.hid (HBW.out.trans (hb9.mono HBW.out.size))
          clear hb9
          go_wp2_with fail
          go_ret
          exact ⟨rfl, HB9.out⟩
        · have g5 : ¬ 20 < (n5 : Int) := by omega
          go_wp2_with fail
          clear d
          go_loopw [20] (fun i wr => ∃ q : Nat, q ≤ n5 ∧ i = .int .i64 q ∧ Hid (Below w0.heap.size w0 wr)) (fun i _ => n5 - (intOf i).toNat)
          case atStart => exact ⟨0, by omega, rfl, HB⟩
          case round =>
            clear HB
            obtain ⟨q, hq, rfl, hB⟩ := hrel
            have d := HC1.out _ hB.out
            by_cases hlq : q < n5
            · have r1 : (q : Int) < (n5 : Int) := by omega
              have r2 : 0 ≤ (q : Int) := by omega
              have hql : q < L5.length := by rw [HN5.out]; exact hlq
              obtain ⟨_, bb, off, rfl, hbb, c0, c1, c2, c3, c4, c5⟩ := IsA.at HX.out (HS1.out.bel.trans (hB.out.mono HS1.out.bel.size)) (List.getElem?_eq_getElem hql)
              generalize L5[q]'hql = a at *
              clear hql hbb
              go_wp2_with fail
              refine (doesn_any a wr).mono ?_
              rintro e w2 ⟨rfl, hb2⟩
              have HB2 := Lib.hid (hB.out.trans (hb2.mono hB.out.size))
              clear hb2 hB c0 c1 c2 c3 c4 c5 d
              go_wp2_with fail
              go_roundw
              case rel => exact ⟨q + 1, by omega, by go_num, HB2⟩
              case measure => simp [intOf]; omega
            · obtain rfl : q = n5 := by omega
              have HT5 := Lib.hid (HS1.out.later hB.out)
              have HKK : Hid (∀ j, (none : Option Nat) = some j → j < B.length) := fun j h => by cases h
              clear hB HS1 HC1
              have HTA := Lib.hid (HT5.out.later (below_al wr (.cells #[.pointer none] 28)))
              have HWs := HT5.out.bel.size
              go_wp2_with (first
                | (at_builtin; (refine wpList_append_lies _ rfl (.tmp 109) (.tmp 111) 26 rfl W.heap.size 28 i0 (.pointer none) 1 8 Try.underlying26 hi hz0 hz1 hz2 rfl (by decide) u15 K.length (kCF B K) rfl HTA.out.rc ⟨wr.heap.size, 0, none⟩ 1 1 [.pointer none] rfl rfl (by intro j u hu; rw [add_plain, Nat.zero_add, cell_of_row _ _ _ _ _ _ (heap_alloc_new wr (.cells #[.pointer none] 28))]; simpa using hu) (by simp [Value.oneCell']) (by omega) (by unfold maxLen; omega) (by omega) (by simp; omega) _ rfl ?_; intro gb gc wA hoA hgA hat hlA; have HTB : Hid (TS W B S C (K ++ [none]) K (.slice (some ⟨gb, 0, none⟩) (K.length + 1) gc) u16 wA) := HTA.out.growC hgA HKK.out (id hoA) rfl hat; have HTC := Lib.hid (HTB.out.later (below_al wA (.cells #[.pointer none] 29))); have HWs2 := HTB.out.bel.size; clear hoA hgA hat hlA))
                | (at_builtin; (refine wpList_append_lies _ rfl (.tmp 113) (.tmp 115) 27 rfl W.heap.size 29 j0 (.pointer none) 1 8 Try.underlying27 hj0 hy0 hy1 hy2 rfl (by decide) u16 K.length (kCF C K) rfl HTC.out.rm ⟨wA.heap.size, 0, none⟩ 1 1 [.pointer none] rfl rfl (by intro j u hu; rw [add_plain, Nat.zero_add, cell_of_row _ _ _ _ _ _ (heap_alloc_new wA (.cells #[.pointer none] 29))]; simpa using hu) (by simp [Value.oneCell']) (by omega) (by unfold maxLen; omega) (by omega) (by simp; omega) _ rfl ?_; intro hb2 hc2 wB hoB hgB hbt hlB; have HTD : Hid (TS W B S C (K ++ [none]) (K ++ [none]) (.slice (some ⟨gb, 0, none⟩) (K.length + 1) gc) (.slice (some ⟨hb2, 0, none⟩) (K.length + 1) hc2) wB) := HTC.out.growM hgB HKK.out (id hoB) rfl hbt; clear hoB hgB hbt hlB)))
              go_roundw
              case rel => exact ⟨k + 1, B, S, C, K ++ [none], by omega, by go_num, by simp [hKl], (by rw [hKl] at HTD; exact HTD)⟩
              case measure => simp [intOf]; omega
      · have HJ := Lib.hid hj
        have HS : Hid (nw s ≤ 0) := by show _ ≤ _; omega
        clear hj HPr hs
        have d := HC1.out _ HJ.out.bel
        by_cases h20 : 20 < n5
        · have g5 : 20 < (n5 : Int) := by omega
          have HBW := Lib.hid (HS1.out.bel.trans (HJ.out.bel.mono HS1.out.bel.size))
          go_wp2_with fail
          refine (awake_any _).mono ?_
          rintro e w9 ⟨rfl, hb9⟩
          have HB9 := Lib.hid (HBW.out.trans (hb9.mono HBW.out.size))
          clear hb9
          go_wp2_with fail
          go_ret
          exact ⟨rfl, HB9.out⟩
        · have g5 : ¬ 20 < (n5 : Int) := by omega
          go_wp2_with fail
          clear d
          go_loopw [20] (fun i wr => ∃ (q : Nat) (s : CS), q ≤ n5 ∧ i = .int .i64 q ∧ Hid (nw s ≤ q) ∧ Hid (JS w0 c m s s wr)) (fun i _ => n5 - (intOf i).toNat)
          case atStart => exact ⟨0, s, by omega, rfl, HS, HJ⟩
          case round =>
            clear HJ HS
            obtain ⟨q, s, hq, rfl, hN, hJ⟩ := hrel
            have d := HC1.out _ hJ.out.bel
            by_cases hlq : q < n5
            · have r1 : (q : Int) < (n5 : Int) := by omega
              have r2 : 0 ≤ (q : Int) := by omega
              have hql : q < L5.length := by rw [HN5.out]; exact hlq
              obtain ⟨hwf, bb, off, rfl, hbb, c0, c1, c2, c3, c4, c5⟩ := IsA.at HX.out (HS1.out.bel.trans (hJ.out.bel.mono HS1.out.bel.size)) (List.getElem?_eq_getElem hql)
              generalize L5[q]'hql = a at *
              have HWF := Lib.hid hwf
              clear hql hbb hwf
              go_wp2_with fail
              refine (does_any a HWF.out hJ.out (by have := hN.out; omega)).mono ?_
              rintro e w2 ⟨rfl, s', hs', hj'⟩
              have HJ2 := Lib.hid hj'
              have HN2 : Hid (nw s' ≤ q + 1) := by have := hN.out; show _ ≤ _; omega
              clear hj' hs' hJ hN c0 c1 c2 c3 c4 c5 d
              go_wp2_with fail
              go_roundw
              case rel => exact ⟨q + 1, s', by omega, by go_num, HN2, HJ2⟩
              case measure => simp [intOf]; omega
            · obtain rfl : q = n5 := by omega
              have HT5 := Lib.hid (HS1.out.join hJ.out (by have := hN.out; omega))
              have hlen := HS1.out.len
              have e1 : kC (B ++ [c]) (some B.length) = [.pointer (some ⟨c, 0, none⟩)] := by simp [kC, kAt]
              have e2 : kC (C ++ [m]) (some B.length) = [.pointer (some ⟨m, 0, none⟩)] := by rw [hlen]; simp [kC, kAt]
              have HKK : Hid (∀ j, some B.length = some j → j < (B ++ [c]).length) := fun j h => by cases h; simp
              clear hJ HS1 HC1 hlen hN
              generalize hjj : B.length = jj at *
              generalize hB' : B ++ [c] = B' at *
              generalize hC' : C ++ [m] = C' at *
              generalize hS' : S ++ [s] = S' at *
              clear hB' hC' hS' hjj
              have E1 : Hid (∀ {w : World} {base n : Nat} {v : Value} {xs : List Value}, w.ownsRow base 28 1 v n (xs ++ [.pointer (some ⟨c, 0, none⟩)]) → w.ownsRow base 28 1 v n (xs ++ kC B' (some jj))) := by rw [e1]; exact fun h => h
              have E2 : Hid (∀ {w : World} {base n : Nat} {v : Value} {xs : List Value}, w.ownsRow base 29 1 v n (xs ++ [.pointer (some ⟨m, 0, none⟩)]) → w.ownsRow base 29 1 v n (xs ++ kC C' (some jj))) := by rw [e2]; exact fun h => h
              clear e1 e2
              have HTA := Lib.hid (HT5.out.later (below_al wr (.cells #[.pointer (some ⟨c, 0, none⟩)] 28)))
              have HWs := HT5.out.bel.size
              go_wp2_with (first
                | (at_builtin; (refine wpList_append_lies _ rfl (.tmp 109) (.tmp 111) 26 rfl W.heap.size 28 i0 (.pointer none) 1 8 Try.underlying26 hi hz0 hz1 hz2 rfl (by decide) u15 K.length (kCF B' K) rfl HTA.out.rc ⟨wr.heap.size, 0, none⟩ 1 1 [.pointer (some ⟨c, 0, none⟩)] rfl rfl (by intro j u hu; rw [add_plain, Nat.zero_add, cell_of_row _ _ _ _ _ _ (heap_alloc_new wr (.cells #[.pointer (some ⟨c, 0, none⟩)] 28))]; simpa using hu) (by simp [Value.oneCell']) (by omega) (by unfold maxLen; omega) (by omega) (by simp; omega) _ rfl ?_; intro gb gc wA hoA hgA hat hlA; have HTB : Hid (TS W B' S' C' (K ++ [some jj]) K (.slice (some ⟨gb, 0, none⟩) (K.length + 1) gc) u16 wA) := HTA.out.growC hgA HKK.out (E1.out hoA) rfl hat; have HTC := Lib.hid (HTB.out.later (below_al wA (.cells #[.pointer (some ⟨m, 0, none⟩)] 29))); have HWs2 := HTB.out.bel.size; clear hoA hgA hat hlA))
                | (at_builtin; (refine wpList_append_lies _ rfl (.tmp 113) (.tmp 115) 27 rfl W.heap.size 29 j0 (.pointer none) 1 8 Try.underlying27 hj0 hy0 hy1 hy2 rfl (by decide) u16 K.length (kCF C' K) rfl HTC.out.rm ⟨wA.heap.size, 0, none⟩ 1 1 [.pointer (some ⟨m, 0, none⟩)] rfl rfl (by intro j u hu; rw [add_plain, Nat.zero_add, cell_of_row _ _ _ _ _ _ (heap_alloc_new wA (.cells #[.pointer (some ⟨m, 0, none⟩)] 29))]; simpa using hu) (by simp [Value.oneCell']) (by omega) (by unfold maxLen; omega) (by omega) (by simp; omega) _ rfl ?_; intro hb2 hc2 wB hoB hgB hbt hlB; have HTD : Hid (TS W B' S' C' (K ++ [some jj]) (K ++ [some jj]) (.slice (some ⟨gb, 0, none⟩) (K.length + 1) gc) (.slice (some ⟨hb2, 0, none⟩) (K.length + 1) hc2) wB) := HTC.out.growM hgB HKK.out (E2.out hoB) rfl hbt; clear hoB hgB hbt hlB)))
              go_roundw
              case rel => exact ⟨k + 1, B', S', C', K ++ [some jj], by omega, by go_num, by simp [hKl], (by rw [hKl] at HTD; exact HTD)⟩
              case measure => simp [intOf]; omega
    · obtain rfl : k = n1 := by omega
      have hrc := hS.out.rc
      have hrm := hS.out.rm
      rw [hKl] at hrc hrm
      obtain ⟨Ac, cc, rfl, hC⟩ := RdC.of_own hKl hrc
      obtain ⟨Am, cm, rfl, hM⟩ := RdC.of_own hKl hrm
      clear hrc hrm
      obtain ⟨F, X, hp, _⟩ := hS.out.px
      have HP := Lib.hid hp.pc
      have HBN := Lib.hid hS.out.bn
      have HC := Lib.hid hC
      have HM := Lib.hid hM
      have HLL : Hid ((caL K L4).length ≤ 20) := by show _ ≤ _; rw [caL_len, HN4.out]; exact q6
      have HCS := Lib.hid (cases_any (cap := p4) (c1 := cc) (c2 := cm) H4.out HP.out.bel HC.out HM.out q6)
      unfold CsR at HCS
      generalize caL K L4 = l at *
      clear hS hC hM hp H1 H2 H3 H4 HN1 HN2 HN3 HN4
      go_wp2_with fail
      refine HCS.out.mono ?_
      rintro e w1 ⟨Ax, cx, Ay, cy, rfl, hx, hy, hb⟩
      have HQ0 : Hid (TQ W 20 B S C S K Ac Am Ax Ay l w1) := ⟨⟨F, HP.out.later hb⟩, HBN.out, HBN.out, by rw [hKl]; exact HC.out.later hb, by rw [hKl]; exact HM.out.later hb, hx, hy⟩
      have HRL : Hid ((rdy S l l.length).length ≤ 20) := by have := rdy_len S l l.length; have := HLL.out; show _ ≤ _; omega
      clear hx hy hb HP HC HM HBN HCS
      have HRY := Lib.hid (fun w h => tq_ready (w := w) (cap := cx) (T := S) (W := W) (n := 20) (B := B) (S := S) (C := C) (K := K) (A1 := Ac) (A2 := Am) (Ax := Ax) (Ay := Ay) (l := l) h (by omega) HLL.out)
      have HRM := Lib.hid (fun w h => tq_mready (w := w) (cap := cy) (W := W) (n := 20) (B := B) (S := S) (C := C) (K := K) (A1 := Ac) (A2 := Am) (Ax := Ax) (Ay := Ay) (l := l) h (by omega) HLL.out)
      have HD1 := Lib.hid (fun w h => tq_do (w := w) (cap := cx) df draw task HT.out (W := W) (n := 20) (B := B) (S := S) (C := C) (K := K) (A1 := Ac) (A2 := Am) (Ax := Ax) (Ay := Ay) (l := l) h (by omega) HLL.out)
      have HD2 := Lib.hid (fun w h hg => tq_mdo (w := w) (cap := cy) df draw task (W := W) (n := 20) (B := B) (S := S) (C := C) (K := K) (A1 := Ac) (A2 := Am) (Ax := Ax) (Ay := Ay) (l := l) h hg (by omega) HLL.out)
      generalize rdy S l l.length = rr at *
      generalize hg0 : doS S l df draw task = g at *
      have HWl : Hid (g.2.2.1.length ≤ 1) := by rw [← hg0]; exact (HQ0.out.bs.dS l HLL.out df draw task).2
      clear hg0
      obtain ⟨S', r, ws, code⟩ := g
      obtain ⟨ri, rv, rok, rpn, rpk, rkd⟩ := r
      simp only at HD1 HD2 HWl
      unfold reG at HD1 HD2
      go_wp2_with fail
      refine (HRY.out _ HQ0.out).mono ?_
      rintro e w2 ⟨Ar, cr, rfl, hr, z, _⟩
      have HQ1 := Lib.hid z
      have HR1 := Lib.hid hr
      clear hr z HQ0 HRY
      go_wp2_with fail
      refine (HRM.out _ HQ1.out).mono ?_
      rintro e w3 ⟨Ar2, cr2, rfl, hr2, hb⟩
      have HQ2 := Lib.hid (HQ1.out.later hb)
      have HR2 := Lib.hid (HR1.out.later hb)
      have HR3 := Lib.hid hr2
      clear hr2 hb HQ1 HR1 HRM
      go_wp2_with fail
      refine (ints_yes _ _ _ _ _ _ w3 HR2.out HR3.out (by have := HRL.out; omega)).mono ?_
      rintro e w' ⟨rfl, nd, rfl⟩
      have HQ3 := Lib.hid (HQ2.out.later (below_drewN (Below.refl _ _) nd))
      clear HQ2 HR2 HR3
      generalize w3.drewN nd = w4 at *
      go_wp2_with fail
      refine (HD1.out _ HQ3.out).mono ?_
      rintro e w5 ⟨Aw, cw, rfl, hw, ⟨z, hg⟩, _⟩
      have HQ5 := Lib.hid (z.later (below_al w5 (.cells #[.int .i64 ri, .int .i64 rv, .bool rok, .bool rpn, .bool rpk, .bool rkd] 46)))
      have HG := Lib.hid hg
      have HW5 := Lib.hid (hw.later (below_al w5 (.cells #[.int .i64 ri, .int .i64 rv, .bool rok, .bool rpn, .bool rpk, .bool rkd] 46)))
      have HE5 := Lib.hid (heap_alloc_new w5 (.cells #[.int .i64 ri, .int .i64 rv, .bool rok, .bool rpn, .bool rpk, .bool rkd] 46))
      clear z hg hw HQ3 HD1
      go_wp2_with fail
      generalize w5.alloc (.cells #[.int .i64 ri, .int .i64 rv, .bool rok, .bool rpn, .bool rpk, .bool rkd] 46) = w6 at *
      generalize w5.heap.size = N5 at *
      refine (HD2.out _ HQ5.out HG.out).mono ?_
      rintro e w7 ⟨Av, cv, rfl, hv, z, ko⟩
      have hb51 := below_al w7 (.cells #[.int .i64 ri, .int .i64 rv, .bool rok, .bool rpn, .bool rpk, .bool rkd] 51)
      have HQ7 := Lib.hid (z.later hb51)
      have hw7 := HW5.out.keep (w' := w7) fun b cs e => (ko.2 _ _ _ _ e o75).trans e.symm
      have HW7 := Lib.hid (hw7.later hb51)
      have HV7 := Lib.hid (hv.later hb51)
      have e7 := ko.2 _ _ _ _ HE5.out o46
      have HE7 := Lib.hid ((hb51.block _ (lt_of_blk e7)).trans e7)
      have HF7 := Lib.hid (heap_alloc_new w7 (.cells #[.int .i64 ri, .int .i64 rv, .bool rok, .bool rpn, .bool rpk, .bool rkd] 51))
      clear hb51 z hw7 hv e7 ko HQ5 HG HW5 HE5 HD2
      go_upto_region 22 with fail
      generalize w7.alloc (.cells #[.int .i64 ri, .int .i64 rv, .bool rok, .bool rpn, .bool rpk, .bool rkd] 51) = w8 at *
      generalize w7.heap.size = N7 at *
      have x0 := cell_of_row w8 N5 0 _ _ _ HE7.out
      have y0 := cell_of_row w8 N7 0 _ _ _ HF7.out
      have x1 := cell_of_row w8 N5 1 _ _ _ HE7.out
      have y1 := cell_of_row w8 N7 1 _ _ _ HF7.out
      have x2 := cell_of_row w8 N5 2 _ _ _ HE7.out
      have y2 := cell_of_row w8 N7 2 _ _ _ HF7.out
      have x3 := cell_of_row w8 N5 3 _ _ _ HE7.out
      have y3 := cell_of_row w8 N7 3 _ _ _ HF7.out
      have x4 := cell_of_row w8 N5 4 _ _ _ HE7.out
      have y4 := cell_of_row w8 N7 4 _ _ _ HF7.out
      have x5 := cell_of_row w8 N5 5 _ _ _ HE7.out
      have y5 := cell_of_row w8 N7 5 _ _ _ HF7.out
      simp only [List.getElem?_toArray, List.getElem?_cons_succ, List.getElem?_cons_zero] at x0 x1 x2 x3 x4 x5 y0 y1 y2 y3 y4 y5
      clear HE7 HF7
      go_wp2_with fail
      refine (wakes_yes _ _ _ _ _ ws w8 HW7.out HV7.out (by have := HWl.out; omega)).mono ?_
      rintro e w' ⟨rfl, nd, rfl⟩
      have HQ9 := Lib.hid (HQ7.out.later (below_drewN (Below.refl _ _) nd))
      clear HQ7 HW7 HV7 x0 x1 x2 x3 x4 x5 y0 y1 y2 y3 y4 y5
      generalize w8.drewN nd = w9 at *
      go_wp2_with fail
      go_loopw [29] (fun i wr => ∃ (a : Nat) (S : List CS), a ≤ 2 ∧ i = .int .i64 a ∧ Hid (TQ W 40 B S C S K Ac Am Ax Ay l wr)) (fun i _ => 2 - (intOf i).toNat)
      case atStart => exact ⟨0, S', by omega, rfl, HQ9⟩
      case round =>
        clear HQ9
        obtain ⟨a, S, ha, rfl, hQ⟩ := hrel
        by_cases hl2 : a < 2
        · have g1 : (a : Int) < 2 := by omega
          have HQ := hQ
          clear hQ
          go_wp2_with fail
          go_loopw [30] (fun i wr => ∃ b : Nat, b ≤ k ∧ i = .int .i64 b ∧ Hid (TQ W 40 B S C S K Ac Am Ax Ay l wr)) (fun i _ => k - (intOf i).toNat)
          case atStart => exact ⟨0, by omega, rfl, HQ⟩
          case round =>
            clear HQ
            obtain ⟨b, hb, rfl, hQ⟩ := hrel
            by_cases hlk : b < k
            · have g2 : (b : Int) < (k : Int) := by omega
              have hlb : b < K.length := by omega
              have g3 : 0 ≤ (b : Int) := by omega
              have hx := List.getElem?_eq_getElem hlb
              obtain ⟨a1, o1, _, rfl, t1, d1⟩ := hQ.out.rc.at hx
              obtain ⟨a2, o2, _, rfl, t2, d2⟩ := hQ.out.rm.at hx
              have s1 := lt_of_blk t1
              have s2 := lt_of_blk t2
              have HQ := Lib.hid (hQ.out.later (below_drewN (Below.refl _ _) 1))
              have KP : Hid (∀ w' : World, Below wr.drew.heap.size wr.drew w' → w'.cell? ⟨a1, o1 + b, none⟩ = some (.pointer (kAt B (K[b]'hlb))) ∧ w'.cell? ⟨a2, o2 + b, none⟩ = some (.pointer (kAt C (K[b]'hlb)))) := fun w' hb => ⟨(cell_blk (hb.block _ (show a1 < wr.heap.size from s1)) _).trans d1, (cell_blk (hb.block _ (show a2 < wr.heap.size from s2)) _).trans d2⟩
              generalize K[b]'hlb = kk at *
              have HP := Lib.hid (tq_shows (w := wr.drew) kk HQ.out (by omega))
              generalize kAt B kk = z1 at *
              generalize kAt C kk = z2 at *
              clear hQ hx t1 t2
              go_upto_region 30 with fail
              go_region_held3 (fun w' => w'.cell? ⟨a1, o1 + b, none⟩ = some (.pointer z1) ∧ w'.cell? ⟨a2, o2 + b, none⟩ = some (.pointer z2))
                (first
                  | exact ⟨d1, d2⟩
                  | exact KP.out _ HBx.out)
                (first
                  | (go_at_call 19; (with_reducible refine HP.out.mono ?_); rintro e w4 ⟨rfl, hbx⟩; have HBx := Lib.hid hbx; clear hbx))
              have HQ2 := Lib.hid (HQ.out.later HBx.out)
              clear HQ HBx KP HP d1 d2
              go_wp2_with fail
              go_roundw
              case rel => exact ⟨b + 1, by omega, by go_num, HQ2⟩
              case measure => simp [intOf]; omega
            · obtain rfl : b = k := by omega
              have HL1 := Lib.hid (fun w h => tq_leave (w := w) (cap := cx) task (W := W) (n := 40) (B := B) (S := S) (C := C) (K := K) (A1 := Ac) (A2 := Am) (Ax := Ax) (Ay := Ay) (l := l) h (by omega) HLL.out)
              have HL2 := Lib.hid (fun w h hg => tq_mleave (w := w) (cap := cy) task (W := W) (n := 40) (B := B) (S := S) (C := C) (K := K) (A1 := Ac) (A2 := Am) (Ax := Ax) (Ay := Ay) (l := l) h hg (by omega) HLL.out)
              generalize lvS S l task l.length = g at *
              obtain ⟨S2, v⟩ := g
              simp only at HL1 HL2
              go_wp2_with fail
              refine (HL1.out _ hQ.out).mono ?_
              rintro e w5 ⟨rfl, ⟨z, hg⟩, _⟩
              have HQ5 := Lib.hid z
              have HG := Lib.hid hg
              clear z hg hQ HL1
              go_wp2_with fail
              refine (HL2.out _ HQ5.out HG.out).mono ?_
              rintro e w6 ⟨rfl, z, _⟩
              have HQ6 := Lib.hid z
              clear z HG HQ5 HL2
              go_wp2_with fail
              go_roundw
              case rel => exact ⟨a + 1, S2, by omega, by go_num, HQ6⟩
              case measure => simp [intOf]; omega
        · have g1 : ¬ (a : Int) < 2 := by omega
          have HBW := Lib.hid hQ.out.bel
          clear hQ
          go_wp2_with fail
          refine (awake_any _).mono ?_
          rintro e w9 ⟨rfl, hb9⟩
          have HB9 := Lib.hid (HBW.out.trans (hb9.mono HBW.out.size))
          clear hb9
          go_wp2_with fail
          go_ret
          exact ⟨rfl, HB9.out⟩
end Go.Proofs.Ytmcacmbllpphiaa
