/- The document's own timers: Stop. Conditions: each theorem's own premises. -/
import Derived.Test.YtbpoippgioincaaQtm
namespace Go.Proofs.Ytbpoippgioincaa
open Go.RowKit
set_option linter.unusedVariables false
set_option maxRecDepth 100000
section
variable {B m n : Nat} {w w' : World} {p p' : Option Nat} {S S' : List It} {g g' : Int → Int} {e : Ending} {v : Value}
set_option maxHeartbeats 8000000 in
theorem rstop_no {k : Int} (h : MT B m p n S g w) (hS : Ok n S) (hk : k ∉ ids S) (hl : S.length ≤ 1000) : Calls Try.prog 33 #[.pointer (some ⟨m, 0, none⟩), .int .i64 k] w (MC B m p n S g (.bool false) w) := by
  obtain ⟨A, c, P, c2, Q, rfl, h1, h2⟩ := h
  have hlq : Q.length ≤ 1000 := by rw [h2.len hS.ids]; exact hl
  have hkq : k ∉ ids Q := fun e => hk ((h2.mm k).1 e)
  have HX : Hid (MH [.slice P Q.length c2] 56 B w m n S) := ⟨A, c, h1.mx⟩
  have H1 := Lib.hid h1
  have H2 := Lib.hid h2
  have hml := h1.lt
  clear h1 h2 hS
  go_enter Try.func33, Try.ntmps33
  go_wp2_with fail
  refine (rrem_no HX.out hk hl).mono ?_
  rintro e w1 hr
  obtain ⟨A', c', hy⟩ := H1.out.heap hr (by omega)
  have HK2 := Lib.hid ((KT.of_km (blk P) hr.2.2.1).trans (KT.of_below (blk P) (below_al w1 (.cells #[.int .i64 0, .int .i64 0, .int .i64 0] 39))))
  obtain rfl := hr.1
  have HY := Lib.hid (hy.later (below_al w1 (.cells #[.int .i64 0, .int .i64 0, .int .i64 0] 39)))
  clear hr hy H1 HX hk
  go_upto_region 2 with (fail)
  have e8 : w1.alloc (.cells #[.int .i64 zI.id, .int .i64 zI.w, .int .i64 zI.s] 39) = w1.alloc (.cells #[.int .i64 0, .int .i64 0, .int .i64 0] 39) := rfl
  try rw [e8]
  clear e8
  generalize w1.alloc (.cells #[.int .i64 0, .int .i64 0, .int .i64 0] 39) = w2 at *
  have c2' := HY.out.c2
  go_wp2_with fail
  go_loopw [7] (fun u wr => ∃ j : Nat, j ≤ Q.length ∧ u = .int .i64 j ∧ wr = w2) (fun u _ => Q.length - (intOf u).toNat)
  case atStart => exact ⟨0, by omega, rfl, rfl⟩
  case round =>
    obtain ⟨j, hj, rfl, rfl⟩ := hrel
    by_cases hlt : j < Q.length
    · obtain ⟨y, hyj⟩ := ex_at hlt
      obtain ⟨g9, rfl, hg9, y0, y1⟩ := HY.out.at hyj
      have k1 : (j : Int) < (Q.length : Int) := by omega
      have k0 : (0 : Int) ≤ (j : Int) := by omega
      have b1 : IntKind.i64.wrap ((j : Int) + 1) = (j : Int) + 1 := by rw [IntKind.wrap_i64]; omega
      have k2 : ¬ y.id = k := fun e => hkq (by rw [← e]; exact mem_ids (at_mem hyj))
      clear hyj
      go_wp2_with fail
      go_roundw
      case rel => exact ⟨j + 1, by omega, by go_num, by first | rfl | trivial⟩
      case measure => simp [intOf]; omega
    · obtain rfl : j = Q.length := by omega
      have k1 : ¬ (Q.length : Int) < (Q.length : Int) := by omega
      go_wp2_with fail
      go_ret
      exact ⟨rfl, blk P, ⟨_, _, _, _, _, rfl, HY.out, H2.out⟩, HK2.out⟩
set_option maxHeartbeats 16000000 in
theorem rstop_yes {x : It} (h : MT B m p n S g w) (hS : Ok n S) (hx : x ∈ S) (hl : S.length ≤ 1000) (hB : B ≤ w.heap.size) : Calls Try.prog 33 #[.pointer (some ⟨m, 0, none⟩), .int .i64 x.id] w (MC B m p n (del x.id S) (fput g x.id 0) (.bool true) w) := by
  obtain ⟨A, c, P, c2, Q, rfl, h1, h2⟩ := h
  have hlq : Q.length ≤ 1000 := by rw [h2.len hS.ids]; exact hl
  obtain ⟨q, hq, hql⟩ := mem_at hx
  obtain ⟨i, y, hy, hyk⟩ := ids_mem ((h2.mm x.id).2 (mem_ids hx))
  have hil := at_lt hy
  have HX : Hid (MH [.slice P Q.length c2] 56 B w m n S) := ⟨A, c, h1.mx⟩
  have H1 := Lib.hid h1
  have HPq := Lib.hid (h2.del x.id)
  have HP := Lib.hid (And.intro h2.nd hy)
  have HI := Lib.hid hyk
  have HD : Hid (del x.id Q = Q.take i ++ Q.drop (i + 1)) := by show _ = _; rw [del_at h2.nd hy hyk, List.eraseIdx_eq_take_drop_succ]
  have HS := Lib.hid (And.intro hS.ids hq)
  have hpos : 0 < S.length := by omega
  have hml := h1.lt
  clear h1 h2 hS hx hq hy hyk
  go_enter Try.func33, Try.ntmps33
  go_wp2_with fail
  refine (rrem_yes HX.out HS.out.1 HS.out.2 hl hB).mono ?_
  rintro e w1 hr
  obtain ⟨A', c', hy⟩ := H1.out.heap hr (.inr (.inl hpos))
  have HK2 := Lib.hid ((KT.of_km (blk P) hr.2.2.1).trans (KT.of_below (blk P) (below_al w1 (.cells #[.int .i64 x.id, .int .i64 x.w, .int .i64 x.s] 39))))
  obtain rfl := hr.1
  have HY := Lib.hid (hy.later (below_al w1 (.cells #[.int .i64 x.id, .int .i64 x.w, .int .i64 x.s] 39)))
  clear hr hy H1 HX HS
  go_upto_region 2 with (fail)
  generalize w1.alloc (.cells #[.int .i64 x.id, .int .i64 x.w, .int .i64 x.s] 39) = w2 at *
  have hwn : Wn w2 B P Q.length c2 Q := by
    obtain ⟨A0, c9, hv0, hwn0, -⟩ := Wn.of_own (base := B) rfl HY.out.row
    injection hv0 with e1 e2 e3
    rw [e1, e3]; exact hwn0
  have HW := Lib.hid hwn
  obtain ⟨gw, off, rfl, -, hgw, hc⟩ := hwn.cells (by omega)
  have HC := Lib.hid hc
  have hlc := hwn.2.1
  have hcm := hwn.2.2.1
  clear hwn hc
  generalize hkk : x.id = k at *
  have c2' := HY.out.c2
  go_wp2_with fail
  go_loopw [7] (fun u wr => ∃ j : Nat, j ≤ i ∧ u = .int .i64 j ∧ wr = w2) (fun u _ => Q.length - (intOf u).toNat)
  case atStart => exact ⟨0, by omega, rfl, rfl⟩
  case round =>
    obtain ⟨j, hj, rfl, rfl⟩ := hrel
    generalize wr = w2 at *
    have hlt : j < Q.length := by omega
    obtain ⟨z, hz⟩ := ex_at hlt
    obtain ⟨z0, -, -⟩ := HC.out j z hz
    have k1 : (j : Int) < (Q.length : Int) := by omega
    have k0 : (0 : Int) ≤ (j : Int) := by omega
    have b1 : IntKind.i64.wrap ((j : Int) + 1) = (j : Int) + 1 := by rw [IntKind.wrap_i64]; omega
    by_cases hji : j = i
    · subst hji
      have k2 : z.id = k := by
        have h1 := HP.out.2
        rw [hz] at h1; injection h1 with h1; rw [h1]; exact HI.out
      clear hz
      go_upto_region 6 with (fail)
      clear z0 c2'
      have c2' := HY.out.c2
      have f2 := HY.out.mx.fz 2
      have hm2 := HY.out.lt
      generalize j = i at *
      have p2 : (i : Int) ≤ (c2 : Int) := by omega
      have p3 : (i : Int) + 1 ≤ (Q.length : Int) := by omega
      have p4 : (i : Int) + 1 ≤ (c2 : Int) := by omega
      have p5 : (Q.length : Int) ≤ (c2 : Int) := by omega
      have p6 : (i : Int) ≤ 1000 := by omega
      have hw1 : IntKind.i64.wrap ((i : Int) + 1) = (i : Int) + 1 := by rw [IntKind.wrap_i64]; omega
      have hw2 : (0 : Int) ≤ (i : Int) + 1 := by omega
      have hw3 : ((i : Int) + 1).toNat = i + 1 := by omega
      have e3 := HW.out.drop (k := i + 1) (by omega)
      by_cases hpc : i + 1 < c2
      · have p7 : ¬ c2 = i + 1 := by omega
        have E3 := Lib.hid e3.rd
        clear e3
        have T3 := Lib.hid (HW.out.take (k := i) (by omega)).rd
        have KP : Hid (∀ w', Below w2.heap.size w2 w' → w'.cell? ⟨m, 2, none⟩ = some (.slice (some ⟨gw, off, none⟩) Q.length c2)) := fun w' hb => by
          have h9 := (HY.out.later hb).c2
          skip
          exact h9
        refine but_startQ 19 (fun w' => w'.cell? ⟨m, 2, none⟩ = some (.slice (some ⟨gw, off, none⟩) Q.length c2)) (by kernel_rfl) (by as_aux_lemma => kernel_rfl) ?_
        intro hTidy
        have hHeld := KP.out w2.drew (Below.refl _ _).drew
        change AnyBut _ _ _ _ _ _ 20 _ _ _
        refine but_takeQ (i := 0) (v := ?_) rfl hTidy (by kernel_rfl) (by kernel_rfl) (fun _ _ _ h => h) (Or.inl ⟨by rfl, ?_⟩) hHeld ?_
        rotate_left
        · intro w hSw
          (try dsimp only at hSw)
          go_simp
          try with_reducible rfl
        try simp only [List.getElem_toArray, List.getElem_cons_zero, Act.put, List.setIfInBounds_toArray, List.set_cons_zero, List.set_cons_succ]
        refine but_takeQ (i := 2) (v := ?_) rfl hTidy (by kernel_rfl) (by kernel_rfl) (fun _ _ _ h => h) (Or.inl ⟨by rfl, ?_⟩) hHeld ?_
        rotate_left
        · intro w hSw
          (try dsimp only at hSw)
          go_simp
          try with_reducible rfl
        try simp only [List.getElem_toArray, List.getElem_cons_succ, List.getElem_cons_zero, Act.put, List.setIfInBounds_toArray, List.set_cons_zero, List.set_cons_succ]
        refine but_takeQ (i := 3) (v := ?_) rfl hTidy (by kernel_rfl) (by kernel_rfl) (fun _ _ _ h => h) (Or.inl ⟨by rfl, ?_⟩) hHeld ?_
        rotate_left
        · intro w hSw
          (try dsimp only at hSw)
          go_simp
          try with_reducible rfl
        try simp only [List.getElem_toArray, List.getElem_cons_succ, List.getElem_cons_zero, Act.put, List.setIfInBounds_toArray, List.set_cons_zero, List.set_cons_succ]
        refine but_takeQ (i := 4) (v := ?_) rfl hTidy (by kernel_rfl) (by kernel_rfl) (fun _ _ _ h => h) (Or.inl ⟨by rfl, ?_⟩) hHeld ?_
        rotate_left
        · intro w hSw
          (try dsimp only at hSw)
          go_simp
          try with_reducible rfl
        try simp only [List.getElem_toArray, List.getElem_cons_succ, List.getElem_cons_zero, Act.put, List.setIfInBounds_toArray, List.set_cons_zero, List.set_cons_succ]
        refine but_takeQ (i := 5) (v := ?_) rfl hTidy (by kernel_rfl) (by kernel_rfl) (fun _ _ _ h => h) (Or.inl ⟨by rfl, ?_⟩) hHeld ?_
        rotate_left
        · intro w hSw
          (try dsimp only at hSw)
          go_simp
          try with_reducible rfl
        try simp only [List.getElem_toArray, List.getElem_cons_succ, List.getElem_cons_zero, Act.put, List.setIfInBounds_toArray, List.set_cons_zero, List.set_cons_succ]
        refine but_takeQ (i := 6) (v := ?_) rfl hTidy (by kernel_rfl) (by kernel_rfl) (fun _ _ _ h => h) (Or.inl ⟨by rfl, ?_⟩) hHeld ?_
        rotate_left
        · intro w hSw
          (try dsimp only at hSw)
          go_simp
          try with_reducible rfl
        try simp only [List.getElem_toArray, List.getElem_cons_succ, List.getElem_cons_zero, Act.put, List.setIfInBounds_toArray, List.set_cons_zero, List.set_cons_succ]
        refine but_takeQ (i := 7) (v := ?_) rfl hTidy (by kernel_rfl) (by kernel_rfl) (fun _ _ _ h => h) (Or.inl ⟨by rfl, ?_⟩) hHeld ?_
        rotate_left
        · intro w hSw
          (try dsimp only at hSw)
          go_simp
          try with_reducible rfl
        try simp only [List.getElem_toArray, List.getElem_cons_succ, List.getElem_cons_zero, Act.put, List.setIfInBounds_toArray, List.set_cons_zero, List.set_cons_succ]
        refine but_takeQ (i := 9) (v := ?_) rfl hTidy (by kernel_rfl) (by kernel_rfl) (fun _ _ _ h => h) (Or.inl ⟨by rfl, ?_⟩) hHeld ?_
        rotate_left
        · intro w hSw
          (try dsimp only at hSw)
          go_simp
          try with_reducible rfl
        try simp only [List.getElem_toArray, List.getElem_cons_succ, List.getElem_cons_zero, Act.put, List.setIfInBounds_toArray, List.set_cons_zero, List.set_cons_succ]
        refine but_takeQ (i := 10) (v := ?_) rfl hTidy (by kernel_rfl) (by kernel_rfl) (fun _ _ _ h => h) (Or.inl ⟨by rfl, ?_⟩) hHeld ?_
        rotate_left
        · intro w hSw
          (try dsimp only at hSw)
          go_simp
          try with_reducible rfl
        try simp only [List.getElem_toArray, List.getElem_cons_succ, List.getElem_cons_zero, Act.put, List.setIfInBounds_toArray, List.set_cons_zero, List.set_cons_succ]
        refine but_takeQ (i := 11) (v := ?_) rfl hTidy (by kernel_rfl) (by kernel_rfl) (fun _ _ _ h => h) (Or.inl ⟨by rfl, ?_⟩) hHeld ?_
        rotate_left
        · intro w hSw
          (try dsimp only at hSw)
          go_simp
          try with_reducible rfl
        try simp only [List.getElem_toArray, List.getElem_cons_succ, List.getElem_cons_zero, Act.put, List.setIfInBounds_toArray, List.set_cons_zero, List.set_cons_succ]
        refine but_takeQ (i := 12) (v := ?_) rfl hTidy (by kernel_rfl) (by kernel_rfl) (fun _ _ _ h => h) (Or.inl ⟨by rfl, ?_⟩) hHeld ?_
        rotate_left
        · intro w hSw
          (try dsimp only at hSw)
          go_simp
          try with_reducible rfl
        try simp only [List.getElem_toArray, List.getElem_cons_succ, List.getElem_cons_zero, Act.put, List.setIfInBounds_toArray, List.set_cons_zero, List.set_cons_succ]
        refine but_takeQ (i := 13) (v := ?_) rfl hTidy (by kernel_rfl) (by kernel_rfl) (fun _ _ _ h => h) (Or.inl ⟨by rfl, ?_⟩) hHeld ?_
        rotate_left
        · intro w hSw
          (try dsimp only at hSw)
          go_simp
          try with_reducible rfl
        try simp only [List.getElem_toArray, List.getElem_cons_succ, List.getElem_cons_zero, Act.put, List.setIfInBounds_toArray, List.set_cons_zero, List.set_cons_succ]
        refine but_takeQ (i := 14) (v := ?_) rfl hTidy (by kernel_rfl) (by kernel_rfl) (fun _ _ _ h => h) (Or.inl ⟨by rfl, ?_⟩) hHeld ?_
        rotate_left
        · intro w hSw
          (try dsimp only at hSw)
          go_simp
          try with_reducible rfl
        try simp only [List.getElem_toArray, List.getElem_cons_succ, List.getElem_cons_zero, Act.put, List.setIfInBounds_toArray, List.set_cons_zero, List.set_cons_succ]
        refine but_takeQ (i := 15) (v := ?_) rfl hTidy (by kernel_rfl) (by kernel_rfl) (fun _ _ _ h => h) (Or.inl ⟨by rfl, ?_⟩) hHeld ?_
        rotate_left
        · intro w hSw
          (try dsimp only at hSw)
          go_simp
          try with_reducible rfl
        try simp only [List.getElem_toArray, List.getElem_cons_succ, List.getElem_cons_zero, Act.put, List.setIfInBounds_toArray, List.set_cons_zero, List.set_cons_succ]
        clear hHeld
        refine but_one (i := 1) (by kernel_rfl) rfl ?_
        intro K hK
        go_simp
        refine hK _ _ (fun _ => KP.out _ (by repeat' (first | exact Below.refl _ _ | (with_reducible assumption) | refine Below.drew ?_ | refine Below.alloc ?_ (by first | omega | (simp <;> omega)) _))) ?_
        clear hK K
        try simp only [List.getElem_toArray, List.getElem_cons_succ, List.getElem_cons_zero, Act.put, List.setIfInBounds_toArray, List.set_cons_zero, List.set_cons_succ]
        refine but_one (i := 8) (by kernel_rfl) rfl ?_
        intro K hK
        refine step_copy (w2 := w2) rfl (.tmp 36) (.tmp 42) rfl _ (some ⟨gw, off, none⟩) i c2 (Q.take i) (by rfl) (by rfl) (by first | exact heap_e1 _ | exact heap_e2 _ _ | exact heap_e3 _ _) (by first | omega | (simp <;> omega)) (by repeat' (first | exact Below.refl _ _ | (with_reducible assumption) | refine Below.drew ?_ | refine Below.alloc ?_ (by first | omega | (simp <;> omega)) _)) T3.out (by omega) ?_; intro v7 w7 ho7 hb7 hg7; have HO7 := Lib.hid ho7; have hs7 := hb7.size; clear ho7
        refine hK _ _ (fun _ => KP.out _ (by repeat' (first | exact Below.refl _ _ | (with_reducible assumption) | refine Below.drew ?_ | refine Below.alloc ?_ (by first | omega | (simp <;> omega)) _))) ?_
        clear hK K
        try simp only [List.getElem_toArray, List.getElem_cons_succ, List.getElem_cons_zero, Act.put, List.setIfInBounds_toArray, List.set_cons_zero, List.set_cons_succ]
        refine but_one (i := 16) (by kernel_rfl) rfl ?_
        intro K hK
        refine step_more (w2 := w2) rfl (.tmp 43) (.tmp 50) rfl v7 (some ⟨gw, off + (i + 1) * 3, none⟩) i (Q.length - (i + 1)) (c2 - (i + 1)) (Q.take i) (Q.drop (i + 1)) (by rfl) (by rfl) HO7.out hb7 (E3.out.later hb7) (by omega) (by omega) ?_; intro v9 w9 ho9 hb9; obtain ⟨A9, k9, hv9, _, _⟩ := own_cap ho9; subst hv9; have hx9 := HY.out.later hb9; have c09 := hx9.c2; have f9 := hx9.mx.fz 2; have hl9 := hx9.lt; have HF := Lib.hid (MY.other HY.out hb9 ho9 (by simp only [List.length_append, List.length_take, List.length_drop]; omega)); clear ho9 hx9
        refine hK _ _ (fun _ => KP.out _ (by repeat' (first | exact Below.refl _ _ | (with_reducible assumption) | refine Below.drew ?_ | refine Below.alloc ?_ (by first | omega | (simp <;> omega)) _))) ?_
        clear hK K
        try simp only [List.getElem_toArray, List.getElem_cons_succ, List.getElem_cons_zero, Act.put, List.setIfInBounds_toArray, List.set_cons_zero, List.set_cons_succ]
        refine but_one (i := 17) (by kernel_rfl) rfl ?_
        intro K hK
        go_simp
        refine hK _ _ (fun _ => KP.out _ (by repeat' (first | exact Below.refl _ _ | (with_reducible assumption) | refine Below.drew ?_ | refine Below.alloc ?_ (by first | omega | (simp <;> omega)) _))) ?_
        clear hK K
        try simp only [List.getElem_toArray, List.getElem_cons_succ, List.getElem_cons_zero, Act.put, List.setIfInBounds_toArray, List.set_cons_zero, List.set_cons_succ]
        refine but_one (i := 18) (by kernel_rfl) rfl ?_
        intro K hK
        go_simp
        refine hK _ _ (fun _ => KP.out _ (by repeat' (first | exact Below.refl _ _ | (with_reducible assumption) | refine Below.drew ?_ | refine Below.alloc ?_ (by first | omega | (simp <;> omega)) _))) ?_
        clear hK K
        try simp only [List.getElem_toArray, List.getElem_cons_succ, List.getElem_cons_zero, Act.put, List.setIfInBounds_toArray, List.set_cons_zero, List.set_cons_succ]
        refine but_one (i := 19) (by kernel_rfl) rfl ?_
        intro K hK
        go_simp
        refine hK _ _ (fun h => absurd rfl h) ?_
        clear hK K
        try simp only [List.getElem_toArray, List.getElem_cons_succ, List.getElem_cons_zero, Act.put, List.setIfInBounds_toArray, List.set_cons_zero, List.set_cons_succ]
        refine but_done (by kernel_rfl) ?_
        clear hTidy KP T3 E3
        go_wp2_with fail
        go_ret
        rw [← HD.out] at HF
        exact ⟨rfl, blk A9, ⟨_, _, _, _, _, rfl, HF.out.1, HPq.out⟩, HK2.out.trans HF.out.2⟩
      · obtain rfl : c2 = i + 1 := by omega
        have hQ0 : Q.length = i + 1 := by omega
        have E3 : Hid (RdI w2 (some ⟨gw, off, none⟩) 0 (Q.drop (i + 1))) := by rw [List.drop_eq_nil_of_le (by omega)]; exact RdI.nil _ _
        have hw4 : (i : Int) ≤ (i : Int) + 1 := by omega
        clear e3 p2 p3 p4 p5
        rw [hQ0] at c2'
        have T3 := Lib.hid (HW.out.take (k := i) (by omega)).rd
        have KP : Hid (∀ w', Below w2.heap.size w2 w' → w'.cell? ⟨m, 2, none⟩ = some (.slice (some ⟨gw, off, none⟩) (i + 1) (i + 1))) := fun w' hb => by
          have h9 := (HY.out.later hb).c2
          rw [hQ0] at h9
          exact h9
        refine but_startQ 19 (fun w' => w'.cell? ⟨m, 2, none⟩ = some (.slice (some ⟨gw, off, none⟩) (i + 1) (i + 1))) (by kernel_rfl) (by as_aux_lemma => kernel_rfl) ?_
        intro hTidy
        have hHeld := KP.out w2.drew (Below.refl _ _).drew
        change AnyBut _ _ _ _ _ _ 20 _ _ _
        refine but_takeQ (i := 0) (v := ?_) rfl hTidy (by kernel_rfl) (by kernel_rfl) (fun _ _ _ h => h) (Or.inl ⟨by rfl, ?_⟩) hHeld ?_
        rotate_left
        · intro w hSw
          (try dsimp only at hSw)
          go_simp
          try with_reducible rfl
        try simp only [List.getElem_toArray, List.getElem_cons_zero, Act.put, List.setIfInBounds_toArray, List.set_cons_zero, List.set_cons_succ]
        refine but_takeQ (i := 2) (v := ?_) rfl hTidy (by kernel_rfl) (by kernel_rfl) (fun _ _ _ h => h) (Or.inl ⟨by rfl, ?_⟩) hHeld ?_
        rotate_left
        · intro w hSw
          (try dsimp only at hSw)
          go_simp
          try with_reducible rfl
        try simp only [List.getElem_toArray, List.getElem_cons_succ, List.getElem_cons_zero, Act.put, List.setIfInBounds_toArray, List.set_cons_zero, List.set_cons_succ]
        refine but_takeQ (i := 3) (v := ?_) rfl hTidy (by kernel_rfl) (by kernel_rfl) (fun _ _ _ h => h) (Or.inl ⟨by rfl, ?_⟩) hHeld ?_
        rotate_left
        · intro w hSw
          (try dsimp only at hSw)
          go_simp
          try with_reducible rfl
        try simp only [List.getElem_toArray, List.getElem_cons_succ, List.getElem_cons_zero, Act.put, List.setIfInBounds_toArray, List.set_cons_zero, List.set_cons_succ]
        refine but_takeQ (i := 4) (v := ?_) rfl hTidy (by kernel_rfl) (by kernel_rfl) (fun _ _ _ h => h) (Or.inl ⟨by rfl, ?_⟩) hHeld ?_
        rotate_left
        · intro w hSw
          (try dsimp only at hSw)
          go_simp
          try with_reducible rfl
        try simp only [List.getElem_toArray, List.getElem_cons_succ, List.getElem_cons_zero, Act.put, List.setIfInBounds_toArray, List.set_cons_zero, List.set_cons_succ]
        refine but_takeQ (i := 5) (v := ?_) rfl hTidy (by kernel_rfl) (by kernel_rfl) (fun _ _ _ h => h) (Or.inl ⟨by rfl, ?_⟩) hHeld ?_
        rotate_left
        · intro w hSw
          (try dsimp only at hSw)
          go_simp
          try with_reducible rfl
        try simp only [List.getElem_toArray, List.getElem_cons_succ, List.getElem_cons_zero, Act.put, List.setIfInBounds_toArray, List.set_cons_zero, List.set_cons_succ]
        refine but_takeQ (i := 6) (v := ?_) rfl hTidy (by kernel_rfl) (by kernel_rfl) (fun _ _ _ h => h) (Or.inl ⟨by rfl, ?_⟩) hHeld ?_
        rotate_left
        · intro w hSw
          (try dsimp only at hSw)
          go_simp
          try with_reducible rfl
        try simp only [List.getElem_toArray, List.getElem_cons_succ, List.getElem_cons_zero, Act.put, List.setIfInBounds_toArray, List.set_cons_zero, List.set_cons_succ]
        refine but_takeQ (i := 7) (v := ?_) rfl hTidy (by kernel_rfl) (by kernel_rfl) (fun _ _ _ h => h) (Or.inl ⟨by rfl, ?_⟩) hHeld ?_
        rotate_left
        · intro w hSw
          (try dsimp only at hSw)
          go_simp
          try with_reducible rfl
        try simp only [List.getElem_toArray, List.getElem_cons_succ, List.getElem_cons_zero, Act.put, List.setIfInBounds_toArray, List.set_cons_zero, List.set_cons_succ]
        refine but_takeQ (i := 9) (v := ?_) rfl hTidy (by kernel_rfl) (by kernel_rfl) (fun _ _ _ h => h) (Or.inl ⟨by rfl, ?_⟩) hHeld ?_
        rotate_left
        · intro w hSw
          (try dsimp only at hSw)
          go_simp
          try with_reducible rfl
        try simp only [List.getElem_toArray, List.getElem_cons_succ, List.getElem_cons_zero, Act.put, List.setIfInBounds_toArray, List.set_cons_zero, List.set_cons_succ]
        refine but_takeQ (i := 10) (v := ?_) rfl hTidy (by kernel_rfl) (by kernel_rfl) (fun _ _ _ h => h) (Or.inl ⟨by rfl, ?_⟩) hHeld ?_
        rotate_left
        · intro w hSw
          (try dsimp only at hSw)
          go_simp
          try with_reducible rfl
        try simp only [List.getElem_toArray, List.getElem_cons_succ, List.getElem_cons_zero, Act.put, List.setIfInBounds_toArray, List.set_cons_zero, List.set_cons_succ]
        refine but_takeQ (i := 11) (v := ?_) rfl hTidy (by kernel_rfl) (by kernel_rfl) (fun _ _ _ h => h) (Or.inl ⟨by rfl, ?_⟩) hHeld ?_
        rotate_left
        · intro w hSw
          (try dsimp only at hSw)
          go_simp
          try with_reducible rfl
        try simp only [List.getElem_toArray, List.getElem_cons_succ, List.getElem_cons_zero, Act.put, List.setIfInBounds_toArray, List.set_cons_zero, List.set_cons_succ]
        refine but_takeQ (i := 12) (v := ?_) rfl hTidy (by kernel_rfl) (by kernel_rfl) (fun _ _ _ h => h) (Or.inl ⟨by rfl, ?_⟩) hHeld ?_
        rotate_left
        · intro w hSw
          (try dsimp only at hSw)
          go_simp
          try with_reducible rfl
        try simp only [List.getElem_toArray, List.getElem_cons_succ, List.getElem_cons_zero, Act.put, List.setIfInBounds_toArray, List.set_cons_zero, List.set_cons_succ]
        refine but_takeQ (i := 13) (v := ?_) rfl hTidy (by kernel_rfl) (by kernel_rfl) (fun _ _ _ h => h) (Or.inl ⟨by rfl, ?_⟩) hHeld ?_
        rotate_left
        · intro w hSw
          (try dsimp only at hSw)
          go_simp
          try with_reducible rfl
        try simp only [List.getElem_toArray, List.getElem_cons_succ, List.getElem_cons_zero, Act.put, List.setIfInBounds_toArray, List.set_cons_zero, List.set_cons_succ]
        refine but_takeQ (i := 14) (v := ?_) rfl hTidy (by kernel_rfl) (by kernel_rfl) (fun _ _ _ h => h) (Or.inl ⟨by rfl, ?_⟩) hHeld ?_
        rotate_left
        · intro w hSw
          (try dsimp only at hSw)
          go_simp
          try with_reducible rfl
        try simp only [List.getElem_toArray, List.getElem_cons_succ, List.getElem_cons_zero, Act.put, List.setIfInBounds_toArray, List.set_cons_zero, List.set_cons_succ]
        refine but_takeQ (i := 15) (v := ?_) rfl hTidy (by kernel_rfl) (by kernel_rfl) (fun _ _ _ h => h) (Or.inl ⟨by rfl, ?_⟩) hHeld ?_
        rotate_left
        · intro w hSw
          (try dsimp only at hSw)
          go_simp
          try with_reducible rfl
        try simp only [List.getElem_toArray, List.getElem_cons_succ, List.getElem_cons_zero, Act.put, List.setIfInBounds_toArray, List.set_cons_zero, List.set_cons_succ]
        clear hHeld
        refine but_one (i := 1) (by kernel_rfl) rfl ?_
        intro K hK
        go_simp
        refine hK _ _ (fun _ => KP.out _ (by repeat' (first | exact Below.refl _ _ | (with_reducible assumption) | refine Below.drew ?_ | refine Below.alloc ?_ (by first | omega | (simp <;> omega)) _))) ?_
        clear hK K
        try simp only [List.getElem_toArray, List.getElem_cons_succ, List.getElem_cons_zero, Act.put, List.setIfInBounds_toArray, List.set_cons_zero, List.set_cons_succ]
        refine but_one (i := 8) (by kernel_rfl) rfl ?_
        intro K hK
        refine step_copy (w2 := w2) rfl (.tmp 36) (.tmp 42) rfl _ (some ⟨gw, off, none⟩) i (i + 1) (Q.take i) (by rfl) (by rfl) (by first | exact heap_e1 _ | exact heap_e2 _ _ | exact heap_e3 _ _) (by first | omega | (simp <;> omega)) (by repeat' (first | exact Below.refl _ _ | (with_reducible assumption) | refine Below.drew ?_ | refine Below.alloc ?_ (by first | omega | (simp <;> omega)) _)) T3.out (by omega) ?_; intro v7 w7 ho7 hb7 hg7; have HO7 := Lib.hid ho7; have hs7 := hb7.size; clear ho7
        refine hK _ _ (fun _ => KP.out _ (by repeat' (first | exact Below.refl _ _ | (with_reducible assumption) | refine Below.drew ?_ | refine Below.alloc ?_ (by first | omega | (simp <;> omega)) _))) ?_
        clear hK K
        try simp only [List.getElem_toArray, List.getElem_cons_succ, List.getElem_cons_zero, Act.put, List.setIfInBounds_toArray, List.set_cons_zero, List.set_cons_succ]
        refine but_one (i := 16) (by kernel_rfl) rfl ?_
        intro K hK
        refine step_more (w2 := w2) rfl (.tmp 43) (.tmp 50) rfl v7 (some ⟨gw, off, none⟩) i (0) (0) (Q.take i) (Q.drop (i + 1)) (by rfl) (by rfl) HO7.out hb7 (E3.out.later hb7) (by omega) (by omega) ?_; intro v9 w9 ho9 hb9; obtain ⟨A9, k9, hv9, _, _⟩ := own_cap ho9; subst hv9; have hx9 := HY.out.later hb9; have c09 := hx9.c2; have f9 := hx9.mx.fz 2; have hl9 := hx9.lt; have HF := Lib.hid (MY.other HY.out hb9 ho9 (by simp only [List.length_append, List.length_take, List.length_drop]; omega)); clear ho9 hx9
        refine hK _ _ (fun _ => KP.out _ (by repeat' (first | exact Below.refl _ _ | (with_reducible assumption) | refine Below.drew ?_ | refine Below.alloc ?_ (by first | omega | (simp <;> omega)) _))) ?_
        clear hK K
        try simp only [List.getElem_toArray, List.getElem_cons_succ, List.getElem_cons_zero, Act.put, List.setIfInBounds_toArray, List.set_cons_zero, List.set_cons_succ]
        refine but_one (i := 17) (by kernel_rfl) rfl ?_
        intro K hK
        go_simp
        refine hK _ _ (fun _ => KP.out _ (by repeat' (first | exact Below.refl _ _ | (with_reducible assumption) | refine Below.drew ?_ | refine Below.alloc ?_ (by first | omega | (simp <;> omega)) _))) ?_
        clear hK K
        try simp only [List.getElem_toArray, List.getElem_cons_succ, List.getElem_cons_zero, Act.put, List.setIfInBounds_toArray, List.set_cons_zero, List.set_cons_succ]
        refine but_one (i := 18) (by kernel_rfl) rfl ?_
        intro K hK
        go_simp
        refine hK _ _ (fun _ => KP.out _ (by repeat' (first | exact Below.refl _ _ | (with_reducible assumption) | refine Below.drew ?_ | refine Below.alloc ?_ (by first | omega | (simp <;> omega)) _))) ?_
        clear hK K
        try simp only [List.getElem_toArray, List.getElem_cons_succ, List.getElem_cons_zero, Act.put, List.setIfInBounds_toArray, List.set_cons_zero, List.set_cons_succ]
        refine but_one (i := 19) (by kernel_rfl) rfl ?_
        intro K hK
        go_simp
        refine hK _ _ (fun h => absurd rfl h) ?_
        clear hK K
        try simp only [List.getElem_toArray, List.getElem_cons_succ, List.getElem_cons_zero, Act.put, List.setIfInBounds_toArray, List.set_cons_zero, List.set_cons_succ]
        refine but_done (by kernel_rfl) ?_
        clear hTidy KP T3 E3
        go_wp2_with fail
        go_ret
        rw [← HD.out] at HF
        exact ⟨rfl, blk A9, ⟨_, _, _, _, _, rfl, HF.out.1, HPq.out⟩, HK2.out.trans HF.out.2⟩
    · have k2 : ¬ z.id = k := fun e => hji (ids_inj HP.out.1 hz HP.out.2 (e.trans HI.out.symm))
      clear hz
      go_wp2_with fail
      go_roundw
      case rel => exact ⟨j + 1, by omega, by go_num, by first | rfl | trivial⟩
      case measure => simp [intOf]; omega
end
end Go.Proofs.Ytbpoippgioincaa
