/- The walk of ExpireActs. Condition: the list of acts reads as it came. -/
import Derived.Test.YtbpoippgioincaaStx
import Derived.Test.YtbpoippgioincaaOpz
import Derived.Test.YtbpoippgioincaaAwt
import Derived.Deep.CutRange
import Derived.Deep.DeepCutAuto
import Derived.Deep.CutBlock
namespace Go.Proofs.Ytbpoippgioincaa
open Go.RowKit
set_option linter.unusedVariables false
set_option maxRecDepth 100000
theorem AZ.run {W w : World} {t m n n2 N n' f : Nat} {S S2 S' : List It} {g g2 g' : Int → Int} {kd id wh pe : Int} {v : Value} {args : Array Value} (h : AZ W t m n S g n2 S2 g2 N kd id wh pe w) (hc : Calls Try.prog f args w (XR W.heap.size t (W.heap.size + 1) W.heap.size (W.heap.size + 2) n' S' g' v w)) :
    Calls Try.prog f args w (fun e w' => e = .returned v ∧ AZ W t m n' S' g' n2 S2 g2 N kd id wh pe w' ∧ OX w w') :=
  hc.mono fun _ _ x => by
    obtain ⟨h1, h2, h3⟩ := h.st.go x
    exact ⟨h1, ⟨h2, by obtain ⟨p, hp⟩ := h.mt; exact ⟨p, hp.ot h3⟩, h3 N _ 58 (0, 0) h.ab (by decide) (by decide)⟩, h3⟩
theorem MT.start (w : World) {B : Nat} (h : B ≤ w.heap.size) : MT B w.heap.size none 0 [] (fun _ => 0) (w.alloc (.cells #[.slice none 0 0, .int .i64 0, .slice none 0 0] 56)) :=
  ⟨none, 0, none, 0, [], rfl, ⟨⟨heap_alloc_new w _, Wn.nil _ _ _ _ (by omega), h, .inl ⟨rfl, rfl⟩, by decide, by decide, by decide⟩, World.ownsRow_nil _ _ _ _, fun h0 => absurd h0 (by simp)⟩, List.nodup_nil, fun k => Iff.rfl, fun x h => (by cases h)⟩
theorem eacts_out (A1 : Option Addr) (n1 c1 : Nat) (W : World) (h : 100 < n1) : Calls Try.prog 4 #[.slice A1 n1 c1] W (BoolR true W) := by
  have d1 : (100 : Int) < (n1 : Int) := by omega
  go_enter Try.func4, Try.ntmps4
  go_wp2_with fail
  refine (awaket_any W).mono ?_
  rintro e w' ⟨rfl, hb⟩
  have HB := Lib.hid hb
  clear hb
  go_wp2_with fail
  go_ret
  exact ⟨rfl, HB.out⟩
set_option maxHeartbeats 16000000 in
theorem eacts_in (A1 : Option Addr) (n1 c1 : Nat) (l1 : List Ac) (W : World) (h1 : RdA W A1 n1 l1) (hwf : ∀ a ∈ l1, Wf a.id) (hn1 : n1 ≤ 100) : Calls Try.prog 4 #[.slice A1 n1 c1] W (BoolR true W) := by
  have b2 : (n1 : Int) ≤ 100 := by omega
  have R1 := Lib.hid h1
  have RW := Lib.hid hwf
  clear h1 hwf
  go_enter Try.func4, Try.ntmps4
  go_wp2_with fail
  refine (xs_new (Below.refl _ W)).mono ?_
  rintro e w0 ⟨rfl, h0, -⟩
  have HS0 : Hid (XS W (W.heap.size + 3) (W.heap.size + 1) W.heap.size (W.heap.size + 2) 0 [] (fun _ => 0) (w0.alloc (.cells #[.slice none 0 0, .int .i64 0, .slice none 0 0] 56)) ∧ (∃ p, MT W.heap.size w0.heap.size p 0 [] (fun _ => 0) (w0.alloc (.cells #[.slice none 0 0, .int .i64 0, .slice none 0 0] 56))) ∧ Inv 0 [] (fun _ => 0)) := ⟨h0.box _, ⟨_, MT.start w0 h0.bel.size⟩, Inv.start⟩
  clear h0
  go_wp2_with fail
  generalize w0.alloc (.cells #[.slice none 0 0, .int .i64 0, .slice none 0 0] 56) = w1 at *
  generalize w0.heap.size = m at *
  generalize W.heap.size + 3 = t at *
  go_loopw [5] (fun i wr => ∃ (k n : Nat) (S : List It) (g : Int → Int), k ≤ n1 ∧ n ≤ k ∧ S.length ≤ k ∧ i = .int .i64 k ∧ Hid (XS W t (W.heap.size + 1) W.heap.size (W.heap.size + 2) n S g wr ∧ (∃ p, MT W.heap.size m p n S g wr) ∧ Inv n S g)) (fun i _ => n1 - (intOf i).toNat)
  case atStart => exact ⟨0, 0, [], fun _ => 0, by omega, by omega, by simp, rfl, HS0⟩
  case round =>
    clear HS0
    obtain ⟨k, n, S, g, hk, hnk, hsk, rfl, hS⟩ := hrel
    by_cases hlt : k < n1
    · obtain ⟨bb, off, ⟨kd, id, wh, pe⟩, rfl, hbb, hak, c0, c1', c2, c3⟩ := R1.out.cells hS.out.1.bel hlt
      have HWF : Hid (Wf id) := RW.out _ (at_mem hak)
      simp only at c0 c1' c2 c3
      have k1 : (k : Int) < (n1 : Int) := by omega
      have HA : Hid (AZ W t m n S g n S g wr.heap.size kd id wh pe (wr.alloc (.cells #[.int .i64 kd, .int .i64 id, .int .i64 wh, .int .i64 pe] 58)) ∧ Inv n S g) := ⟨⟨hS.out.1.box _, by obtain ⟨p, hp⟩ := hS.out.2.1; exact ⟨p, hp.later (below_al _ _)⟩, heap_alloc_new _ _⟩, hS.out.2.2⟩
      clear hS hak
      go_upto_block 2 with (fail)
      clear c0 c1' c2 c3
      generalize wr.alloc (.cells #[.int .i64 kd, .int .i64 id, .int .i64 wh, .int .i64 pe] 58) = w2 at *
      generalize wr.heap.size = N at *
      obtain ⟨a0, a1, a2, a3⟩ := HA.out.1.cells
      have hle : n ≤ 1000000 ∧ S.length ≤ 900 := by omega
      go_cut [6] (fun s6 wx => ∃ (n' : Nat) (S' : List It) (g' : Int → Int), s6 = .pointer (some ⟨N, 0, none⟩) ∧ n' ≤ k + 1 ∧ S'.length ≤ k + 1 ∧ Hid (AZ W t m n' S' g' n' S' g' N kd id wh pe wx ∧ Inv n' S' g'))
      case first =>
        by_cases e1 : kd = 1
        · subst e1
          as_aux_lemma =>
            obtain ⟨v, n', S', g', hn', hl', hI', hb⟩ := arm_both id wh pe HA.out.2 HWF.out hle.1 hle.2
            have HB := Lib.hid hb
            have HI := Lib.hid hI'
            clear hb hI'
            go_wp2_with fail
            have A2 := Lib.hid (HA.out.1.later (Below.refl _ _).drew)
            clear a0 a1 a2 a3
            have HP := Lib.hid (A2.out.prog HB.out)
            clear HA
            refine but_startQ 1000 (fun w' => w'.cell? ⟨N, 1, none⟩ = some (.int .i64 id) ∧ w'.cell? ⟨N, 2, none⟩ = some (.int .i64 wh) ∧ w'.cell? ⟨N, 3, none⟩ = some (.int .i64 pe)) (by kernel_rfl) (by as_aux_lemma => kernel_rfl) ?_
            intro hTidy
            have hHeld := (show w2.drew.cell? ⟨N, 1, none⟩ = some (.int .i64 id) ∧ w2.drew.cell? ⟨N, 2, none⟩ = some (.int .i64 wh) ∧ w2.drew.cell? ⟨N, 3, none⟩ = some (.int .i64 pe) from ⟨A2.out.cells.2.1, A2.out.cells.2.2.1, A2.out.cells.2.2.2⟩)
            change AnyBut _ _ _ _ _ _ 17 _ _ _
            refine but_takeQ (i := 0) (v := ?_) rfl hTidy (by kernel_rfl) (by kernel_rfl) (fun _ _ _ h => h) (Or.inl ⟨by rfl, ?_⟩) hHeld ?_
            rotate_left
            · intro w hSw
              (try dsimp only at hSw)
              go_split_ands
              go_simp
              try with_reducible rfl
            try simp only [List.getElem_toArray, List.getElem_cons_zero, Act.put, List.setIfInBounds_toArray, List.set_cons_zero, List.set_cons_succ]
            refine but_takeQ (i := 1) (v := ?_) rfl hTidy (by kernel_rfl) (by kernel_rfl) (fun _ _ _ h => h) (Or.inl ⟨by rfl, ?_⟩) hHeld ?_
            rotate_left
            · intro w hSw
              (try dsimp only at hSw)
              go_split_ands
              go_simp
              try with_reducible rfl
            try simp only [List.getElem_toArray, List.getElem_cons_succ, List.getElem_cons_zero, Act.put, List.setIfInBounds_toArray, List.set_cons_zero, List.set_cons_succ]
            refine but_takeQ (i := 2) (v := ?_) rfl hTidy (by kernel_rfl) (by kernel_rfl) (fun _ _ _ h => h) (Or.inl ⟨by rfl, ?_⟩) hHeld ?_
            rotate_left
            · intro w hSw
              (try dsimp only at hSw)
              go_split_ands
              go_simp
              try with_reducible rfl
            try simp only [List.getElem_toArray, List.getElem_cons_succ, List.getElem_cons_zero, Act.put, List.setIfInBounds_toArray, List.set_cons_zero, List.set_cons_succ]
            refine but_takeQ (i := 3) (v := ?_) rfl hTidy (by kernel_rfl) (by kernel_rfl) (fun _ _ _ h => h) (Or.inl ⟨by rfl, ?_⟩) hHeld ?_
            rotate_left
            · intro w hSw
              (try dsimp only at hSw)
              go_split_ands
              go_simp
              try with_reducible rfl
            try simp only [List.getElem_toArray, List.getElem_cons_succ, List.getElem_cons_zero, Act.put, List.setIfInBounds_toArray, List.set_cons_zero, List.set_cons_succ]
            refine but_takeQ (i := 4) (v := ?_) rfl hTidy (by kernel_rfl) (by kernel_rfl) (fun _ _ _ h => h) (Or.inl ⟨by rfl, ?_⟩) hHeld ?_
            rotate_left
            · intro w hSw
              (try dsimp only at hSw)
              go_split_ands
              go_simp
              try with_reducible rfl
            try simp only [List.getElem_toArray, List.getElem_cons_succ, List.getElem_cons_zero, Act.put, List.setIfInBounds_toArray, List.set_cons_zero, List.set_cons_succ]
            refine but_takeQ (i := 5) (v := ?_) rfl hTidy (by kernel_rfl) (by kernel_rfl) (fun _ _ _ h => h) (Or.inl ⟨by rfl, ?_⟩) hHeld ?_
            rotate_left
            · intro w hSw
              (try dsimp only at hSw)
              go_split_ands
              go_simp
              try with_reducible rfl
            try simp only [List.getElem_toArray, List.getElem_cons_succ, List.getElem_cons_zero, Act.put, List.setIfInBounds_toArray, List.set_cons_zero, List.set_cons_succ]
            refine but_takeQ (i := 6) (v := ?_) rfl hTidy (by kernel_rfl) (by kernel_rfl) (fun _ _ _ h => h) (Or.inl ⟨by rfl, ?_⟩) hHeld ?_
            rotate_left
            · intro w hSw
              (try dsimp only at hSw)
              go_split_ands
              go_simp
              try with_reducible rfl
            try simp only [List.getElem_toArray, List.getElem_cons_succ, List.getElem_cons_zero, Act.put, List.setIfInBounds_toArray, List.set_cons_zero, List.set_cons_succ]
            refine but_takeQ (i := 8) (v := ?_) rfl hTidy (by kernel_rfl) (by kernel_rfl) (fun _ _ _ h => h) (Or.inl ⟨by rfl, ?_⟩) hHeld ?_
            rotate_left
            · intro w hSw
              (try dsimp only at hSw)
              go_split_ands
              go_simp
              try with_reducible rfl
            try simp only [List.getElem_toArray, List.getElem_cons_succ, List.getElem_cons_zero, Act.put, List.setIfInBounds_toArray, List.set_cons_zero, List.set_cons_succ]
            refine but_takeQ (i := 9) (v := ?_) rfl hTidy (by kernel_rfl) (by kernel_rfl) (fun _ _ _ h => h) (Or.inl ⟨by rfl, ?_⟩) hHeld ?_
            rotate_left
            · intro w hSw
              (try dsimp only at hSw)
              go_split_ands
              go_simp
              try with_reducible rfl
            try simp only [List.getElem_toArray, List.getElem_cons_succ, List.getElem_cons_zero, Act.put, List.setIfInBounds_toArray, List.set_cons_zero, List.set_cons_succ]
            refine but_takeQ (i := 10) (v := ?_) rfl hTidy (by kernel_rfl) (by kernel_rfl) (fun _ _ _ h => h) (Or.inl ⟨by rfl, ?_⟩) hHeld ?_
            rotate_left
            · intro w hSw
              (try dsimp only at hSw)
              go_split_ands
              go_simp
              try with_reducible rfl
            try simp only [List.getElem_toArray, List.getElem_cons_succ, List.getElem_cons_zero, Act.put, List.setIfInBounds_toArray, List.set_cons_zero, List.set_cons_succ]
            refine but_takeQ (i := 11) (v := ?_) rfl hTidy (by kernel_rfl) (by kernel_rfl) (fun _ _ _ h => h) (Or.inl ⟨by rfl, ?_⟩) hHeld ?_
            rotate_left
            · intro w hSw
              (try dsimp only at hSw)
              go_split_ands
              go_simp
              try with_reducible rfl
            try simp only [List.getElem_toArray, List.getElem_cons_succ, List.getElem_cons_zero, Act.put, List.setIfInBounds_toArray, List.set_cons_zero, List.set_cons_succ]
            refine but_takeQ (i := 12) (v := ?_) rfl hTidy (by kernel_rfl) (by kernel_rfl) (fun _ _ _ h => h) (Or.inl ⟨by rfl, ?_⟩) hHeld ?_
            rotate_left
            · intro w hSw
              (try dsimp only at hSw)
              go_split_ands
              go_simp
              try with_reducible rfl
            try simp only [List.getElem_toArray, List.getElem_cons_succ, List.getElem_cons_zero, Act.put, List.setIfInBounds_toArray, List.set_cons_zero, List.set_cons_succ]
            refine but_takeQ (i := 13) (v := ?_) rfl hTidy (by kernel_rfl) (by kernel_rfl) (fun _ _ _ h => h) (Or.inl ⟨by rfl, ?_⟩) hHeld ?_
            rotate_left
            · intro w hSw
              (try dsimp only at hSw)
              go_split_ands
              go_simp
              try with_reducible rfl
            try simp only [List.getElem_toArray, List.getElem_cons_succ, List.getElem_cons_zero, Act.put, List.setIfInBounds_toArray, List.set_cons_zero, List.set_cons_succ]
            refine but_takeQ (i := 14) (v := ?_) rfl hTidy (by kernel_rfl) (by kernel_rfl) (fun _ _ _ h => h) (Or.inl ⟨by rfl, ?_⟩) hHeld ?_
            rotate_left
            · intro w hSw
              (try dsimp only at hSw)
              go_split_ands
              go_simp
              try with_reducible rfl
            try simp only [List.getElem_toArray, List.getElem_cons_succ, List.getElem_cons_zero, Act.put, List.setIfInBounds_toArray, List.set_cons_zero, List.set_cons_succ]
            refine but_one (i := 7) (by kernel_rfl) rfl ?_
            intro K hK
            go_simp
            go_at_call 30
            refine HP.out.mono ?_
            rintro e w3 ⟨rfl, hA, -⟩
            have A3 := Lib.hid hA
            clear hA HP
            have HQ := Lib.hid (A3.out.ref HB.out)
            try dsimp only
            have hHeld2 := (show w3.cell? ⟨N, 1, none⟩ = some (.int .i64 id) ∧ w3.cell? ⟨N, 2, none⟩ = some (.int .i64 wh) ∧ w3.cell? ⟨N, 3, none⟩ = some (.int .i64 pe) from ⟨A3.out.cells.2.1, A3.out.cells.2.2.1, A3.out.cells.2.2.2⟩)
            refine hK _ _ (fun _ => hHeld2) ?_
            clear hK K hHeld
            have hHeld := hHeld2
            clear hHeld2
            try simp only [List.getElem_toArray, List.getElem_cons_succ, List.getElem_cons_zero, Act.put, List.setIfInBounds_toArray, List.set_cons_zero, List.set_cons_succ]
            refine but_one (i := 15) (by kernel_rfl) rfl ?_
            intro K hK
            go_simp
            go_at_call 31
            refine HQ.out.mono ?_
            rintro e w4 ⟨rfl, hA, -⟩
            have A4 := Lib.hid hA
            clear hA HQ
            try dsimp only
            have hHeld2 := (show w4.cell? ⟨N, 1, none⟩ = some (.int .i64 id) ∧ w4.cell? ⟨N, 2, none⟩ = some (.int .i64 wh) ∧ w4.cell? ⟨N, 3, none⟩ = some (.int .i64 pe) from ⟨A4.out.cells.2.1, A4.out.cells.2.2.1, A4.out.cells.2.2.2⟩)
            refine hK _ _ (fun _ => hHeld2) ?_
            clear hK K hHeld
            have hHeld := hHeld2
            clear hHeld2
            try simp only [List.getElem_toArray, List.getElem_cons_succ, List.getElem_cons_zero, Act.put, List.setIfInBounds_toArray, List.set_cons_zero, List.set_cons_succ]
            refine but_takeQ (i := 16) (v := ?_) rfl hTidy (by kernel_rfl) (by kernel_rfl) (fun _ _ _ h => h) (Or.inl ⟨by rfl, ?_⟩) hHeld ?_
            rotate_left
            · intro w hSw
              (try dsimp only at hSw)
              go_split_ands
              go_simp
              try with_reducible rfl
            try simp only [List.getElem_toArray, List.getElem_cons_succ, List.getElem_cons_zero, Act.put, List.setIfInBounds_toArray, List.set_cons_zero, List.set_cons_succ]
            refine but_done (by kernel_rfl) ?_
            try clear hHeld
            clear hTidy
            clear A3 A2 HB
            go_wp2_with fail
            go_meet
            exact ⟨n', S', g', rfl, by omega, by omega, A4.out, HI.out⟩
        · by_cases e2 : kd = 2
          · subst e2
            as_aux_lemma =>
              obtain ⟨v, S', g', hl', hI', hb⟩ := stop_both id HA.out.2 HWF.out hle.2
              have HB := Lib.hid hb
              have HI := Lib.hid hI'
              clear hb hI'
              go_wp2_with fail
              have A2 := Lib.hid (HA.out.1.later (Below.refl _ _).drew)
              clear a0 a1 a2 a3
              have HP := Lib.hid (A2.out.prog HB.out)
              clear HA
              refine but_startQ 1000 (fun w' => w'.cell? ⟨N, 1, none⟩ = some (.int .i64 id)) (by kernel_rfl) (by as_aux_lemma => kernel_rfl) ?_
              intro hTidy
              have hHeld := (show w2.drew.cell? ⟨N, 1, none⟩ = some (.int .i64 id) from A2.out.cells.2.1)
              change AnyBut _ _ _ _ _ _ 9 _ _ _
              refine but_takeQ (i := 0) (v := ?_) rfl hTidy (by kernel_rfl) (by kernel_rfl) (fun _ _ _ h => h) (Or.inl ⟨by rfl, ?_⟩) hHeld ?_
              rotate_left
              · intro w hSw
                (try dsimp only at hSw)
                go_split_ands
                go_simp
                try with_reducible rfl
              try simp only [List.getElem_toArray, List.getElem_cons_zero, Act.put, List.setIfInBounds_toArray, List.set_cons_zero, List.set_cons_succ]
              refine but_takeQ (i := 1) (v := ?_) rfl hTidy (by kernel_rfl) (by kernel_rfl) (fun _ _ _ h => h) (Or.inl ⟨by rfl, ?_⟩) hHeld ?_
              rotate_left
              · intro w hSw
                (try dsimp only at hSw)
                go_split_ands
                go_simp
                try with_reducible rfl
              try simp only [List.getElem_toArray, List.getElem_cons_succ, List.getElem_cons_zero, Act.put, List.setIfInBounds_toArray, List.set_cons_zero, List.set_cons_succ]
              refine but_takeQ (i := 2) (v := ?_) rfl hTidy (by kernel_rfl) (by kernel_rfl) (fun _ _ _ h => h) (Or.inl ⟨by rfl, ?_⟩) hHeld ?_
              rotate_left
              · intro w hSw
                (try dsimp only at hSw)
                go_split_ands
                go_simp
                try with_reducible rfl
              try simp only [List.getElem_toArray, List.getElem_cons_succ, List.getElem_cons_zero, Act.put, List.setIfInBounds_toArray, List.set_cons_zero, List.set_cons_succ]
              refine but_takeQ (i := 4) (v := ?_) rfl hTidy (by kernel_rfl) (by kernel_rfl) (fun _ _ _ h => h) (Or.inl ⟨by rfl, ?_⟩) hHeld ?_
              rotate_left
              · intro w hSw
                (try dsimp only at hSw)
                go_split_ands
                go_simp
                try with_reducible rfl
              try simp only [List.getElem_toArray, List.getElem_cons_succ, List.getElem_cons_zero, Act.put, List.setIfInBounds_toArray, List.set_cons_zero, List.set_cons_succ]
              refine but_takeQ (i := 5) (v := ?_) rfl hTidy (by kernel_rfl) (by kernel_rfl) (fun _ _ _ h => h) (Or.inl ⟨by rfl, ?_⟩) hHeld ?_
              rotate_left
              · intro w hSw
                (try dsimp only at hSw)
                go_split_ands
                go_simp
                try with_reducible rfl
              try simp only [List.getElem_toArray, List.getElem_cons_succ, List.getElem_cons_zero, Act.put, List.setIfInBounds_toArray, List.set_cons_zero, List.set_cons_succ]
              refine but_takeQ (i := 6) (v := ?_) rfl hTidy (by kernel_rfl) (by kernel_rfl) (fun _ _ _ h => h) (Or.inl ⟨by rfl, ?_⟩) hHeld ?_
              rotate_left
              · intro w hSw
                (try dsimp only at hSw)
                go_split_ands
                go_simp
                try with_reducible rfl
              try simp only [List.getElem_toArray, List.getElem_cons_succ, List.getElem_cons_zero, Act.put, List.setIfInBounds_toArray, List.set_cons_zero, List.set_cons_succ]
              refine but_one (i := 3) (by kernel_rfl) rfl ?_
              intro K hK
              go_simp
              go_at_call 32
              refine HP.out.mono ?_
              rintro e w3 ⟨rfl, hA, -⟩
              have A3 := Lib.hid hA
              clear hA HP
              have HQ := Lib.hid (A3.out.ref HB.out)
              try dsimp only
              have hHeld2 := (show w3.cell? ⟨N, 1, none⟩ = some (.int .i64 id) from A3.out.cells.2.1)
              refine hK _ _ (fun _ => hHeld2) ?_
              clear hK K hHeld
              have hHeld := hHeld2
              clear hHeld2
              try simp only [List.getElem_toArray, List.getElem_cons_succ, List.getElem_cons_zero, Act.put, List.setIfInBounds_toArray, List.set_cons_zero, List.set_cons_succ]
              refine but_one (i := 7) (by kernel_rfl) rfl ?_
              intro K hK
              go_simp
              go_at_call 33
              refine HQ.out.mono ?_
              rintro e w4 ⟨rfl, hA, -⟩
              have A4 := Lib.hid hA
              clear hA HQ
              try dsimp only
              have hHeld2 := (show w4.cell? ⟨N, 1, none⟩ = some (.int .i64 id) from A4.out.cells.2.1)
              refine hK _ _ (fun _ => hHeld2) ?_
              clear hK K hHeld
              have hHeld := hHeld2
              clear hHeld2
              try simp only [List.getElem_toArray, List.getElem_cons_succ, List.getElem_cons_zero, Act.put, List.setIfInBounds_toArray, List.set_cons_zero, List.set_cons_succ]
              refine but_takeQ (i := 8) (v := ?_) rfl hTidy (by kernel_rfl) (by kernel_rfl) (fun _ _ _ h => h) (Or.inl ⟨by rfl, ?_⟩) hHeld ?_
              rotate_left
              · intro w hSw
                (try dsimp only at hSw)
                go_split_ands
                go_simp
                try with_reducible rfl
              try simp only [List.getElem_toArray, List.getElem_cons_succ, List.getElem_cons_zero, Act.put, List.setIfInBounds_toArray, List.set_cons_zero, List.set_cons_succ]
              refine but_done (by kernel_rfl) ?_
              try clear hHeld
              clear hTidy
              clear A3 A2 HB
              go_wp2_with fail
              go_meet
              exact ⟨n, S', g', rfl, by omega, by omega, A4.out, HI.out⟩
          · by_cases e3 : kd = 3
            · subst e3
              as_aux_lemma =>
                obtain ⟨di, dx, dy, db, n', S', g', hn', hl', hI', hb⟩ := take_both wh HA.out.2 hle.1 hle.2
                have HB := Lib.hid hb
                have HI := Lib.hid hI'
                have HP := Lib.hid (HA.out.1.prog hb)
                clear hb hI'
                go_wp2_with fail
                refine HP.out.mono ?_
                rintro e w3 ⟨rfl, hA, -⟩
                have A3 := Lib.hid (AZ.later hA (below_al w3 (.cells #[.int .i64 di, .int .i64 dx, .int .i64 dy] 63)))
                have D3 := Lib.hid (Dbk.new w3 di dx dy)
                clear hA HP HA a0 a1 a2 a3
                obtain ⟨-, -, a2, -⟩ := A3.out.cells
                go_upto_region 20 with (fail)
                generalize w3.alloc (.cells #[.int .i64 di, .int .i64 dx, .int .i64 dy] 63) = w4 at *
                generalize w3.heap.size = r1 at *
                have HQ := Lib.hid (A3.out.ref HB.out)
                clear A3
                go_wp2_with fail
                refine HQ.out.mono ?_
                rintro e w5 ⟨rfl, hA, hk⟩
                have D5 : Hid (Dbk (w5.alloc (.cells #[.int .i64 di, .int .i64 dx, .int .i64 dy] 66)) r1 di dx dy) := Dbk.later (hk r1 _ 63 (0, 0) D3.out (by decide) (by decide)) (below_al w5 _)
                have A5 := Lib.hid (AZ.later hA (below_al w5 (.cells #[.int .i64 di, .int .i64 dx, .int .i64 dy] 66)))
                have E5 : Hid (Rbk (w5.alloc (.cells #[.int .i64 di, .int .i64 dx, .int .i64 dy] 66)) w5.heap.size di dx dy) := heap_alloc_new w5 _
                clear hA hk HQ D3 a2 HB
                go_upto_region 21 with (fail)
                generalize w5.alloc (.cells #[.int .i64 di, .int .i64 dx, .int .i64 dy] 66) = w6 at *
                generalize w5.heap.size = r2 at *
                obtain ⟨x0, x1, x2, -⟩ := D5.out.cells
                obtain ⟨y0, y1, y2, -⟩ := E5.out.cells
                go_wp2_with fail
                go_meet
                exact ⟨n', S', g', rfl, by omega, by omega, A5.out, HI.out⟩
            · go_wp2_with fail
              go_meet
              exact ⟨n, S, g, rfl, by omega, by omega, HA⟩
      case rest =>
        clear HA a0 a1 a2 a3 hle hnk hsk
        clear S n g
        obtain ⟨n, S, g, rfl, hn', hs', HA⟩ := hcut
        have hk9 : k ≤ 99 := by omega
        have hle9 : S.length ≤ 900 := by omega
        have hl9 : S.length ≤ 1000 := by omega
        have hb9 : IntKind.i64.wrap ((k : Int) + 1) = (k : Int) + 1 := by rw [IntKind.wrap_i64]; omega
        by_cases hs0 : S.length = 0
        · as_aux_lemma =>
            have hS0 : S = [] := List.eq_nil_of_length_eq_zero hs0
            have HMin : Hid (∃ u d, d = false ∧ ∀ wx, TN W.heap.size t (W.heap.size + 1) W.heap.size (W.heap.size + 2) n S g wx → Calls Try.prog 38 #[pT t] wx (XR W.heap.size t (W.heap.size + 1) W.heap.size (W.heap.size + 2) n S g (.tuple #[.int .i64 u, .bool d]) wx)) := by
              subst hS0
              exact ⟨0, false, rfl, fun wx h => tn_next_no h⟩
            have d1 : ¬ (0 : Int) < (S.length : Int) := by omega
            have d2 : ¬ 0 < S.length := by omega
            have d3 : decide (0 < S.length) = false := decide_eq_false d2
            have d4 : decide ((0 : Int) < (S.length : Int)) = false := decide_eq_false d1
            clear hS0 hs0
            obtain ⟨u, dd, rfl, hmin⟩ := HMin.out
            have HN := Lib.hid hmin
            clear hmin HMin
            obtain ⟨av, pv, ok, hb⟩ := armed_both id HA.out.2 HWF.out hle9
            have HB := Lib.hid hb
            have HI := Lib.hid HA.out.2
            have HP := Lib.hid (HA.out.1.prog hb)
            obtain ⟨-, a1, -, -⟩ := HA.out.1.cells
            clear hb HA
            go_wp2_with fail
            refine HP.out.mono ?_
            rintro e w3 ⟨rfl, hA, -⟩
            have A3 := Lib.hid hA
            clear hA HP a1
            obtain ⟨-, a1, -, -⟩ := A3.out.cells
            have HQ := Lib.hid (A3.out.ref HB.out)
            clear A3
            go_wp2_with fail
            refine HQ.out.mono ?_
            rintro e w4 ⟨rfl, hA, -⟩
            have A4 := Lib.hid hA
            clear hA HQ a1 HB
            have HR := Lib.hid (A4.out.run (HN.out w4 A4.out.st.tn))
            clear A4 HN
            go_wp2_with fail
            refine HR.out.mono ?_
            rintro e w5 ⟨rfl, hA, -⟩
            have A5 := Lib.hid hA
            clear hA HR
            obtain ⟨p9, Am, cm, Pm, c2m, Qm, -, hy, -⟩ := A5.out.mt
            have KP : Hid (∀ w', Below w5.heap.size w5 w' → w'.cell? ⟨m, 0, none⟩ = some (.slice Am S.length cm)) := fun w' hb => (hy.later hb).c0
            clear hy
            have HLn := Lib.hid (tn_len (A5.out.later (Below.refl _ _).drew).st.tn)
            go_wp2_with fail
            refine but_startQ 1000 (fun w' => w'.cell? ⟨m, 0, none⟩ = some (.slice Am S.length cm)) (by kernel_rfl) (by as_aux_lemma => kernel_rfl) ?_
            intro hTidy
            have hHeld := KP.out w5.drew (Below.refl _ _).drew
            change AnyBut _ _ _ _ _ _ 50 _ _ _
            refine but_takeQ (i := 0) (v := ?_) rfl hTidy (by kernel_rfl) (by kernel_rfl) (fun _ _ _ h => h) (Or.inl ⟨by rfl, ?_⟩) hHeld ?_
            rotate_left
            · intro w hSw
              (try dsimp only at hSw)
              go_split_ands
              go_simp
              try with_reducible rfl
            try simp only [List.getElem_toArray, List.getElem_cons_zero, Act.put, List.setIfInBounds_toArray, List.set_cons_zero, List.set_cons_succ]
            refine but_takeQ (i := 1) (v := ?_) rfl hTidy (by kernel_rfl) (by kernel_rfl) (fun _ _ _ h => h) (Or.inl ⟨by rfl, ?_⟩) hHeld ?_
            rotate_left
            · intro w hSw
              (try dsimp only at hSw)
              go_split_ands
              go_simp
              try with_reducible rfl
            try simp only [List.getElem_toArray, List.getElem_cons_succ, List.getElem_cons_zero, Act.put, List.setIfInBounds_toArray, List.set_cons_zero, List.set_cons_succ]
            refine but_takeQ (i := 2) (v := ?_) rfl hTidy (by kernel_rfl) (by kernel_rfl) (fun _ _ _ h => h) (Or.inl ⟨by rfl, ?_⟩) hHeld ?_
            rotate_left
            · intro w hSw
              (try dsimp only at hSw)
              go_split_ands
              go_simp
              try with_reducible rfl
            try simp only [List.getElem_toArray, List.getElem_cons_succ, List.getElem_cons_zero, Act.put, List.setIfInBounds_toArray, List.set_cons_zero, List.set_cons_succ]
            refine but_takeQ (i := 3) (v := ?_) rfl hTidy (by kernel_rfl) (by kernel_rfl) (fun _ _ _ h => h) (Or.inl ⟨by rfl, ?_⟩) hHeld ?_
            rotate_left
            · intro w hSw
              (try dsimp only at hSw)
              go_split_ands
              go_simp
              try with_reducible rfl
            try simp only [List.getElem_toArray, List.getElem_cons_succ, List.getElem_cons_zero, Act.put, List.setIfInBounds_toArray, List.set_cons_zero, List.set_cons_succ]
            refine but_takeQ (i := 4) (v := ?_) rfl hTidy (by kernel_rfl) (by kernel_rfl) (fun _ _ _ h => h) (Or.inl ⟨by rfl, ?_⟩) hHeld ?_
            rotate_left
            · intro w hSw
              (try dsimp only at hSw)
              go_split_ands
              go_simp
              try with_reducible rfl
            try simp only [List.getElem_toArray, List.getElem_cons_succ, List.getElem_cons_zero, Act.put, List.setIfInBounds_toArray, List.set_cons_zero, List.set_cons_succ]
            refine but_takeQ (i := 5) (v := ?_) rfl hTidy (by kernel_rfl) (by kernel_rfl) (fun _ _ _ h => h) (Or.inl ⟨by rfl, ?_⟩) hHeld ?_
            rotate_left
            · intro w hSw
              (try dsimp only at hSw)
              go_split_ands
              go_simp
              try with_reducible rfl
            try simp only [List.getElem_toArray, List.getElem_cons_succ, List.getElem_cons_zero, Act.put, List.setIfInBounds_toArray, List.set_cons_zero, List.set_cons_succ]
            refine but_takeQ (i := 6) (v := ?_) rfl hTidy (by kernel_rfl) (by kernel_rfl) (fun _ _ _ h => h) (Or.inl ⟨by rfl, ?_⟩) hHeld ?_
            rotate_left
            · intro w hSw
              (try dsimp only at hSw)
              go_split_ands
              go_simp
              try with_reducible rfl
            try simp only [List.getElem_toArray, List.getElem_cons_succ, List.getElem_cons_zero, Act.put, List.setIfInBounds_toArray, List.set_cons_zero, List.set_cons_succ]
            refine but_takeQ (i := 7) (v := ?_) rfl hTidy (by kernel_rfl) (by kernel_rfl) (fun _ _ _ h => h) (Or.inl ⟨by rfl, ?_⟩) hHeld ?_
            rotate_left
            · intro w hSw
              (try dsimp only at hSw)
              go_split_ands
              go_simp
              try with_reducible rfl
            try simp only [List.getElem_toArray, List.getElem_cons_succ, List.getElem_cons_zero, Act.put, List.setIfInBounds_toArray, List.set_cons_zero, List.set_cons_succ]
            refine but_takeQ (i := 8) (v := ?_) rfl hTidy (by kernel_rfl) (by kernel_rfl) (fun _ _ _ h => h) (Or.inl ⟨by rfl, ?_⟩) hHeld ?_
            rotate_left
            · intro w hSw
              (try dsimp only at hSw)
              go_split_ands
              go_simp
              try with_reducible rfl
            try simp only [List.getElem_toArray, List.getElem_cons_succ, List.getElem_cons_zero, Act.put, List.setIfInBounds_toArray, List.set_cons_zero, List.set_cons_succ]
            refine but_takeQ (i := 9) (v := ?_) rfl hTidy (by kernel_rfl) (by kernel_rfl) (fun _ _ _ h => h) (Or.inl ⟨by rfl, ?_⟩) hHeld ?_
            rotate_left
            · intro w hSw
              (try dsimp only at hSw)
              go_split_ands
              go_simp
              try with_reducible rfl
            try simp only [List.getElem_toArray, List.getElem_cons_succ, List.getElem_cons_zero, Act.put, List.setIfInBounds_toArray, List.set_cons_zero, List.set_cons_succ]
            refine but_takeQ (i := 10) (v := ?_) rfl hTidy (by kernel_rfl) (by kernel_rfl) (fun _ _ _ h => h) (Or.inl ⟨by rfl, ?_⟩) hHeld ?_
            rotate_left
            · intro w hSw
              (try dsimp only at hSw)
              go_split_ands
              go_simp
              try with_reducible rfl
            try simp only [List.getElem_toArray, List.getElem_cons_succ, List.getElem_cons_zero, Act.put, List.setIfInBounds_toArray, List.set_cons_zero, List.set_cons_succ]
            refine but_takeQ (i := 11) (v := ?_) rfl hTidy (by kernel_rfl) (by kernel_rfl) (fun _ _ _ h => h) (Or.inl ⟨by rfl, ?_⟩) hHeld ?_
            rotate_left
            · intro w hSw
              (try dsimp only at hSw)
              go_split_ands
              go_simp
              try with_reducible rfl
            try simp only [List.getElem_toArray, List.getElem_cons_succ, List.getElem_cons_zero, Act.put, List.setIfInBounds_toArray, List.set_cons_zero, List.set_cons_succ]
            refine but_takeQ (i := 12) (v := ?_) rfl hTidy (by kernel_rfl) (by kernel_rfl) (fun _ _ _ h => h) (Or.inl ⟨by rfl, ?_⟩) hHeld ?_
            rotate_left
            · intro w hSw
              (try dsimp only at hSw)
              go_split_ands
              go_simp
              try with_reducible rfl
            try simp only [List.getElem_toArray, List.getElem_cons_succ, List.getElem_cons_zero, Act.put, List.setIfInBounds_toArray, List.set_cons_zero, List.set_cons_succ]
            refine but_takeQ (i := 13) (v := ?_) rfl hTidy (by kernel_rfl) (by kernel_rfl) (fun _ _ _ h => h) (Or.inl ⟨by rfl, ?_⟩) hHeld ?_
            rotate_left
            · intro w hSw
              (try dsimp only at hSw)
              go_split_ands
              go_simp
              try with_reducible rfl
            try simp only [List.getElem_toArray, List.getElem_cons_succ, List.getElem_cons_zero, Act.put, List.setIfInBounds_toArray, List.set_cons_zero, List.set_cons_succ]
            refine but_takeQ (i := 14) (v := ?_) rfl hTidy (by kernel_rfl) (by kernel_rfl) (fun _ _ _ h => h) (Or.inl ⟨by rfl, ?_⟩) hHeld ?_
            rotate_left
            · intro w hSw
              (try dsimp only at hSw)
              go_split_ands
              go_simp
              try with_reducible rfl
            try simp only [List.getElem_toArray, List.getElem_cons_succ, List.getElem_cons_zero, Act.put, List.setIfInBounds_toArray, List.set_cons_zero, List.set_cons_succ]
            refine but_takeQ (i := 16) (v := ?_) rfl hTidy (by kernel_rfl) (by kernel_rfl) (fun _ _ _ h => h) (Or.inl ⟨by rfl, ?_⟩) hHeld ?_
            rotate_left
            · intro w hSw
              (try dsimp only at hSw)
              go_split_ands
              go_simp
              try with_reducible rfl
            try simp only [List.getElem_toArray, List.getElem_cons_succ, List.getElem_cons_zero, Act.put, List.setIfInBounds_toArray, List.set_cons_zero, List.set_cons_succ]
            refine but_takeQ (i := 17) (v := ?_) rfl hTidy (by kernel_rfl) (by kernel_rfl) (fun _ _ _ h => h) (Or.inl ⟨by rfl, ?_⟩) hHeld ?_
            rotate_left
            · intro w hSw
              (try dsimp only at hSw)
              go_split_ands
              go_simp
              try with_reducible rfl
            try simp only [List.getElem_toArray, List.getElem_cons_succ, List.getElem_cons_zero, Act.put, List.setIfInBounds_toArray, List.set_cons_zero, List.set_cons_succ]
            refine but_takeQ (i := 18) (v := ?_) rfl hTidy (by kernel_rfl) (by kernel_rfl) (fun _ _ _ h => h) (Or.inl ⟨by rfl, ?_⟩) hHeld ?_
            rotate_left
            · intro w hSw
              (try dsimp only at hSw)
              go_split_ands
              go_simp
              try with_reducible rfl
            try simp only [List.getElem_toArray, List.getElem_cons_succ, List.getElem_cons_zero, Act.put, List.setIfInBounds_toArray, List.set_cons_zero, List.set_cons_succ]
            refine but_takeQ (i := 19) (v := ?_) rfl hTidy (by kernel_rfl) (by kernel_rfl) (fun _ _ _ h => h) (Or.inl ⟨by rfl, ?_⟩) hHeld ?_
            rotate_left
            · intro w hSw
              (try dsimp only at hSw)
              go_split_ands
              go_simp
              try with_reducible rfl
            try simp only [List.getElem_toArray, List.getElem_cons_succ, List.getElem_cons_zero, Act.put, List.setIfInBounds_toArray, List.set_cons_zero, List.set_cons_succ]
            refine but_takeQ (i := 20) (v := ?_) rfl hTidy (by kernel_rfl) (by kernel_rfl) (fun _ _ _ h => h) (Or.inl ⟨by rfl, ?_⟩) hHeld ?_
            rotate_left
            · intro w hSw
              (try dsimp only at hSw)
              go_split_ands
              go_simp
              try with_reducible rfl
            try simp only [List.getElem_toArray, List.getElem_cons_succ, List.getElem_cons_zero, Act.put, List.setIfInBounds_toArray, List.set_cons_zero, List.set_cons_succ]
            refine but_takeQ (i := 21) (v := ?_) rfl hTidy (by kernel_rfl) (by kernel_rfl) (fun _ _ _ h => h) (Or.inl ⟨by rfl, ?_⟩) hHeld ?_
            rotate_left
            · intro w hSw
              (try dsimp only at hSw)
              go_split_ands
              go_simp
              try with_reducible rfl
            try simp only [List.getElem_toArray, List.getElem_cons_succ, List.getElem_cons_zero, Act.put, List.setIfInBounds_toArray, List.set_cons_zero, List.set_cons_succ]
            refine but_one (i := 15) (by kernel_rfl) rfl ?_
            intro K hK
            go_simp
            go_at_call 39
            refine HLn.out.mono ?_
            rintro e w9 ⟨rfl, rfl⟩
            try dsimp only
            have hHeld2 := hHeld
            refine hK _ _ (fun _ => hHeld2) ?_
            clear hK K hHeld
            have hHeld := hHeld2
            clear hHeld2
            try simp only [List.getElem_toArray, List.getElem_cons_succ, List.getElem_cons_zero, Act.put, List.setIfInBounds_toArray, List.set_cons_zero, List.set_cons_succ]
            refine but_takeQ (i := 22) (v := ?_) rfl hTidy (by kernel_rfl) (by kernel_rfl) (fun _ _ _ h => h) (Or.inl ⟨by rfl, ?_⟩) hHeld ?_
            rotate_left
            · intro w hSw
              (try dsimp only at hSw)
              go_split_ands
              go_simp
              try with_reducible rfl
            try simp only [List.getElem_toArray, List.getElem_cons_succ, List.getElem_cons_zero, Act.put, List.setIfInBounds_toArray, List.set_cons_zero, List.set_cons_succ]
            refine but_takeQ (i := 23) (v := ?_) rfl hTidy (by kernel_rfl) (by kernel_rfl) (fun _ _ _ h => h) (Or.inl ⟨by rfl, ?_⟩) hHeld ?_
            rotate_left
            · intro w hSw
              (try dsimp only at hSw)
              go_split_ands
              go_simp
              try with_reducible rfl
            try simp only [List.getElem_toArray, List.getElem_cons_succ, List.getElem_cons_zero, Act.put, List.setIfInBounds_toArray, List.set_cons_zero, List.set_cons_succ]
            refine but_takeQ (i := 24) (v := ?_) rfl hTidy (by kernel_rfl) (by kernel_rfl) (fun _ _ _ h => h) (Or.inl ⟨by rfl, ?_⟩) hHeld ?_
            rotate_left
            · intro w hSw
              (try dsimp only at hSw)
              go_split_ands
              go_simp
              try with_reducible rfl
            try simp only [List.getElem_toArray, List.getElem_cons_succ, List.getElem_cons_zero, Act.put, List.setIfInBounds_toArray, List.set_cons_zero, List.set_cons_succ]
            refine but_takeQ (i := 25) (v := ?_) rfl hTidy (by kernel_rfl) (by kernel_rfl) (fun _ _ _ h => h) (Or.inl ⟨by rfl, ?_⟩) hHeld ?_
            rotate_left
            · intro w hSw
              (try dsimp only at hSw)
              go_split_ands
              go_simp
              try with_reducible rfl
            try simp only [List.getElem_toArray, List.getElem_cons_succ, List.getElem_cons_zero, Act.put, List.setIfInBounds_toArray, List.set_cons_zero, List.set_cons_succ]
            refine but_takeQ (i := 26) (v := ?_) rfl hTidy (by kernel_rfl) (by kernel_rfl) (fun _ _ _ h => h) (Or.inl ⟨by rfl, ?_⟩) hHeld ?_
            rotate_left
            · intro w hSw
              (try dsimp only at hSw)
              go_split_ands
              go_simp
              try with_reducible rfl
            try simp only [List.getElem_toArray, List.getElem_cons_succ, List.getElem_cons_zero, Act.put, List.setIfInBounds_toArray, List.set_cons_zero, List.set_cons_succ]
            refine but_takeQ (i := 27) (v := ?_) rfl hTidy (by kernel_rfl) (by kernel_rfl) (fun _ _ _ h => h) (Or.inl ⟨by rfl, ?_⟩) hHeld ?_
            rotate_left
            · intro w hSw
              (try dsimp only at hSw)
              go_split_ands
              go_simp
              try with_reducible rfl
            try simp only [List.getElem_toArray, List.getElem_cons_succ, List.getElem_cons_zero, Act.put, List.setIfInBounds_toArray, List.set_cons_zero, List.set_cons_succ]
            refine but_takeQ (i := 28) (v := ?_) rfl hTidy (by kernel_rfl) (by kernel_rfl) (fun _ _ _ h => h) (Or.inl ⟨by rfl, ?_⟩) hHeld ?_
            rotate_left
            · intro w hSw
              (try dsimp only at hSw)
              go_split_ands
              go_simp
              try with_reducible rfl
            try simp only [List.getElem_toArray, List.getElem_cons_succ, List.getElem_cons_zero, Act.put, List.setIfInBounds_toArray, List.set_cons_zero, List.set_cons_succ]
            refine but_takeQ (i := 29) (v := ?_) rfl hTidy (by kernel_rfl) (by kernel_rfl) (fun _ _ _ h => h) (Or.inl ⟨by rfl, ?_⟩) hHeld ?_
            rotate_left
            · intro w hSw
              (try dsimp only at hSw)
              go_split_ands
              go_simp
              try with_reducible rfl
            try simp only [List.getElem_toArray, List.getElem_cons_succ, List.getElem_cons_zero, Act.put, List.setIfInBounds_toArray, List.set_cons_zero, List.set_cons_succ]
            refine but_takeQ (i := 30) (v := ?_) rfl hTidy (by kernel_rfl) (by kernel_rfl) (fun _ _ _ h => h) (Or.inl ⟨by rfl, ?_⟩) hHeld ?_
            rotate_left
            · intro w hSw
              (try dsimp only at hSw)
              go_split_ands
              go_simp
              try with_reducible rfl
            try simp only [List.getElem_toArray, List.getElem_cons_succ, List.getElem_cons_zero, Act.put, List.setIfInBounds_toArray, List.set_cons_zero, List.set_cons_succ]
            refine but_takeQ (i := 31) (v := ?_) rfl hTidy (by kernel_rfl) (by kernel_rfl) (fun _ _ _ h => h) (Or.inl ⟨by rfl, ?_⟩) hHeld ?_
            rotate_left
            · intro w hSw
              (try dsimp only at hSw)
              go_split_ands
              go_simp
              try with_reducible rfl
            try simp only [List.getElem_toArray, List.getElem_cons_succ, List.getElem_cons_zero, Act.put, List.setIfInBounds_toArray, List.set_cons_zero, List.set_cons_succ]
            refine but_takeQ (i := 32) (v := ?_) rfl hTidy (by kernel_rfl) (by kernel_rfl) (fun _ _ _ h => h) (Or.inl ⟨by rfl, ?_⟩) hHeld ?_
            rotate_left
            · intro w hSw
              (try dsimp only at hSw)
              go_split_ands
              go_simp
              try with_reducible rfl
            try simp only [List.getElem_toArray, List.getElem_cons_succ, List.getElem_cons_zero, Act.put, List.setIfInBounds_toArray, List.set_cons_zero, List.set_cons_succ]
            refine but_takeQ (i := 33) (v := ?_) rfl hTidy (by kernel_rfl) (by kernel_rfl) (fun _ _ _ h => h) (Or.inl ⟨by rfl, ?_⟩) hHeld ?_
            rotate_left
            · intro w hSw
              (try dsimp only at hSw)
              go_split_ands
              go_simp
              try with_reducible rfl
            try simp only [List.getElem_toArray, List.getElem_cons_succ, List.getElem_cons_zero, Act.put, List.setIfInBounds_toArray, List.set_cons_zero, List.set_cons_succ]
            refine but_takeQ (i := 34) (v := ?_) rfl hTidy (by kernel_rfl) (by kernel_rfl) (fun _ _ _ h => h) (Or.inl ⟨by rfl, ?_⟩) hHeld ?_
            rotate_left
            · intro w hSw
              (try dsimp only at hSw)
              go_split_ands
              go_simp
              try with_reducible rfl
            try simp only [List.getElem_toArray, List.getElem_cons_succ, List.getElem_cons_zero, Act.put, List.setIfInBounds_toArray, List.set_cons_zero, List.set_cons_succ]
            refine but_takeQ (i := 35) (v := ?_) rfl hTidy (by kernel_rfl) (by kernel_rfl) (fun _ _ _ h => h) (Or.inl ⟨by rfl, ?_⟩) hHeld ?_
            rotate_left
            · intro w hSw
              (try dsimp only at hSw)
              go_split_ands
              go_simp
              try with_reducible rfl
            try simp only [List.getElem_toArray, List.getElem_cons_succ, List.getElem_cons_zero, Act.put, List.setIfInBounds_toArray, List.set_cons_zero, List.set_cons_succ]
            refine but_takeQ (i := 36) (v := ?_) rfl hTidy (by kernel_rfl) (by kernel_rfl) (fun _ _ _ h => h) (Or.inl ⟨by rfl, ?_⟩) hHeld ?_
            rotate_left
            · intro w hSw
              (try dsimp only at hSw)
              go_split_ands
              go_simp
              try with_reducible rfl
            try simp only [List.getElem_toArray, List.getElem_cons_succ, List.getElem_cons_zero, Act.put, List.setIfInBounds_toArray, List.set_cons_zero, List.set_cons_succ]
            refine but_takeQ (i := 37) (v := ?_) rfl hTidy (by kernel_rfl) (by kernel_rfl) (fun _ _ _ h => h) (Or.inl ⟨by rfl, ?_⟩) hHeld ?_
            rotate_left
            · intro w hSw
              (try dsimp only at hSw)
              go_split_ands
              go_simp
              try with_reducible rfl
            try simp only [List.getElem_toArray, List.getElem_cons_succ, List.getElem_cons_zero, Act.put, List.setIfInBounds_toArray, List.set_cons_zero, List.set_cons_succ]
            refine but_takeQ (i := 38) (v := undef) rfl hTidy (by kernel_rfl) (by kernel_rfl) (fun _ _ _ h => h) (Or.inr ⟨by rfl, rfl⟩) hHeld ?_
            try simp only [List.getElem_toArray, List.getElem_cons_succ, List.getElem_cons_zero, Act.put, List.setIfInBounds_toArray, List.set_cons_zero, List.set_cons_succ]
            refine but_takeQ (i := 39) (v := undef) rfl hTidy (by kernel_rfl) (by kernel_rfl) (fun _ _ _ h => h) (Or.inr ⟨by rfl, rfl⟩) hHeld ?_
            try simp only [List.getElem_toArray, List.getElem_cons_succ, List.getElem_cons_zero, Act.put, List.setIfInBounds_toArray, List.set_cons_zero, List.set_cons_succ]
            refine but_takeQ (i := 40) (v := undef) rfl hTidy (by kernel_rfl) (by kernel_rfl) (fun _ _ _ h => h) (Or.inr ⟨by rfl, rfl⟩) hHeld ?_
            try simp only [List.getElem_toArray, List.getElem_cons_succ, List.getElem_cons_zero, Act.put, List.setIfInBounds_toArray, List.set_cons_zero, List.set_cons_succ]
            refine but_takeQ (i := 41) (v := undef) rfl hTidy (by kernel_rfl) (by kernel_rfl) (fun _ _ _ h => h) (Or.inr ⟨by rfl, rfl⟩) hHeld ?_
            try simp only [List.getElem_toArray, List.getElem_cons_succ, List.getElem_cons_zero, Act.put, List.setIfInBounds_toArray, List.set_cons_zero, List.set_cons_succ]
            refine but_takeQ (i := 42) (v := undef) rfl hTidy (by kernel_rfl) (by kernel_rfl) (fun _ _ _ h => h) (Or.inr ⟨by rfl, rfl⟩) hHeld ?_
            try simp only [List.getElem_toArray, List.getElem_cons_succ, List.getElem_cons_zero, Act.put, List.setIfInBounds_toArray, List.set_cons_zero, List.set_cons_succ]
            refine but_takeQ (i := 43) (v := undef) rfl hTidy (by kernel_rfl) (by kernel_rfl) (fun _ _ _ h => h) (Or.inr ⟨by rfl, rfl⟩) hHeld ?_
            try simp only [List.getElem_toArray, List.getElem_cons_succ, List.getElem_cons_zero, Act.put, List.setIfInBounds_toArray, List.set_cons_zero, List.set_cons_succ]
            refine but_takeQ (i := 44) (v := undef) rfl hTidy (by kernel_rfl) (by kernel_rfl) (fun _ _ _ h => h) (Or.inr ⟨by rfl, rfl⟩) hHeld ?_
            try simp only [List.getElem_toArray, List.getElem_cons_succ, List.getElem_cons_zero, Act.put, List.setIfInBounds_toArray, List.set_cons_zero, List.set_cons_succ]
            refine but_takeQ (i := 45) (v := undef) rfl hTidy (by kernel_rfl) (by kernel_rfl) (fun _ _ _ h => h) (Or.inr ⟨by rfl, rfl⟩) hHeld ?_
            try simp only [List.getElem_toArray, List.getElem_cons_succ, List.getElem_cons_zero, Act.put, List.setIfInBounds_toArray, List.set_cons_zero, List.set_cons_succ]
            refine but_takeQ (i := 46) (v := undef) rfl hTidy (by kernel_rfl) (by kernel_rfl) (fun _ _ _ h => h) (Or.inr ⟨by rfl, rfl⟩) hHeld ?_
            try simp only [List.getElem_toArray, List.getElem_cons_succ, List.getElem_cons_zero, Act.put, List.setIfInBounds_toArray, List.set_cons_zero, List.set_cons_succ]
            refine but_takeQ (i := 47) (v := undef) rfl hTidy (by kernel_rfl) (by kernel_rfl) (fun _ _ _ h => h) (Or.inr ⟨by rfl, rfl⟩) hHeld ?_
            try simp only [List.getElem_toArray, List.getElem_cons_succ, List.getElem_cons_zero, Act.put, List.setIfInBounds_toArray, List.set_cons_zero, List.set_cons_succ]
            refine but_takeQ (i := 48) (v := ?_) rfl hTidy (by kernel_rfl) (by kernel_rfl) (fun _ _ _ h => h) (Or.inl ⟨by rfl, ?_⟩) hHeld ?_
            rotate_left
            · intro w hSw
              (try dsimp only at hSw)
              go_split_ands
              go_simp
              try with_reducible rfl
            try simp only [List.getElem_toArray, List.getElem_cons_succ, List.getElem_cons_zero, Act.put, List.setIfInBounds_toArray, List.set_cons_zero, List.set_cons_succ]
            refine but_takeQ (i := 49) (v := ?_) rfl hTidy (by kernel_rfl) (by kernel_rfl) (fun _ _ _ h => h) (Or.inl ⟨by rfl, ?_⟩) hHeld ?_
            rotate_left
            · intro w hSw
              (try dsimp only at hSw)
              go_split_ands
              go_simp
              try with_reducible rfl
            try simp only [List.getElem_toArray, List.getElem_cons_succ, List.getElem_cons_zero, Act.put, List.setIfInBounds_toArray, List.set_cons_zero, List.set_cons_succ]
            refine but_done (by kernel_rfl) ?_
            try clear hHeld
            clear hTidy
            have A9 := Lib.hid (A5.out.later (Below.refl _ _).drew)
            clear A5 KP HLn
            go_wp2_with fail
            go_roundw
            case rel => exact ⟨k + 1, n, S, g, by omega, by omega, by omega, by go_num, A9.out.st, A9.out.mt, HI.out⟩
            case measure => simp [intOf]; omega
        · replace hs0 : S ≠ [] := fun h => hs0 (by rw [h]; rfl)
          as_aux_lemma =>
            obtain ⟨x, S1, hSS⟩ : ∃ x S1, S = x :: S1 := by
              cases S with
              | nil => exact absurd rfl hs0
              | cons x S' => exact ⟨x, S', rfl⟩
            have HMin : Hid (∃ u d, d = true ∧ u = x.w ∧ ∀ wx, TN W.heap.size t (W.heap.size + 1) W.heap.size (W.heap.size + 2) n S g wx → Calls Try.prog 38 #[pT t] wx (XR W.heap.size t (W.heap.size + 1) W.heap.size (W.heap.size + 2) n S g (.tuple #[.int .i64 u, .bool d]) wx)) := by
              subst hSS
              exact ⟨_, true, rfl, rfl, fun wx h => tn_next h hl9⟩
            have H0 : Hid (S[0]? = some x) := by rw [hSS]; rfl
            have d2 : 0 < S.length := by rw [hSS]; simp
            have d1 : (0 : Int) < (S.length : Int) := by omega
            have d3 : decide (0 < S.length) = true := decide_eq_true d2
            have d4 : decide ((0 : Int) < (S.length : Int)) = true := decide_eq_true d1
            clear hSS
            obtain ⟨u, dd, rfl, hu, hmin⟩ := HMin.out
            have HU := Lib.hid hu
            clear hu
            have HN := Lib.hid hmin
            clear hmin HMin
            obtain ⟨av, pv, ok, hb⟩ := armed_both id HA.out.2 HWF.out hle9
            have HB := Lib.hid hb
            have HI := Lib.hid HA.out.2
            have HP := Lib.hid (HA.out.1.prog hb)
            obtain ⟨-, a1, -, -⟩ := HA.out.1.cells
            clear hb HA
            go_wp2_with fail
            refine HP.out.mono ?_
            rintro e w3 ⟨rfl, hA, -⟩
            have A3 := Lib.hid hA
            clear hA HP a1
            obtain ⟨-, a1, -, -⟩ := A3.out.cells
            have HQ := Lib.hid (A3.out.ref HB.out)
            clear A3
            go_wp2_with fail
            refine HQ.out.mono ?_
            rintro e w4 ⟨rfl, hA, -⟩
            have A4 := Lib.hid hA
            clear hA HQ a1 HB
            have HR := Lib.hid (A4.out.run (HN.out w4 A4.out.st.tn))
            clear A4 HN
            go_wp2_with fail
            refine HR.out.mono ?_
            rintro e w5 ⟨rfl, hA, -⟩
            have A5 := Lib.hid hA
            clear hA HR
            obtain ⟨p9, Am, cm, Pm, c2m, Qm, -, hy, -⟩ := A5.out.mt
            obtain ⟨gm, off, rfl, -, hgm, hc⟩ := hy.mx.wn.cells d2
            obtain ⟨-, y1, -⟩ := hc 0 x H0.out
            simp only [Nat.zero_mul, Nat.add_zero] at y1
            rw [← HU.out] at y1
            have KP : Hid (∀ w', Below w5.heap.size w5 w' → w'.cell? ⟨m, 0, none⟩ = some (.slice (some ⟨gm, off, none⟩) S.length cm) ∧ w'.cell? ⟨gm, off + 1, none⟩ = some (.int .i64 u)) := fun w' hb => ⟨(hy.later hb).c0, (cell_blk (hb.block gm hgm) _).trans y1⟩
            clear hy hc y1 hgm
            have HLn := Lib.hid (tn_len (A5.out.later (Below.refl _ _).drew).st.tn)
            go_wp2_with fail
            refine but_startQ 1000 (fun w' => w'.cell? ⟨m, 0, none⟩ = some (.slice (some ⟨gm, off, none⟩) S.length cm) ∧ w'.cell? ⟨gm, off + 1, none⟩ = some (.int .i64 u)) (by kernel_rfl) (by as_aux_lemma => kernel_rfl) ?_
            intro hTidy
            have hHeld := KP.out w5.drew (Below.refl _ _).drew
            change AnyBut _ _ _ _ _ _ 50 _ _ _
            refine but_takeQ (i := 0) (v := ?_) rfl hTidy (by kernel_rfl) (by kernel_rfl) (fun _ _ _ h => h) (Or.inl ⟨by rfl, ?_⟩) hHeld ?_
            rotate_left
            · intro w hSw
              (try dsimp only at hSw)
              go_split_ands
              go_simp
              try with_reducible rfl
            try simp only [List.getElem_toArray, List.getElem_cons_zero, Act.put, List.setIfInBounds_toArray, List.set_cons_zero, List.set_cons_succ]
            refine but_takeQ (i := 1) (v := ?_) rfl hTidy (by kernel_rfl) (by kernel_rfl) (fun _ _ _ h => h) (Or.inl ⟨by rfl, ?_⟩) hHeld ?_
            rotate_left
            · intro w hSw
              (try dsimp only at hSw)
              go_split_ands
              go_simp
              try with_reducible rfl
            try simp only [List.getElem_toArray, List.getElem_cons_succ, List.getElem_cons_zero, Act.put, List.setIfInBounds_toArray, List.set_cons_zero, List.set_cons_succ]
            refine but_takeQ (i := 2) (v := ?_) rfl hTidy (by kernel_rfl) (by kernel_rfl) (fun _ _ _ h => h) (Or.inl ⟨by rfl, ?_⟩) hHeld ?_
            rotate_left
            · intro w hSw
              (try dsimp only at hSw)
              go_split_ands
              go_simp
              try with_reducible rfl
            try simp only [List.getElem_toArray, List.getElem_cons_succ, List.getElem_cons_zero, Act.put, List.setIfInBounds_toArray, List.set_cons_zero, List.set_cons_succ]
            refine but_takeQ (i := 3) (v := ?_) rfl hTidy (by kernel_rfl) (by kernel_rfl) (fun _ _ _ h => h) (Or.inl ⟨by rfl, ?_⟩) hHeld ?_
            rotate_left
            · intro w hSw
              (try dsimp only at hSw)
              go_split_ands
              go_simp
              try with_reducible rfl
            try simp only [List.getElem_toArray, List.getElem_cons_succ, List.getElem_cons_zero, Act.put, List.setIfInBounds_toArray, List.set_cons_zero, List.set_cons_succ]
            refine but_takeQ (i := 4) (v := ?_) rfl hTidy (by kernel_rfl) (by kernel_rfl) (fun _ _ _ h => h) (Or.inl ⟨by rfl, ?_⟩) hHeld ?_
            rotate_left
            · intro w hSw
              (try dsimp only at hSw)
              go_split_ands
              go_simp
              try with_reducible rfl
            try simp only [List.getElem_toArray, List.getElem_cons_succ, List.getElem_cons_zero, Act.put, List.setIfInBounds_toArray, List.set_cons_zero, List.set_cons_succ]
            refine but_takeQ (i := 5) (v := ?_) rfl hTidy (by kernel_rfl) (by kernel_rfl) (fun _ _ _ h => h) (Or.inl ⟨by rfl, ?_⟩) hHeld ?_
            rotate_left
            · intro w hSw
              (try dsimp only at hSw)
              go_split_ands
              go_simp
              try with_reducible rfl
            try simp only [List.getElem_toArray, List.getElem_cons_succ, List.getElem_cons_zero, Act.put, List.setIfInBounds_toArray, List.set_cons_zero, List.set_cons_succ]
            refine but_takeQ (i := 6) (v := ?_) rfl hTidy (by kernel_rfl) (by kernel_rfl) (fun _ _ _ h => h) (Or.inl ⟨by rfl, ?_⟩) hHeld ?_
            rotate_left
            · intro w hSw
              (try dsimp only at hSw)
              go_split_ands
              go_simp
              try with_reducible rfl
            try simp only [List.getElem_toArray, List.getElem_cons_succ, List.getElem_cons_zero, Act.put, List.setIfInBounds_toArray, List.set_cons_zero, List.set_cons_succ]
            refine but_takeQ (i := 7) (v := ?_) rfl hTidy (by kernel_rfl) (by kernel_rfl) (fun _ _ _ h => h) (Or.inl ⟨by rfl, ?_⟩) hHeld ?_
            rotate_left
            · intro w hSw
              (try dsimp only at hSw)
              go_split_ands
              go_simp
              try with_reducible rfl
            try simp only [List.getElem_toArray, List.getElem_cons_succ, List.getElem_cons_zero, Act.put, List.setIfInBounds_toArray, List.set_cons_zero, List.set_cons_succ]
            refine but_takeQ (i := 8) (v := ?_) rfl hTidy (by kernel_rfl) (by kernel_rfl) (fun _ _ _ h => h) (Or.inl ⟨by rfl, ?_⟩) hHeld ?_
            rotate_left
            · intro w hSw
              (try dsimp only at hSw)
              go_split_ands
              go_simp
              try with_reducible rfl
            try simp only [List.getElem_toArray, List.getElem_cons_succ, List.getElem_cons_zero, Act.put, List.setIfInBounds_toArray, List.set_cons_zero, List.set_cons_succ]
            refine but_takeQ (i := 9) (v := ?_) rfl hTidy (by kernel_rfl) (by kernel_rfl) (fun _ _ _ h => h) (Or.inl ⟨by rfl, ?_⟩) hHeld ?_
            rotate_left
            · intro w hSw
              (try dsimp only at hSw)
              go_split_ands
              go_simp
              try with_reducible rfl
            try simp only [List.getElem_toArray, List.getElem_cons_succ, List.getElem_cons_zero, Act.put, List.setIfInBounds_toArray, List.set_cons_zero, List.set_cons_succ]
            refine but_takeQ (i := 10) (v := ?_) rfl hTidy (by kernel_rfl) (by kernel_rfl) (fun _ _ _ h => h) (Or.inl ⟨by rfl, ?_⟩) hHeld ?_
            rotate_left
            · intro w hSw
              (try dsimp only at hSw)
              go_split_ands
              go_simp
              try with_reducible rfl
            try simp only [List.getElem_toArray, List.getElem_cons_succ, List.getElem_cons_zero, Act.put, List.setIfInBounds_toArray, List.set_cons_zero, List.set_cons_succ]
            refine but_takeQ (i := 11) (v := ?_) rfl hTidy (by kernel_rfl) (by kernel_rfl) (fun _ _ _ h => h) (Or.inl ⟨by rfl, ?_⟩) hHeld ?_
            rotate_left
            · intro w hSw
              (try dsimp only at hSw)
              go_split_ands
              go_simp
              try with_reducible rfl
            try simp only [List.getElem_toArray, List.getElem_cons_succ, List.getElem_cons_zero, Act.put, List.setIfInBounds_toArray, List.set_cons_zero, List.set_cons_succ]
            refine but_takeQ (i := 12) (v := ?_) rfl hTidy (by kernel_rfl) (by kernel_rfl) (fun _ _ _ h => h) (Or.inl ⟨by rfl, ?_⟩) hHeld ?_
            rotate_left
            · intro w hSw
              (try dsimp only at hSw)
              go_split_ands
              go_simp
              try with_reducible rfl
            try simp only [List.getElem_toArray, List.getElem_cons_succ, List.getElem_cons_zero, Act.put, List.setIfInBounds_toArray, List.set_cons_zero, List.set_cons_succ]
            refine but_takeQ (i := 13) (v := ?_) rfl hTidy (by kernel_rfl) (by kernel_rfl) (fun _ _ _ h => h) (Or.inl ⟨by rfl, ?_⟩) hHeld ?_
            rotate_left
            · intro w hSw
              (try dsimp only at hSw)
              go_split_ands
              go_simp
              try with_reducible rfl
            try simp only [List.getElem_toArray, List.getElem_cons_succ, List.getElem_cons_zero, Act.put, List.setIfInBounds_toArray, List.set_cons_zero, List.set_cons_succ]
            refine but_takeQ (i := 14) (v := ?_) rfl hTidy (by kernel_rfl) (by kernel_rfl) (fun _ _ _ h => h) (Or.inl ⟨by rfl, ?_⟩) hHeld ?_
            rotate_left
            · intro w hSw
              (try dsimp only at hSw)
              go_split_ands
              go_simp
              try with_reducible rfl
            try simp only [List.getElem_toArray, List.getElem_cons_succ, List.getElem_cons_zero, Act.put, List.setIfInBounds_toArray, List.set_cons_zero, List.set_cons_succ]
            refine but_takeQ (i := 16) (v := ?_) rfl hTidy (by kernel_rfl) (by kernel_rfl) (fun _ _ _ h => h) (Or.inl ⟨by rfl, ?_⟩) hHeld ?_
            rotate_left
            · intro w hSw
              (try dsimp only at hSw)
              go_split_ands
              go_simp
              try with_reducible rfl
            try simp only [List.getElem_toArray, List.getElem_cons_succ, List.getElem_cons_zero, Act.put, List.setIfInBounds_toArray, List.set_cons_zero, List.set_cons_succ]
            refine but_takeQ (i := 17) (v := ?_) rfl hTidy (by kernel_rfl) (by kernel_rfl) (fun _ _ _ h => h) (Or.inl ⟨by rfl, ?_⟩) hHeld ?_
            rotate_left
            · intro w hSw
              (try dsimp only at hSw)
              go_split_ands
              go_simp
              try with_reducible rfl
            try simp only [List.getElem_toArray, List.getElem_cons_succ, List.getElem_cons_zero, Act.put, List.setIfInBounds_toArray, List.set_cons_zero, List.set_cons_succ]
            refine but_takeQ (i := 18) (v := ?_) rfl hTidy (by kernel_rfl) (by kernel_rfl) (fun _ _ _ h => h) (Or.inl ⟨by rfl, ?_⟩) hHeld ?_
            rotate_left
            · intro w hSw
              (try dsimp only at hSw)
              go_split_ands
              go_simp
              try with_reducible rfl
            try simp only [List.getElem_toArray, List.getElem_cons_succ, List.getElem_cons_zero, Act.put, List.setIfInBounds_toArray, List.set_cons_zero, List.set_cons_succ]
            refine but_takeQ (i := 19) (v := ?_) rfl hTidy (by kernel_rfl) (by kernel_rfl) (fun _ _ _ h => h) (Or.inl ⟨by rfl, ?_⟩) hHeld ?_
            rotate_left
            · intro w hSw
              (try dsimp only at hSw)
              go_split_ands
              go_simp
              try with_reducible rfl
            try simp only [List.getElem_toArray, List.getElem_cons_succ, List.getElem_cons_zero, Act.put, List.setIfInBounds_toArray, List.set_cons_zero, List.set_cons_succ]
            refine but_takeQ (i := 20) (v := ?_) rfl hTidy (by kernel_rfl) (by kernel_rfl) (fun _ _ _ h => h) (Or.inl ⟨by rfl, ?_⟩) hHeld ?_
            rotate_left
            · intro w hSw
              (try dsimp only at hSw)
              go_split_ands
              go_simp
              try with_reducible rfl
            try simp only [List.getElem_toArray, List.getElem_cons_succ, List.getElem_cons_zero, Act.put, List.setIfInBounds_toArray, List.set_cons_zero, List.set_cons_succ]
            refine but_takeQ (i := 21) (v := ?_) rfl hTidy (by kernel_rfl) (by kernel_rfl) (fun _ _ _ h => h) (Or.inl ⟨by rfl, ?_⟩) hHeld ?_
            rotate_left
            · intro w hSw
              (try dsimp only at hSw)
              go_split_ands
              go_simp
              try with_reducible rfl
            try simp only [List.getElem_toArray, List.getElem_cons_succ, List.getElem_cons_zero, Act.put, List.setIfInBounds_toArray, List.set_cons_zero, List.set_cons_succ]
            refine but_one (i := 15) (by kernel_rfl) rfl ?_
            intro K hK
            go_simp
            go_at_call 39
            refine HLn.out.mono ?_
            rintro e w9 ⟨rfl, rfl⟩
            try dsimp only
            have hHeld2 := hHeld
            refine hK _ _ (fun _ => hHeld2) ?_
            clear hK K hHeld
            have hHeld := hHeld2
            clear hHeld2
            try simp only [List.getElem_toArray, List.getElem_cons_succ, List.getElem_cons_zero, Act.put, List.setIfInBounds_toArray, List.set_cons_zero, List.set_cons_succ]
            refine but_takeQ (i := 22) (v := ?_) rfl hTidy (by kernel_rfl) (by kernel_rfl) (fun _ _ _ h => h) (Or.inl ⟨by rfl, ?_⟩) hHeld ?_
            rotate_left
            · intro w hSw
              (try dsimp only at hSw)
              go_split_ands
              go_simp
              try with_reducible rfl
            try simp only [List.getElem_toArray, List.getElem_cons_succ, List.getElem_cons_zero, Act.put, List.setIfInBounds_toArray, List.set_cons_zero, List.set_cons_succ]
            refine but_takeQ (i := 23) (v := ?_) rfl hTidy (by kernel_rfl) (by kernel_rfl) (fun _ _ _ h => h) (Or.inl ⟨by rfl, ?_⟩) hHeld ?_
            rotate_left
            · intro w hSw
              (try dsimp only at hSw)
              go_split_ands
              go_simp
              try with_reducible rfl
            try simp only [List.getElem_toArray, List.getElem_cons_succ, List.getElem_cons_zero, Act.put, List.setIfInBounds_toArray, List.set_cons_zero, List.set_cons_succ]
            refine but_takeQ (i := 24) (v := ?_) rfl hTidy (by kernel_rfl) (by kernel_rfl) (fun _ _ _ h => h) (Or.inl ⟨by rfl, ?_⟩) hHeld ?_
            rotate_left
            · intro w hSw
              (try dsimp only at hSw)
              go_split_ands
              go_simp
              try with_reducible rfl
            try simp only [List.getElem_toArray, List.getElem_cons_succ, List.getElem_cons_zero, Act.put, List.setIfInBounds_toArray, List.set_cons_zero, List.set_cons_succ]
            refine but_takeQ (i := 25) (v := ?_) rfl hTidy (by kernel_rfl) (by kernel_rfl) (fun _ _ _ h => h) (Or.inl ⟨by rfl, ?_⟩) hHeld ?_
            rotate_left
            · intro w hSw
              (try dsimp only at hSw)
              go_split_ands
              go_simp
              try with_reducible rfl
            try simp only [List.getElem_toArray, List.getElem_cons_succ, List.getElem_cons_zero, Act.put, List.setIfInBounds_toArray, List.set_cons_zero, List.set_cons_succ]
            refine but_takeQ (i := 26) (v := ?_) rfl hTidy (by kernel_rfl) (by kernel_rfl) (fun _ _ _ h => h) (Or.inl ⟨by rfl, ?_⟩) hHeld ?_
            rotate_left
            · intro w hSw
              (try dsimp only at hSw)
              go_split_ands
              go_simp
              try with_reducible rfl
            try simp only [List.getElem_toArray, List.getElem_cons_succ, List.getElem_cons_zero, Act.put, List.setIfInBounds_toArray, List.set_cons_zero, List.set_cons_succ]
            refine but_takeQ (i := 27) (v := ?_) rfl hTidy (by kernel_rfl) (by kernel_rfl) (fun _ _ _ h => h) (Or.inl ⟨by rfl, ?_⟩) hHeld ?_
            rotate_left
            · intro w hSw
              (try dsimp only at hSw)
              go_split_ands
              go_simp
              try with_reducible rfl
            try simp only [List.getElem_toArray, List.getElem_cons_succ, List.getElem_cons_zero, Act.put, List.setIfInBounds_toArray, List.set_cons_zero, List.set_cons_succ]
            refine but_takeQ (i := 28) (v := ?_) rfl hTidy (by kernel_rfl) (by kernel_rfl) (fun _ _ _ h => h) (Or.inl ⟨by rfl, ?_⟩) hHeld ?_
            rotate_left
            · intro w hSw
              (try dsimp only at hSw)
              go_split_ands
              go_simp
              try with_reducible rfl
            try simp only [List.getElem_toArray, List.getElem_cons_succ, List.getElem_cons_zero, Act.put, List.setIfInBounds_toArray, List.set_cons_zero, List.set_cons_succ]
            refine but_takeQ (i := 29) (v := ?_) rfl hTidy (by kernel_rfl) (by kernel_rfl) (fun _ _ _ h => h) (Or.inl ⟨by rfl, ?_⟩) hHeld ?_
            rotate_left
            · intro w hSw
              (try dsimp only at hSw)
              go_split_ands
              go_simp
              try with_reducible rfl
            try simp only [List.getElem_toArray, List.getElem_cons_succ, List.getElem_cons_zero, Act.put, List.setIfInBounds_toArray, List.set_cons_zero, List.set_cons_succ]
            refine but_takeQ (i := 30) (v := ?_) rfl hTidy (by kernel_rfl) (by kernel_rfl) (fun _ _ _ h => h) (Or.inl ⟨by rfl, ?_⟩) hHeld ?_
            rotate_left
            · intro w hSw
              (try dsimp only at hSw)
              go_split_ands
              go_simp
              try with_reducible rfl
            try simp only [List.getElem_toArray, List.getElem_cons_succ, List.getElem_cons_zero, Act.put, List.setIfInBounds_toArray, List.set_cons_zero, List.set_cons_succ]
            refine but_takeQ (i := 31) (v := ?_) rfl hTidy (by kernel_rfl) (by kernel_rfl) (fun _ _ _ h => h) (Or.inl ⟨by rfl, ?_⟩) hHeld ?_
            rotate_left
            · intro w hSw
              (try dsimp only at hSw)
              go_split_ands
              go_simp
              try with_reducible rfl
            try simp only [List.getElem_toArray, List.getElem_cons_succ, List.getElem_cons_zero, Act.put, List.setIfInBounds_toArray, List.set_cons_zero, List.set_cons_succ]
            refine but_takeQ (i := 32) (v := ?_) rfl hTidy (by kernel_rfl) (by kernel_rfl) (fun _ _ _ h => h) (Or.inl ⟨by rfl, ?_⟩) hHeld ?_
            rotate_left
            · intro w hSw
              (try dsimp only at hSw)
              go_split_ands
              go_simp
              try with_reducible rfl
            try simp only [List.getElem_toArray, List.getElem_cons_succ, List.getElem_cons_zero, Act.put, List.setIfInBounds_toArray, List.set_cons_zero, List.set_cons_succ]
            refine but_takeQ (i := 33) (v := ?_) rfl hTidy (by kernel_rfl) (by kernel_rfl) (fun _ _ _ h => h) (Or.inl ⟨by rfl, ?_⟩) hHeld ?_
            rotate_left
            · intro w hSw
              (try dsimp only at hSw)
              go_split_ands
              go_simp
              try with_reducible rfl
            try simp only [List.getElem_toArray, List.getElem_cons_succ, List.getElem_cons_zero, Act.put, List.setIfInBounds_toArray, List.set_cons_zero, List.set_cons_succ]
            refine but_takeQ (i := 34) (v := ?_) rfl hTidy (by kernel_rfl) (by kernel_rfl) (fun _ _ _ h => h) (Or.inl ⟨by rfl, ?_⟩) hHeld ?_
            rotate_left
            · intro w hSw
              (try dsimp only at hSw)
              go_split_ands
              go_simp
              try with_reducible rfl
            try simp only [List.getElem_toArray, List.getElem_cons_succ, List.getElem_cons_zero, Act.put, List.setIfInBounds_toArray, List.set_cons_zero, List.set_cons_succ]
            refine but_takeQ (i := 35) (v := ?_) rfl hTidy (by kernel_rfl) (by kernel_rfl) (fun _ _ _ h => h) (Or.inl ⟨by rfl, ?_⟩) hHeld ?_
            rotate_left
            · intro w hSw
              (try dsimp only at hSw)
              go_split_ands
              go_simp
              try with_reducible rfl
            try simp only [List.getElem_toArray, List.getElem_cons_succ, List.getElem_cons_zero, Act.put, List.setIfInBounds_toArray, List.set_cons_zero, List.set_cons_succ]
            refine but_takeQ (i := 36) (v := ?_) rfl hTidy (by kernel_rfl) (by kernel_rfl) (fun _ _ _ h => h) (Or.inl ⟨by rfl, ?_⟩) hHeld ?_
            rotate_left
            · intro w hSw
              (try dsimp only at hSw)
              go_split_ands
              go_simp
              try with_reducible rfl
            try simp only [List.getElem_toArray, List.getElem_cons_succ, List.getElem_cons_zero, Act.put, List.setIfInBounds_toArray, List.set_cons_zero, List.set_cons_succ]
            refine but_takeQ (i := 37) (v := ?_) rfl hTidy (by kernel_rfl) (by kernel_rfl) (fun _ _ _ h => h) (Or.inl ⟨by rfl, ?_⟩) hHeld ?_
            rotate_left
            · intro w hSw
              (try dsimp only at hSw)
              go_split_ands
              go_simp
              try with_reducible rfl
            try simp only [List.getElem_toArray, List.getElem_cons_succ, List.getElem_cons_zero, Act.put, List.setIfInBounds_toArray, List.set_cons_zero, List.set_cons_succ]
            refine but_takeQ (i := 38) (v := ?_) rfl hTidy (by kernel_rfl) (by kernel_rfl) (fun _ _ _ h => h) (Or.inl ⟨by rfl, ?_⟩) hHeld ?_
            rotate_left
            · intro w hSw
              (try dsimp only at hSw)
              go_split_ands
              go_simp
              try with_reducible rfl
            try simp only [List.getElem_toArray, List.getElem_cons_succ, List.getElem_cons_zero, Act.put, List.setIfInBounds_toArray, List.set_cons_zero, List.set_cons_succ]
            refine but_takeQ (i := 39) (v := ?_) rfl hTidy (by kernel_rfl) (by kernel_rfl) (fun _ _ _ h => h) (Or.inl ⟨by rfl, ?_⟩) hHeld ?_
            rotate_left
            · intro w hSw
              (try dsimp only at hSw)
              go_split_ands
              go_simp
              try with_reducible rfl
            try simp only [List.getElem_toArray, List.getElem_cons_succ, List.getElem_cons_zero, Act.put, List.setIfInBounds_toArray, List.set_cons_zero, List.set_cons_succ]
            refine but_takeQ (i := 40) (v := ?_) rfl hTidy (by kernel_rfl) (by kernel_rfl) (fun _ _ _ h => h) (Or.inl ⟨by rfl, ?_⟩) hHeld ?_
            rotate_left
            · intro w hSw
              (try dsimp only at hSw)
              go_split_ands
              go_simp
              try with_reducible rfl
            try simp only [List.getElem_toArray, List.getElem_cons_succ, List.getElem_cons_zero, Act.put, List.setIfInBounds_toArray, List.set_cons_zero, List.set_cons_succ]
            refine but_takeQ (i := 41) (v := ?_) rfl hTidy (by kernel_rfl) (by kernel_rfl) (fun _ _ _ h => h) (Or.inl ⟨by rfl, ?_⟩) hHeld ?_
            rotate_left
            · intro w hSw
              (try dsimp only at hSw)
              go_split_ands
              go_simp
              try with_reducible rfl
            try simp only [List.getElem_toArray, List.getElem_cons_succ, List.getElem_cons_zero, Act.put, List.setIfInBounds_toArray, List.set_cons_zero, List.set_cons_succ]
            refine but_takeQ (i := 42) (v := ?_) rfl hTidy (by kernel_rfl) (by kernel_rfl) (fun _ _ _ h => h) (Or.inl ⟨by rfl, ?_⟩) hHeld ?_
            rotate_left
            · intro w hSw
              (try dsimp only at hSw)
              go_split_ands
              go_simp
              try with_reducible rfl
            try simp only [List.getElem_toArray, List.getElem_cons_succ, List.getElem_cons_zero, Act.put, List.setIfInBounds_toArray, List.set_cons_zero, List.set_cons_succ]
            refine but_takeQ (i := 43) (v := ?_) rfl hTidy (by kernel_rfl) (by kernel_rfl) (fun _ _ _ h => h) (Or.inl ⟨by rfl, ?_⟩) hHeld ?_
            rotate_left
            · intro w hSw
              (try dsimp only at hSw)
              go_split_ands
              go_simp
              try with_reducible rfl
            try simp only [List.getElem_toArray, List.getElem_cons_succ, List.getElem_cons_zero, Act.put, List.setIfInBounds_toArray, List.set_cons_zero, List.set_cons_succ]
            refine but_takeQ (i := 44) (v := ?_) rfl hTidy (by kernel_rfl) (by kernel_rfl) (fun _ _ _ h => h) (Or.inl ⟨by rfl, ?_⟩) hHeld ?_
            rotate_left
            · intro w hSw
              (try dsimp only at hSw)
              go_split_ands
              go_simp
              try with_reducible rfl
            try simp only [List.getElem_toArray, List.getElem_cons_succ, List.getElem_cons_zero, Act.put, List.setIfInBounds_toArray, List.set_cons_zero, List.set_cons_succ]
            refine but_takeQ (i := 45) (v := ?_) rfl hTidy (by kernel_rfl) (by kernel_rfl) (fun _ _ _ h => h) (Or.inl ⟨by rfl, ?_⟩) hHeld ?_
            rotate_left
            · intro w hSw
              (try dsimp only at hSw)
              go_split_ands
              go_simp
              try with_reducible rfl
            try simp only [List.getElem_toArray, List.getElem_cons_succ, List.getElem_cons_zero, Act.put, List.setIfInBounds_toArray, List.set_cons_zero, List.set_cons_succ]
            refine but_takeQ (i := 46) (v := ?_) rfl hTidy (by kernel_rfl) (by kernel_rfl) (fun _ _ _ h => h) (Or.inl ⟨by rfl, ?_⟩) hHeld ?_
            rotate_left
            · intro w hSw
              (try dsimp only at hSw)
              go_split_ands
              go_simp
              try with_reducible rfl
            try simp only [List.getElem_toArray, List.getElem_cons_succ, List.getElem_cons_zero, Act.put, List.setIfInBounds_toArray, List.set_cons_zero, List.set_cons_succ]
            refine but_takeQ (i := 47) (v := ?_) rfl hTidy (by kernel_rfl) (by kernel_rfl) (fun _ _ _ h => h) (Or.inl ⟨by rfl, ?_⟩) hHeld ?_
            rotate_left
            · intro w hSw
              (try dsimp only at hSw)
              go_split_ands
              go_simp
              try with_reducible rfl
            try simp only [List.getElem_toArray, List.getElem_cons_succ, List.getElem_cons_zero, Act.put, List.setIfInBounds_toArray, List.set_cons_zero, List.set_cons_succ]
            refine but_takeQ (i := 48) (v := ?_) rfl hTidy (by kernel_rfl) (by kernel_rfl) (fun _ _ _ h => h) (Or.inl ⟨by rfl, ?_⟩) hHeld ?_
            rotate_left
            · intro w hSw
              (try dsimp only at hSw)
              go_split_ands
              go_simp
              try with_reducible rfl
            try simp only [List.getElem_toArray, List.getElem_cons_succ, List.getElem_cons_zero, Act.put, List.setIfInBounds_toArray, List.set_cons_zero, List.set_cons_succ]
            refine but_takeQ (i := 49) (v := ?_) rfl hTidy (by kernel_rfl) (by kernel_rfl) (fun _ _ _ h => h) (Or.inl ⟨by rfl, ?_⟩) hHeld ?_
            rotate_left
            · intro w hSw
              (try dsimp only at hSw)
              go_split_ands
              go_simp
              try with_reducible rfl
            try simp only [List.getElem_toArray, List.getElem_cons_succ, List.getElem_cons_zero, Act.put, List.setIfInBounds_toArray, List.set_cons_zero, List.set_cons_succ]
            refine but_done (by kernel_rfl) ?_
            try clear hHeld
            clear hTidy
            have A9 := Lib.hid (A5.out.later (Below.refl _ _).drew)
            clear A5 KP HLn
            go_wp2_with fail
            go_roundw
            case rel => exact ⟨k + 1, n, S, g, by omega, by omega, by omega, by go_num, A9.out.st, A9.out.mt, HI.out⟩
            case measure => simp [intOf]; omega
    · obtain rfl : k = n1 := by omega
      have k3 : ¬ (k : Int) < (k : Int) := by omega
      go_wp2_with fail
      refine (awaket_any wr).mono ?_
      rintro e w2 ⟨rfl, hb⟩
      have HB := Lib.hid (hS.out.1.later hb)
      clear hb
      go_wp2_with fail
      go_ret
      exact ⟨rfl, HB.out.bel⟩
theorem eacts_walk (A1 : Option Addr) (n1 c1 : Nat) (l1 : List Ac) (W : World) (h1 : RdA W A1 n1 l1) (hwf : ∀ a ∈ l1, Wf a.id) : Calls Try.prog 4 #[.slice A1 n1 c1] W (BoolR true W) := by
  by_cases h : 100 < n1
  · exact eacts_out A1 n1 c1 W h
  · exact eacts_in A1 n1 c1 l1 W h1 hwf (by omega)
end Go.Proofs.Ytbpoippgioincaa
