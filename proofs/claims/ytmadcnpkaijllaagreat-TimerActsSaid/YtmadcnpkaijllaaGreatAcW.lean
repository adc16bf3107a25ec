/- TimerActs says true. Condition: the slice of acts reads as it came, each time fits. -/
import Derived.Test.YtmadcnpkaijllaaGreatDk2
import Derived.Test.YtmadcnpkaijllaaGreatDk3
import Derived.Test.YtmadcnpkaijllaaGreatDk5
import Derived.Test.YtmadcnpkaijllaaGreatDk9
import Derived.Test.YtmadcnpkaijllaaGreatDk8
import Derived.Test.YtmadcnpkaijllaaGreatDka
import Derived.Test.YtmadcnpkaijllaaGreatDkb
import Derived.Test.YtmadcnpkaijllaaGreatDkc
import Derived.Test.YtmadcnpkaijllaaGreatShw
import Derived.Test.YtmadcnpkaijllaaGreatShx
import Derived.Test.YtmadcnpkaijllaaGreatOpn
import Derived.Test.YtmadcnpkaijllaaGreatSaW
namespace Go.Proofs.YtmadcnpkaijllaaGreat
open Go.RowKit Ch
set_option linter.unusedVariables false
set_option maxRecDepth 100000
section
variable {W w w' : World} {b t mo k q : Nat}
/-- An act, whatever its kind. -/
theorem does_any (h : BE W b t mo k w) (hk : k ≤ 120) (kd nn d : Int) (hd : Ch.Wf d) : Calls Tryz.prog 6 #[.pointer (some ⟨b, 0, none⟩), .agg #[.int .i64 kd, .int .i64 nn, .int .i64 d]] w (Dz W b t mo k w) := by
  by_cases e1 : kd = 1
  · subst e1; exact does_1 h hk
  by_cases e2 : kd = 2
  · subst e2; exact does_2 h hk
  by_cases e3 : kd = 3
  · subst e3; exact does_3 h hk
  by_cases e4 : kd = 4
  · subst e4; exact does_4 h hk
  by_cases e5 : kd = 5
  · subst e5; exact does_5 h hk
  by_cases e6 : kd = 6
  · subst e6; exact does_6 h hk
  by_cases e7 : kd = 7
  · subst e7; exact does_7 h hk
  by_cases e8 : kd = 8
  · subst e8; exact does_8 h hk
  by_cases e9 : kd = 9
  · subst e9; exact does_9 h hk
  by_cases e10 : kd = 10
  · subst e10; exact does_10 h hk hd
  by_cases e11 : kd = 11
  · subst e11; exact does_11 h hk
  exact does_0 kd h fun i h1 h2 => by omega
/-- What both show. -/
theorem shows_any (h : BE W b t mo k w) (hk : k ≤ 120) (a : Int) : Calls Tryz.prog 7 #[.pointer (some ⟨b, 0, none⟩), .int .i64 a] w fun e w' => e = .returned (.bool true) ∧ BE W b t mo k w' := by
  obtain ⟨B, RC, X, T, m, n, S, g, now, h1, h2⟩ := h
  cases S with
  | nil => exact (shows_nil h1 h2 hk).mono fun e w' r => ⟨r.1, B, RC, X, T, m, n, [], g, now, r.2, h2⟩
  | cons x r => exact (shows_cons h1 h2 hk).mono fun e w' q => ⟨q.1, B, RC, X, T, m, n, x :: r, g, now, q.2, h2⟩
theorem BE.bel (h : BE W b t mo k w) : Below W.heap.size W w := by
  obtain ⟨B, RC, X, T, m, n, S, g, now, h1, h2⟩ := h
  exact h1.ss.bel
theorem BE.c0 (h : BE W b t mo k w) : w.cell? ⟨b, 0, none⟩ = some (pS t) := by
  obtain ⟨B, RC, X, T, m, n, S, g, now, h1, h2⟩ := h
  exact (Bc.cells h1.cb).1
/-- Both sides at first. -/
theorem BE.start (h : SS W [] [] t [] 0 0 [] (fun _ => 0) [] w) : BE W (w.heap.size + 1) t w.heap.size 0 ((w.alloc (.cells #[.slice none 0 0, .int .i64 0, .slice none 0 0, .slice none 0 0, .int .i64 0] 35)).alloc (.cells #[pS t, pM w.heap.size, .int .i64 0] 37)) := by
  have hs := h.bel.size
  have hb := heap_alloc_new (w.alloc (.cells #[.slice none 0 0, .int .i64 0, .slice none 0 0, .slice none 0 0, .int .i64 0] 35)) (.cells #[pS t, pM w.heap.size, .int .i64 0] 37)
  rw [World.size_alloc] at hb
  refine ⟨[], [], [], [], 0, 0, [], fun _ => 0, 0, ⟨(h.later (below_al w _)).later (below_al _ _), (RS.start w hs).later (below_al _ _), rfl, rfl, hb, by omega⟩, ⟨fun x hx => (by cases hx), fun x hx => (by cases hx), fun x hx => (by cases hx), Inv.start, by omega, by omega, by simp, ⟨by omega, by omega⟩⟩⟩
end
set_option maxHeartbeats 16000000 in
theorem acts_in (A : Option Addr) (n c : Nat) (l : List Ac) (W : World) (hR : RdA W A n l) (hwf : ∀ a ∈ l, Ch.Wf a.w) (hn : n ≤ 120) : Calls Tryz.prog 3 #[.slice A n c] W (BoolR true W) := by
  have q0 : ¬ (120 : Int) < (n : Int) := by omega
  have R1 := Lib.hid hR
  have F1 := Lib.hid hwf
  clear hR hwf
  go_enter Tryz.func3, Tryz.ntmps3
  go_wp2_with fail
  refine (ss_new (Below.refl _ W)).mono ?_
  rintro e w0 ⟨rfl, h0, -⟩
  have H0 := Lib.hid (BE.start h0)
  clear h0
  go_upto_region 4 with (fail)
  generalize W.heap.size = t at *
  generalize (w0.alloc (.cells #[.slice none 0 0, .int .i64 0, .slice none 0 0, .slice none 0 0, .int .i64 0] 35)).alloc (.cells #[pS t, pM w0.heap.size, .int .i64 0] 37) = w1 at *
  generalize w0.heap.size = mo at *
  have y0 : w1.cell? ⟨mo + 1, 0, none⟩ = some (pS t) := H0.out.c0
  go_wp2_with fail
  clear y0
  generalize mo + 1 = b at *
  go_loopw [4] (fun i wr => ∃ k : Nat, k ≤ n ∧ i = .int .i64 k ∧ Hid (BE W b t mo k wr)) (fun i _ => n - (intOf i).toNat)
  case atStart => exact ⟨0, by omega, rfl, H0⟩
  case round =>
    clear H0
    obtain ⟨k, hk, rfl, hB⟩ := hrel
    by_cases hlt : k < n
    · as_aux_lemma =>
      obtain ⟨bb, off, a, rfl, hbb, hza, y0, y1, y2⟩ := R1.out.cells hB.out.bel hlt
      have k3 : (k : Int) < (n : Int) := by omega
      have b1 : IntKind.i64.wrap ((k : Int) + 1) = (k : Int) + 1 := by rw [IntKind.wrap_i64]; omega
      have HD := Lib.hid (does_any hB.out (by omega) a.k a.id a.w (F1.out a (List.mem_of_getElem? hza)))
      have HC : Hid (∀ w', Below W.heap.size W w' → w'.cell? ⟨bb, off + k * 3 + 1, none⟩ = some (.int .i64 a.id)) := fun w' hb' => by
        obtain ⟨bb', off', a', e, -, hz', -, z1, -⟩ := R1.out.cells hb' hlt
        cases e
        rw [hza] at hz'
        cases hz'
        exact z1
      clear hza
      go_wp2_with fail
      refine HD.out.mono ?_
      rintro e w2 ⟨rfl, hbe, -⟩
      have HB2 := Lib.hid hbe
      have z1 := HC.out w2 hbe.bel
      have HS := Lib.hid (shows_any hbe (by omega) a.id)
      clear hbe HD y0 y1 y2
      go_wp2_with fail
      refine HS.out.mono ?_
      rintro e w3 ⟨rfl, hbe⟩
      have HB3 := Lib.hid hbe
      clear hbe HS z1
      go_wp2_with fail
      go_roundw
      case rel => exact ⟨k + 1, by omega, by go_num, HB3⟩
      case measure => simp [intOf]; omega
    · obtain rfl : k = n := by omega
      have k3 : ¬ (k : Int) < (k : Int) := by omega
      go_wp2_with fail
      refine (awakes_any _).mono ?_
      rintro e w9 ⟨rfl, hb⟩
      have HL := Lib.hid (hB.out.bel.trans (hb.mono hB.out.bel.size))
      clear hb
      go_wp2_with fail
      go_ret
      exact ⟨rfl, HL.out⟩
theorem acts_walk (A : Option Addr) (n c : Nat) (l : List Ac) (W : World) (hR : RdA W A n l) (hwf : ∀ a ∈ l, Ch.Wf a.w) : Calls Tryz.prog 3 #[.slice A n c] W (BoolR true W) := by
  by_cases q0 : n ≤ 120
  · exact acts_in A n c l W hR hwf q0
  · have q1 : (120 : Int) < (n : Int) := by omega
    clear hR hwf q0
    go_enter Tryz.func3, Tryz.ntmps3
    go_wp2_with fail
    refine (awakes_any _).mono ?_
    rintro e w' ⟨rfl, hb⟩
    have HB := Lib.hid hb
    clear hb
    go_wp2_with fail
    go_ret
    exact ⟨rfl, HB.out⟩
end Go.Proofs.YtmadcnpkaijllaaGreat
