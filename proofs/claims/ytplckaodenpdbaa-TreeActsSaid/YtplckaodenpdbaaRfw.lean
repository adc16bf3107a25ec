/- The document's own walk of a tree. Conditions: each theorem's own premises. -/
import Derived.Test.YtplckaodenpdbaaRef
namespace Go.Proofs.Ytplckaodenpdbaa
open Go.RowKit
set_option linter.unusedVariables false
set_option maxRecDepth 100000

/-- In the loop over kids: what has been walked, and the kids. -/
structure KS (W : World) (P : Option Addr) (c : Nat) (l : List Int) (Pk : Option Addr) (ck : Nat) (ks : List Int) (w : World) : Prop where
  bel : Below W.heap.size W w
  own : Rw W.heap.size w P c l
  kid : Rw W.heap.size w Pk ck ks
  ne : ∀ k, blk P = some k → blk Pk ≠ some k
section
variable {W w w' : World} {P Pk : Option Addr} {c ck : Nat} {l ks : List Int}
theorem KS.later (h : KS W P c l Pk ck ks w) (hb : Below w.heap.size w w') : KS W P c l Pk ck ks w' := ⟨h.bel.trans (hb.mono h.bel.size), row_later h.own hb, row_later h.kid hb, h.ne⟩
theorem KS.app {g cap n m : Nat} {l2 : List Int} (h : KS W P c l Pk ck ks w) (hn : n = l.length) (hm : m = l2.length) (hown : w'.ownsRow W.heap.size 3 1 (.slice (some ⟨g, 0, none⟩) (n + m) cap) (n + m) (iV l ++ iV l2)) (hgrow : w.grownBy w' (Value.slice P n c).ownBlock) (hat : (Value.slice P n c).ownBlock = some g ∨ w.heap.size ≤ g) : KS W (some ⟨g, 0, none⟩) cap (l ++ l2) Pk ck ks w' := by
  subst hn hm
  rw [own_blk] at hgrow hat
  have T := Tn.grown (Below.refl w.heap.size w) hgrow
  refine ⟨h.bel.trans (T.below h.bel.size fun k hk => (row_lt h.own hk).1), ?_, ?_, ?_⟩
  · unfold Rw
    rw [List.length_append, iV_app]
    exact hown
  · exact row_keep h.kid fun k hk => T.block k (row_lt h.kid hk).2 fun e => h.ne k e hk
  · intro k hk e
    have hk : g = k := by simpa [blk] using hk
    subst hk
    rcases hat with h1 | h1
    · exact h.ne g h1 e
    · have := (row_lt h.kid e).2; omega
end
theorem mwalk_no {w : World} {m c : Nat} {Q : Option Addr} {S : TS} (h : MX w m Q c S) (i : Int) (hi : i < 0 ∨ (S.length : Int) ≤ i) : Calls Try.prog 16 #[.pointer (some ⟨m, 0, none⟩), .int .i64 i] w (RowR [] w) := by
  have h0 := h.c0
  clear h
  by_cases b1 : i < 0
  · clear hi h0
    go_enter Try.func16, Try.ntmps16
    go_wp2_with fail
    go_ret
    exact RowR.none w
  · have b2 : (S.length : Int) ≤ i := by omega
    clear hi
    go_enter Try.func16, Try.ntmps16
    go_wp2_with fail
    go_ret
    exact RowR.none w
theorem mwalk_call {S : TS} (hwf : WF S) (hS : S.length ≤ 1000) : ∀ n (i : Nat), S.length - i < n → i < S.length → ∀ (w : World) (m c : Nat) (Q : Option Addr), MX w m Q c S → Calls Try.prog 16 #[.pointer (some ⟨m, 0, none⟩), .int .i64 (i : Int)] w (RowR (nz (walk S i)) w) := by
  intro n
  induction n with
  | zero => intro i hn; omega
  | succ n ih =>
    intro i hn hi w m c Q h
    obtain ⟨i3, hi3, hy0, hy1, hy2⟩ := info_parts inf3
    have h0 := h.c0
    have b1 : ¬ (i : Int) < 0 := by omega
    have b2 : ¬ (S.length : Int) ≤ (i : Int) := by omega
    have b3 : (i : Int) < (S.length : Int) := by omega
    have HX := Lib.hid h
    have HK0 := Lib.hid (mkids (h.later (below_al w (.cells #[.int .i64 (i : Int)] 3))) hS (i : Int))
    rw [mk_kids hwf] at HK0
    have HI := Lib.hid ih
    have HWL : Hid ((walk S i).length ≤ 1000) := Nat.le_trans (walk_len hwf hi) hS
    have HR0 : Hid (Rw w.heap.size (w.alloc (.cells #[.int .i64 (i : Int)] 3)) (some ⟨w.heap.size, 0, none⟩) 1 [(i : Int)]) := World.ownsRow_lit (base := w.heap.size) (e := 3) (size := 1) w #[.int .i64 (i : Int)] 1 (Nat.le_refl _) (by decide) rfl
    clear h ih
    go_enter Try.func16, Try.ntmps16
    go_wp2_with (go_at_call 19; (with_reducible refine HK0.out.mono ?_); rintro e w1 ⟨Pk, ck, nk, hnk, rfl, hRk, hBk⟩)
    have HS : Hid (KS w (some ⟨w.heap.size, 0, none⟩) 1 ((i : Int) :: nz (wks S i 0)) Pk ck (nz (kids S i)) w1) := by
      refine ⟨(below_al w _).trans (hBk.out.mono (by simp)), ?_, row_low hRk.out (by simp), ?_⟩
      · have := row_later HR0.out hBk.out
        rw [show nz (wks S i 0) = [] from by simp [wks, nz]]
        exact this
      · intro k hk e
        have hk : w.heap.size = k := by simpa [blk] using hk
        have := (row_lt hRk.out e).1
        simp at this; omega
    have hk9 : nk ≤ 1000 := by
      rw [hnk.out, nz_len]
      have := once_len S.length (kids S i) ((kids_rise S i).imp fun h => by omega) (fun x hx => (kids_lt hx).2)
      omega
    have HN0 : Hid (1 = ((i : Int) :: nz (wks S i 0)).length) := by show _ = _; simp [wks, nz]
    clear HK0 HR0 hRk hBk h0
    revert HS
    generalize w.heap.size = gl
    intro HS
    go_loopw [5, 7] (fun s5 s7 wr => ∃ (j n c : Nat) (P : Option Addr), j ≤ nk ∧ s7 = .int .i64 j ∧ s5 = .slice P n c ∧ n ≤ 1000 ∧ Hid (n = ((i : Int) :: nz (wks S i j)).length) ∧ Hid (KS w P c ((i : Int) :: nz (wks S i j)) Pk ck (nz (kids S i)) wr)) (fun _ s7 _ => nk - (intOf s7).toNat)
    case atStart => exact ⟨0, 1, 1, _, by omega, rfl, rfl, by omega, HN0, HS⟩
    case round =>
      clear HS HN0
      obtain ⟨j, n, c2, P, hj, rfl, rfl, hn9, hn0, hL⟩ := hrel
      by_cases hlt : j < nk
      · have b4 : (j : Int) < (nk : Int) := by omega
        have b5 : (0 : Int) ≤ (j : Int) := by omega
        obtain ⟨x, hx⟩ : ∃ x, (kids S i)[j]? = some x := ⟨_, List.getElem?_eq_getElem (by have := hnk.out; rw [nz_len] at this; omega)⟩
        obtain ⟨gk, hgk, _⟩ := row_form hL.out.kid (by rw [← hnk.out]; omega)
        have hc := hL.out.kid.at hgk (i := j) (x := (x : Int)) (by simp [nz, hx])
        have hgk' : Pk = some ⟨gk, 0, none⟩ := hgk
        subst hgk'
        have hxm := List.mem_of_getElem? hx
        have HXM := Lib.hid hx
        have HC := Lib.hid (HI.out x (by have := kids_lt hxm; omega) (kids_lt hxm).2 wr m c Q (HX.out.later hL.out.bel))
        have HWK : Hid (wks S i (j + 1) = wks S i j ++ walk S x) := wks_succ hx
        have HLN : Hid (n + (walk S x).length ≤ 1000) := by
          have e1 := wks_len (S := S) i (j + 1)
          rw [HWK.out, List.length_append] at e1
          have e2 : (walk S i).length = ((kids S i).flatMap (walk S)).length + 1 := by rw [walk_eq]; simp
          have e3 := hn0.out
          simp [nz] at e3
          have := HWL.out
          show _ ≤ _
          omega
        have hxw : 1 ≤ (walk S x).length := by rw [walk_eq]; simp
        clear hgk hx hxm
        go_wp2_with (first | (go_at_call 16; (with_reducible refine HC.out.mono ?_); rintro e w2 ⟨Pr, cr, nr, hnr, rfl, hRr, hBr⟩; obtain ⟨gr, hgr, _⟩ := row_form hRr.out (by rw [nz_len]; omega); (subst hgr); have hL2 := Lib.hid (hL.out.later hBr.out); have hnr1 : 0 < nr := (by rw [hnr.out, nz_len]; omega); have hnr2 : n + nr ≤ 1000 := (by rw [hnr.out, nz_len]; exact HLN.out); clear HC) | (at_builtin; go_loud (refine wpList_append_lies _ rfl (.tmp 30) (.tmp 36) 41 rfl w.heap.size 3 i3 _ 1 8 Try.underlying41 hi3 hy0 hy1 hy2 rfl (by omega) (.slice P n c2) n (iV ((i : Int) :: nz (wks S i j))) rfl (by have hR2 := hL2.out.own; unfold Rw at hR2; rw [← hn0.out] at hR2; exact hR2) ⟨gr, 0, none⟩ nr cr (iV (nz (walk S x))) rfl (by rw [iV_len, ← hnr.out, Nat.mul_one]) (hRr.out.cells (g := gr) rfl) (iV_one _) (by omega) (by unfold maxLen; omega) (by omega) (by have := hL2.out.bel.size; omega) w2.heap.size rfl ?_; intro g cap w3 hown hgrow hat hlt1; have HL3 := Lib.hid (hL2.out.app hn0.out hnr.out hown hgrow (hat.imp id (fun e => by omega))); clear hown hgrow hat hlt1)))
        go_roundw
        case rel =>
          refine ⟨j + 1, n + nr, cap, _, by omega, by go_num, rfl, by omega, ?_, ?_⟩
          · show _ = _
            rw [HWK.out, nz_app, ← List.cons_append, List.length_append, ← hn0.out, ← hnr.out]
          · rw [HWK.out, nz_app, ← List.cons_append]; exact HL3
        case measure => simp [intOf]; omega
      · obtain rfl : j = nk := by omega
        go_wp2_with fail
        go_ret
        have e : (i : Int) :: nz (wks S i j) = nz (walk S i) := by
          rw [← wks_all i j (by have := hnk.out; rw [nz_len] at this; omega)]; rfl
        rw [e] at hL hn0
        exact ⟨P, c2, n, hn0, rfl, hL.out.own, hL.out.bel⟩
end Go.Proofs.Ytplckaodenpdbaa
