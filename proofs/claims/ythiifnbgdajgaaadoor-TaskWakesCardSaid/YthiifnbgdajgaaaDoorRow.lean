/- A row that grows beside a table; numbers told going round. No condition. -/
import Derived.Test.YthiifnbgdajgaaaDoorAwk
namespace Go.Proofs.YthiifnbgdajgaaaDoor
open Go.RowKit
set_option linter.unusedVariables false
set_option maxRecDepth 100000

theorem LS.app {W w wx w1 : World} {t i c g cap : Nat} {S : List T0} {L l : List Int} {rs : List Rr} {P : Option Addr} {x : Int} (h : LS W t S L rs w) (hr : rs[i]? = some (rI P c l)) (hx : Below w.heap.size w wx) (ho : w1.ownsRow 0 3 1 (.slice (some ⟨g, 0, none⟩) (l.length + 1) cap) (l.length + 1) (iV l ++ [.int .i64 x]))
    (hg : wx.grownBy w1 (Value.slice P l.length c).ownBlock) (hat : (Value.slice P l.length c).ownBlock = some g ∨ w.heap.size ≤ g) : LS W t S L (rs.set i (rI (some ⟨g, 0, none⟩) cap (l ++ [x]))) w1 := by
  rw [own_blk] at hg hat
  refine h.turn hr (Tn.grown hx hg) ?_ fun k hk => ?_
  · show w1.ownsRow 0 3 1 (.slice (some ⟨g, 0, none⟩) (l ++ [x]).length cap) (l ++ [x]).length (iV (l ++ [x]))
    rw [← iV_snoc, List.length_append]; exact ho
  · have e : g = k := by injection hk
    subst e
    exact ⟨hat, (row_lt ho rfl).2⟩
theorem round_pk (n : Int) (m : Nat) (w : World) (h0 : 0 < m) (hm : m ≤ 1000) : Calls Tryd.prog 10 #[.int .i64 n, .int .i64 (m : Int)] w fun e w' => e = .returned (.int .i64 (pk n m : Int)) ∧ w = w' := by
  have b1 : (0 : Int) < (m : Int) := by omega
  have b2 : (m : Int) ≤ 1000 := by omega
  have t1 : n.tmod m < m := Int.tmod_lt_of_pos _ (by omega)
  have t2 : -(m : Int) < n.tmod m := by
    have := Int.tmod_lt_of_pos (-n) (show (0 : Int) < m by omega)
    rw [Int.neg_tmod] at this; omega
  have HE : Hid (Ending.returned (.int .i64 ((n.tmod m + m) % m)) = .returned (.int .i64 (pk n m : Int))) := by
    have h1 : (n.tmod m) % m = n % m := by rw [Int.tmod_def, Int.sub_mul_emod_self_left]
    have h2 := Int.emod_nonneg n (show (m : Int) ≠ 0 by omega)
    show _ = _
    rw [Int.add_emod_right, h1]
    unfold pk
    rw [Int.toNat_of_nonneg h2]
  go_enter Tryd.func10, Tryd.ntmps10
  go_wp2
  go_ret
  exact ⟨HE.out, rfl⟩
theorem wo_snoc {S : List T0} {L : List Int} (h : Ids S L) : wo (L ++ [(S.length : Int)]) S.length = L := by
  have h1 := h.new
  unfold wo
  rw [List.filter_append, List.filter_eq_self.2]
  · simp
  · intro y hy
    simp only [decide_eq_true_eq]
    rintro rfl
    exact h1 hy
theorem chk_recv0 : Pg.checkB [tI (yI 11 0 0 0) none 0] 16 = true := by decide +kernel
theorem inf3 : (Tryd.prog.info? 3).map (fun i => (i.zero, i.size, i.bytes)) = some (some (.int .i64 0), 1, 8) := by kernel_rfl
theorem rn_rw {w : World} {P : Option Addr} {c : Nat} {l : List Int} (h : Rw 0 w P c l) : Rn w P l.length l := Rn.of_own h
theorem at_snoc (S : List T0) (y : T0) {k : Nat} (h : S.length = k) : (S ++ [y])[k]? = some y := by subst h; simp
end Go.Proofs.YthiifnbgdajgaaaDoor
