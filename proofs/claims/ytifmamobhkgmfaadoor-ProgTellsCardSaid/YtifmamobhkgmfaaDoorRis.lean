/- rising lists a set's registers. Condition: the set is below 256. -/
import Derived.Test.YtifmamobhkgmfaaDoorReg
import Derived.Maps.AppendAt
namespace Go.Proofs.YtifmamobhkgmfaaDoor
open Go.RowKit
set_option linter.unusedVariables false

theorem Tryd.inf3 : (Tryd.prog.info? 3).map (fun i => (i.zero, i.size, i.bytes)) = some (some (.int .i64 0), 1, 8) := by kernel_rfl
def nV (l : List Int) : List Value := l.map (Value.int .i64)
theorem nV_len (l : List Int) : (nV l).length = l.length := by simp [nV]
theorem nV_app (a b : List Int) : nV (a ++ b) = nV a ++ nV b := by simp [nV]
theorem nV_one (a : List Int) : ∀ u ∈ nV a, u.oneCell' = true := by
  intro u hu
  obtain ⟨x, _, rfl⟩ := List.mem_map.1 hu
  rfl
/-- A slice of integers. -/
def RdN (w : World) (A : Option Addr) (n : Nat) (l : List Int) : Prop := l.length = n ∧ Rd w w.heap.size A n 1 (nV l)
theorem RdN.later {w w' : World} {A : Option Addr} {n : Nat} {l : List Int} (h : RdN w A n l) (hb : Below w.heap.size w w') : RdN w' A n l := ⟨h.1, h.2.later hb⟩
theorem RdN.nil (w : World) (A : Option Addr) : RdN w A 0 [] := ⟨rfl, Rd.nil _ _ _ _⟩
theorem RdN.cells {w : World} {A : Option Addr} {n : Nat} {l : List Int} (h : RdN w A n l) (h0 : 0 < n) : ∃ b off, A = some ⟨b, off, none⟩ ∧ b < w.heap.size ∧ ∀ i x, l[i]? = some x → w.cell? ⟨b, off + i, none⟩ = some (.int .i64 x) := by
  obtain ⟨b, off, e, hl, hc⟩ := h.2.2 h0
  exact ⟨b, off, e, hl, fun i x hx => hc i _ (by simp [nV, hx])⟩
theorem RdN.new (w : World) (l : List Int) (n : Nat) (cs : Array Value) (t : TypeId) (hn : l.length = n) (h : cs.toList = nV l) : RdN (w.alloc (.cells cs t)) (some ⟨w.heap.size, 0, none⟩) n l := by
  refine ⟨hn, ?_⟩
  rw [← h]
  exact Rd.new w cs n 1 t (by rw [← Array.length_toList, h, nV_len, hn, Nat.mul_one])

/-- The first k numbers that are yes, rising. -/
def risP (f : Nat → Bool) (k : Nat) : List Int := ((List.range k).filter f).map Int.ofNat
theorem risP_yes {f : Nat → Bool} {k : Nat} (h : f k = true) : risP f (k + 1) = risP f k ++ [(k : Int)] := by
  unfold risP; rw [List.range_succ, List.filter_append, List.map_append]; simp [h]
theorem risP_no {f : Nat → Bool} {k : Nat} (h : f k = false) : risP f (k + 1) = risP f k := by
  unfold risP; rw [List.range_succ, List.filter_append, List.map_append]; simp [h]
theorem risP_len (f : Nat → Bool) (k : Nat) : (risP f k).length ≤ k := by
  unfold risP; rw [List.length_map]; exact Nat.le_trans (List.length_filter_le _ _) (by simp)
theorem risP_ext {f g : Nat → Bool} {k : Nat} (h : ∀ i, i < k → f i = g i) : risP f k = risP g k := by
  unfold risP; congr 1; exact List.filter_congr fun i hi => h i (List.mem_range.1 hi)

def RisS (W wr : World) (xs : List Int) (v : Value) : Prop := Below W.heap.size W wr ∧ wr.ownsRow W.heap.size 3 1 v xs.length (nV xs)
theorem RisS.next {W wr w2 : World} {xs : List Int} {v v' : Value} {k : Nat} {ob : Obj} (h : RisS W wr xs v) (hg : (wr.alloc ob).grownBy w2 v.ownBlock) (ho : w2.ownsRow W.heap.size 3 1 v' (xs.length + 1) (nV xs ++ nV [(k : Int)])) : RisS W w2 (xs ++ [(k : Int)]) v' := by
  refine ⟨(h.1.trans ((below_al wr ob).mono h.1.size)).grown hg (Nat.le_trans h.1.size (by simp)) (fun k hk => (h.2.lt k hk).1), ?_⟩
  rw [nV_app, List.length_append]; exact ho
/-- A slice of those numbers comes back, in new memory. -/
def ListR (xs : List Int) (w : World) (e : Ending) (w' : World) : Prop := Below w.heap.size w w' ∧ ∃ A c, xs.length ≤ c ∧ c ≤ 9223372036854775807 ∧ e = .returned (.slice A xs.length c) ∧ RdN w' A xs.length xs
theorem RisS.done {W wr : World} {xs : List Int} {v : Value} (h : RisS W wr xs v) : ListR xs W (.returned v) wr := by
  obtain ⟨h1, h3⟩ := h
  refine ⟨h1, ?_⟩
  rcases h3.2 with ⟨rfl, h0⟩ | ⟨g, cap, cur, rfl, _, _, h7, h8, _⟩
  · have hn : xs = [] := List.eq_nil_of_length_eq_zero h0
    subst hn
    exact ⟨none, 0, by simp, by omega, rfl, RdN.nil _ _⟩
  · exact ⟨some ⟨g, 0, none⟩, cap, h7, h8, rfl, rfl, Rd.of_own h3⟩
theorem news1 (w : World) (x : Value) (t : TypeId) : ∀ j u, [x][j]? = some u → (w.alloc (.cells #[x] t)).cell? ((⟨w.heap.size, 0, none⟩ : Addr).add j) = some u := World.news_of_block (cs := #[x]) (heap_alloc_new w _)

set_option maxHeartbeats 1000000 in
theorem rising_any (m : Nat) (hm : m < 256) (w : World) : Calls Tryd.prog 26 #[.int .u8 m] w (ListR (risP m.testBit 8) w) := by
  obtain ⟨i0, hi, hz0, hz1, hz2⟩ := info_parts Tryd.inf3
  have HM := Lib.hid hm
  clear hm
  go_enter Tryd.func26, Tryd.ntmps26
  go_wp2
  go_loopw [3, 5] (fun lv i wr => ∃ k : Nat, k ≤ 8 ∧ i = .int .i64 k ∧ Hid (RisS w wr (risP m.testBit k) lv)) (fun _ i _ => 8 - (intOf i).toNat)
  case atStart => exact ⟨0, by omega, rfl, Below.refl _ _, World.ownsRow_nil _ _ _ _⟩
  case round =>
    obtain ⟨k, hk, rfl, hS⟩ := hrel
    by_cases hlt : k < 8
    · have hc := has_any m k HM.out hlt wr
      cases hf : m.testBit k with
      | true =>
        rw [hf] at hc
        have HK := Lib.hid (risP_yes hf)
        have HC := Lib.hid hc
        have hown := hS.out.2.alloc (.cells #[.int .i64 k] 3)
        have hWs : w.heap.size ≤ (wr.alloc (.cells #[.int .i64 k] 3)).heap.size := Nat.le_trans hS.out.1.size (by simp)
        have hel := risP_len m.testBit k
        clear hc hf
        go_wp2_with fail
        refine HC.out.mono ?_
        rintro e w1 ⟨rfl, rfl⟩
        go_wp2_with (at_builtin; go_loud (refine wpList_append_own _ rfl _ _ 32 rfl w.heap.size 3 i0 (.int .i64 0) 1 8 Tryd.underlying32 hi hz0 hz1 hz2 rfl (by decide) _ _ _ rfl hown ⟨wr.heap.size, 0, none⟩ 1 1 (nV [(k : Int)]) rfl rfl (news1 wr _ 3) (nV_one _) (by unfold maxLen; omega) (by omega) hWs ?_; intro v' w3 hown' hgrow _; have HE := Lib.hid (hS.out.next hgrow hown'); clear hown' hgrow hown))
        go_roundw
        case rel => exact ⟨k + 1, by omega, by go_num, by show RisS _ _ _ _; rw [HK.out]; exact HE.out⟩
        case measure => simp [intOf]; omega
      | false =>
        rw [hf] at hc
        have HK := Lib.hid (risP_no hf)
        have HC := Lib.hid hc
        clear hc hf
        go_wp2_with fail
        refine HC.out.mono ?_
        rintro e w1 ⟨rfl, rfl⟩
        go_wp2_with fail
        go_roundw
        case rel => exact ⟨k + 1, by omega, by go_num, by show RisS _ _ _ _; rw [HK.out]; exact hS.out⟩
        case measure => simp [intOf]; omega
    · have e : k = 8 := by omega
      subst e
      go_wp2
      go_ret
      exact hS.out.done
end Go.Proofs.YtifmamobhkgmfaaDoor
