/- All gives the values in their order, in a row of its own. Conditions: the ring holds them. -/
import Derived.Test.YtmjogkjdjhhilaaPop
import Derived.Deep.RegionLaw
namespace Go.Proofs.Ytmjogkjdjhhilaa
open Go.RowKit
set_option linter.unusedVariables false

theorem own_al {w wr : World} {base : Nat} {v : Value} {k : Nat} {xs : List Value} {o : Obj} (h : wr.ownsRow base 3 1 v k xs) (hh : w.heap = (wr.alloc o).heap) : w.ownsRow base 3 1 v k xs := by
  have h2 := h.alloc o
  refine ⟨h2.1, ?_⟩
  rcases h2.2 with hn | ⟨g, cap, cur, q1, q2, q3, q4⟩
  · exact .inl hn
  · exact .inr ⟨g, cap, cur, q1, q2, by rw [hh]; exact q3, q4⟩
theorem news_al {w wr : World} {x : Int} (hh : w.heap = (wr.alloc (.cells #[.int .i64 x] 3)).heap) : ∀ j u, [Value.int .i64 x][j]? = some u → w.cell? ((⟨wr.heap.size, 0, none⟩ : Addr).add j) = some u :=
  World.news_of_block (cs := #[.int .i64 x]) (t := 3) (fr := (0, 0)) (by rw [hh]; exact heap_alloc_new wr _)
theorem one_int {x : Int} : ∀ u ∈ [Value.int .i64 x], u.oneCell' = true := by intro u hu; simp at hu; subst hu; rfl
theorem below_app {W wr wx w1 : World} {v : Value} {k : Nat} {xs : List Value} {o : Obj} (hB : Below W.heap.size W wr) (h : wr.ownsRow W.heap.size 3 1 v k xs) (hg : wx.grownBy w1 v.ownBlock) (hh : wx.heap = (wr.alloc o).heap) (h1 : wx.os = wr.os) (h2 : wx.tape = wr.tape) (h3 : wx.output = wr.output) : Below W.heap.size W w1 := by
  have hb : Below W.heap.size W wx := hB.trans ⟨h1, h2, h3, by rw [hh]; simp, fun q hq => by rw [hh]; exact Below.heap_alloc _ _ _ (by have := hB.size; omega)⟩
  refine hb.grown hg hb.size (fun q hq => ?_)
  exact (h.lt q hq).1

theorem RI.grown {W wr wx w1 : World} {a p sz f : Nat} {ps l : List Int} {v : Value} {k : Nat} {xs : List Value} {o : Obj} (hI : RI wr a p sz f ps l) (hB : Below W.heap.size W wr) (h : wr.ownsRow W.heap.size 3 1 v k xs) (hap : a < W.heap.size ∧ p < W.heap.size) (hg : wx.grownBy w1 v.ownBlock) (hh : wx.heap = (wr.alloc o).heap) : RI w1 a p sz f ps l := by
  have key : ∀ q, q < W.heap.size → w1.heap[q]? = wr.heap[q]? := fun q hq => by
    have h1 := hB.size
    have h2 : wx.heap[q]? = wr.heap[q]? := by rw [hh]; exact Below.heap_alloc _ _ _ (by omega)
    have h3 : wx.heap.size = wr.heap.size + 1 := by rw [hh]; simp
    exact (hg.block q (by omega) (fun e => by have := (h.lt q e.symm).1; omega)).trans h2
  exact hI.keep (key a hap.1) (key p hap.2)

def AllR (l : List Int) (w : World) (e : Ending) (w' : World) : Prop := ∃ A c, e = .returned (.slice A l.length c) ∧ Rn w' w'.heap.size A l.length l ∧ Below w.heap.size w w'
def AllS (W : World) (a p sz f : Nat) (ps l : List Int) (k : Nat) (v : Value) (wr : World) : Prop := RI wr a p sz f ps l ∧ wr.ownsRow W.heap.size 3 1 v k (iV (l.take k)) ∧ Below W.heap.size W wr
theorem AllS.start {W : World} {a p sz f : Nat} {ps l : List Int} (h : RI W a p sz f ps l) : AllS W a p sz f ps l 0 (.slice none 0 0) W :=
  ⟨h, World.ownsRow_nil _ _ _ _, Below.refl _ _⟩

theorem all_end {W wr : World} {v : Value} {l : List Int} (h : wr.ownsRow W.heap.size 3 1 v l.length (iV l)) (hB : Below W.heap.size W wr) : AllR l W (.returned v) wr := by
  rcases h.2 with ⟨rfl, h0⟩ | ⟨g, cap, cur, rfl, _⟩
  · refine ⟨none, 0, by rw [h0], ?_, hB⟩; rw [h0] at h ⊢; exact Rn.of_own h
  · exact ⟨_, cap, rfl, Rn.of_own h, hB⟩
set_option maxHeartbeats 1000000 in
theorem all_any {a p sz : Nat} {l : List Int} (w : World) (h : RG w a p sz l) (hz : sz ≤ 64) : Calls Try.prog 13 #[.pointer (some ⟨a, 0, none⟩)] w (AllR l w) := by
  obtain ⟨i0, hi, hz0, hz1, hz2⟩ := info_parts inf3
  have HG := Lib.hid h
  obtain ⟨f, ps, h⟩ := h
  have hle := h.le
  have hb1 : (l.length : Int) ≤ 64 := by omega
  have HS := Lib.hid (AllS.start h)
  have hap : a < w.heap.size ∧ p < w.heap.size := ⟨HG.out.la, HG.out.lp⟩
  have hL := Lib.hid (rfl : l.length = l.length)
  clear h
  go_enter Try.func13, Try.ntmps13
  go_wp2_with fail
  refine (len_any w HG.out).mono ?_
  rintro e w' ⟨rfl, rfl⟩
  go_wp2_with fail
  go_loopw [3, 7] (fun v i wr => ∃ k : Nat, k ≤ l.length ∧ i = .int .i64 k ∧ Hid (AllS w a p sz f ps l k v wr)) (fun _ i _ => l.length - (intOf i).toNat)
  case atStart => exact ⟨0, by omega, rfl, HS⟩
  case round =>
    obtain ⟨k, hk, rfl, hS⟩ := hrel
    by_cases hlt : k < l.length
    · obtain ⟨hI, hown, hB⟩ := hS.out
      have hs : 0 < sz := by omega
      have h0 := hI.c0
      have h1 := hI.c1
      have hf := hI.lt hs
      have hx := hI.q.2.2.2 k _ (List.getElem?_eq_getElem hlt)
      rw [hI.len] at hx
      have hcp := hI.cp hx
      have HT : Hid (iV (l.take k) ++ [.int .i64 l[k]] = iV (l.take (k + 1))) := by
        show _ = _
        rw [List.take_succ_eq_append_getElem hlt]; show _ = (l.take k ++ [l[k]]).map _; rw [List.map_append]; rfl
      have hj : (f + k) % sz < sz := Nat.mod_lt _ hs
      generalize l[k] = x at *
      generalize hg : (f + k) % sz = j at *
      have HJ := Lib.hid hg
      have k2 : (j : Int) < (sz : Int) := by omega
      have k3 : (0 : Int) ≤ (j : Int) := by omega
      have HI := Lib.hid hI
      have HO := Lib.hid hown
      have HB := Lib.hid hB
      clear hx hg hI hown hB hS
      go_wp2_with fail
      go_region_law (first
        | (refine step_append_lies _ (by rfl) _ _ _ (by rfl) w.heap.size 3 i0 (.int .i64 0) 1 8 Try.underlying22 hi hz0 hz1 hz2 rfl (by omega) u3 k (iV (l.take k)) (by rfl) (own_al HO.out rfl) ⟨wr.heap.size, 0, none⟩ 1 1 [.int .i64 x] (by rfl) (by rfl) (news_al rfl) one_int (by omega) (by unfold maxLen; omega) (by omega) (by have := HB.out.size; simp; omega) (wr.heap.size + 1) (by simp) ?_; go_loud (intro gg gc w1 hown1 hgrow1 _ _; have HB1 := Lib.hid (below_app HB.out HO.out hgrow1 rfl rfl rfl rfl); have HI1 := Lib.hid (HI.out.grown HB.out HO.out hap hgrow1 rfl); have HO1 := Lib.hid hown1; clear hown1 hgrow1))
        | (go_simp; go_at_call 17; go_loud (refine (place_any a sz f k (some ⟨p, 0, none⟩) _ (by first | exact h0 | simpa using h0) (by first | exact h1 | simpa using h1) (by omega) hz hf (by omega)).mono ?_; rintro e w2 ⟨rfl, n2, rfl⟩; rw [HJ.out])))
      all_goals
        have HS2 : Hid (AllS w a p sz f ps l (k + 1) (.slice (some ⟨gg, 0, none⟩) (k + 1) gc) w1) := ⟨HI1.out, by rw [← HT.out]; exact HO1.out, HB1.out⟩
        go_wp2_with fail
        go_roundw
        case rel => exact ⟨k + 1, by omega, by go_num, HS2⟩
        case measure => simp [intOf]; omega
    · obtain rfl : k = l.length := by omega
      obtain ⟨hI, hown, hB⟩ := hS.out
      rw [List.take_length] at hown
      have HO := Lib.hid hown
      have HB := Lib.hid hB
      clear hI hown hB hS
      go_wp2_with fail
      go_ret
      exact all_end HO.out HB.out
end Go.Proofs.Ytmjogkjdjhhilaa
