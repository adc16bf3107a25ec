/- What Add does to a tree in memory. Conditions: each theorem's own premises. -/
import Derived.Test.YtplckaodenpdbaaOps
namespace Go.Proofs.Ytplckaodenpdbaa
open Go.RowKit
set_option linter.unusedVariables false
set_option maxRecDepth 100000

theorem add_nil (w : World) (p : Int) (l : Bool) : Calls Try.prog 10 #[.pointer none, .int .i64 p, .bool l] w fun e w' => e = .returned (.tuple #[.int .i64 0, .int .i64 1]) ∧ w = w' := by
  go_enter Try.func10, Try.ntmps10
  go_wp2_with fail
  go_ret2
  exact ⟨rfl, rfl⟩
/-- The nodes' row behind an append, a new node with no kids. -/
theorem TX.pushed {F : Nat → Prop} {B t c : Nat} {w wx w1 : World} {P : Option Addr} {D : List Nd} (h : TX F B w t P c D) (hx : Below w.heap.size w wx)
    (hg : wx.grownBy w1 (Value.slice P D.length c).ownBlock) : w1.cell? ⟨t, 0, none⟩ = some (.slice P D.length c) ∧ w1.frozen? ⟨t, 0, none⟩ = false := by
  have e := (Tn.grown hx hg).block t h.lt (by rw [own_blk]; exact h.neP)
  exact ⟨(cell_blk e 0).trans h.c0, (World.frozen?_of_block (a := ⟨t, 0, none⟩) e).trans (h.f0 0)⟩
theorem heap_alloc_set (w : World) (a : Addr) (u : Value) (o : Obj) : ((w.setCell a u).alloc o).heap[w.heap.size]? = some o := by
  have := heap_alloc_new (w.setCell a u) o
  rw [size_set] at this
  exact this
def AddR (F : Nat → Prop) (B t : Nat) (S S' : TS) (w : World) (e : Ending) (w' : World) : Prop := e = .returned (.tuple #[.int .i64 (S.length : Int), .int .i64 0]) ∧ Go F B t S' w w'
section
variable {F : Nat → Prop} {B t : Nat} {S : TS}
theorem add_arg (w : World) (h : TR F B S w t) (p : Int) (l : Bool) (hp : p < -1 ∨ (S.length : Int) ≤ p) : Calls Try.prog 10 #[.pointer (some ⟨t, 0, none⟩), .int .i64 p, .bool l] w fun e w' => e = .returned (.tuple #[.int .i64 0, .int .i64 1]) ∧ w = w' := by
  have b1 : (p == -1) = false := beq_eq_false_iff_ne.2 (by omega)
  have b2 : ¬ p = -1 := by omega
  have H := Lib.hid (has_no w h p (by omega))
  clear hp h
  go_enter Try.func10, Try.ntmps10
  go_wp2_with fail
  refine H.out.mono ?_
  rintro e w' ⟨rfl, rfl⟩
  go_wp2_with fail
  go_ret2
  exact ⟨rfl, rfl⟩
theorem add_full (w : World) (h : TR F B S w t) (hn : S.length = 1000) (p : Int) (l : Bool) (hp : p = -1 ∨ 0 ≤ p ∧ p < (S.length : Int)) : Calls Try.prog 10 #[.pointer (some ⟨t, 0, none⟩), .int .i64 p, .bool l] w fun e w' => e = .returned (.tuple #[.int .i64 0, .int .i64 3]) ∧ w = w' := by
  obtain ⟨P, c, D, x, o⟩ := h.ex
  have h0 := x.c0
  rw [o.1, hn] at h0
  clear x o
  by_cases b2 : p = -1
  · subst b2
    clear hp h hn
    go_enter Try.func10, Try.ntmps10
    go_wp2_with fail
    go_ret2
    exact ⟨rfl, rfl⟩
  · obtain ⟨i, rfl⟩ : ∃ i : Nat, p = (i : Int) := Int.eq_ofNat_of_zero_le (by omega)
    have b1 : ((i : Int) == -1) = false := beq_eq_false_iff_ne.2 (by omega)
    have H := Lib.hid (has_yes w h i (by omega))
    clear hp h hn
    go_enter Try.func10, Try.ntmps10
    go_wp2_with fail
    refine H.out.mono ?_
    rintro e w' ⟨rfl, rfl⟩
    go_wp2_with fail
    go_ret2
    exact ⟨rfl, rfl⟩
/-- One that hangs nowhere: of none. -/
theorem add_root (w : World) (h : TR F 0 S w t) (hn : S.length < 1000) (l : Bool) : Calls Try.prog 10 #[.pointer (some ⟨t, 0, none⟩), .int .i64 (-1), .bool l] w (AddR F 0 t S (S ++ [(-1, false)]) w) := by
  obtain ⟨P, c, D, x, o⟩ := h.ex
  obtain ⟨i0, hi, hz0, hz1, hz2⟩ := info_parts inf57
  have hl := o.1
  have h0 := x.c0
  have hfa := x.f0 0
  have HX := Lib.hid x
  have HT := Lib.hid h
  have HO := Lib.hid o
  have b3 : ((D.length : Int) == 1000) = false := beq_eq_false_iff_ne.2 (by omega)
  have HB := Lib.hid (below_al w (.cells #[.int .i64 (-1), .bool false, .slice none 0 0] 57))
  have hb : D.length ≤ 1000 := by omega
  have HL := Lib.hid hl
  clear x h o hl
  have key : ∀ g cap w1, (w.alloc (.cells #[.int .i64 (-1), .bool false, .slice none 0 0] 57)).grownBy w1 (Value.slice P D.length c).ownBlock → w1.ownsRow 0 57 3 (.slice (some ⟨g, 0, none⟩) (D.length + 1) cap) (D.length + 1) (D.flatMap nV ++ [.int .i64 (-1), .bool false, .slice none 0 0]) → ((Value.slice P D.length c).ownBlock = some g ∨ g = w.heap.size + 1) →
      AddR F 0 t S (S ++ [(-1, false)]) w (.returned (.tuple #[.int .i64 (D.length : Int), .int .i64 0])) (w1.setCell ⟨t, 0, none⟩ (.slice (some ⟨g, 0, none⟩) (D.length + 1) cap)) := by
    intro g cap w1 hg ho hat
    have hp := HX.out.push (-1) false HB.out ho hg (hat.imp id (by omega))
    refine ⟨by rw [HL.out], ⟨HT.out.wf.push (by omega) (by omega) (by simp), by simp; omega, _, _, _, hp.1, HO.out.lone HT.out.wf (-1) false (by simp)⟩, hp.2⟩
  have KEY := Lib.hid key
  clear key
  cases l <;>
    (go_enter Try.func10, Try.ntmps10
     go_wp2_with (at_builtin; go_loud (refine wpList_append_lies _ rfl (.tmp 44) (.tmp 48) 53 rfl 0 57 i0 _ 3 40 Try.underlying53 hi hz0 hz1 hz2 rfl (by omega) (.slice P D.length c) D.length (D.flatMap nV) rfl (row_later HX.out.own HB.out) ⟨w.heap.size, 0, none⟩ 1 1 [.int .i64 (-1), .bool false, .slice none 0 0] rfl rfl (World.news_of_block (cs := #[.int .i64 (-1), .bool false, .slice none 0 0]) (heap_alloc_new w _)) (nd_cell _ _) (by omega) (by unfold maxLen; omega) (by omega) (by omega) (w.heap.size + 1) (by first | (simp; done) | (simp; rfl)) ?_; intro g cap w1 hown hgrow hat hlt1; have HE := Lib.hid (KEY.out g cap w1 hgrow hown hat); have hc1 := (HX.out.pushed HB.out hgrow).1; have hf1 := (HX.out.pushed HB.out hgrow).2; clear hown hgrow hat hlt1 h0 hfa))
     go_wp2_with fail
     go_ret2
     exact HE.out)
/-- One that was named one, and does not hang there. -/
theorem add_off (w : World) (h : TR F 0 S w t) (hn : S.length < 1000) (i : Nat) (hin : i < S.length) : Calls Try.prog 10 #[.pointer (some ⟨t, 0, none⟩), .int .i64 (i : Int), .bool false] w (AddR F 0 t S (S ++ [((i : Int), false)]) w) := by
  obtain ⟨P, c, D, x, o⟩ := h.ex
  obtain ⟨i0, hi, hz0, hz1, hz2⟩ := info_parts inf57
  have hl := o.1
  have h0 := x.c0
  have hfa := x.f0 0
  have HX := Lib.hid x
  have HT := Lib.hid h
  have HO := Lib.hid o
  have b1 : ((i : Int) == -1) = false := beq_eq_false_iff_ne.2 (by omega)
  have b1n : ((i : Int) != -1) = true := bne_iff_ne.2 (by omega)
  have H := Lib.hid (has_yes w h i hin)
  have b3 : ((D.length : Int) == 1000) = false := beq_eq_false_iff_ne.2 (by omega)
  have HB := Lib.hid (below_al w (.cells #[.int .i64 (i : Int), .bool false, .slice none 0 0] 57))
  have hb : D.length ≤ 1000 := by omega
  have HL := Lib.hid hl
  clear x h o hl
  have key : ∀ g cap w1, (w.alloc (.cells #[.int .i64 (i : Int), .bool false, .slice none 0 0] 57)).grownBy w1 (Value.slice P D.length c).ownBlock → w1.ownsRow 0 57 3 (.slice (some ⟨g, 0, none⟩) (D.length + 1) cap) (D.length + 1) (D.flatMap nV ++ [.int .i64 (i : Int), .bool false, .slice none 0 0]) → ((Value.slice P D.length c).ownBlock = some g ∨ g = w.heap.size + 1) →
      AddR F 0 t S (S ++ [((i : Int), false)]) w (.returned (.tuple #[.int .i64 (D.length : Int), .int .i64 0])) (w1.setCell ⟨t, 0, none⟩ (.slice (some ⟨g, 0, none⟩) (D.length + 1) cap)) := by
    intro g cap w1 hg ho hat
    have hp := HX.out.push (i : Int) false HB.out ho hg (hat.imp id (by omega))
    refine ⟨by rw [HL.out], ⟨HT.out.wf.push (by omega) (by omega) (by simp), by simp; omega, _, _, _, hp.1, HO.out.lone HT.out.wf (i : Int) false (by simp)⟩, hp.2⟩
  have KEY := Lib.hid key
  clear key
  go_enter Try.func10, Try.ntmps10
  go_wp2_with fail
  refine H.out.mono ?_
  rintro e w' ⟨rfl, rfl⟩
  go_wp2_with (at_builtin; go_loud (refine wpList_append_lies _ rfl (.tmp 44) (.tmp 48) 53 rfl 0 57 i0 _ 3 40 Try.underlying53 hi hz0 hz1 hz2 rfl (by omega) (.slice P D.length c) D.length (D.flatMap nV) rfl (row_later HX.out.own HB.out) ⟨w.heap.size, 0, none⟩ 1 1 [.int .i64 (i : Int), .bool false, .slice none 0 0] rfl rfl (World.news_of_block (cs := #[.int .i64 (i : Int), .bool false, .slice none 0 0]) (heap_alloc_new w _)) (nd_cell _ _) (by omega) (by unfold maxLen; omega) (by omega) (by omega) (w.heap.size + 1) (by first | (simp; done) | (simp; rfl)) ?_; intro g cap w1 hown hgrow hat hlt1; have HE := Lib.hid (KEY.out g cap w1 hgrow hown hat); have hc1 := (HX.out.pushed HB.out hgrow).1; have hf1 := (HX.out.pushed HB.out hgrow).2; clear hown hgrow hat hlt1 h0 hfa))
  go_wp2_with fail
  go_ret2
  exact HE.out
/-- The tree behind the first append, ahead of the second. -/
structure Mid (F : Nat → Prop) (t : Nat) (S : TS) (i : Nat) (W : World) (q c : Nat) (D : List Nd) (d : Nd) (w : World) : Prop where
  tx : TX (okN F W.heap.size) 0 w t (some ⟨q, 0, none⟩) c (D ++ [⟨(i : Int), true, [], none, 0⟩])
  tn : Tn F W w
  at' : (D ++ ([⟨(i : Int), true, [], none, 0⟩] : List Nd))[i]? = some d
  wf : WF S
  o : Of S D
  hd : D[i]? = some d
  hi : i < S.length
  le : S.length < 1000
theorem Mid.done {W w wx w1 : World} {i q c g cap : Nat} {D : List Nd} {d : Nd} (m : Mid F t S i W q c D d w) (hx : Below w.heap.size w wx) (ho : w1.ownsRow 0 3 1 (.slice (some ⟨g, 0, none⟩) (d.ks.length + 1) cap) (d.ks.length + 1) (iV d.ks ++ [.int .i64 (D.length : Int)])) (hg : wx.grownBy w1 (Value.slice d.P d.ks.length d.c).ownBlock) (hat : (Value.slice d.P d.ks.length d.c).ownBlock = some g ∨ w.heap.size ≤ g) :
    AddR F 0 t S (S ++ [((i : Int), true)]) W (.returned (.tuple #[.int .i64 (D.length : Int), .int .i64 0])) (w1.setCell ⟨q, i * 3 + 2, none⟩ (.slice (some ⟨g, 0, none⟩) (d.ks.length + 1) cap)) := by
  rw [own_blk] at hg hat
  rw [m.o.1] at ho ⊢
  have ho' : Rw 0 w1 (some ⟨g, 0, none⟩) cap (d.ks ++ [(S.length : Int)]) := by
    unfold Rw
    rw [show (d.ks ++ [(S.length : Int)]).length = d.ks.length + 1 from by simp, iV_app]
    exact ho
  have h1 := m.tx.kidTo m.at' rfl (Tn.grown hx hg) ho' hat
  rw [show (d.ks ++ [(S.length : Int)]).length = d.ks.length + 1 from by simp] at h1
  refine ⟨rfl, ⟨m.wf.push (by omega) (by have := m.hi; omega) (by omega), by have := m.le; simp; omega, _, _, _, h1.1.mono ?_, m.o.hung m.wf i m.hi m.hd _ _⟩, ?_⟩
  · rintro k _ ((hk | hk) | hk)
    · exact .inl hk
    · exact .inr hk
    · exact .inr (Nat.le_trans m.tn.size hk)
  · exact m.tn.comp h1.2 fun b hb => hb
theorem Mid.cells {W w wx w1 : World} {i q c : Nat} {D : List Nd} {d : Nd} (m : Mid F t S i W q c D d w) (hx : Below w.heap.size w wx) (hg : wx.grownBy w1 (Value.slice d.P d.ks.length d.c).ownBlock) :
    w1.cell? ⟨q, i * 3 + 2, none⟩ = some (.slice d.P d.ks.length d.c) ∧ w1.frozen? ⟨q, i * 3 + 2, none⟩ = false := by
  rw [own_blk] at hg
  have e := (Tn.grown hx hg).block q (row_lt m.tx.own rfl).2 fun e => m.tx.nePK m.at' (k := q) rfl e
  exact ⟨(cell_blk e _).trans (m.tx.cells rfl m.at').2.2, (World.frozen?_of_block (a := ⟨q, i * 3 + 2, none⟩) e).trans (m.tx.fz rfl _)⟩
theorem add_hung (w : World) (h : TR F 0 S w t) (hn : S.length < 1000) (i : Nat) (hin : i < S.length) : Calls Try.prog 10 #[.pointer (some ⟨t, 0, none⟩), .int .i64 (i : Int), .bool true] w (AddR F 0 t S (S ++ [((i : Int), true)]) w) := by
  obtain ⟨P, c, D, x, o⟩ := h.ex
  obtain ⟨i0, hi, hz0, hz1, hz2⟩ := info_parts inf57
  obtain ⟨i3, hi3, hy0, hy1, hy2⟩ := info_parts inf3
  have hl := o.1
  have h0 := x.c0
  have hfa := x.f0 0
  have HX := Lib.hid x
  have HT := Lib.hid h
  have HO := Lib.hid o
  have b1 : ((i : Int) == -1) = false := beq_eq_false_iff_ne.2 (by omega)
  have b1n : ((i : Int) != -1) = true := bne_iff_ne.2 (by omega)
  have H := Lib.hid (has_yes w h i hin)
  have b3 : ((D.length : Int) == 1000) = false := beq_eq_false_iff_ne.2 (by omega)
  have HB := Lib.hid (below_al w (.cells #[.int .i64 (i : Int), .bool true, .slice none 0 0] 57))
  have hb : D.length ≤ 1000 := by omega
  have c1 : (i : Int) < (D.length : Int) + 1 := by omega
  have c4 : i < D.length := by omega
  have c2 : (0 : Int) ≤ (i : Int) := by omega
  have c3 : i < D.length + 1 := by omega
  obtain ⟨d, hd, hsd, hks⟩ := o.one hin
  have hkl : d.ks.length ≤ 1000 := by
    rw [hks, nz_len]
    have := once_len S.length (kids S i) ((kids_rise S i).imp fun h => by omega) (fun x hx => (kids_lt hx).2)
    omega
  have HD := Lib.hid hd
  have HL := Lib.hid hl
  clear x h o hl hd hks hsd
  have key : ∀ g cap w1, (w.alloc (.cells #[.int .i64 (i : Int), .bool true, .slice none 0 0] 57)).grownBy w1 (Value.slice P D.length c).ownBlock → w1.ownsRow 0 57 3 (.slice (some ⟨g, 0, none⟩) (D.length + 1) cap) (D.length + 1) (D.flatMap nV ++ [.int .i64 (i : Int), .bool true, .slice none 0 0]) → ((Value.slice P D.length c).ownBlock = some g ∨ g = w.heap.size + 1) →
      Mid F t S i w g cap D d (w1.setCell ⟨t, 0, none⟩ (.slice (some ⟨g, 0, none⟩) (D.length + 1) cap)) := by
    intro g cap w1 hg ho hat
    have hp := HX.out.push (i : Int) true HB.out ho hg (hat.imp id (by omega))
    exact ⟨hp.1, hp.2, by rw [List.getElem?_append_left c4]; exact HD.out, HT.out.wf, HO.out, HD.out, hin, hn⟩
  have KEY := Lib.hid key
  clear key
  go_enter Try.func10, Try.ntmps10
  go_wp2_with fail
  refine H.out.mono ?_
  rintro e w' ⟨rfl, rfl⟩
  go_wp2_with (at_builtin; first | (refine wpList_append_lies _ rfl (.tmp 44) (.tmp 48) 53 rfl 0 57 i0 _ 3 40 Try.underlying53 hi hz0 hz1 hz2 rfl (by omega) (.slice P D.length c) D.length (D.flatMap nV) rfl (row_later HX.out.own HB.out) ⟨w.heap.size, 0, none⟩ 1 1 [.int .i64 (i : Int), .bool true, .slice none 0 0] rfl rfl (World.news_of_block (cs := #[.int .i64 (i : Int), .bool true, .slice none 0 0]) (heap_alloc_new w _)) (nd_cell _ _) (by omega) (by unfold maxLen; omega) (by omega) (by omega) (w.heap.size + 1) (by first | (simp; done) | (simp; rfl)) ?_; intro g cap w1 hown hgrow hat hlt1; have HM := Lib.hid (KEY.out g cap w1 hgrow hown hat); have hc1 := (HX.out.pushed HB.out hgrow).1; have hf1 := (HX.out.pushed HB.out hgrow).2; have hs1 := HM.out.tx.c0; have hk1 := (HM.out.tx.cells rfl HM.out.at').2.2; clear hown hgrow hat hlt1 h0 hfa) | go_loud (refine wpList_append_lies _ rfl (.tmp 63) (.tmp 65) 41 rfl 0 3 i3 _ 1 8 Try.underlying41 hi3 hy0 hy1 hy2 rfl (by omega) (.slice d.P d.ks.length d.c) d.ks.length (iV d.ks) rfl (row_later (HM.out.tx.kid i d HM.out.at') (below_al _ _)) ⟨w1.heap.size, 0, none⟩ 1 1 [.int .i64 (D.length : Int)] rfl rfl (World.news_of_block (cs := #[.int .i64 (D.length : Int)]) (heap_alloc_set _ _ _ _)) (int_cell _) (by omega) (by unfold maxLen; omega) (by omega) (by omega) (w1.heap.size + 1) (by first | (simp; done) | (simp [size_set]; done)) ?_; intro g2 cap2 w2 hown hgrow hat hlt1; have HE := Lib.hid (HM.out.done (below_al _ _) hown hgrow (hat.imp id (fun e => by rw [size_set]; omega))); have hc2 := (HM.out.cells (below_al _ _) hgrow).1; have hf2 := (HM.out.cells (below_al _ _) hgrow).2; clear hown hgrow hat hlt1 hs1 hk1 hc1 hf1))
  go_wp2_with fail
  go_ret2
  exact HE.out
end
end Go.Proofs.Ytplckaodenpdbaa
