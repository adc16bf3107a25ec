/- What add of package ctx does. Conditions: each theorem's own premises.
What end of package ctx does, and Stop of whatever timers. Conditions: each theorem's own premises.
The loop of cancel: what has been told, and what is left. No condition.
What cancel of package ctx does. Conditions: each theorem's own premises. -/
import Derived.Test.YtdpapnfjpefhkaaGreatCtmm
import Derived.Test.YtdpapnfjpefhkaaGreatRemm
namespace Go.Proofs.YtdpapnfjpefhkaaGreat
open Go.RowKit Tr
set_option linter.unusedVariables false
set_option maxRecDepth 100000
section
variable {W w w' w'' wx w1 w2 : World} {t g cap i n : Nat} {p : Option Nat} {T T' : TS} {K K' : List Kd} {C : List Cx} {A : List Af} {F : Nat → Prop} {G : Nat → Nat → Prop} {o : Lo} {k : Nat} {x y : Cx} {O X X' Gc : Nat → Prop} {s : St}
theorem below_one {w wx : World} {o1 : Obj} (hh : wx.heap = (w.alloc o1).heap) (h1 : wx.os = w.os) (h2 : wx.tape = w.tape) (h3 : wx.output = w.output) : Below w.heap.size w wx :=
 ⟨h1, h2, h3, by rw [hh]; simp, fun k hk => by rw [hh]; exact Below.heap_alloc _ _ k hk⟩
theorem news_one {w wx : World} {cs : Array Value} {t : TypeId} (hh : wx.heap = (w.alloc (.cells cs t)).heap) : wx.heap[w.heap.size]? = some (.cells cs t (0, 0)) := by
 rw [hh]; exact heap_alloc_new w (.cells cs t)
def nw (x : Cx) (n : Nat) : Cx := { x with nd := n, lp := -1 }
def bxC (x : Cx) : Array Value := #[.int .i64 x.nd, .pointer (cp x.ch), .int .i64 x.er, .int .i64 x.cs, .int .i64 x.wh, .bool x.has, .bool x.own, .int .i64 x.lp]
theorem bx_cells {w : World} {b : Nat} {x : Cx} (h : w.heap[b]? = some (.cells (bxC x) 117 (0, 0))) : (w.cell? ⟨b, 0, none⟩ = some (.int .i64 x.nd) ∧ w.cell? ⟨b, 1, none⟩ = some (.pointer (cp x.ch)) ∧ w.cell? ⟨b, 2, none⟩ = some (.int .i64 x.er) ∧ w.cell? ⟨b, 3, none⟩ = some (.int .i64 x.cs) ∧ w.cell? ⟨b, 4, none⟩ = some (.int .i64 x.wh) ∧ w.cell? ⟨b, 5, none⟩ = some (.bool x.has) ∧ w.cell? ⟨b, 6, none⟩ = some (.bool x.own) ∧ w.cell? ⟨b, 7, none⟩ = some (.int .i64 x.lp)) ∧ ∀ j, w.frozen? ⟨b, j, none⟩ = false := by
 unfold bxC at h
 refine ⟨⟨?_, ?_, ?_, ?_, ?_, ?_, ?_, ?_⟩, fun j => frozen_of_row w b j _ _ h⟩
 · rw [cell_of_row w b 0 _ _ _ h]; rfl
 · rw [cell_of_row w b 1 _ _ _ h]; rfl
 · rw [cell_of_row w b 2 _ _ _ h]; rfl
 · rw [cell_of_row w b 3 _ _ _ h]; rfl
 · rw [cell_of_row w b 4 _ _ _ h]; rfl
 · rw [cell_of_row w b 5 _ _ _ h]; rfl
 · rw [cell_of_row w b 6 _ _ _ h]; rfl
 · rw [cell_of_row w b 7 _ _ _ h]; rfl
theorem CZ.out {b j : Nat} {u : Value} (h : CZ W t p T K C A O X w w') (hb : ¬ O b) (hx : ¬ X b) (hW : w.heap.size ≤ b) (hw : W.heap.size ≤ w.heap.size) : CZ W t p T K C A O X w (w'.setCell ⟨b, j, none⟩ u) := by
 obtain ⟨F, G, o, y, hs, tn⟩ := h
 refine ⟨F, G, o, y.keep (fun k hk => Below.heap_setCell _ _ _ _ ?_) (y.bel.setCell (show W.heap.size ≤ (⟨b, j, none⟩ : Addr).block from Nat.le_trans hw hW) u), hs, tn.set (.inr hW) u⟩
 intro e
 have e : k = b := e
 subst e
 rcases hs k hk with h1 | h1
 · exact hb h1
 · exact hx h1
theorem NC.keep (h : NC W O Gc w x) (hk : ∀ k, Gc k → w'.heap[k]? = w.heap[k]?) : NC W O Gc w' x := ⟨fun e => (h.cc e).keep fun k h1 => hk k h1, h.no, h.has⟩
def AdR (W : World) (t : Nat) (p : Option Nat) (T' : TS) (K : List Kd) (C : List Cx) (A : List Af) (n : Nat) (O Gc : Nat → Prop) (x : Cx) (w : World) (e : Ending) (w' : World) : Prop :=
 e = .returned (.int .i64 (C.length : Int)) ∧ CZ W t p T' K (C ++ [nw x n]) A O (fun k => Gc k ∨ w.heap.size ≤ k) w w'
theorem AdR.of {b : Nat} (n : Nat) (hO : ∀ k, O k → k < w.heap.size) (hc : NC W O Gc w x) (hw : W.heap.size ≤ w.heap.size) (hb : w.heap.size = b) (z : CZ W t p T' K C A O (fun k => w.heap.size + 1 ≤ k) (w.alloc (.cells (bxC x) 117)) w2) :
  w2.heap[b]? = some (.cells (bxC x) 117 (0, 0)) ∧ CZ W t p T' K C A O (fun k => w.heap.size + 1 ≤ k) w ((w2.setCell ⟨b, 0, none⟩ (.int .i64 n)).setCell ⟨b, 7, none⟩ (.int .i64 (-1))) ∧ NC W O Gc ((w2.setCell ⟨b, 0, none⟩ (.int .i64 n)).setCell ⟨b, 7, none⟩ (.int .i64 (-1))) (nw x n) ∧
   ((w2.setCell ⟨b, 0, none⟩ (.int .i64 n)).setCell ⟨b, 7, none⟩ (.int .i64 (-1))).heap[b]? = some (.cells (bxC (nw x n)) 117 (0, 0)) := by
 subst hb
 have tn := z.tn
 have hn : ¬ O w.heap.size := fun h => by have := hO _ h; omega
 have e2 : w2.heap[w.heap.size]? = some (.cells (bxC x) 117 (0, 0)) := (tn.block _ (by simp) hn).trans (heap_alloc_new w _)
 have e3 := heap_setCell_same w2 w.heap.size 0 _ _ (.int .i64 n) e2
 have e4 := heap_setCell_same _ w.heap.size 7 _ _ (.int .i64 (-1)) e3
 refine ⟨e2, ((z.from (below_al w _)).out hn (by omega) (Nat.le_refl _) hw).out hn (by omega) (Nat.le_refl _) hw, ⟨fun e => ?_, hc.no, hc.has⟩, e4⟩
 refine ((hc.cc e).keep fun k hk => ?_)
 have hl := hc.lt hk
 have hne : k ≠ w.heap.size := by omega
 rw [Below.heap_setCell _ _ _ _ (by exact hne), Below.heap_setCell _ _ _ _ (by exact hne), tn.block k (by simp; omega) (hc.no hk).2]
 exact Below.heap_alloc _ _ k hl
set_option maxHeartbeats 4000000 in
theorem cadd_any {pr : Int} {l : Bool} (y : CY W t p T K C A F G o w) (hO : ∀ k, O k ↔ ow F G o k) (hc : NC W O Gc w x) (hC : C.length ≤ 1000)
  (hg : ∀ w2, Below w.heap.size w w2 → Calls Tryz.prog 51 #[pS t, .int .i64 pr, .bool l, .agg #[.bool false, .int .i64 (C.length : Int)]] w2 fun e w' => e = .returned (.int .i64 (T.length : Int)) ∧ CZ W t p T' K' C A O (fun k => w2.heap.size ≤ k) w2 w') :
  Calls Tryz.prog 44 #[pS t, .int .i64 pr, .bool l, cG x] w (AdR W t p T' K' C A T.length O Gc x w) := by
 obtain ⟨c0, c2, c3, c4, cf⟩ := y.cells
 obtain ⟨i0, hi0, hz0, hz1, hz2⟩ := info_parts infC
 have hOl : ∀ k, O k → k < w.heap.size := fun k hk => y.lt ((hO k).1 hk)
 have ht := hOl t ((hO t).2 (.f y.ft))
 have hw := y.bel.size
 have HG := Lib.hid (hg (w.alloc (.cells (bxC x) 117)) (below_al _ _))
 have HA : Hid (∀ b w2, w.heap.size = b → CZ W t p T' K' C A O (fun k => w.heap.size + 1 ≤ k) (w.alloc (.cells (bxC x) 117)) w2 → _) := fun b w2 hb z => AdR.of (b := b) T.length hOl hc hw hb z
 have HOL := Lib.hid hOl
 have HGL : Hid (∀ k, Gc k → k < w.heap.size) := fun k hk => hc.lt hk
 clear hg y hO hc c0 c2 c4 cf hOl
 unfold cG bxC at *
 go_enter Tryz.func44, Tryz.ntmps44
 go_wp2_with fail
 refine HG.out.mono ?_
 rintro e w2 ⟨rfl, z⟩
 rw [World.size_alloc] at z
 obtain ⟨e2, z4, n4, b4⟩ := HA.out _ _ rfl z
 have bc := bx_cells (x := x) e2
 obtain ⟨⟨x0, -, -, -, -, -, -, x7⟩, xf⟩ := bc
 have f0 := xf 0
 have f7 := xf 7
 have HZ := Lib.hid z4
 have HN := Lib.hid n4
 have HB := Lib.hid b4
 clear z z4 n4 b4 e2 xf HA HG c3
 go_wp2_with fail
 generalize hw4 : (w2.setCell ⟨w.heap.size, 0, none⟩ (.int .i64 T.length)).setCell ⟨w.heap.size, 7, none⟩ (.int .i64 (-1)) = w4 at *
 clear hw4 x0 x7 f0 f7
 obtain ⟨F4, G4, o4, y4, hs4, tn4⟩ := HZ.out
 have hsz4 := tn4.size
 have hb4 : w.heap.size < w4.heap.size := lt_of_blk HB.out
 obtain ⟨-, -, c3, -, cf⟩ := y4.cells
 have f3 := cf 3
 obtain ⟨⟨q0, q1, q2, q3, q4, q5, q6, q7⟩, -⟩ := bx_cells (x := nw x T.length) HB.out
 have ht4 : t < w4.heap.size := by omega
 have HY := Lib.hid y4
 have HN4 : Hid (NC W (ow F4 G4 o4) Gc w4 (nw x T.length)) := ⟨HN.out.cc, fun {k} hk => ⟨(HN.out.no hk).1, fun h => by
  rcases hs4 k h with h1 | h1
  · exact (HN.out.no hk).2 h1
  · have := HGL.out k hk; omega⟩, HN.out.has⟩
 have HE4 : Hid (∀ {wx w1 : World} {g cap : Nat}, Below w4.heap.size w4 wx → wx.grownBy w1 (Value.slice o4.PC C.length o4.cC).ownBlock → w1.ownsRow 0 117 8 (.slice (some ⟨g, 0, none⟩) (C.length + 1) cap) (C.length + 1) (C.flatMap cE ++ cE (nw x T.length)) → ((Value.slice o4.PC C.length o4.cC).ownBlock = some g ∨ w4.heap.size ≤ g) →
   CZ W t p T' K' (C ++ [nw x T.length]) A O (fun k => Gc k ∨ w.heap.size ≤ k) w (w1.setCell ⟨t, 3, none⟩ (.slice (some ⟨g, 0, none⟩) (C.length + 1) cap))) := fun a b c d => y4.stepC (fun k hk => (hs4 k hk).imp id fun h => .inr (by omega)) tn4 (fun k hk => .inr (by omega)) (fun k hk => .inl hk) (fun k hk => hk.symm) HN4.out a b c d
 clear HZ HN HN4 y4 hs4 tn4 cf hw HOL HGL
 generalize hz : nw x T.length = z at *
 have HZE := Lib.hid hz
 clear hz
 go_region_law (go_loud (refine step_append_lies _ (by rfl) _ _ _ (by rfl) 0 117 i0 (.agg #[.int .i64 0, .pointer none, .int .i64 0, .int .i64 0, .int .i64 0, .bool false, .bool false, .int .i64 0]) 8 56 Tryz.underlying122 hi0 hz0 hz1 hz2 rfl (by omega) (.slice o4.PC C.length o4.cC) C.length (C.flatMap cE) (by rfl) (row_later HY.out.rc (below_one rfl rfl rfl rfl)) ⟨w4.heap.size, 0, none⟩ 1 1 (cE z) (by rfl) (by rfl) (World.news_of_block (cs := #[.int .i64 z.nd, .pointer (cp z.ch), .int .i64 z.er, .int .i64 z.cs, .int .i64 z.wh, .bool z.has, .bool z.own, .int .i64 z.lp]) (t := 117) (fr := (0, 0)) (news_one (w := w4) (by rfl))) (cE_one z) (by omega) (by unfold maxLen; omega) (by omega) (by first | omega | (simp; done) | (simp; omega)) (w4.heap.size + 1) (by simp) ?_; intro q2 cap w1 hown hgrow hat hlt1; have HM := HY.out.midC (by exact below_one rfl rfl rfl rfl) hgrow; have HE := Lib.hid (HE4.out (by exact below_one rfl rfl rfl rfl) hgrow hown (hat.imp id (by omega))); have hc1 := HM.2.2.1; have hf1 := HM.2.2.2; clear HM hown hgrow hat hlt1 c3 f3))
 all_goals
  go_wp2_with fail
  go_ret
  refine ⟨rfl, ?_⟩
  rw [HZE.out]
  exact HE.out
end
end Go.Proofs.YtdpapnfjpefhkaaGreat
namespace Go.Proofs.YtdpapnfjpefhkaaGreat
open Go.RowKit Tr
set_option linter.unusedVariables false
set_option maxRecDepth 100000
section
variable {W w w' w'' wx w1 w2 : World} {t i n : Nat} {p : Option Nat} {O : Nat → Prop} {s : St} {x : Cx} {E : List On} {S : List It}
theorem fput_z0 (k : Int) : fput z0 k 0 = z0 := by funext y; unfold fput z0; split <;> rfl
theorem tlen_nil (w : World) : Calls Tryz.prog 137 #[.pointer none] w fun e w' => e = .returned (.int .i64 0) ∧ w = w' := by
 go_enter Tryz.func137, Tryz.ntmps137
 go_wp2
 go_ret
 exact ⟨rfl, rfl⟩
set_option maxHeartbeats 4000000 in
theorem tget_nil (k : Int) (w : World) : Calls Tryz.prog 127 #[.pointer none, .int .i64 k] w (GtR zO w) := by
 by_cases b1 : k < 0
 · go_enter Tryz.func127, Tryz.ntmps127
   go_wp2_with fail
   refine bodyPost_ret (v := .agg #[.int .i64 0, .int .i64 0, .pointer none, .int .i64 0]) ?_ rfl ⟨rfl, ?_⟩
   · rw [results_cell_row rfl _ _ w.heap.size 171 #[.int .i64 0, .int .i64 0, .pointer none, .int .i64 0] (0, 0) _ rfl (heap_alloc_new w _) Tryz.underlying171 rfl (by kernel_rfl)]
   · first | exact below_al _ _ | (repeat' (first | exact below_al _ _ | refine Below.alloc ?_ (by omega) _))
 · have b2 : 0 ≤ k := by omega
   go_enter Tryz.func127, Tryz.ntmps127
   go_wp2_with fail
   refine (tlen_nil _).mono ?_
   rintro e w' ⟨rfl, rfl⟩
   go_wp2_with fail
   refine bodyPost_ret (v := .agg #[.int .i64 0, .int .i64 0, .pointer none, .int .i64 0]) ?_ rfl ⟨rfl, ?_⟩
   · rw [results_cell_row rfl _ _ w.heap.size 171 #[.int .i64 0, .int .i64 0, .pointer none, .int .i64 0] (0, 0) _ rfl (heap_alloc_new w _) Tryz.underlying171 rfl (by kernel_rfl)]
   · first | exact below_al _ _ | (repeat' (first | exact below_al _ _ | refine Below.alloc ?_ (by omega) _))
theorem tkind_nil (k : Int) (w : World) : Calls Tryz.prog 114 #[.pointer none, .int .i64 k] w fun e w' => e = .returned (.int .i64 0) ∧ Below w.heap.size w w' := by
 have HG := Lib.hid (tget_nil k w)
 have hfd := fd0 zO
 go_enter Tryz.func114, Tryz.ntmps114
 go_wp2_with fail
 refine HG.out.mono ?_
 rintro e w' ⟨rfl, hb⟩
 have HB := Lib.hid hb
 clear hb HG
 go_wp2_with fail
 go_ret
 exact ⟨rfl, HB.out⟩
theorem tstop_nil (k : Int) (w : World) : Calls Tryz.prog 97 #[.pointer none, .int .i64 k] w fun e w' => e = .returned (.tuple #[.bool false, .int .i64 4]) ∧ Below w.heap.size w w' := by
 have HG := Lib.hid (tkind_nil k w)
 go_enter Tryz.func97, Tryz.ntmps97
 go_wp2_with fail
 refine HG.out.mono ?_
 rintro e w' ⟨rfl, hb⟩
 have HB := Lib.hid hb
 clear hb HG
 go_wp2_with fail
 go_ret2
 exact ⟨rfl, HB.out⟩
def TmR (W : World) (p : Option Nat) (E : List On) (n : Nat) (S : List It) (w w' : World) : Prop := TMs W p E n S w' ∧ Below W.heap.size W w' ∧ OZ w w' ∧ w.heap.size ≤ w'.heap.size
theorem del_out {k : Int} (h : ∀ x ∈ S, 0 ≤ x.id ∧ x.id < (E.length : Int)) (hk : k < 0 ∨ (E.length : Int) ≤ k) : del k S = S := by
 unfold del
 rw [List.filter_eq_self]
 intro x hx
 have := h x hx
 simp; omega
theorem tstop_any (k : Int) (m : TMs W p E n S w) (hb : Below W.heap.size W w) (hE : E.length ≤ 100000) (hl : S.length ≤ 1000) : Calls Tryz.prog 97 #[.pointer (cp p), .int .i64 k] w fun e w' => (∃ b r, e = .returned (.tuple #[.bool b, .int .i64 r])) ∧ TmR W p E n (del k S) w w' := by
 cases p with
 | none =>
  obtain ⟨rfl, rfl, rfl⟩ := m
  refine (tstop_nil k w).mono ?_
  rintro e w' ⟨rfl, h⟩
  exact ⟨⟨_, _, rfl⟩, ⟨rfl, rfl, rfl⟩, hb.trans (h.mono hb.size), OZ.of_below h, h.size⟩
 | some ts =>
  obtain ⟨h, h1, h2⟩ := m
  by_cases hk : k < 0 ∨ (E.length : Int) ≤ k
  · rw [del_out h1 hk]
    refine (stop_none h hk).mono ?_
    rintro e w' ⟨rfl, h3, h4⟩
    exact ⟨⟨_, _, rfl⟩, ⟨h3, h1, h2⟩, h3.bel, h4, h4.1⟩
  · obtain ⟨i, rfl⟩ : ∃ i : Nat, k = (i : Int) := Int.eq_ofNat_of_zero_le (by omega)
    have hx : E[i]? = some (E[i]'(by omega)) := List.getElem?_eq_getElem _
    obtain ⟨hc, hk4⟩ := h2 _ (List.mem_of_getElem? hx)
    refine (stop_set h hx (Drp.none hc) (by rw [hk4]; decide) hE hl).mono ?_
    rintro e w' ⟨rfl, h3, h4⟩
    rw [fput_z0] at h3
    exact ⟨⟨_, _, rfl⟩, ⟨h3, fun x hx => h1 x (del_mem.1 hx).1, h2⟩, h3.bel, h4, h4.1⟩
def ended (x : Cx) (er cs : Int) : Cx := { x with er := er, cs := cs, cl := true, rs := [] }
def wks (x : Cx) : List Ch.Wk := Ch.tot (chS x)
def EnR (W : World) (t : Nat) (p : Option Nat) (s : St) (O : Nat → Prop) (i : Nat) (x : Cx) (er cs : Int) (w : World) (e : Ending) (w' : World) : Prop :=
 ∃ A n c, Hid (n = (wks x).length) ∧ e = .returned (.slice A n c) ∧ Hid (Ch.RdK w' A n (wks x)) ∧ Hid (GS W t p { s with C := s.C.set i (ended x er cs), S := del x.lp s.S } O w w')
theorem FS.ended {c : Nat} (h : FS W t p s O w) (hx : s.C[i]? = some x) (hc : x.ch = some c) (hcl : x.cl = false) (hr : x.rs.length ≤ 1000000) : Calls Tryz.prog 98 #[.pointer (some ⟨c, 0, none⟩)] w fun e w' => ∃ A k, e = .returned (.slice A (wks x).length k) ∧ Ch.RdK w' A (wks x).length (wks x) ∧ GS W t p { s with C := s.C.set i { x with cl := true, rs := [] } } O w w' := by
 obtain ⟨⟨F, G, o, y, e⟩, m⟩ := h
 refine (Ch.end_any (y.ch i x c hx hc) rfl hcl (by simp [chS]) hr).mono ?_
 rintro e' w' ⟨A, k, rfl, h1, h2⟩
 refine ⟨A, k, rfl, h1, ?_⟩
 have g : Ch.Go (G i) c (chS { x with cl := true, rs := [] }) w w' := h2
 obtain ⟨G', y', hs, tn⟩ := y.chan (y := { x with cl := true, rs := [] }) hx hc rfl rfl g
 refine FS.ctx y e m y' (fun k hk => ?_) (tn.mono fun b hb => .inl ((e b).2 hb))
 rcases hk with hk | hk | hk | hk | ⟨j, hk⟩
 · exact .inl ((e k).2 (.f hk))
 · exact .inl ((e k).2 (.k hk))
 · exact .inl ((e k).2 (.c hk))
 · exact .inl ((e k).2 (.a hk))
 · rcases hs j k hk with h3 | h3
   · exact .inl ((e k).2 (.g h3))
   · exact .inr h3
theorem Tg.oz {ty : TypeId} {k : Nat} (h : Tg (· = ty) w k) (ho : OthZ ty) (z : OZ w w') : w'.heap[k]? = w.heap[k]? := by
 obtain ⟨cs, ty', fr, e, rfl⟩ := h
 rw [e]; exact z.2 k cs _ fr e ho
theorem FS.errs (h : FS W t p s O w) (hx : s.C[i]? = some x) : ∃ q, (∃ cC, w.cell? ⟨t, 3, none⟩ = some (.slice (some ⟨q, 0, none⟩) s.C.length cC)) ∧ q < w.heap.size ∧ (w.cell? ⟨q, i * 8 + 2, none⟩ = some (.int .i64 x.er) ∧ w.cell? ⟨q, i * 8 + 3, none⟩ = some (.int .i64 x.cs)) ∧ (∀ j, w.frozen? ⟨q, j, none⟩ = false) ∧
  ∀ er cs, GS W t p { s with C := s.C.set i { x with er := er, cs := cs } } O w ((w.setCell ⟨q, i * 8 + 2, none⟩ (.int .i64 er)).setCell ⟨q, i * 8 + 3, none⟩ (.int .i64 cs)) ∧
   Tg (· = 117) ((w.setCell ⟨q, i * 8 + 2, none⟩ (.int .i64 er)).setCell ⟨q, i * 8 + 3, none⟩ (.int .i64 cs)) q ∧
   ((w.setCell ⟨q, i * 8 + 2, none⟩ (.int .i64 er)).setCell ⟨q, i * 8 + 3, none⟩ (.int .i64 cs)).cell? ⟨t, 0, none⟩ = some (.pointer (cp p)) ∧
   ∀ w3 : World, w3.heap[q]? = ((w.setCell ⟨q, i * 8 + 2, none⟩ (.int .i64 er)).setCell ⟨q, i * 8 + 3, none⟩ (.int .i64 cs)).heap[q]? → w3.cell? ⟨q, i * 8 + 7, none⟩ = some (.int .i64 x.lp) ∧ w3.cell? ⟨q, i * 8 + 1, none⟩ = some (.pointer (cp x.ch)) := by
 obtain ⟨⟨F, G, o, y, e⟩, m⟩ := h
 obtain ⟨q, hP, hq, ⟨-, -, x2, x3, -⟩, hf⟩ := y.cx hx
 have hl := (List.getElem?_eq_some_iff.1 hx).1
 refine ⟨q, ⟨_, by rw [← hP]; exact y.cells.2.2.1⟩, hq, ⟨x2, x3⟩, hf, fun er cs => ?_⟩
 obtain ⟨y1, t1⟩ := y.setx (y := { x with er := er }) hx hP 2 (by omega) (.int .i64 er) rfl rfl rfl
 obtain ⟨y2, t2⟩ := y1.setx (x := { x with er := er }) (y := { x with er := er, cs := cs }) (by rw [List.getElem?_set_self hl]) hP 3 (by omega) (.int .i64 cs) rfl rfl rfl
 rw [List.set_set] at y2
 refine ⟨FS.ctx y e m y2 (fun k hk => .inl ((e k).2 hk)) ((t1.trans t2).mono fun b hb => .inl ((e b).2 hb)), tag_row y2.rc (by rw [hP]; rfl), y2.cells.1, fun w3 h3 => ?_⟩
 obtain ⟨q', hP', -, ⟨-, c1, -, -, -, -, -, c7⟩, -⟩ := y2.cx (i := i) (x := { x with er := er, cs := cs }) (by rw [List.getElem?_set_self hl])
 rw [hP] at hP'
 injection hP' with hP'; injection hP' with hP'; subst hP'
 exact ⟨(cell_blk h3 _).trans c7, (cell_blk h3 _).trans c1⟩
set_option maxHeartbeats 4000000 in
theorem end_ctx {c : Nat} (er cs : Int) (h : FS W t p s O w) (hx : s.C[i]? = some x) (hc : x.ch = some c) (hcl : x.cl = false) (hr : x.rs.length ≤ 1000000) (hE : s.E.length ≤ 100000) (hl : s.S.length ≤ 1000) (hC : s.C.length ≤ 1000) :
  Calls Tryz.prog 75 #[pS t, .int .i64 (i : Int), .int .i64 er, .int .i64 cs] w (EnR W t p s O i x er cs w) := by
 have hi := (List.getElem?_eq_some_iff.1 hx).1
 have b1 : (i : Int) < (s.C.length : Int) := by omega
 have b2 : (0 : Int) ≤ (i : Int) := by omega
 obtain ⟨q, ⟨cC, h3⟩, hq, ⟨x2, x3⟩, hf, hg⟩ := h.errs hx
 have f2 := hf (i * 8 + 2)
 have f3 := hf (i * 8 + 3)
 obtain ⟨g1, tg, ct, cq⟩ := hg er cs
 have HG := Lib.hid g1
 have HT := Lib.hid tg
 have HC := Lib.hid cq
 have HX := Lib.hid hx
 have HN := Lib.hid hc
 have HL := Lib.hid (And.intro hE hl)
 clear hg g1 tg cq hf hx h hE hl
 go_enter Tryz.func75, Tryz.ntmps75
 go_wp2_with fail
 generalize (w.setCell ⟨q, i * 8 + 2, none⟩ (.int .i64 er)).setCell ⟨q, i * 8 + 3, none⟩ (.int .i64 cs) = w2 at *
 obtain ⟨O2, fs2, hs2, fm2⟩ := HG.out
 have hq2 := HT.out.lt
 have ht2 := fs2.tlt
 obtain ⟨c7, c1⟩ := HC.out w2 rfl
 have HF := Lib.hid fs2
 have HS := Lib.hid (And.intro hs2 fm2)
 have HST : Hid (∀ w3, Below w2.heap.size w2 w3 → Calls Tryz.prog 97 #[.pointer (cp p), .int .i64 x.lp] w3 fun e w' => (∃ b r, e = .returned (.tuple #[.bool b, .int .i64 r])) ∧ GS W t p { s with C := s.C.set i { x with er := er, cs := cs }, S := del x.lp s.S } O2 w2 w' ∧ OZ w2 w') := by
  intro w3 hb
  have f3 := HF.out.later hb
  refine (tstop_any x.lp f3.2 f3.bel HL.out.1 HL.out.2).mono ?_
  rintro e w' ⟨h1, h2, h3, h4, h5⟩
  exact ⟨h1, GS.from hb (f3.tms h2 h3 h4), (OZ.of_below hb).trans h4⟩
 clear fs2 hs2 fm2 x2 x3 f2 f3 h3 c1 hq HG
 go_region_with (go_at_call 97; go_loud (refine (HST.out _ (by first | exact Below.refl _ _ | exact (Below.refl _ _).drew | exact below_drewN _ _)).mono ?_; rintro e w3 ⟨⟨b9, r9, rfl⟩, g3, oz3⟩; have HG3 := Lib.hid g3; have HO3 := Lib.hid oz3; clear g3 oz3))
 all_goals
  have c1 : w3.cell? ⟨q, i * 8 + 1, none⟩ = some (.pointer (some ⟨c, 0, none⟩)) := by
   have h9 := (HC.out w3 (HT.out.oz (by decide) HO3.out)).2
   rw [HN.out] at h9
   exact h9
  have HEN : Hid (Calls Tryz.prog 98 #[.pointer (some ⟨c, 0, none⟩)] w3 (EnR W t p s O i x er cs w)) := by
   obtain ⟨O3, fs3, hs3, fm3⟩ := HG3.out
   refine (fs3.ended (x := { x with er := er, cs := cs }) (by show (s.C.set i _)[i]? = _; rw [List.getElem?_set_self hi]) HN.out hcl hr).mono ?_
   rintro e w4 ⟨A, k, rfl, h1, h2⟩
   refine ⟨A, _, k, rfl, rfl, h1, ?_⟩
   have h3 := GS.comp HS.out.1 HS.out.2 (GS.comp hs3 fm3 h2)
   rw [List.set_set] at h3
   exact h3
  clear HC HT HG3 HF HS HST ct c7 hq2 ht2 hC hi b1 b2 HO3 HX HN HL hc hcl hr
  go_wp2_with fail
  refine HEN.out.mono ?_
  rintro e w4 ⟨A, n, k, hn, rfl, h1, h2⟩
  go_wp2_with fail
  go_ret
  exact ⟨A, n, k, hn, rfl, h1, h2⟩
end
end Go.Proofs.YtdpapnfjpefhkaaGreat
namespace Go.Proofs.YtdpapnfjpefhkaaGreat
open Go.RowKit Tr
set_option linter.unusedVariables false
set_option maxRecDepth 100000
structure Lp where
 id : Nat
 er : Int
 cs : Int
 wk : List Ch.Wk
 A : Option Addr
 n : Nat
 c : Nat
def lE (x : Lp) : List Value := [.int .i64 x.id, .int .i64 x.er, .int .i64 x.cs, .slice x.A x.n x.c]
theorem lE_len (x : Lp) : (lE x).length = 4 := rfl
theorem lE_one (x : Lp) : ∀ u ∈ lE x, u.oneCell' = true := by intro u hu; simp [lE] at hu; rcases hu with rfl | rfl | rfl | rfl <;> rfl
structure Mp where
 id : Nat
 pg : Int
def mE (x : Mp) : List Value := [.int .i64 x.id, .int .i64 x.pg]
theorem mE_len (x : Mp) : (mE x).length = 2 := rfl
theorem mE_one (x : Mp) : ∀ u ∈ mE x, u.oneCell' = true := by intro u hu; simp [mE] at hu; rcases hu with rfl | rfl <;> rfl
theorem infL : (Tryz.prog.info? 57).map (fun i => (i.zero, i.size, i.bytes)) = some (some (.agg #[.int .i64 0, .int .i64 0, .int .i64 0, .slice none 0 0]), 4, 48) := by kernel_rfl
theorem infM : (Tryz.prog.info? 59).map (fun i => (i.zero, i.size, i.bytes)) = some (some (.agg #[.int .i64 0, .int .i64 0]), 2, 16) := by kernel_rfl
abbrev Lap := Nat × List Ch.Wk
def LR (B : Nat) (w : World) (P : Option Addr) (c : Nat) (er cs : Int) (l : List Lap) : Prop :=
 ∃ L : List Lp, L.map (fun x => (x.id, x.wk)) = l ∧ (∀ x ∈ L, x.er = er ∧ x.cs = cs ∧ x.n = x.wk.length ∧ Ch.RdK w x.A x.n x.wk) ∧ w.ownsRow B 57 4 (.slice P L.length c) L.length (L.flatMap lE)
def SR (B : Nat) (w : World) (P : Option Addr) (c : Nat) (m : List Mp) : Prop := w.ownsRow B 59 2 (.slice P m.length c) m.length (m.flatMap mE)
def cst (er cs : Int) (s : St) (k : Nat) : St := match s.K[k]? with
 | some ⟨false, i⟩ => match s.C[i]? with
  | some x => { s with T := Tr.cut s.T k, C := s.C.set i (ended x er cs), S := del x.lp s.S }
  | none => { s with T := Tr.cut s.T k }
 | _ => { s with T := Tr.cut s.T k }
def clp (s : St) (k : Nat) : List Lap := match s.K[k]? with
 | some ⟨false, i⟩ => match s.C[i]? with
  | some x => [(i, wks x)]
  | none => []
 | _ => []
def cmp (s : St) (k : Nat) : List Mp := match s.K[k]? with
 | some ⟨true, i⟩ => match s.A[i]? with
  | some a => [⟨i, a.pg⟩]
  | none => []
 | _ => []
def cfold (er cs : Int) : List Nat → St → St × List Lap × List Mp
 | [], s => (s, [], [])
 | k :: r, s => ((cfold er cs r (cst er cs s k)).1, clp s k ++ (cfold er cs r (cst er cs s k)).2.1, cmp s k ++ (cfold er cs r (cst er cs s k)).2.2)
structure Good (s : St) (k : Nat) : Prop where
 lt : k < s.T.length
 ex : ∃ z, s.K[k]? = some z ∧ (z.af = true → ∃ a, s.A[z.id]? = some a) ∧ (z.af = false → ∃ x c, s.C[z.id]? = some x ∧ x.nd = k ∧ x.ch = some c ∧ x.cl = false ∧ x.rs.length ≤ 1000000)
theorem cst_af {er cs : Int} {s : St} {k i : Nat} (h : s.K[k]? = some ⟨true, i⟩) : cst er cs s k = { s with T := Tr.cut s.T k } := by unfold cst; rw [h]
theorem cst_cx {er cs : Int} {s : St} {k i : Nat} {x : Cx} (h : s.K[k]? = some ⟨false, i⟩) (hx : s.C[i]? = some x) : cst er cs s k = { s with T := Tr.cut s.T k, C := s.C.set i (ended x er cs), S := del x.lp s.S } := by unfold cst; rw [h]; simp only [hx]
theorem clp_af {s : St} {k i : Nat} (h : s.K[k]? = some ⟨true, i⟩) : clp s k = [] := by unfold clp; rw [h]
theorem clp_cx {s : St} {k i : Nat} {x : Cx} (h : s.K[k]? = some ⟨false, i⟩) (hx : s.C[i]? = some x) : clp s k = [(i, wks x)] := by unfold clp; rw [h]; simp only [hx]
theorem cmp_af {s : St} {k i : Nat} {a : Af} (h : s.K[k]? = some ⟨true, i⟩) (ha : s.A[i]? = some a) : cmp s k = [⟨i, a.pg⟩] := by unfold cmp; rw [h]; simp only [ha]
theorem cmp_cx {s : St} {k i : Nat} (h : s.K[k]? = some ⟨false, i⟩) : cmp s k = [] := by unfold cmp; rw [h]
theorem cst_len {er cs : Int} (s : St) (k : Nat) : (cst er cs s k).C.length = s.C.length ∧ (cst er cs s k).E = s.E ∧ (cst er cs s k).S.length ≤ s.S.length ∧ (cst er cs s k).K = s.K ∧ (cst er cs s k).A = s.A ∧ (cst er cs s k).T.length = s.T.length := by
 unfold cst
 split
 · split
   · exact ⟨by simp, rfl, List.length_filter_le _ _, rfl, rfl, Tr.cut_len _ _⟩
   · exact ⟨rfl, rfl, Nat.le_refl _, rfl, rfl, Tr.cut_len _ _⟩
 · exact ⟨rfl, rfl, Nat.le_refl _, rfl, rfl, Tr.cut_len _ _⟩
theorem Good.next {er cs : Int} {s : St} {k k' : Nat} (h : Good s k') (g : Good s k) (hne : k' ≠ k) : Good (cst er cs s k) k' := by
 obtain ⟨hl, z, h1, h2, h3⟩ := h
 obtain ⟨_, ⟨za, zi⟩, g1, g2, g3⟩ := g
 obtain ⟨_, _, _, e4, e5, e6⟩ := cst_len (er := er) (cs := cs) s k
 refine ⟨by rw [e6]; exact hl, z, by rw [e4]; exact h1, fun e => by rw [e5]; exact h2 e, fun e => ?_⟩
 obtain ⟨x, c, x1, x2, x3⟩ := h3 e
 cases za with
 | true => rw [cst_af g1]; exact ⟨x, c, x1, x2, x3⟩
 | false =>
  obtain ⟨y, d, y1, y2, y3⟩ := g3 rfl
  rw [cst_cx g1 y1]
  refine ⟨x, c, ?_, x2, x3⟩
  show (s.C.set zi _)[z.id]? = some x
  rw [List.getElem?_set_ne]
  · exact x1
  · intro e
    have e : zi = z.id := e
    rw [← e] at x1
    have y1 : s.C[zi]? = some y := y1
    rw [y1] at x1; cases x1
    exact hne (x2.symm.trans y2)
structure CL (W w1 : World) (t : Nat) (p : Option Nat) (O : Nat → Prop) (ws : List Int) (Pw : Option Addr) (cw : Nat) (er cs : Int) (s : St) (P1 : Option Addr) (c1 : Nat) (l : List Lap) (P2 : Option Addr) (c2 : Nat) (m : List Mp) (w : World) : Prop where
 fs : ∃ O', FS W t p s O' w ∧ ∀ k, O' k → O k ∨ w1.heap.size ≤ k
 fm : Fm O w1 w
 wr : Rw 0 w Pw cw ws
 wn : ∀ k, blk Pw = some k → k < w1.heap.size ∧ ¬ O k
 lr : LR w1.heap.size w P1 c1 er cs l
 mr : SR w1.heap.size w P2 c2 m
section
variable {W w1 w w' wx : World} {t : Nat} {p : Option Nat} {O : Nat → Prop} {ws : List Int} {Pw P1 P2 : Option Addr} {cw c1 c2 g cap : Nat} {er cs : Int} {s s' : St} {l : List Lap} {m : List Mp}
theorem LR.keep {B : Nat} (h : LR B w P1 c1 er cs l) (k : ∀ b, Tg (fun ty => ty = 57 ∨ ty = 208) w b → w'.heap[b]? = w.heap[b]?) : LR B w' P1 c1 er cs l := by
 obtain ⟨L, h1, h2, h3⟩ := h
 refine ⟨L, h1, fun x hx => ⟨(h2 x hx).1, (h2 x hx).2.1, (h2 x hx).2.2.1, (h2 x hx).2.2.2.keep fun b cs e => ?_⟩, row_keep h3 fun b hb => k b ((tag_row h3 hb).imp fun ty e => .inl e)⟩
 exact k b ⟨_, _, _, e, .inr rfl⟩
theorem LR.later {B : Nat} (h : LR B w P1 c1 er cs l) (b : Below w.heap.size w w') : LR B w' P1 c1 er cs l := h.keep fun k hk => b.block k hk.lt
theorem Fm.tg {P : TypeId → Prop} {b : Nat} (f : Fm O w w') (h : Tg P w b) (ho : ∀ ty, P ty → OthZ ty) (hn : ¬ O b) : w'.heap[b]? = w.heap[b]? := by
 obtain ⟨cs, ty, fr, e, hp⟩ := h
 rw [e]; exact f.2 b cs ty fr e (ho ty hp) hn
theorem FS.nott {P : TypeId → Prop} {b : Nat} (h : FS W t p s O w) (g : Tg P w b) (hn : ∀ ty, P ty → ¬ TgO ty) : ¬ O b := fun hk => g.two (h.tag hk) hn
theorem CL.later (h : CL W w1 t p O ws Pw cw er cs s P1 c1 l P2 c2 m w) (b : Below w.heap.size w w') : CL W w1 t p O ws Pw cw er cs s P1 c1 l P2 c2 m w' := by
 obtain ⟨⟨O', f, hs⟩, fm, wr, wn, lr, mr⟩ := h
 exact ⟨⟨O', f.later b, hs⟩, fm.comp (Fm.of_below (O := O) b) fun k hk => .inl hk, row_later wr b, wn, lr.later b, row_later mr b⟩
theorem CL.go {O' : Nat → Prop} (h : CL W w1 t p O ws Pw cw er cs s P1 c1 l P2 c2 m w) (f : FS W t p s O' w) (hs : ∀ k, O' k → O k ∨ w1.heap.size ≤ k) (gs : GS W t p s' O' w w') : CL W w1 t p O ws Pw cw er cs s' P1 c1 l P2 c2 m w' := by
 obtain ⟨_, fm, wr, wn, lr, mr⟩ := h
 obtain ⟨O2, f2, hs2, fm2⟩ := gs
 have key : ∀ b, Tg (fun ty => ty = 57 ∨ ty = 208) w b → w'.heap[b]? = w.heap[b]? := fun b hb => fm2.tg hb (fun ty e => by rcases e with rfl | rfl <;> decide) (f.nott hb fun ty e => by rcases e with rfl | rfl <;> simp [TgO])
 refine ⟨⟨O2, f2, fun k hk => ?_⟩, fm.comp fm2 hs, row_keep wr fun k hk => ?_, wn, lr.keep key, row_keep mr fun k hk => ?_⟩
 · rcases hs2 k hk with h1 | h1
   · exact hs k h1
   · exact .inr (Nat.le_trans fm.1 h1)
 · refine fm2.tg (tag_row wr hk) (fun ty e => by subst e; decide) fun h1 => ?_
   rcases hs k h1 with h2 | h2
   · exact (wn k hk).2 h2
   · have := (wn k hk).1; omega
 · exact fm2.tg (tag_row mr hk) (fun ty e => by subst e; decide) (f.nott (tag_row mr hk) fun ty e => by subst e; simp [TgO])
theorem FS.app {P : Option Addr} {ty sz n c : Nat} {xs : List Value} {B : Nat} (f : FS W t p s O w) (r : w.ownsRow B ty sz (.slice P n c) n xs) (hB : W.heap.size ≤ B) (ho : OthZ ty) (hn : ¬ TgO ty) (hx : Below w.heap.size w wx) (hg : wx.grownBy w' (Value.slice P n c).ownBlock) :
  FS W t p s O w' ∧ Tn (fun k => blk P = some k) w w' := by
 have T1 : Tn (fun k => blk P = some k) w w' := Tn.grown hx (by rw [own_blk] at hg; exact hg)
 have hb : Below W.heap.size W w' := f.bel.trans (T1.below f.bel.size fun b hb => Nat.le_trans hB (row_lt r hb).1)
 refine ⟨?_, T1⟩
 obtain ⟨⟨F, G, o, y, e⟩, mm⟩ := f
 refine ⟨⟨F, G, o, y.keep (fun k hk => T1.block k (y.lt hk) fun h => (tag_row r h).two (y.tag hk) fun ty' a => by subst a; exact hn) hb, e⟩, mm.tm hb fun j hj hi => T1.block j hj fun h => ?_⟩
 rcases hi with hi | ⟨es, cl, e2⟩
 · exact (tag_row r h).two hi fun ty' a b => b (by subst a; exact ho)
 · obtain ⟨cs, ty', fr, e3, _⟩ := tag_row r h
   rw [e2] at e3; cases e3
theorem CL.addL {L : List Lp} {x : Lp} (h : CL W w1 t p O ws Pw cw er cs s P1 c1 l P2 c2 m w) (hW : W.heap.size ≤ w1.heap.size) (hm : L.map (fun x => (x.id, x.wk)) = l) (hL : ∀ x ∈ L, x.er = er ∧ x.cs = cs ∧ x.n = x.wk.length ∧ Ch.RdK w x.A x.n x.wk) (hr : w.ownsRow w1.heap.size 57 4 (.slice P1 L.length c1) L.length (L.flatMap lE))
  (hxe : x.er = er ∧ x.cs = cs ∧ x.n = x.wk.length) (hxk : Ch.RdK w x.A x.n x.wk) (hx : Below w.heap.size w wx) (hg : wx.grownBy w' (Value.slice P1 L.length c1).ownBlock) (ho : w'.ownsRow w1.heap.size 57 4 (.slice (some ⟨g, 0, none⟩) (L.length + 1) cap) (L.length + 1) (L.flatMap lE ++ lE x)) :
  CL W w1 t p O ws Pw cw er cs s (some ⟨g, 0, none⟩) cap (l ++ [(x.id, x.wk)]) P2 c2 m w' := by
 obtain ⟨⟨O', f, hs⟩, fm, wr, wn, lr, mr⟩ := h
 obtain ⟨f', T1⟩ := f.app hr hW (by decide) (by simp [TgO]) hx hg
 have nb : ∀ k ty, Tg (· = ty) w k → ty ≠ 57 → w'.heap[k]? = w.heap[k]? := fun k ty hk n => T1.block k hk.lt fun e => hk.two (tag_row hr e) fun a b c => n (b.symm.trans c)
 have kp : ∀ (A : Option Addr) (n : Nat) (k : List Ch.Wk), Ch.RdK w A n k → Ch.RdK w' A n k := fun A n k h => h.keep fun b cs e => nb b 208 ⟨_, _, _, e, rfl⟩ (by decide)
 refine ⟨⟨O', f', hs⟩, ?_, row_keep wr fun k hk => nb k _ (tag_row wr hk) (by decide), wn, ⟨L ++ [x], by simp [hm], fun y hy => ?_, ?_⟩, row_keep mr fun k hk => nb k _ (tag_row mr hk) (by decide)⟩
 · refine ⟨Nat.le_trans fm.1 T1.size, fun k cs ty fr e1 e2 e3 => ?_⟩
   have e4 := fm.2 k cs ty fr e1 e2 e3
   refine (T1.block k (lt_of_blk e4) fun h => ?_).trans e4
   have := (row_lt hr h).1; have := lt_of_blk e1; omega
 · rcases List.mem_append.1 hy with h1 | h1
   · have := hL y h1
     exact ⟨this.1, this.2.1, this.2.2.1, kp _ _ _ this.2.2.2⟩
   · simp at h1; subst h1; exact ⟨hxe.1, hxe.2.1, hxe.2.2, kp _ _ _ hxk⟩
 · rw [List.flatMap_append, show ([x] : List Lp).flatMap lE = lE x from by simp, show (L ++ [x]).length = L.length + 1 from by simp]
   exact ho
theorem CL.addM {x : Mp} (h : CL W w1 t p O ws Pw cw er cs s P1 c1 l P2 c2 m w) (hW : W.heap.size ≤ w1.heap.size)
  (hx : Below w.heap.size w wx) (hg : wx.grownBy w' (Value.slice P2 m.length c2).ownBlock) (ho : w'.ownsRow w1.heap.size 59 2 (.slice (some ⟨g, 0, none⟩) (m.length + 1) cap) (m.length + 1) (m.flatMap mE ++ mE x)) :
  CL W w1 t p O ws Pw cw er cs s P1 c1 l (some ⟨g, 0, none⟩) cap (m ++ [x]) w' := by
 obtain ⟨⟨O', f, hs⟩, fm, wr, wn, lr, mr⟩ := h
 obtain ⟨f', T1⟩ := f.app mr hW (by decide) (by simp [TgO]) hx hg
 have nb : ∀ k ty, Tg (· = ty) w k → ty ≠ 59 → w'.heap[k]? = w.heap[k]? := fun k ty hk n => T1.block k hk.lt fun e => hk.two (tag_row mr e) fun a b c => n (b.symm.trans c)
 refine ⟨⟨O', f', hs⟩, ?_, row_keep wr fun k hk => nb k _ (tag_row wr hk) (by decide), wn, lr.keep fun b hb => ?_, ?_⟩
 · refine ⟨Nat.le_trans fm.1 T1.size, fun k cs ty fr e1 e2 e3 => ?_⟩
   have e4 := fm.2 k cs ty fr e1 e2 e3
   refine (T1.block k (lt_of_blk e4) fun h => ?_).trans e4
   have := (row_lt mr h).1; have := lt_of_blk e1; omega
 · obtain ⟨cs, ty, fr, e, hp⟩ := hb
   exact nb b ty ⟨_, _, _, e, rfl⟩ (by rcases hp with rfl | rfl <;> decide)
 · unfold SR
   rw [List.flatMap_append, show ([x] : List Mp).flatMap mE = mE x from by simp, show (m ++ [x]).length = m.length + 1 from by simp]
   exact ho
end
end Go.Proofs.YtdpapnfjpefhkaaGreat
namespace Go.Proofs.YtdpapnfjpefhkaaGreat
open Go.RowKit Tr
set_option linter.unusedVariables false
set_option maxRecDepth 100000
def CaR (W : World) (t : Nat) (p : Option Nat) (s' : St) (O : Nat → Prop) (er cs : Int) (l : List Lap) (m : List Mp) (w : World) (e : Ending) (w' : World) : Prop :=
 ∃ P1 n1 c1 P2 n2 c2, Hid (n1 = l.length) ∧ Hid (n2 = m.length) ∧ e = .returned (.tuple #[.slice P1 n1 c1, .slice P2 n2 c2]) ∧ Hid (GS W t p s' O w w') ∧ Hid (LR w.heap.size w' P1 c1 er cs l) ∧ Hid (SR w.heap.size w' P2 c2 m)
section
variable {W w w' w'' wx w1 w2 : World} {t i n : Nat} {p : Option Nat} {O : Nat → Prop} {s : St} {x : Cx} {er cs : Int}
theorem LR.nil (B : Nat) (w : World) (er cs : Int) : LR B w none 0 er cs [] := ⟨[], rfl, fun x hx => by (cases hx), World.ownsRow_nil _ _ _ _⟩
theorem SR.nil (B : Nat) (w : World) : SR B w none 0 [] := World.ownsRow_nil _ _ _ _
theorem cancel_over (h : FS W t p s O w) (hx : s.C[i]? = some x) (he : x.er ≠ 0) : Calls Tryz.prog 48 #[pS t, .int .i64 (i : Int), .int .i64 er, .int .i64 cs] w (CaR W t p s O er cs [] [] w) := by
 have H := Lib.hid (over_any h hx)
 have HA := Lib.hid h
 have b1 : (x.er != 0) = true := bne_iff_ne.2 he
 rw [b1] at H
 clear h hx he b1
 go_enter Tryz.func48, Tryz.ntmps48
 go_wp2_with fail
 refine H.out.mono ?_
 rintro e w' ⟨rfl, rfl⟩
 go_wp2_with fail
 go_ret2
 exact ⟨_, _, _, _, _, _, rfl, rfl, rfl, HA.out.gs (Below.refl _ _), LR.nil _ _ _ _, SR.nil _ _⟩
theorem Good.all {ws : List Nat} {k : Nat} {j : Nat} (h : ∀ k ∈ ws.drop j, Good s k) (hj : ws[j]? = some k) (hn : ws.Nodup) : Good s k ∧ ∀ k' ∈ ws.drop (j + 1), Good (cst er cs s k) k' := by
 have hl := (List.getElem?_eq_some_iff.1 hj).1
 have e : ws.drop j = k :: ws.drop (j + 1) := by
  rw [List.drop_eq_getElem_cons hl, (List.getElem?_eq_some_iff.1 hj).2]
 rw [e] at h
 have hn2 : (ws.drop j).Nodup := hn.sublist (List.drop_sublist _ _)
 rw [e, List.nodup_cons] at hn2
 exact ⟨h k (by simp), fun k' hk => (h k' (by simp [hk])).next (h k (by simp)) (by rintro rfl; exact hn2.1 hk)⟩
theorem cfold_drop {ws : List Nat} {j k : Nat} (hj : ws[j]? = some k) (s : St) : cfold er cs (ws.drop j) s = ((cfold er cs (ws.drop (j + 1)) (cst er cs s k)).1, clp s k ++ (cfold er cs (ws.drop (j + 1)) (cst er cs s k)).2.1, cmp s k ++ (cfold er cs (ws.drop (j + 1)) (cst er cs s k)).2.2) := by
 have hl := (List.getElem?_eq_some_iff.1 hj).1
 rw [List.drop_eq_getElem_cons hl, (List.getElem?_eq_some_iff.1 hj).2]; rfl
theorem detach_any {F : Nat → Prop} {V : Nat → Value} {S : TS} (w : World) (h : TR F 0 V S w t) (hF : ∀ k, F k → k < w.heap.size) (k : Nat) (hk : k < S.length) : Calls Tryz.prog 53 #[.pointer (some ⟨t, 1, none⟩), .int .i64 (k : Int)] w fun e w' => (∃ b, e = .returned (.bool b)) ∧ Tr.Go F 0 V t (Tr.cut S k) w w' := by
 obtain ⟨⟨q, l⟩, hs⟩ : ∃ y, S[k]? = some y := ⟨_, List.getElem?_eq_getElem hk⟩
 cases l with
 | true =>
  obtain ⟨q', rfl⟩ := Int.eq_ofNat_of_zero_le ((h.wf k q true hs).2.2 rfl)
  refine (detach_yes w h hF k hs).mono ?_
  rintro e w' ⟨rfl, g⟩
  exact ⟨⟨_, rfl⟩, g⟩
 | false =>
  have e : Tr.cut S k = S := by
   rw [Tr.cut_some hs]
   apply List.ext_getElem?
   intro j
   rw [List.getElem?_set]
   by_cases c : k = j
   · subst c; rw [if_pos rfl, if_pos hk, hs]
   · rw [if_neg c]
  rw [e]
  refine (detach_off w h k hs).mono ?_
  rintro e w' ⟨rfl, b⟩
  exact ⟨⟨_, rfl⟩, (h.later b).mono fun k _ hk => .inl hk, .of_below b⟩
theorem FS.cut (h : FS W t p s O w) (k : Nat) (hk : k < s.T.length) : Calls Tryz.prog 53 #[.pointer (some ⟨t, 1, none⟩), .int .i64 (k : Int)] w fun e w' => (∃ b, e = .returned (.bool b)) ∧ GS W t p { s with T := Tr.cut s.T k } O w w' := by
 obtain ⟨⟨F, G, o, y, e⟩, m⟩ := h
 refine (detach_any w y.tr (fun k hk => (y.fF k hk).2.lt) k hk).mono ?_
 rintro e' w' ⟨hb, g⟩
 refine ⟨hb, ?_⟩
 obtain ⟨F', y', hs, tn⟩ := y.tree g
 refine FS.ctx y e m y' (fun k hk => ?_) (tn.mono fun b hb => .inl ((e b).2 (.f hb)))
 rcases hk with hk | hk | hk | hk | ⟨j, hk⟩
 · exact (hs k hk).imp (fun h => (e k).2 (.f h)) id
 · exact .inl ((e k).2 (.k hk))
 · exact .inl ((e k).2 (.c hk))
 · exact .inl ((e k).2 (.a hk))
 · exact .inl ((e k).2 (.g hk))
theorem FS.walk (h : FS W t p s O w) (k : Nat) (hk : k < s.T.length) : Calls Tryz.prog 74 #[.pointer (some ⟨t, 1, none⟩), .int .i64 (k : Int)] w (RowR (nz (Tr.walk s.T k)) w) := by
 obtain ⟨⟨F, G, o, y, e⟩, m⟩ := h
 exact walk_yes w y.tr (fun k hk => (y.fF k hk).2.lt) k hk
theorem FS.wf (h : FS W t p s O w) : WF s.T := by obtain ⟨⟨F, G, o, y, e⟩, m⟩ := h; exact y.tr.wf
theorem FS.tle (h : FS W t p s O w) : s.T.length ≤ 1000 := by obtain ⟨⟨F, G, o, y, e⟩, m⟩ := h; exact y.tr.le
theorem FS.k2 {k : Nat} {z : Kd} (h : FS W t p s O w) (hz : s.K[k]? = some z) : ∃ q cK, w.cell? ⟨t, 2, none⟩ = some (.slice (some ⟨q, 0, none⟩) s.K.length cK) ∧ q < w.heap.size ∧ w.cell? ⟨q, k * 2, none⟩ = some (.bool z.af) ∧ w.cell? ⟨q, k * 2 + 1, none⟩ = some (.int .i64 z.id) := by
 obtain ⟨⟨F, G, o, y, e⟩, m⟩ := h
 obtain ⟨q, hP, hq, h1, h2⟩ := y.kx hz
 exact ⟨q, _, by rw [← hP]; exact y.cells.2.1, hq, h1, h2⟩
theorem FS.a4 {k : Nat} {z : Af} (h : FS W t p s O w) (hz : s.A[k]? = some z) : ∃ q cA, w.cell? ⟨t, 4, none⟩ = some (.slice (some ⟨q, 0, none⟩) s.A.length cA) ∧ q < w.heap.size ∧ w.cell? ⟨q, k * 2, none⟩ = some (.int .i64 z.nd) ∧ w.cell? ⟨q, k * 2 + 1, none⟩ = some (.int .i64 z.pg) := by
 obtain ⟨⟨F, G, o, y, e⟩, m⟩ := h
 obtain ⟨q, hP, hq, h1, h2⟩ := y.ax hz
 exact ⟨q, _, by rw [← hP]; exact y.cells.2.2.2.1, hq, h1, h2⟩
structure CI (er cs : Int) (s : St) (ws : List Nat) (j : Nat) (s' : St) (l : List Lap) (m : List Mp) : Prop where
 eq : cfold er cs ws s = ((cfold er cs (ws.drop j) s').1, l ++ (cfold er cs (ws.drop j) s').2.1, m ++ (cfold er cs (ws.drop j) s').2.2)
 gd : ∀ k ∈ ws.drop j, Good s' k
 e : s'.E = s.E
 sl : s'.S.length ≤ s.S.length
 c : s'.C.length = s.C.length
 a : s'.A = s.A
 k : s'.K = s.K
 ll : l.length ≤ j
 ml : m.length ≤ j
theorem CI.start {ws' : List Nat} (hg : ∀ k ∈ ws', Good s k) : CI er cs s ws' 0 s [] [] := ⟨by simp, by simpa using hg, rfl, Nat.le_refl _, rfl, rfl, rfl, by simp, by simp⟩
theorem CI.next {ws : List Nat} {j k : Nat} {s' : St} {l : List Lap} {m : List Mp} (h : CI er cs s ws j s' l m) (hj : ws[j]? = some k) (hn : ws.Nodup) : Good s' k ∧ CI er cs s ws (j + 1) (cst er cs s' k) (l ++ clp s' k) (m ++ cmp s' k) := by
 obtain ⟨h1, h2⟩ := Good.all (er := er) (cs := cs) h.gd hj hn
 obtain ⟨e1, e2, e3, e4, e5, e6⟩ := cst_len (er := er) (cs := cs) s' k
 have hc : (clp s' k).length ≤ 1 := by unfold clp; split <;> (try split) <;> simp
 have hm : (cmp s' k).length ≤ 1 := by unfold cmp; split <;> (try split) <;> simp
 refine ⟨h1, ?_, h2, e2.trans h.e, Nat.le_trans e3 h.sl, e1.trans h.c, e5.trans h.a, e4.trans h.k, ?_, ?_⟩
 · rw [h.eq, cfold_drop hj]; simp
 · have := h.ll; rw [List.length_append]; omega
 · have := h.ml; rw [List.length_append]; omega
theorem CL.cut {w1 : World} {ws : List Int} {Pw P1 P2 : Option Addr} {cw c1 c2 : Nat} {l : List Lap} {m : List Mp} (h : CL W w1 t p O ws Pw cw er cs s P1 c1 l P2 c2 m w) (k : Nat) (hk : k < s.T.length) :
  Calls Tryz.prog 53 #[.pointer (some ⟨t, 1, none⟩), .int .i64 (k : Int)] w fun e w' => (∃ b, e = .returned (.bool b)) ∧ CL W w1 t p O ws Pw cw er cs { s with T := Tr.cut s.T k } P1 c1 l P2 c2 m w' := by
 obtain ⟨O', f, hs⟩ := h.fs
 exact (f.cut k hk).mono fun e w' ⟨h1, h2⟩ => ⟨h1, h.go f hs h2⟩
theorem CL.endc {w1 w3 : World} {ws : List Int} {Pw P1 P2 : Option Addr} {cw c1 c2 b c : Nat} {l : List Lap} {m : List Mp} {bx : Array Value} (h : CL W w1 t p O ws Pw cw er cs s P1 c1 l P2 c2 m w) (hx : s.C[i]? = some x) (hc : x.ch = some c) (hcl : x.cl = false) (hr : x.rs.length ≤ 1000000) (hE : s.E.length ≤ 100000) (hl : s.S.length ≤ 1000) (hC : s.C.length ≤ 1000)
  (hb : w.heap.size = b) (hb3 : Below b (w.alloc (.cells bx 135)) w3) (h3 : (w.alloc (.cells bx 135)).heap.size ≤ w3.heap.size) (hbb : w3.heap[b]? = some (.cells bx 135 (0, 0))) :
  Calls Tryz.prog 75 #[pS t, .int .i64 (i : Int), .int .i64 er, .int .i64 cs] w3 fun e w' => ∃ A n c, e = .returned (.slice A n c) ∧ Hid (n = (wks x).length ∧ Ch.RdK w' A n (wks x) ∧ CL W w1 t p O ws Pw cw er cs { s with C := s.C.set i (ended x er cs), S := del x.lp s.S } P1 c1 l P2 c2 m w' ∧ w'.heap[b]? = some (.cells bx 135 (0, 0)) ∧ w3.heap.size ≤ w'.heap.size) := by
 subst hb
 have h' : CL W w1 t p O ws Pw cw er cs s P1 c1 l P2 c2 m w3 := h.later ((below_al w (.cells bx 135)).trans hb3)
 obtain ⟨O0, f0, hs0⟩ := h.fs
 have f3 := f0.later ((below_al w (.cells bx 135)).trans hb3)
 have hnb : ¬ O0 w.heap.size := fun hk => by have := f0.lt hk; omega
 refine (end_ctx er cs f3 hx hc hcl hr hE hl hC).mono ?_
 rintro e w' ⟨A, n, k, hn, rfl, h1, h2⟩
 refine ⟨A, n, k, rfl, hn.out, h1.out, h'.go f3 hs0 h2.out, ?_, ?_⟩
 · obtain ⟨O2, f2, hs2, fm2⟩ := h2.out
   exact fm2.2 _ _ _ _ hbb (by decide) hnb
 · obtain ⟨O2, f2, hs2, fm2⟩ := h2.out
   exact fm2.1
theorem kept_box {wx w5 : World} {B b n c ty : Nat} {bx : Array Value} {P : Option Addr} {sz : Nat} {xs : List Value} (hb : wx.heap[b]? = some (.cells bx 135 (0, 0))) (r : wx.ownsRow B ty sz (.slice P n c) n xs) (hn : ty ≠ 135) (hg : wx.grownBy w5 (Value.slice P n c).ownBlock) : w5.heap[b]? = some (.cells bx 135 (0, 0)) := by
 rw [own_blk] at hg
 exact (hg.block b (lt_of_blk hb) fun e => (tag_row r e.symm).not hb (by exact fun e => hn e.symm)).trans hb
theorem LR.low {B B' : Nat} {P : Option Addr} {c : Nat} {l : List Lap} (h : LR B w P c er cs l) (hB : B' ≤ B) : LR B' w P c er cs l := by
 obtain ⟨L, h1, h2, h3⟩ := h
 exact ⟨L, h1, h2, row_low h3 hB⟩
theorem CL.done {w1 : World} {ws : List Nat} {Pw P1 P2 : Option Addr} {cw c1 c2 n1 n2 j : Nat} {l : List Lap} {m : List Mp} {s' : St} (h : CL W w1 t p O (nz ws) Pw cw er cs s' P1 c1 l P2 c2 m w') (hi : CI er cs s ws j s' l m) (hj : ws.length ≤ j) (h1 : n1 = l.length) (h2 : n2 = m.length) (hb : Below w.heap.size w w1) (hO : ∀ k, O k → k < w.heap.size) :
  CaR W t p (cfold er cs ws s).1 O er cs (cfold er cs ws s).2.1 (cfold er cs ws s).2.2 w (.returned (.tuple #[.slice P1 n1 c1, .slice P2 n2 c2])) w' := by
 have e := hi.eq
 rw [List.drop_of_length_le hj] at e
 simp only [cfold, List.append_nil] at e
 rw [e]
 obtain ⟨⟨O', f, hs⟩, fm, wr, wn, lr, mr⟩ := h
 refine ⟨P1, n1, c1, P2, n2, c2, h1, h2, rfl, ⟨O', f, fun k hk => ?_, (Fm.of_below (O := O) hb).comp fm fun k hk => .inl hk⟩, lr.low hb.size, row_low mr hb.size⟩
 rcases hs k hk with h3 | h3
 · exact .inl h3
 · exact .inr (Nat.le_trans hb.size h3)
set_option maxHeartbeats 8000000 in
theorem cancel_go {er cs : Int} (h : FS W t p s O w) (hx : s.C[i]? = some x) (he : x.er = 0) (hnd : x.nd < s.T.length) (hg : ∀ k ∈ Tr.walk s.T x.nd, Good s k) (hE : s.E.length ≤ 100000) (hl : s.S.length ≤ 1000) (hC : s.C.length ≤ 1000) (hA : s.A.length ≤ 1000) (hK : s.K.length ≤ 1000) :
  Calls Tryz.prog 48 #[pS t, .int .i64 (i : Int), .int .i64 er, .int .i64 cs] w (CaR W t p (cfold er cs (Tr.walk s.T x.nd) s).1 O er cs (cfold er cs (Tr.walk s.T x.nd) s).2.1 (cfold er cs (Tr.walk s.T x.nd) s).2.2 w) := by
 have hi := (List.getElem?_eq_some_iff.1 hx).1
 have b1 : (i : Int) < (s.C.length : Int) := by omega
 have b2 : (0 : Int) ≤ (i : Int) := by omega
 have H := Lib.hid (over_any h hx)
 have b3 : (x.er != 0) = false := by rw [he]; rfl
 rw [b3] at H
 obtain ⟨PC, cC, h3, hr⟩ := h.c3
 obtain ⟨q, rfl, hq, x0, -⟩ := hr i x hx
 have ht := h.tlt
 have HA := Lib.hid h
 have HW : Hid (∀ w', Below w.heap.size w w' → Calls Tryz.prog 74 #[.pointer (some ⟨t, 1, none⟩), .int .i64 (x.nd : Int)] w' (RowR (nz (Tr.walk s.T x.nd)) w')) := fun w' hb => (h.later hb).walk x.nd hnd
 have KP : Hid (∀ w', Below w.heap.size w w' → w'.cell? ⟨t, 3, none⟩ = some (.slice (some ⟨q, 0, none⟩) s.C.length cC) ∧ w'.cell? ⟨q, i * 8, none⟩ = some (.int .i64 x.nd)) := fun w' hb => ⟨(hb.cell (p := ⟨t, 3, none⟩) ht).trans h3, (hb.cell (p := ⟨q, i * 8, none⟩) hq).trans x0⟩
 have HN : Hid ((Tr.walk s.T x.nd).Nodup ∧ (Tr.walk s.T x.nd).length ≤ 1000) := ⟨walk_once h.wf hnd, Nat.le_trans (walk_len h.wf hnd) h.tle⟩
 have HGD := Lib.hid hg
 have HSZ := Lib.hid (And.intro hE (And.intro hl (And.intro hC (And.intro hA hK))))
 clear hr hx hnd hg hE hl hC hA hK b3 he h
 go_enter Tryz.func48, Tryz.ntmps48
 go_wp2_with fail
 refine H.out.mono ?_
 rintro e w' ⟨rfl, rfl⟩
 clear H
 go_wp2_with fail
 refine but_start 1000 (fun w' => w'.cell? ⟨t, 3, none⟩ = some (.slice (some ⟨q, 0, none⟩) s.C.length cC) ∧ w'.cell? ⟨q, i * 8, none⟩ = some (.int .i64 x.nd)) (by kernel_rfl) ?_
 have hHeld := KP.out w.drew (Below.refl _ _).drew
 change AnyBut _ _ _ _ _ _ 14 _ _ _
 refine tkT 0 rfl hHeld ?_
 refine tkT 1 rfl hHeld ?_
 refine tkT 2 rfl hHeld ?_
 refine tkT 3 rfl hHeld ?_
 refine tkT 4 rfl hHeld ?_
 refine tkT 5 rfl hHeld ?_
 refine tkT 6 rfl hHeld ?_
 refine tkT 7 rfl hHeld ?_
 refine tkT 8 rfl hHeld ?_
 refine tkT 9 rfl hHeld ?_
 refine tkT 10 rfl hHeld ?_
 refine tkT 13 rfl hHeld ?_
 try simp only [l1, l2, l3, Act.put, l4, l5, l6]
 refine but_one (i := 11) (by kernel_rfl) rfl ?_
 intro K hK
 go_simp
 go_at_call 74
 refine (HW.out _ (by first | exact Below.refl _ _ | exact (Below.refl _ _).drew | (repeat' (first | exact Below.refl _ _ | (with_reducible assumption) | refine Below.drew ?_ | refine Below.alloc ?_ (by first | omega | (simp <;> omega)) _)))).mono ?_
 rintro e w1 ⟨Pw, cw, nw, hnw, rfl, hrw, hbw⟩
 have hb1 := hbw.out
 have hHeld2 := KP.out w1 ((Below.refl _ _).drew.trans (hb1.mono (by simp)))
 refine hK _ _ (fun _ => hHeld2) ?_
 clear hK K hHeld
 have hHeld := hHeld2
 clear hHeld2
 refine tkT 12 rfl hHeld ?_
 try simp only [l1, l2, l3, Act.put, l4, l5, l6]
 refine but_done (by kernel_rfl) ?_
 try clear hHeld
 clear x0 h3 KP HW
 have HB1 : Hid (Below w.heap.size w w1) := (Below.refl _ _).drew.trans (hb1.mono (by simp))
 generalize hws : Tr.walk s.T x.nd = ws at *
 have HW1 : Hid (W.heap.size ≤ w1.heap.size) := Nat.le_trans HA.out.bel.size HB1.out.size
 have HCL : Hid (CL W w1 t p O (nz ws) Pw cw er cs s none 0 [] none 0 [] w1) := ⟨⟨O, HA.out.later HB1.out, fun k hk => .inl hk⟩, Fm.refl _ _, row_low hrw.out (Nat.zero_le _), fun k hk => ⟨(row_lt hrw.out hk).2, fun h9 => by
  have := HA.out.lt h9
  have := (row_lt hrw.out hk).1
  have : w.drew.heap.size = w.heap.size := rfl
  omega⟩, LR.nil _ _ _ _, SR.nil _ _⟩
 have HCI : Hid (CI er cs s ws 0 s [] []) := CI.start HGD.out
 have hn9 : nw ≤ 1000 := by rw [hnw.out, nz_len]; exact HN.out.2
 clear hrw hbw hb1 hq ht hws HGD b1 b2 hi
 go_wp2_with fail
 go_loopw [8, 9, 29] (fun s8 s9 s29 wr => ∃ (j n1 c1 n2 c2 : Nat) (P1 P2 : Option Addr) (s' : St) (l : List Lap) (m : List Mp), j ≤ nw ∧ s29 = .int .i64 j ∧ s8 = .slice P1 n1 c1 ∧ s9 = .slice P2 n2 c2 ∧ Hid (n1 = l.length ∧ n2 = m.length ∧ CL W w1 t p O (nz ws) Pw cw er cs s' P1 c1 l P2 c2 m wr ∧ CI er cs s ws j s' l m)) (fun _ _ x _ => nw - (intOf x).toNat)
 case atStart => exact ⟨0, 0, 0, 0, 0, none, none, s, [], [], by omega, rfl, rfl, rfl, rfl, rfl, HCL.out, HCI.out⟩
 case round =>
  clear HCL HCI
  obtain ⟨j, n1, c1, n2, c2, P1, P2, s', l, m, hj, rfl, rfl, rfl, hR⟩ := hrel
  by_cases hlt : j < nw
  · have b3 : (j : Int) < (nw : Int) := by omega
    have b4 : (0 : Int) ≤ (j : Int) := by omega
    obtain ⟨k, hk⟩ : ∃ k, ws[j]? = some k := ⟨_, List.getElem?_eq_getElem (by have := hnw.out; rw [nz_len] at this; omega)⟩
    obtain ⟨g1, hI⟩ := hR.out.2.2.2.next hk HN.out.1
    obtain ⟨hkT, ⟨za, zi⟩, hz, hza, hzc⟩ := g1
    obtain ⟨gw, hgw, _⟩ := row_form hR.out.2.2.1.wr (by rw [← hnw.out]; omega)
    have hcell := hR.out.2.2.1.wr.at hgw (i := j) (x := (k : Int)) (by rw [nz, List.getElem?_map, hk]; rfl)
    have HCUT := Lib.hid (hR.out.2.2.1.cut k hkT)
    have HI := Lib.hid hI
    have HZ := Lib.hid hz
    have HZA := Lib.hid hza
    have HZC := Lib.hid hzc
    have HL1 : Hid (n1 = l.length ∧ n2 = m.length ∧ l.length ≤ j ∧ m.length ≤ j) := ⟨hR.out.1, hR.out.2.1, hR.out.2.2.2.ll, hR.out.2.2.2.ml⟩
    have HB : Hid (s'.E.length ≤ 100000 ∧ s'.S.length ≤ 1000 ∧ s'.C.length ≤ 1000 ∧ s'.A.length ≤ 1000 ∧ s'.K.length ≤ 1000) := by
     have q := hR.out.2.2.2
     have z := HSZ.out
     exact ⟨by rw [q.e]; exact z.1, Nat.le_trans q.sl z.2.1, by rw [q.c]; exact z.2.2.1, by rw [q.a]; exact z.2.2.2.1, by rw [q.k]; exact z.2.2.2.2⟩
    subst hgw
    clear hR hI hz hza hzc hk
    go_wp2_with fail
    refine HCUT.out.mono ?_
    rintro e w2 ⟨⟨b9, rfl⟩, hC2⟩
    have HC2 := Lib.hid hC2
    obtain ⟨O2, f2, -⟩ := hC2.fs
    have ht2 := f2.tlt
    have bk1 : (0 : Int) ≤ (k : Int) := by omega
    have bk2 : (k : Int) < (s'.K.length : Int) := by have := (List.getElem?_eq_some_iff.1 HZ.out).1; omega
    obtain ⟨qk, cK, k2, hqk, ka, ki⟩ := f2.k2 (k := k) HZ.out
    have HF2 := Lib.hid f2
    clear hC2 f2 HCUT hcell
    have hj9 : j ≤ 1000 := by omega
    have hn1 : n1 ≤ 1000 := by have := HL1.out; omega
    have hn2 : n2 ≤ 1000 := by have := HL1.out; omega
    cases za with
    | true =>
     obtain ⟨a, ha⟩ := HZA.out rfl
     have bz1 : (0 : Int) ≤ (zi : Int) := by omega
     have bz2 : (zi : Int) < (s'.A.length : Int) := by have := (List.getElem?_eq_some_iff.1 ha).1; omega
     obtain ⟨qa, cA, k4, hqa, -, ap⟩ := HF2.out.a4 (k := zi) ha
     obtain ⟨iM, hiM, yz0, yz1, yz2⟩ := info_parts infM
     have HMR : Hid (w2.ownsRow w1.heap.size 59 2 (.slice P2 n2 c2) n2 (m.flatMap mE)) := by
      have h9 := HC2.out.mr
      unfold SR at h9
      rw [← HL1.out.2.1] at h9
      exact h9
     have HM : Hid (∀ {wx w5 : World} {g cap : Nat}, Below w2.heap.size w2 wx → wx.grownBy w5 (Value.slice P2 n2 c2).ownBlock → w5.ownsRow w1.heap.size 59 2 (.slice (some ⟨g, 0, none⟩) (n2 + 1) cap) (n2 + 1) (m.flatMap mE ++ mE ⟨zi, a.pg⟩) → CL W w1 t p O (nz ws) (some ⟨gw, 0, none⟩) cw er cs { s' with T := Tr.cut s'.T k } P1 c1 l (some ⟨g, 0, none⟩) cap (m ++ [⟨zi, a.pg⟩]) w5) := by
      intro wx w5 g cap h1 h2 h3
      rw [HL1.out.2.1] at h2 h3
      exact HC2.out.addM (x := ⟨zi, a.pg⟩) HW1.out h1 h2 h3
     have HS1 : Hid (w1.heap.size ≤ w2.heap.size) := HC2.out.fm.1
     have HI2 : Hid (CI er cs s ws (j + 1) { s' with T := Tr.cut s'.T k } l (m ++ [⟨zi, a.pg⟩])) := by
      have h9 := HI.out
      rw [cst_af HZ.out, clp_af HZ.out, cmp_af HZ.out ha, List.append_nil] at h9
      exact h9
     clear ha HC2 HF2 HI HZ HZA HZC HB
     go_wp2_with fail
     have hs1 := HS1.out
     go_region_law (go_loud (refine step_append_lies _ (by rfl) _ _ _ (by rfl) w1.heap.size 59 iM (.agg #[.int .i64 0, .int .i64 0]) 2 16 Tryz.underlying44 hiM yz0 yz1 yz2 rfl (by omega) (.slice P2 n2 c2) n2 (m.flatMap mE) (by rfl) (row_later HMR.out (below_two rfl rfl rfl rfl)) ⟨w2.heap.size + 1, 0, none⟩ 1 1 (mE ⟨zi, a.pg⟩) (by rfl) (by rfl) (World.news_of_block (cs := #[.int .i64 (zi : Int), .int .i64 a.pg]) (t := 59) (fr := (0, 0)) (news_two (w := w2) (by rfl))) (mE_one _) (by omega) (by unfold maxLen; omega) (by omega) (by first | omega | (simp; done) | (simp; omega)) (w2.heap.size + 2) (by simp) ?_; intro g5 cap5 w5 hown hgrow hat hlt5; have HE := Lib.hid (HM.out (by exact below_two rfl rfl rfl rfl) hgrow hown); clear hown hgrow hat hlt5))
     all_goals
      go_wp2_with fail
      go_roundw
      case rel => exact ⟨j + 1, n1, c1, n2 + 1, cap5, P1, some ⟨g5, 0, none⟩, _, _, _, by omega, by go_num, rfl, rfl, HL1.out.1, by simp [HL1.out.2.1], HE.out, HI2.out⟩
      case measure => simp [intOf]; omega
    | false =>
     obtain ⟨y, ch, hy, hynd, hych, hycl, hyrs⟩ := HZC.out rfl
     obtain ⟨iL, hiL, yz0, yz1, yz2⟩ := info_parts infL
     have HI2 : Hid (CI er cs s ws (j + 1) { s' with T := Tr.cut s'.T k, C := s'.C.set zi (ended y er cs), S := del y.lp s'.S } (l ++ [(zi, wks y)]) m) := by
      have h9 := HI.out
      rw [cst_cx HZ.out hy, clp_cx HZ.out hy, cmp_cx HZ.out, List.append_nil] at h9
      exact h9
     go_wp2_with fail
     have HEN : Hid (∀ w3, Below (w2.alloc (.cells #[.bool false, .int .i64 (zi : Int)] 135)).heap.size (w2.alloc (.cells #[.bool false, .int .i64 (zi : Int)] 135)) w3 → Calls Tryz.prog 75 #[pS t, .int .i64 (zi : Int), .int .i64 er, .int .i64 cs] w3 fun e w' => ∃ A n c, e = .returned (.slice A n c) ∧ Hid (n = (wks y).length ∧ Ch.RdK w' A n (wks y) ∧ CL W w1 t p O (nz ws) (some ⟨gw, 0, none⟩) cw er cs { s' with T := Tr.cut s'.T k, C := s'.C.set zi (ended y er cs), S := del y.lp s'.S } P1 c1 l P2 c2 m w' ∧ w'.heap[w2.heap.size]? = some (.cells #[.bool false, .int .i64 (zi : Int)] 135 (0, 0)) ∧ w3.heap.size ≤ w'.heap.size)) := by
      intro w3 hb
      exact HC2.out.endc (x := y) hy hych hycl hyrs HB.out.1 HB.out.2.1 HB.out.2.2.1 rfl (hb.mono (by simp)) hb.size ((hb.block _ (by simp)).trans (heap_alloc_new w2 _))
     have KPB : Hid (∀ w', Below (w2.alloc (.cells #[.bool false, .int .i64 (zi : Int)] 135)).heap.size (w2.alloc (.cells #[.bool false, .int .i64 (zi : Int)] 135)) w' → w'.cell? ⟨w2.heap.size, 1, none⟩ = some (.int .i64 (zi : Int))) := fun w' hb => by
      rw [cell_of_row w' w2.heap.size 1 _ _ _ ((hb.block _ (by simp)).trans (heap_alloc_new w2 _))]; rfl
     clear HC2 HF2 HI HZ HZA HZC HB hy hynd hych hycl hyrs k2 hqk ka ki ht2
     generalize w2.alloc (.cells #[.bool false, .int .i64 (zi : Int)] 135) = w3 at *
     generalize w2.heap.size = b at *
     refine but_start 1000 (fun w' => w'.cell? ⟨b, 1, none⟩ = some (.int .i64 (zi : Int))) (by kernel_rfl) ?_
     have hHeld := KPB.out w3.drew (Below.refl _ _).drew
     change AnyBut _ _ _ _ _ _ 15 _ _ _
     refine tkT 0 rfl hHeld ?_
     refine tkT 1 rfl hHeld ?_
     refine tkT 2 rfl hHeld ?_
     refine tkT 3 rfl hHeld ?_
     refine tkT 4 rfl hHeld ?_
     refine tkT 5 rfl hHeld ?_
     refine tkT 6 rfl hHeld ?_
     refine tkT 7 rfl hHeld ?_
     refine tkT 8 rfl hHeld ?_
     refine tkT 9 rfl hHeld ?_
     try simp only [l1, l2, l3, Act.put, l4, l5, l6]
     refine but_one (i := 10) (by kernel_rfl) rfl ?_
     intro K hK
     go_simp
     go_at_call 75
     refine (HEN.out _ (by first | exact Below.refl _ _ | exact (Below.refl _ _).drew | (repeat' (first | exact Below.refl _ _ | (with_reducible assumption) | refine Below.drew ?_ | refine Below.alloc ?_ (by first | omega | (simp <;> omega)) _)))).mono ?_
     rintro e w4 ⟨A4, n4, k4, rfl, h4⟩
     obtain ⟨L, hmL, haL, hoL⟩ := h4.out.2.2.1.lr
     have eL : L.length = n1 := by rw [HL1.out.1, ← hmL, List.length_map]
     have hb4 : b < w4.heap.size := lt_of_blk h4.out.2.2.2.1
     have hs4 : w1.heap.size ≤ w4.heap.size := h4.out.2.2.1.fm.1
     have HML := Lib.hid hmL
     have HAL := Lib.hid haL
     have HEL := Lib.hid eL
     rw [eL] at hoL
     have HOL := Lib.hid hoL
     clear hmL haL eL hoL
     have hHeld2 := (show w4.cell? ⟨b, 1, none⟩ = some (.int .i64 (zi : Int)) from by rw [cell_of_row w4 b 1 _ _ _ h4.out.2.2.2.1]; rfl)
     refine hK _ _ (fun _ => hHeld2) ?_
     clear hK K hHeld
     have hHeld := hHeld2
     clear hHeld2
     refine tkT 11 rfl hHeld ?_
     try simp only [l1, l2, l3, Act.put, l4, l5, l6]
     refine but_one (i := 12) (by kernel_rfl) rfl ?_
     intro K hK
     go_simp
     have hHeld2 := (((below_al w4 (.cells #[.int .i64 (zi : Int), .int .i64 er, .int .i64 cs, .slice A4 n4 k4] 57)).cell (p := ⟨b, 1, none⟩) hb4).trans (show w4.cell? ⟨b, 1, none⟩ = some (.int .i64 (zi : Int)) from by rw [cell_of_row w4 b 1 _ _ _ h4.out.2.2.2.1]; rfl))
     refine hK _ _ (fun _ => hHeld2) ?_
     clear hK K hHeld
     have hHeld := hHeld2
     clear hHeld2
     try simp only [l1, l2, l3, Act.put, l4, l5, l6]
     refine but_one (i := 13) (by kernel_rfl) rfl ?_
     intro K hK
     refine step_append_lies _ (by rfl) _ _ _ (by rfl) w1.heap.size 57 iL (.agg #[.int .i64 0, .int .i64 0, .int .i64 0, .slice none 0 0]) 4 48 Tryz.underlying31 hiL yz0 yz1 yz2 rfl (by omega) (.slice P1 n1 c1) n1 (L.flatMap lE) (by rfl) (row_later HOL.out (below_al w4 _)) ⟨w4.heap.size, 0, none⟩ 1 1 (lE ⟨zi, er, cs, wks y, A4, n4, k4⟩) (by rfl) (by rfl) (World.news_of_block (cs := #[.int .i64 (zi : Int), .int .i64 er, .int .i64 cs, .slice A4 n4 k4]) (t := 57) (fr := (0, 0)) (heap_alloc_new w4 _)) (lE_one _) (by omega) (by unfold maxLen; omega) (by omega) (by simp; omega) (w4.heap.size + 1) (by simp) ?_
     intro g5 cap5 w5 hown hgrow hat hlt5
     have hbx5 := kept_box (((below_al w4 _).block b hb4).trans h4.out.2.2.2.1) (row_later HOL.out (below_al w4 _)) (by decide) hgrow
     have HE := Lib.hid (h4.out.2.2.1.addL (x := ⟨zi, er, cs, wks y, A4, n4, k4⟩) HW1.out HML.out HAL.out (by rw [HEL.out]; exact HOL.out) ⟨rfl, rfl, h4.out.1⟩ h4.out.2.1 (below_al w4 _) (by rw [HEL.out]; exact hgrow) (by rw [HEL.out]; exact hown))
     clear hown hgrow hat hlt5
     have hHeld2 := (show w5.cell? ⟨b, 1, none⟩ = some (.int .i64 (zi : Int)) from by rw [cell_of_row w5 b 1 _ _ _ hbx5]; rfl)
     refine hK _ _ (fun _ => hHeld2) ?_
     clear hK K hHeld
     have hHeld := hHeld2
     clear hHeld2
     refine tkT 14 rfl hHeld ?_
     try simp only [l1, l2, l3, Act.put, l4, l5, l6]
     refine but_done (by kernel_rfl) ?_
     try clear hHeld
     go_wp2_with fail
     go_roundw
     case rel => exact ⟨j + 1, n1 + 1, cap5, n2, c2, some ⟨g5, 0, none⟩, P2, _, _, _, by omega, by go_num, rfl, rfl, by simp [HL1.out.1], HL1.out.2.1, HE.out, HI2.out⟩
     case measure => simp [intOf]; omega
  · obtain rfl : j = nw := by omega
    have HE : Hid (CaR W t p (cfold er cs ws s).1 O er cs (cfold er cs ws s).2.1 (cfold er cs ws s).2.2 w (.returned (.tuple #[.slice P1 n1 c1, .slice P2 n2 c2])) wr) := by
     exact hR.out.2.2.1.done hR.out.2.2.2 (by have := hnw.out; rw [nz_len] at this; omega) hR.out.1 hR.out.2.1 HB1.out (fun k hk => HA.out.lt hk)
    clear hR
    go_wp2_with fail
    go_ret2
    exact HE.out
end
end Go.Proofs.YtdpapnfjpefhkaaGreat
