/- Fire of package timer. Conditions: each theorem's own premises.
Contexts in memory: the set's block, its tree, its three rows, its channels; what carries them. No condition.
Contexts in memory: one more, one that has turned; the timers beside them. No condition. -/
import Derived.Test.YtdpapnfjpefhkaaSarm
import Derived.Test.YtdpapnfjpefhkaaTWlkm
import Derived.Test.YtdpapnfjpefhkaaCShWm
namespace Go.Proofs.Ytdpapnfjpefhkaa
open Go.RowKit Ch
set_option linter.unusedVariables false
set_option maxRecDepth 100000
section
variable {W w w' w'' : World} {t m n n' i j c : Nat} {E E' : List On} {S S' : List It} {g g' : Int → Int} {L L' : List (Nat × CS)} {v : Value} {e : Ending} {x : On} {s s' : CS} {ws : List Wk} {kept : Bool} {now : Int}
/-- A time is put on the channel of one that was made: the channels, who is woken, and whether it was kept. -/
structure Pt (L : List (Nat × CS)) (x : On) (now : Int) (L' : List (Nat × CS)) (ws : List Wk) (kept : Bool) : Prop where
  h : x.ch = none ∧ L' = L ∧ ws = [] ∧ kept = false
theorem Pt.none (hc : x.ch = none) : Pt L x now L [] false := ⟨⟨hc, rfl, rfl, rfl⟩⟩
theorem put_at (h : SS W t E m n S g L w) (hp : Pt L x now L' ws kept) : Calls Try.prog 42 #[.pointer (cp x.ch), .int .i64 now] w fun e w' =>
    ∃ A k, e = .returned (.tuple #[.slice A ws.length k, .bool kept]) ∧ RdK w' A ws.length ws ∧ SS W t E m n S g L' w' ∧ Kp w w' ∧ OZ w w' := by
  obtain ⟨hc, rfl, rfl, rfl⟩ := hp.h
  rw [hc]
  refine (put_nil now w).mono ?_
  rintro e w' ⟨rfl, rfl⟩
  exact ⟨none, 0, rfl, RdK.nil _ _, h, Kp.refl _, OZ.refl _⟩
abbrev vF (id kd wh at_ dt : Int) (A : Option Addr) (n k : Nat) (b : Bool) : Value := .agg #[.int .i64 id, .int .i64 kd, .int .i64 wh, .int .i64 at_, .int .i64 dt, .slice A n k, .bool b]
abbrev fZ : Obj := .cells #[.int .i64 0, .int .i64 0, .int .i64 0, .int .i64 0, .int .i64 0, .slice none 0 0, .bool false] 47
theorem fire_nil (now : Int) (w : World) : Calls Try.prog 21 #[.pointer none, .int .i64 now] w fun e w' => e = .returned (.tuple #[vF 0 0 0 0 0 none 0 0 false, .bool false]) ∧ Below w.heap.size w w' := by
  go_enter Try.func21, Try.ntmps21
  go_wp2_with fail
  refine bodyPost_ret (v := .tuple #[vF 0 0 0 0 0 none 0 0 false, .bool false]) ?_ rfl ⟨rfl, ?_⟩
  · rw [results_cell_tmp rfl]; go_simp; try rfl
  · first | exact below_al _ _ | (repeat' (first | exact below_al _ _ | refine Below.alloc ?_ (by omega) _))
/-- The seven cells of one that fired. -/
theorem fz_cells {b : Nat} {u0 u1 u2 u3 u4 u5 u6 : Value} (h : w.heap[b]? = some (.cells #[u0, u1, u2, u3, u4, u5, u6] 47 (0, 0))) :
    (w.cell? ⟨b, 0, none⟩ = some u0 ∧ w.cell? ⟨b, 1, none⟩ = some u1 ∧ w.cell? ⟨b, 2, none⟩ = some u2 ∧ w.cell? ⟨b, 3, none⟩ = some u3 ∧ w.cell? ⟨b, 4, none⟩ = some u4 ∧ w.cell? ⟨b, 5, none⟩ = some u5 ∧ w.cell? ⟨b, 6, none⟩ = some u6) ∧ ∀ k, w.frozen? ⟨b, k, none⟩ = false := by
  refine ⟨⟨?_, ?_, ?_, ?_, ?_, ?_, ?_⟩, fun k => frozen_of_row w b k _ _ h⟩
  · rw [cell_of_row w b 0 _ _ _ h]; rfl
  · rw [cell_of_row w b 1 _ _ _ h]; rfl
  · rw [cell_of_row w b 2 _ _ _ h]; rfl
  · rw [cell_of_row w b 3 _ _ _ h]; rfl
  · rw [cell_of_row w b 4 _ _ _ h]; rfl
  · rw [cell_of_row w b 5 _ _ _ h]; rfl
  · rw [cell_of_row w b 6 _ _ _ h]; rfl
/-- The world with all seven written. -/
def w7 (w : World) (b : Nat) (u0 u1 u2 u3 u4 u5 u6 : Value) : World := ((((((w.setCell ⟨b, 0, none⟩ u0).setCell ⟨b, 1, none⟩ u1).setCell ⟨b, 2, none⟩ u2).setCell ⟨b, 3, none⟩ u3).setCell ⟨b, 4, none⟩ u4).setCell ⟨b, 5, none⟩ u5).setCell ⟨b, 6, none⟩ u6
theorem w7_other {w0 : World} {b : Nat} {u0 u1 u2 u3 u4 u5 u6 y0 y1 y2 y3 y4 y5 y6 : Value} (h : SS W t E m n S g L w) (hb : w.heap[b]? = some (.cells #[y0, y1, y2, y3, y4, y5, y6] 47 (0, 0))) (hW : W.heap.size ≤ b) (hz : OZ w0 w) (h0 : w0.heap.size ≤ b) :
    SS W t E m n S g L (w7 w b u0 u1 u2 u3 u4 u5 u6) ∧ OZ w0 (w7 w b u0 u1 u2 u3 u4 u5 u6) ∧ ∀ k, k ≠ b → (w7 w b u0 u1 u2 u3 u4 u5 u6).heap[k]? = w.heap[k]? := by
  have e1 := heap_setCell_same w b 0 _ _ u0 hb
  have e2 := heap_setCell_same _ b 1 _ _ u1 e1
  have e3 := heap_setCell_same _ b 2 _ _ u2 e2
  have e4 := heap_setCell_same _ b 3 _ _ u3 e3
  have e5 := heap_setCell_same _ b 4 _ _ u4 e4
  have e6 := heap_setCell_same _ b 5 _ _ u5 e5
  have o : OthZ 47 := by decide
  refine ⟨((((((h.cellO hb o (by decide) hW 0 u0).cellO e1 o (by decide) hW 1 u1).cellO e2 o (by decide) hW 2 u2).cellO e3 o (by decide) hW 3 u3).cellO e4 o (by decide) hW 4 u4).cellO e5 o (by decide) hW 5 u5).cellO e6 o (by decide) hW 6 u6, ((((((hz.cell h0 0 u0).cell h0 1 u1).cell h0 2 u2).cell h0 3 u3).cell h0 4 u4).cell h0 5 u5).cell h0 6 u6, fun k hk => ?_⟩
  unfold w7
  repeat (refine (Below.heap_setCell _ _ _ _ (by exact hk)).trans ?_)
  rfl
set_option maxHeartbeats 8000000 in
theorem fire_no (h : SS W t E m n S g L w) (hT : tk now n S g = (none, n, S, g)) (hn : n ≤ 1000000) (hl : S.length ≤ 1000) :
    Calls Try.prog 21 #[pS t, .int .i64 now] w (SZ W t E m n S g L (.tuple #[vF 0 0 0 0 0 none 0 0 false, .bool false]) w) := by
  have hsz := h.bel.size
  have HA := Lib.hid (h.box fZ)
  have FB := Lib.hid (heap_alloc_new w fZ)
  clear h
  go_enter Try.func21, Try.ntmps21
  go_wp2_with fail
  refine (ss_ttake now HA.out hn hl).mono ?_
  rintro e w1 hz
  rw [hT] at hz
  have HZ := Lib.hid hz
  obtain rfl := hz.1
  clear hz HA
  have FB1 := Lib.hid (HZ.out.2.2.2 _ _ _ _ FB.out (by decide))
  have H2 := Lib.hid (HZ.out.2.1.box (.cells #[.int .i64 0, .int .i64 0, .int .i64 0] 110))
  have FB2 := Lib.hid (((below_al w1 (.cells #[.int .i64 0, .int .i64 0, .int .i64 0] 110)).block _ (lt_of_blk FB1.out)).trans FB1.out)
  have HO : Hid (OZ w (w1.alloc (.cells #[.int .i64 0, .int .i64 0, .int .i64 0] 110))) := ((OZ.of_below (below_al w fZ)).trans HZ.out.2.2).trans (OZ.of_below (below_al _ _))
  clear HZ FB FB1
  simp only [tkV]
  go_upto_region 4 with (fail)
  generalize w1.alloc (.cells #[.int .i64 0, .int .i64 0, .int .i64 0] 110) = w2 at *
  obtain ⟨⟨q0, q1, q2, q3, q4, q5, q6⟩, qf⟩ := fz_cells FB2.out
  have f0 := qf 0
  have f1 := qf 1
  have f2 := qf 2
  have f3 := qf 3
  have f4 := qf 4
  have f5 := qf 5
  have f6 := qf 6
  clear qf
  have HX := Lib.hid (w7_other (u0 := .int .i64 0) (u1 := .int .i64 0) (u2 := .int .i64 0) (u3 := .int .i64 0) (u4 := .int .i64 0) (u5 := .slice none 0 0) (u6 := .bool false) H2.out FB2.out hsz HO.out (Nat.le_refl _))
  unfold w7 at HX
  go_wp2_with fail
  refine bodyPost_ret (v := .tuple #[vF 0 0 0 0 0 none 0 0 false, .bool false]) ?_ rfl ⟨rfl, HX.out.1, HX.out.2.1⟩
  rw [results_cell_tmp rfl]
  go_simp
set_option maxHeartbeats 8000000 in
theorem fire_some {yw ys : Int} (h : SS W t E m n S g L w) (hT : tk now n S g = (some ⟨(i : Int), yw, ys⟩, n', S', g')) (hx : E[i]? = some x) (hp : Pt L x now L' ws kept) (hE : E.length ≤ 100000) (hn : n ≤ 1000000) (hl : S.length ≤ 1000) :
    Calls Try.prog 21 #[pS t, .int .i64 now] w fun e w' => ∃ A k, e = .returned (.tuple #[vF i x.kd yw now x.dt A ws.length k kept, .bool true]) ∧ RdK w' A ws.length ws ∧ SS W t E m n' S' g' L' w' ∧ OZ w w' := by
  have hlt := (List.getElem?_eq_some_iff.1 hx).1
  have b1 : (0 : Int) ≤ (i : Int) := by omega
  have b2 : (i : Int) < (E.length : Int) := by omega
  have hsz := h.bel.size
  have HX := Lib.hid hx
  have HP := Lib.hid hp
  have HA := Lib.hid (h.box fZ)
  have FB := Lib.hid (heap_alloc_new w fZ)
  clear h hx hp hlt hE
  go_enter Try.func21, Try.ntmps21
  go_wp2_with fail
  refine (ss_ttake now HA.out hn hl).mono ?_
  rintro e w1 hz
  rw [hT] at hz
  have HZ := Lib.hid hz
  obtain rfl := hz.1
  clear hz HA hT
  have FB1 := Lib.hid (HZ.out.2.2.2 _ _ _ _ FB.out (by decide))
  have H2 := Lib.hid (HZ.out.2.1.box (.cells #[.int .i64 i, .int .i64 yw, .int .i64 now] 110))
  have FB2 := Lib.hid (((below_al w1 (.cells #[.int .i64 i, .int .i64 yw, .int .i64 now] 110)).block _ (lt_of_blk FB1.out)).trans FB1.out)
  have HO : Hid (OZ w (w1.alloc (.cells #[.int .i64 i, .int .i64 yw, .int .i64 now] 110))) := ((OZ.of_below (below_al w fZ)).trans HZ.out.2.2).trans (OZ.of_below (below_al _ _))
  have D2 := Lib.hid (Dbk.new w1 i yw now)
  have hne : w.heap.size < w1.heap.size := lt_of_blk FB1.out
  clear HZ FB FB1
  simp only [tkV]
  go_upto_region 6 with (fail)
  have hs2 : w1.heap.size < (w1.alloc (.cells #[.int .i64 i, .int .i64 yw, .int .i64 now] 110)).heap.size := by rw [World.size_alloc]; omega
  generalize w1.alloc (.cells #[.int .i64 i, .int .i64 yw, .int .i64 now] 110) = w2 at *
  generalize w1.heap.size = s2 at *
  obtain ⟨d0, d1, d2, -⟩ := D2.out.cells
  obtain ⟨P, cc, c0, -, -, -, hr⟩ := H2.out.cells
  obtain ⟨q, rfl, hq, ⟨x0, x1, x2, x3⟩, -, -⟩ := hr i x HX.out
  have ht2 := H2.out.lt
  clear hr
  go_region
  go_upto_region 7 with (fail)
  have hb3 : Below w2.heap.size w2 (w2.alloc (.cells #[.int .i64 x.kd, .int .i64 x.dt, .pointer (cp x.ch), .int .i64 x.gn] 114)).drew := (below_al w2 _).drew
  have XB : Hid ((w2.alloc (.cells #[.int .i64 x.kd, .int .i64 x.dt, .pointer (cp x.ch), .int .i64 x.gn] 114)).drew.heap[w2.heap.size]? = some (.cells #[.int .i64 x.kd, .int .i64 x.dt, .pointer (cp x.ch), .int .i64 x.gn] 114 (0, 0))) := heap_alloc_new w2 _
  have hs3 : s2 < w2.heap.size := hs2
  clear c0 hq x0 x1 x2 x3 d0 d1 d2 ht2 hs2
  have H3 := Lib.hid (H2.out.later hb3)
  have FB3 := Lib.hid ((hb3.block _ (lt_of_blk FB2.out)).trans FB2.out)
  have D3 := Lib.hid (D2.out.later hb3)
  have HO3 : Hid (OZ w _) := HO.out.trans (OZ.of_below hb3)
  clear H2 FB2 D2 HO hb3
  generalize (w2.alloc (.cells #[.int .i64 x.kd, .int .i64 x.dt, .pointer (cp x.ch), .int .i64 x.gn] 114)).drew = w3 at *
  generalize w2.heap.size = s3 at *
  have z2 : w3.cell? ⟨s3, 2, none⟩ = some (.pointer (cp x.ch)) := by rw [cell_of_row w3 s3 2 _ _ _ XB.out]; rfl
  go_wp2_with fail
  refine (put_at H3.out HP.out).mono ?_
  rintro e w4 ⟨A, k, rfl, hr, hs, hk, ho⟩
  have HS := Lib.hid hs
  have HR := Lib.hid hr
  have HO4 : Hid (OZ w w4) := HO3.out.trans ho
  have FB4 := Lib.hid (hk.at FB3.out (by decide))
  have D4 : Hid (Dbk w4 s2 i yw now) := hk.at D3.out (by decide)
  have XB4 := Lib.hid (hk.at XB.out (by decide))
  clear hs hr hk ho z2 H3 FB3 D3 HO3 XB HP HX
  obtain ⟨⟨q0, q1, q2, q3, q4, q5, q6⟩, qf⟩ := fz_cells FB4.out
  have f0 := qf 0
  have f1 := qf 1
  have f2 := qf 2
  have f3 := qf 3
  have f4 := qf 4
  have f5 := qf 5
  have f6 := qf 6
  clear qf
  obtain ⟨d0, d1, d2, -⟩ := D4.out.cells
  have z0 : w4.cell? ⟨s3, 0, none⟩ = some (.int .i64 x.kd) := by rw [cell_of_row w4 s3 0 _ _ _ XB4.out]; rfl
  have z1 : w4.cell? ⟨s3, 1, none⟩ = some (.int .i64 x.dt) := by rw [cell_of_row w4 s3 1 _ _ _ XB4.out]; rfl
  have HX := Lib.hid (w7_other (u0 := .int .i64 i) (u1 := .int .i64 x.kd) (u2 := .int .i64 yw) (u3 := .int .i64 now) (u4 := .int .i64 x.dt) (u5 := .slice A ws.length k) (u6 := .bool kept) HS.out FB4.out hsz HO4.out (Nat.le_refl _))
  have HR2 := Lib.hid (HR.out.keep (w' := w7 w4 w.heap.size (.int .i64 i) (.int .i64 x.kd) (.int .i64 yw) (.int .i64 now) (.int .i64 x.dt) (.slice A ws.length k) (.bool kept)) fun b cs e => HX.out.2.2 b (by
    rintro rfl
    have e2 := FB4.out
    rw [e] at e2; injection e2 with e2; injection e2 with _ e2 _; exact absurd e2 (by decide)))
  unfold w7 at HX HR2
  clear HR HS
  go_wp2_with fail
  refine bodyPost_ret (v := .tuple #[vF i x.kd yw now x.dt A ws.length k kept, .bool true]) ?_ rfl ⟨A, k, rfl, HR2.out, HX.out.1, HX.out.2.1⟩
  rw [results_cell_tmp rfl]
  go_simp
end
end Go.Proofs.Ytdpapnfjpefhkaa
namespace Go.Proofs.Ytdpapnfjpefhkaa
open Go.RowKit Tr
set_option linter.unusedVariables false
set_option maxRecDepth 100000

/-- What stands at a number of the tree. -/
structure Kd where
  af : Bool
  id : Nat
def kE (k : Kd) : List Value := [.bool k.af, .int .i64 k.id]
theorem kE_len (k : Kd) : (kE k).length = 2 := rfl
/-- A context: its number in the tree, its channel, closed or not, who waits, its error, its cause, its deadline. -/
structure Cx where
  nd : Nat
  ch : Option Nat
  cl : Bool
  rs : List Ch.Wt
  er : Int
  cs : Int
  wh : Int
  has : Bool
  own : Bool
  lp : Int
def cE (x : Cx) : List Value := [.int .i64 x.nd, .pointer (cp x.ch), .int .i64 x.er, .int .i64 x.cs, .int .i64 x.wh, .bool x.has, .bool x.own, .int .i64 x.lp]
theorem cE_len (x : Cx) : (cE x).length = 8 := rfl
/-- An after: its number in the tree, what it starts. -/
structure Af where
  nd : Nat
  pg : Int
def aE (a : Af) : List Value := [.int .i64 a.nd, .int .i64 a.pg]
theorem aE_len (a : Af) : (aE a).length = 2 := rfl
def chS (x : Cx) : Ch.CS := ⟨2, x.cl, 0, [], [], x.rs⟩
def vS (p : Option Nat) (k c a : Value) : Nat → Value
  | 0 => .pointer (cp p)
  | 2 => k
  | 3 => c
  | 4 => a
  | _ => .pointer none
/-- Where the rows lie. -/
structure Lo where
  PK : Option Addr
  cK : Nat
  PC : Option Addr
  cC : Nat
  PA : Option Addr
  cA : Nat

/-- The tags of a tree's blocks. -/
def TgT (ty : TypeId) : Prop := ty = 89 ∨ ty = 157 ∨ ty = 3
/-- The tags of all blocks of contexts. -/
def TgO (ty : TypeId) : Prop := ty = 89 ∨ ty = 157 ∨ ty = 3 ∨ ty = 119 ∨ ty = 92 ∨ ty = 121 ∨ ty = 128 ∨ ty = 186 ∨ ty = 161
def Tg (P : TypeId → Prop) (w : World) (k : Nat) : Prop := ∃ cs ty fr, w.heap[k]? = some (.cells cs ty fr) ∧ P ty
theorem Tg.not {P : TypeId → Prop} {w : World} {k : Nat} (h : Tg P w k) {cs : Array Value} {ty : TypeId} {fr : Nat × Nat} (e : w.heap[k]? = some (.cells cs ty fr)) (hn : ¬ P ty) : False := by
  obtain ⟨cs', ty', fr', e', hp⟩ := h
  rw [e] at e'; injection e' with e'; injection e' with _ e' _; subst e'; exact hn hp
theorem Tg.imp {P Q : TypeId → Prop} {w : World} {k : Nat} (h : Tg P w k) (i : ∀ ty, P ty → Q ty) : Tg Q w k := by
  obtain ⟨cs, ty, fr, e, hp⟩ := h; exact ⟨cs, ty, fr, e, i ty hp⟩
theorem Tg.at {P : TypeId → Prop} {w w' : World} {k : Nat} (h : Tg P w k) (e : w'.heap[k]? = w.heap[k]?) : Tg P w' k := by
  obtain ⟨cs, ty, fr, e', hp⟩ := h; exact ⟨cs, ty, fr, e.trans e', hp⟩
theorem Tg.lt {P : TypeId → Prop} {w : World} {k : Nat} (h : Tg P w k) : k < w.heap.size := by obtain ⟨cs, ty, fr, e, _⟩ := h; exact lt_of_blk e
theorem Tg.two {P Q : TypeId → Prop} {w : World} {k : Nat} (h : Tg P w k) (g : Tg Q w k) (hn : ∀ ty, P ty → ¬ Q ty) : False := by
  obtain ⟨cs, ty, fr, e, hp⟩ := h; exact g.not e (hn ty hp)
theorem tn_ch {F : Nat → Prop} {w w' : World} (h : Ch.Tn F w w') : Tn F w w' := ⟨h.os, h.tape, h.output, h.size, h.block⟩
theorem tag_row {w : World} {B e s n c : Nat} {P : Option Addr} {xs : List Value} (h : w.ownsRow B e s (.slice P n c) n xs) {k : Nat} (hk : blk P = some k) : Tg (· = e) w k := by
  obtain ⟨cs, fr, h1⟩ := row_tag h hk
  exact ⟨cs, e, fr, h1, rfl⟩

section
variable {F : Nat → Prop} {S : TS} {w w' : World} {t : Nat} {V : Nat → Value} {p : Option Nat} {a b c u : Value}
/-- A tree's blocks have its tags. -/
theorem Tr.TR.tagged (h : TR F 0 V S w t) : TR (fun k => F k ∧ Tg TgT w k) 0 V S w t := by
  obtain ⟨wf, le, P, cc, D, x, o⟩ := h
  exact ⟨wf, le, P, cc, D, ⟨x.ht, x.own, x.kid, x.apart, x.gt, ⟨x.ft, _, _, _, x.ht, .inl rfl⟩, fun k hk => ⟨x.fP k hk, (tag_row x.own hk).imp fun ty e => .inr (.inl e)⟩, fun i d k hd hk => ⟨x.fk i d k hd hk, (tag_row (x.kid i d hd) hk).imp fun ty e => .inr (.inr e)⟩⟩, o⟩
theorem Tr.TR.setK (h : TR F 0 (vS p a b c) S w t) (u : Value) : TR F 0 (vS p u b c) S (w.setCell ⟨t, 2, none⟩ u) t := by
  obtain ⟨wf, le, P, cc, D, x, o⟩ := h
  have key : ∀ k, k ≠ t → (w.setCell ⟨t, 2, none⟩ u).heap[k]? = w.heap[k]? := fun k hk => Below.heap_setCell _ _ _ _ (by exact hk)
  exact ⟨wf, le, P, cc, D, ⟨heap_setCell_same w t 2 _ _ u x.ht, row_keep x.own fun k hk => key k (by rintro rfl; exact x.neP hk), fun i d hd => row_keep (x.kid i d hd) fun k hk => key k (by rintro rfl; exact x.neK hd hk), x.apart, x.gt, x.ft, x.fP, x.fk⟩, o⟩
theorem Tr.TR.setC (h : TR F 0 (vS p a b c) S w t) (u : Value) : TR F 0 (vS p a u c) S (w.setCell ⟨t, 3, none⟩ u) t := by
  obtain ⟨wf, le, P, cc, D, x, o⟩ := h
  have key : ∀ k, k ≠ t → (w.setCell ⟨t, 3, none⟩ u).heap[k]? = w.heap[k]? := fun k hk => Below.heap_setCell _ _ _ _ (by exact hk)
  exact ⟨wf, le, P, cc, D, ⟨heap_setCell_same w t 3 _ _ u x.ht, row_keep x.own fun k hk => key k (by rintro rfl; exact x.neP hk), fun i d hd => row_keep (x.kid i d hd) fun k hk => key k (by rintro rfl; exact x.neK hd hk), x.apart, x.gt, x.ft, x.fP, x.fk⟩, o⟩
theorem Tr.TR.setA (h : TR F 0 (vS p a b c) S w t) (u : Value) : TR F 0 (vS p a b u) S (w.setCell ⟨t, 4, none⟩ u) t := by
  obtain ⟨wf, le, P, cc, D, x, o⟩ := h
  have key : ∀ k, k ≠ t → (w.setCell ⟨t, 4, none⟩ u).heap[k]? = w.heap[k]? := fun k hk => Below.heap_setCell _ _ _ _ (by exact hk)
  exact ⟨wf, le, P, cc, D, ⟨heap_setCell_same w t 4 _ _ u x.ht, row_keep x.own fun k hk => key k (by rintro rfl; exact x.neP hk), fun i d hd => row_keep (x.kid i d hd) fun k hk => key k (by rintro rfl; exact x.neK hd hk), x.apart, x.gt, x.ft, x.fP, x.fk⟩, o⟩
theorem Tr.TR.blk (h : TR F 0 V S w t) : ∃ P c, w.heap[t]? = some (.cells #[V 0, .slice P S.length c, V 2, V 3, V 4] 89 (0, 0)) := by
  obtain ⟨wf, le, P, cc, D, x, o⟩ := h
  have := x.ht
  rw [o.1] at this
  exact ⟨P, cc, this⟩
end

/-- Block t is contexts: its tree T, what stands at the tree's numbers, all contexts, all afters; F are the tree's blocks, G the channels'. -/
structure CY (W : World) (t : Nat) (p : Option Nat) (T : TS) (K : List Kd) (C : List Cx) (A : List Af) (F : Nat → Prop) (G : Nat → Nat → Prop) (o : Lo) (w : World) : Prop where
  bel : Below W.heap.size W w
  tr : TR F 0 (vS p (.slice o.PK K.length o.cK) (.slice o.PC C.length o.cC) (.slice o.PA A.length o.cA)) T w t
  rk : w.ownsRow 0 119 2 (.slice o.PK K.length o.cK) K.length (K.flatMap kE)
  rc : w.ownsRow 0 92 8 (.slice o.PC C.length o.cC) C.length (C.flatMap cE)
  ra : w.ownsRow 0 121 2 (.slice o.PA A.length o.cA) A.length (A.flatMap aE)
  lk : ∀ k, blk o.PK = some k → W.heap.size ≤ k
  lc : ∀ k, blk o.PC = some k → W.heap.size ≤ k
  la : ∀ k, blk o.PA = some k → W.heap.size ≤ k
  ch : ∀ i x c, C[i]? = some x → x.ch = some c → Ch.CH w (G i) c (chS x)
  fF : ∀ k, F k → W.heap.size ≤ k ∧ Tg TgT w k
  fG : ∀ i k, G i k → W.heap.size ≤ k ∧ ∃ x c, C[i]? = some x ∧ x.ch = some c
  gg : ∀ i j k, G i k → G j k → i = j
  fg : ∀ i k, F k → ¬ G i k
/-- Its own blocks. -/
def ow (F : Nat → Prop) (G : Nat → Nat → Prop) (o : Lo) (k : Nat) : Prop := F k ∨ blk o.PK = some k ∨ blk o.PC = some k ∨ blk o.PA = some k ∨ ∃ i, G i k
theorem ow.f {F : Nat → Prop} {G : Nat → Nat → Prop} {o : Lo} {k : Nat} (h : F k) : ow F G o k := .inl h
theorem ow.k {F : Nat → Prop} {G : Nat → Nat → Prop} {o : Lo} {k : Nat} (h : blk o.PK = some k) : ow F G o k := .inr (.inl h)
theorem ow.c {F : Nat → Prop} {G : Nat → Nat → Prop} {o : Lo} {k : Nat} (h : blk o.PC = some k) : ow F G o k := .inr (.inr (.inl h))
theorem ow.a {F : Nat → Prop} {G : Nat → Nat → Prop} {o : Lo} {k : Nat} (h : blk o.PA = some k) : ow F G o k := .inr (.inr (.inr (.inl h)))
theorem ow.g {F : Nat → Prop} {G : Nat → Nat → Prop} {o : Lo} {k i : Nat} (h : G i k) : ow F G o k := .inr (.inr (.inr (.inr ⟨i, h⟩)))
section
variable {W w w' wx w1 : World} {t g cap : Nat} {p : Option Nat} {T T' : TS} {K : List Kd} {C : List Cx} {A : List Af} {F : Nat → Prop} {G : Nat → Nat → Prop} {o : Lo} {k : Nat}
theorem CY.tagG (h : CY W t p T K C A F G o w) {i : Nat} (hk : G i k) : Tg (fun ty => ty = 128 ∨ ty = 186 ∨ ty = 3 ∨ ty = 161) w k := by
  obtain ⟨_, x, c, h1, h2⟩ := h.fG i k hk
  obtain ⟨cs, ty, e1, e2⟩ := (h.ch i x c h1 h2).tag hk
  exact ⟨cs, ty, _, e1, e2⟩
theorem CY.tag (h : CY W t p T K C A F G o w) (hk : ow F G o k) : Tg TgO w k := by
  rcases hk with hk | hk | hk | hk | ⟨i, hk⟩
  · exact (h.fF k hk).2.imp fun ty e => by rcases e with e | e | e <;> simp [TgO, e]
  · exact (tag_row h.rk hk).imp fun ty e => by simp [TgO, e]
  · exact (tag_row h.rc hk).imp fun ty e => by simp [TgO, e]
  · exact (tag_row h.ra hk).imp fun ty e => by simp [TgO, e]
  · exact (h.tagG hk).imp fun ty e => by rcases e with e | e | e | e <;> simp [TgO, e]
theorem CY.low (h : CY W t p T K C A F G o w) (hk : ow F G o k) : W.heap.size ≤ k := by
  rcases hk with hk | hk | hk | hk | ⟨i, hk⟩
  · exact (h.fF k hk).1
  · exact h.lk k hk
  · exact h.lc k hk
  · exact h.la k hk
  · exact (h.fG i k hk).1
theorem CY.keep (h : CY W t p T K C A F G o w) (hb : ∀ k, ow F G o k → w'.heap[k]? = w.heap[k]?) (b : Below W.heap.size W w') : CY W t p T K C A F G o w' :=
  ⟨b, h.tr.keep fun k _ hf => hb k (.f hf), row_keep h.rk fun k hk => hb k (.k hk), row_keep h.rc fun k hk => hb k (.c hk), row_keep h.ra fun k hk => hb k (.a hk), h.lk, h.lc, h.la,
    fun i x c h1 h2 => (h.ch i x c h1 h2).keep fun k hk => hb k (.g hk), fun k hk => ⟨(h.fF k hk).1, (h.fF k hk).2.at (hb k (.f hk))⟩, h.fG, h.gg, h.fg⟩
theorem CY.lt (h : CY W t p T K C A F G o w) (hk : ow F G o k) : k < w.heap.size := (h.tag hk).lt
theorem CY.later (h : CY W t p T K C A F G o w) (b : Below w.heap.size w w') : CY W t p T K C A F G o w' := h.keep (fun k hk => b.block k (h.lt hk)) (h.bel.trans (b.mono h.bel.size))
theorem CY.ft (h : CY W t p T K C A F G o w) : F t := h.tr.ft
/-- What is kept, since only own blocks have turned. -/
theorem CY.tnb (h : CY W t p T K C A F G o w) (x : Tn (ow F G o) w w') : Below W.heap.size W w' := h.bel.trans (x.below h.bel.size fun b hb => h.low hb)
/-- A call that changed the tree. -/
theorem CY.tree (h : CY W t p T K C A F G o w) (g : Tr.Go F 0 (vS p (.slice o.PK K.length o.cK) (.slice o.PC C.length o.cC) (.slice o.PA A.length o.cA)) t T' w w') :
    ∃ F' : Nat → Prop, CY W t p T' K C A F' G o w' ∧ (∀ k, F' k → F k ∨ w.heap.size ≤ k) ∧ Tn F w w' := by
  obtain ⟨g1, tn⟩ := g
  have x : Tn (ow F G o) w w' := tn.mono fun b hb => .inl (.f hb)
  have nf : ∀ k, (Tg (fun ty => ¬ TgT ty) w k) → ¬ F k := fun k h1 hf => h1.two (h.fF k hf).2 fun ty a b => a b
  have hs := h.bel.size
  refine ⟨_, ⟨h.tnb x, g1.tagged, row_keep h.rk fun k hk => ?_, row_keep h.rc fun k hk => ?_, row_keep h.ra fun k hk => ?_, h.lk, h.lc, h.la, fun i x c h1 h2 => (h.ch i x c h1 h2).keep fun k hk => ?_, fun k hk => ⟨?_, hk.2⟩, h.fG, h.gg, fun i k hk hg => ?_⟩, fun k hk => hk.1, tn⟩
  · exact tn.block k (row_lt h.rk hk).2 (nf k ((tag_row h.rk hk).imp fun ty e => by subst e; simp [TgT]))
  · exact tn.block k (row_lt h.rc hk).2 (nf k ((tag_row h.rc hk).imp fun ty e => by subst e; simp [TgT]))
  · exact tn.block k (row_lt h.ra hk).2 (nf k ((tag_row h.ra hk).imp fun ty e => by subst e; simp [TgT]))
  · exact tn.block k (h.lt (.g hk)) fun hf => h.fg i k hf hk
  · rcases hk.1 with hk | hk
    · exact (h.fF k hk).1
    · omega
  · rcases hk.1 with hf | hf
    · exact h.fg i k hf hg
    · have := h.lt (.g (o := o) (F := F) hg); omega
end
end Go.Proofs.Ytdpapnfjpefhkaa
namespace Go.Proofs.Ytdpapnfjpefhkaa
open Go.RowKit Tr
set_option linter.unusedVariables false
set_option maxRecDepth 100000
section
variable {W w w' wx w1 : World} {t g cap : Nat} {p : Option Nat} {T T' : TS} {K : List Kd} {C : List Cx} {A : List Af} {F : Nat → Prop} {G : Nat → Nat → Prop} {o : Lo} {k : Nat}
theorem blk_some {b k : Nat} (h : blk (some ⟨b, 0, none⟩) = some k) : b = k := by simpa [blk] using h

/-- A channel of one that is to be added, its blocks Gc; none of them is one of O. -/
structure NC (W : World) (O : Nat → Prop) (Gc : Nat → Prop) (w : World) (x : Cx) : Prop where
  cc : ∀ {c}, x.ch = some c → Ch.CH w Gc c (chS x)
  no : ∀ {k}, Gc k → W.heap.size ≤ k ∧ ¬ O k
  has : ∀ {k}, Gc k → ∃ c, x.ch = some c
theorem NC.lt {O Gc : Nat → Prop} {x : Cx} (h : NC W O Gc w x) (hk : Gc k) : k < w.heap.size := by
  obtain ⟨c, e⟩ := h.has hk
  exact (h.cc e).lt hk
theorem NC.none {O : Nat → Prop} {x : Cx} (hx : x.ch = none) : NC W O (fun _ => False) w x := ⟨fun h => (by rw [hx] at h; cases h), fun h => h.elim, fun h => h.elim⟩
/-- The channels' blocks with those of one more. -/
def gN (G : Nat → Nat → Prop) (n : Nat) (Gc : Nat → Prop) (i : Nat) : Nat → Prop := if i = n then Gc else G i

/-- What an append to the row of what stands at the tree's numbers leaves of all else. -/
theorem CY.midK (h : CY W t p T K C A F G o w) (hx : Below w.heap.size w wx) (hg : wx.grownBy w1 (Value.slice o.PK K.length o.cK).ownBlock) :
    Tn (fun k => blk o.PK = some k) w w1 ∧ w1.heap[t]? = w.heap[t]? ∧ w1.cell? ⟨t, 2, none⟩ = some (.slice o.PK K.length o.cK) ∧ w1.frozen? ⟨t, 2, none⟩ = false := by
  have T1 : Tn (fun k => blk o.PK = some k) w w1 := Tn.grown hx (by rw [own_blk] at hg; exact hg)
  obtain ⟨P, c, hb⟩ := h.tr.blk
  have e : w1.heap[t]? = w.heap[t]? := T1.block t (lt_of_blk hb) fun e => (tag_row h.rk e).not hb (by decide)
  have hb1 := e.trans hb
  exact ⟨T1, e, by rw [cell_of_row w1 t 2 _ _ _ hb1]; rfl, frozen_of_row w1 t 2 _ _ hb1⟩
theorem CY.addK (h : CY W t p T K C A F G o w) (x : Kd) (hx : Below w.heap.size w wx) (hg : wx.grownBy w1 (Value.slice o.PK K.length o.cK).ownBlock)
    (ho : w1.ownsRow 0 119 2 (.slice (some ⟨g, 0, none⟩) (K.length + 1) cap) (K.length + 1) (K.flatMap kE ++ kE x)) (hat : (Value.slice o.PK K.length o.cK).ownBlock = some g ∨ w.heap.size ≤ g) :
    CY W t p T (K ++ [x]) C A F G { o with PK := some ⟨g, 0, none⟩, cK := cap } (w1.setCell ⟨t, 2, none⟩ (.slice (some ⟨g, 0, none⟩) (K.length + 1) cap)) ∧
      Tn (ow F G o) w (w1.setCell ⟨t, 2, none⟩ (.slice (some ⟨g, 0, none⟩) (K.length + 1) cap)) := by
  obtain ⟨T1, e1, -, -⟩ := h.midK hx hg
  rw [own_blk] at hat
  obtain ⟨P, c, hb⟩ := h.tr.blk
  have hs := h.bel.size
  have key : ∀ k, k ≠ t → (w1.setCell ⟨t, 2, none⟩ (.slice (some ⟨g, 0, none⟩) (K.length + 1) cap)).heap[k]? = w1.heap[k]? := fun k hk => Below.heap_setCell _ _ _ _ (by exact hk)
  have T2 : Tn (ow F G o) w (w1.setCell ⟨t, 2, none⟩ (.slice (some ⟨g, 0, none⟩) (K.length + 1) cap)) := (T1.mono fun b hb => .inl (.k hb)).set (.inl (.f h.ft)) _
  have nb : ∀ k ty, Tg (· = ty) w k → ty ≠ 119 → ty ≠ 89 → (w1.setCell ⟨t, 2, none⟩ (.slice (some ⟨g, 0, none⟩) (K.length + 1) cap)).heap[k]? = w.heap[k]? := by
    intro k ty hk n1 n2
    rw [key k ?_]
    · exact T1.block k hk.lt fun e => hk.two (tag_row h.rk e) fun ty' a b => n1 (a.symm.trans b)
    · rintro rfl; exact hk.not hb (fun e => n2 e.symm)
  have nF : ∀ k, F k → w1.heap[k]? = w.heap[k]? := fun k hf => T1.block k (h.fF k hf).2.lt fun e => (h.fF k hf).2.two (tag_row h.rk e) fun ty a b => by subst b; revert a; unfold TgT; decide
  have tg : Tg (· = 119) w1 g := tag_row ho rfl
  have gt : g ≠ t := by rintro rfl; exact tg.not (e1.trans hb) (by decide)
  have el : (K ++ [x]).length = K.length + 1 := by simp
  have hgg : ∀ i k, G i k → (w1.setCell ⟨t, 2, none⟩ (.slice (some ⟨g, 0, none⟩) (K.length + 1) cap)).heap[k]? = w.heap[k]? := by
    intro i k hk
    rw [key k ?_]
    · exact T1.block k (h.lt (.g (o := o) (F := F) hk)) fun e => (h.tagG hk).two (tag_row h.rk e) fun ty a b => by subst b; revert a; decide
    · rintro rfl; exact h.fg i k h.ft hk

  refine ⟨⟨h.tnb T2, ?_, ?_, ?_, ?_, ?_, ?_, ?_, fun i x c h1 h2 => (h.ch i x c h1 h2).keep fun k hk => hgg i k hk, fun k hf => ⟨(h.fF k hf).1, ?_⟩, h.fG, h.gg, h.fg⟩, T2⟩
  · rw [el]; exact (h.tr.keep fun k _ hf => nF k hf).setK _
  · rw [el, List.flatMap_append, show ([x] : List Kd).flatMap kE = kE x from by simp]
    exact row_keep ho fun k hk => key k (by rw [← blk_some hk]; exact gt)
  · exact row_keep h.rc fun k hk => nb k _ (tag_row h.rc hk) (by decide) (by decide)
  · exact row_keep h.ra fun k hk => nb k _ (tag_row h.ra hk) (by decide) (by decide)
  · intro k hk
    rw [← blk_some hk]
    rcases hat with e | e
    · exact h.lk g e
    · omega
  · exact h.lc
  · exact h.la
  · by_cases e : k = t
    · subst e
      exact ⟨_, _, _, heap_setCell_same w1 k 2 _ _ _ (e1.trans hb), .inl rfl⟩
    · exact (h.fF k hf).2.at ((key k e).trans (nF k hf))

/-- What an append to the row of contexts leaves of all else. -/
theorem CY.midC (h : CY W t p T K C A F G o w) (hx : Below w.heap.size w wx) (hg : wx.grownBy w1 (Value.slice o.PC C.length o.cC).ownBlock) :
    Tn (fun k => blk o.PC = some k) w w1 ∧ w1.heap[t]? = w.heap[t]? ∧ w1.cell? ⟨t, 3, none⟩ = some (.slice o.PC C.length o.cC) ∧ w1.frozen? ⟨t, 3, none⟩ = false := by
  have T1 : Tn (fun k => blk o.PC = some k) w w1 := Tn.grown hx (by rw [own_blk] at hg; exact hg)
  obtain ⟨P, c, hb⟩ := h.tr.blk
  have e : w1.heap[t]? = w.heap[t]? := T1.block t (lt_of_blk hb) fun e => (tag_row h.rc e).not hb (by decide)
  have hb1 := e.trans hb
  exact ⟨T1, e, by rw [cell_of_row w1 t 3 _ _ _ hb1]; rfl, frozen_of_row w1 t 3 _ _ hb1⟩
theorem CY.addC (h : CY W t p T K C A F G o w) (x : Cx) (hx : Below w.heap.size w wx) (hg : wx.grownBy w1 (Value.slice o.PC C.length o.cC).ownBlock)
    (ho : w1.ownsRow 0 92 8 (.slice (some ⟨g, 0, none⟩) (C.length + 1) cap) (C.length + 1) (C.flatMap cE ++ cE x)) (hat : (Value.slice o.PC C.length o.cC).ownBlock = some g ∨ w.heap.size ≤ g) {Gc : Nat → Prop} (hc : NC W (ow F G o) Gc w x) :
    CY W t p T K (C ++ [x]) A F (gN G C.length Gc) { o with PC := some ⟨g, 0, none⟩, cC := cap } (w1.setCell ⟨t, 3, none⟩ (.slice (some ⟨g, 0, none⟩) (C.length + 1) cap)) ∧
      Tn (ow F G o) w (w1.setCell ⟨t, 3, none⟩ (.slice (some ⟨g, 0, none⟩) (C.length + 1) cap)) := by
  obtain ⟨T1, e1, -, -⟩ := h.midC hx hg
  rw [own_blk] at hat
  obtain ⟨P, c, hb⟩ := h.tr.blk
  have hs := h.bel.size
  have key : ∀ k, k ≠ t → (w1.setCell ⟨t, 3, none⟩ (.slice (some ⟨g, 0, none⟩) (C.length + 1) cap)).heap[k]? = w1.heap[k]? := fun k hk => Below.heap_setCell _ _ _ _ (by exact hk)
  have T2 : Tn (ow F G o) w (w1.setCell ⟨t, 3, none⟩ (.slice (some ⟨g, 0, none⟩) (C.length + 1) cap)) := (T1.mono fun b hb => .inl (.c hb)).set (.inl (.f h.ft)) _
  have nb : ∀ k ty, Tg (· = ty) w k → ty ≠ 92 → ty ≠ 89 → (w1.setCell ⟨t, 3, none⟩ (.slice (some ⟨g, 0, none⟩) (C.length + 1) cap)).heap[k]? = w.heap[k]? := by
    intro k ty hk n1 n2
    rw [key k ?_]
    · exact T1.block k hk.lt fun e => hk.two (tag_row h.rc e) fun ty' a b => n1 (a.symm.trans b)
    · rintro rfl; exact hk.not hb (fun e => n2 e.symm)
  have nF : ∀ k, F k → w1.heap[k]? = w.heap[k]? := fun k hf => T1.block k (h.fF k hf).2.lt fun e => (h.fF k hf).2.two (tag_row h.rc e) fun ty a b => by subst b; revert a; unfold TgT; decide
  have tg : Tg (· = 92) w1 g := tag_row ho rfl
  have gt : g ≠ t := by rintro rfl; exact tg.not (e1.trans hb) (by decide)
  have el : (C ++ [x]).length = C.length + 1 := by simp
  have hgg : ∀ i k, G i k → (w1.setCell ⟨t, 3, none⟩ (.slice (some ⟨g, 0, none⟩) (C.length + 1) cap)).heap[k]? = w.heap[k]? := by
    intro i k hk
    rw [key k ?_]
    · exact T1.block k (h.lt (.g (o := o) (F := F) hk)) fun e => (h.tagG hk).two (tag_row h.rc e) fun ty a b => by subst b; revert a; decide
    · rintro rfl; exact h.fg i k h.ft hk
  have hgc : ∀ k, Gc k → (w1.setCell ⟨t, 3, none⟩ (.slice (some ⟨g, 0, none⟩) (C.length + 1) cap)).heap[k]? = w.heap[k]? := by
    intro k hk
    rw [key k ?_]
    · exact T1.block k (hc.lt hk) fun e => (hc.no hk).2 (.c e)
    · rintro rfl; exact (hc.no hk).2 (.f h.ft)
  have gl : ∀ i k, G i k → i < C.length := fun i k hk => by obtain ⟨_, y, c, e, _⟩ := h.fG i k hk; exact (List.getElem?_eq_some_iff.1 e).1
  refine ⟨⟨h.tnb T2, ?_, ?_, ?_, ?_, ?_, ?_, ?_, ?_, fun k hf => ⟨(h.fF k hf).1, ?_⟩, ?_, ?_, ?_⟩, T2⟩
  · rw [el]; exact (h.tr.keep fun k _ hf => nF k hf).setC _
  · exact row_keep h.rk fun k hk => nb k _ (tag_row h.rk hk) (by decide) (by decide)
  · rw [el, List.flatMap_append, show ([x] : List Cx).flatMap cE = cE x from by simp]
    exact row_keep ho fun k hk => key k (by rw [← blk_some hk]; exact gt)
  · exact row_keep h.ra fun k hk => nb k _ (tag_row h.ra hk) (by decide) (by decide)
  · exact h.lk
  · intro k hk
    rw [← blk_some hk]
    rcases hat with e | e
    · exact h.lc g e
    · omega
  · exact h.la
  · intro i y c h1 h2
    unfold gN
    by_cases e : i = C.length
    · subst e
      rw [List.getElem?_append_right (Nat.le_refl _), Nat.sub_self] at h1
      simp at h1; subst h1
      simp only [if_true]
      exact (hc.cc h2).keep fun k hk => hgc k hk
    · have hi := (List.getElem?_eq_some_iff.1 h1).1
      rw [el] at hi
      rw [List.getElem?_append_left (by omega)] at h1
      simp only [if_neg e]
      exact (h.ch i y c h1 h2).keep fun k hk => hgg i k hk
  · by_cases e : k = t
    · subst e
      exact ⟨_, _, _, heap_setCell_same w1 k 3 _ _ _ (e1.trans hb), .inl rfl⟩
    · exact (h.fF k hf).2.at ((key k e).trans (nF k hf))
  · intro i k hk
    unfold gN at hk
    by_cases e : i = C.length
    · simp only [if_pos e] at hk
      obtain ⟨c, h1⟩ := hc.has hk
      exact ⟨(hc.no hk).1, x, c, by rw [e]; simp, h1⟩
    · simp only [if_neg e] at hk
      obtain ⟨h1, y, c, h2, h3⟩ := h.fG i k hk
      exact ⟨h1, y, c, by rw [List.getElem?_append_left (gl i k hk)]; exact h2, h3⟩
  · intro i j k hi hj
    unfold gN at hi hj
    by_cases e : i = C.length
    · by_cases e2 : j = C.length
      · rw [e, e2]
      · simp only [if_pos e] at hi; simp only [if_neg e2] at hj
        exact absurd (.g hj) (hc.no hi).2
    · by_cases e2 : j = C.length
      · simp only [if_neg e] at hi; simp only [if_pos e2] at hj
        exact absurd (.g hi) (hc.no hj).2
      · simp only [if_neg e] at hi; simp only [if_neg e2] at hj
        exact h.gg i j k hi hj
  · intro i k hf hk
    unfold gN at hk
    by_cases e : i = C.length
    · simp only [if_pos e] at hk; exact (hc.no hk).2 (.f hf)
    · simp only [if_neg e] at hk; exact h.fg i k hf hk

/-- What an append to the row of afters leaves of all else. -/
theorem CY.midA (h : CY W t p T K C A F G o w) (hx : Below w.heap.size w wx) (hg : wx.grownBy w1 (Value.slice o.PA A.length o.cA).ownBlock) :
    Tn (fun k => blk o.PA = some k) w w1 ∧ w1.heap[t]? = w.heap[t]? ∧ w1.cell? ⟨t, 4, none⟩ = some (.slice o.PA A.length o.cA) ∧ w1.frozen? ⟨t, 4, none⟩ = false := by
  have T1 : Tn (fun k => blk o.PA = some k) w w1 := Tn.grown hx (by rw [own_blk] at hg; exact hg)
  obtain ⟨P, c, hb⟩ := h.tr.blk
  have e : w1.heap[t]? = w.heap[t]? := T1.block t (lt_of_blk hb) fun e => (tag_row h.ra e).not hb (by decide)
  have hb1 := e.trans hb
  exact ⟨T1, e, by rw [cell_of_row w1 t 4 _ _ _ hb1]; rfl, frozen_of_row w1 t 4 _ _ hb1⟩
theorem CY.addA (h : CY W t p T K C A F G o w) (x : Af) (hx : Below w.heap.size w wx) (hg : wx.grownBy w1 (Value.slice o.PA A.length o.cA).ownBlock)
    (ho : w1.ownsRow 0 121 2 (.slice (some ⟨g, 0, none⟩) (A.length + 1) cap) (A.length + 1) (A.flatMap aE ++ aE x)) (hat : (Value.slice o.PA A.length o.cA).ownBlock = some g ∨ w.heap.size ≤ g) :
    CY W t p T K C (A ++ [x]) F G { o with PA := some ⟨g, 0, none⟩, cA := cap } (w1.setCell ⟨t, 4, none⟩ (.slice (some ⟨g, 0, none⟩) (A.length + 1) cap)) ∧
      Tn (ow F G o) w (w1.setCell ⟨t, 4, none⟩ (.slice (some ⟨g, 0, none⟩) (A.length + 1) cap)) := by
  obtain ⟨T1, e1, -, -⟩ := h.midA hx hg
  rw [own_blk] at hat
  obtain ⟨P, c, hb⟩ := h.tr.blk
  have hs := h.bel.size
  have key : ∀ k, k ≠ t → (w1.setCell ⟨t, 4, none⟩ (.slice (some ⟨g, 0, none⟩) (A.length + 1) cap)).heap[k]? = w1.heap[k]? := fun k hk => Below.heap_setCell _ _ _ _ (by exact hk)
  have T2 : Tn (ow F G o) w (w1.setCell ⟨t, 4, none⟩ (.slice (some ⟨g, 0, none⟩) (A.length + 1) cap)) := (T1.mono fun b hb => .inl (.a hb)).set (.inl (.f h.ft)) _
  have nb : ∀ k ty, Tg (· = ty) w k → ty ≠ 121 → ty ≠ 89 → (w1.setCell ⟨t, 4, none⟩ (.slice (some ⟨g, 0, none⟩) (A.length + 1) cap)).heap[k]? = w.heap[k]? := by
    intro k ty hk n1 n2
    rw [key k ?_]
    · exact T1.block k hk.lt fun e => hk.two (tag_row h.ra e) fun ty' a b => n1 (a.symm.trans b)
    · rintro rfl; exact hk.not hb (fun e => n2 e.symm)
  have nF : ∀ k, F k → w1.heap[k]? = w.heap[k]? := fun k hf => T1.block k (h.fF k hf).2.lt fun e => (h.fF k hf).2.two (tag_row h.ra e) fun ty a b => by subst b; revert a; unfold TgT; decide
  have tg : Tg (· = 121) w1 g := tag_row ho rfl
  have gt : g ≠ t := by rintro rfl; exact tg.not (e1.trans hb) (by decide)
  have el : (A ++ [x]).length = A.length + 1 := by simp
  have hgg : ∀ i k, G i k → (w1.setCell ⟨t, 4, none⟩ (.slice (some ⟨g, 0, none⟩) (A.length + 1) cap)).heap[k]? = w.heap[k]? := by
    intro i k hk
    rw [key k ?_]
    · exact T1.block k (h.lt (.g (o := o) (F := F) hk)) fun e => (h.tagG hk).two (tag_row h.ra e) fun ty a b => by subst b; revert a; decide
    · rintro rfl; exact h.fg i k h.ft hk

  refine ⟨⟨h.tnb T2, ?_, ?_, ?_, ?_, ?_, ?_, ?_, fun i x c h1 h2 => (h.ch i x c h1 h2).keep fun k hk => hgg i k hk, fun k hf => ⟨(h.fF k hf).1, ?_⟩, h.fG, h.gg, h.fg⟩, T2⟩
  · rw [el]; exact (h.tr.keep fun k _ hf => nF k hf).setA _
  · exact row_keep h.rk fun k hk => nb k _ (tag_row h.rk hk) (by decide) (by decide)
  · exact row_keep h.rc fun k hk => nb k _ (tag_row h.rc hk) (by decide) (by decide)
  · rw [el, List.flatMap_append, show ([x] : List Af).flatMap aE = aE x from by simp]
    exact row_keep ho fun k hk => key k (by rw [← blk_some hk]; exact gt)
  · exact h.lk
  · exact h.lc
  · intro k hk
    rw [← blk_some hk]
    rcases hat with e | e
    · exact h.la g e
    · omega
  · by_cases e : k = t
    · subst e
      exact ⟨_, _, _, heap_setCell_same w1 k 4 _ _ _ (e1.trans hb), .inl rfl⟩
    · exact (h.fF k hf).2.at ((key k e).trans (nF k hf))
end
end Go.Proofs.Ytdpapnfjpefhkaa
