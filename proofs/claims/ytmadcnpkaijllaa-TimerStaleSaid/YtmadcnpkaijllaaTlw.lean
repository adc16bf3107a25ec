/- What each call of package expire makes of timers, as the laws want it. Conditions: each theorem's own premises. -/
import Derived.Test.YtmadcnpkaijllaaTke
namespace Go.Proofs.Ytmadcnpkaijllaa
open Go.RowKit
set_option linter.unusedVariables false
set_option maxRecDepth 100000
section
variable {W w w' : World} {B t o b c n : Nat} {vA vL : Value} {S : List It} {g : Int → Int}
abbrev pT (t : Nat) : Value := .pointer (some ⟨t, 1, none⟩)
theorem tn_arm (k x y : Int) (h : TN B t vA vL o b c n S g w) (hk : Wf k) (hx : Fit x) (hy : Fit y) (hn : n ≤ 1000000) (hl : S.length < 1000) : Calls Try.prog 62 #[pT t, .int .i64 k, .int .i64 x, .int .i64 y] w (XR B t vA vL o b c (n + 1) (ins ⟨k, x, (n : Int) + 1⟩ (del k S)) (fput g k y) (.int .i64 0) w) := by
  obtain ⟨p, N, hN, h⟩ := h
  exact (arm_any k x y h hk hx hy hn (by omega) hl).mono fun _ _ r => h.xr (by omega) r
theorem tn_arm_bad (k x y : Int) (t : Nat) (w : World) (h : ¬ (Fit x ∧ Fit y)) : Calls Try.prog 62 #[pT t, .int .i64 k, .int .i64 x, .int .i64 y] w fun e w' => e = .returned (.int .i64 1) ∧ w = w' :=
  arm_bad k x y _ (by simp) w h
theorem tn_stop_yes {x : It} (h : TN B t vA vL o b c n S g w) (hx : x ∈ S) (hl : S.length ≤ 1000) : Calls Try.prog 59 #[pT t, .int .i64 x.id] w (XR B t vA vL o b c n (del x.id S) (fput g x.id 0) (.bool true) w) := by
  obtain ⟨p, N, hN, h⟩ := h
  exact (stop_yes h hx hl).mono fun _ _ r => h.xr hN r
theorem tn_stop_no {k : Int} (h : TN B t vA vL o b c n S g w) (hk : Wf k) (hm : k ∉ ids S) : Calls Try.prog 59 #[pT t, .int .i64 k] w (XR B t vA vL o b c n S (fput g k 0) (.bool false) w) := by
  obtain ⟨p, N, hN, h⟩ := h
  exact (stop_no h hk hm).mono fun _ _ r => h.xr hN r
theorem tn_next {x : It} (h : TN B t vA vL o b c n (x :: S) g w) (hl : (x :: S).length ≤ 1000) : Calls Try.prog 47 #[pT t] w (XR B t vA vL o b c n (x :: S) g (.tuple #[.int .i64 x.w, .bool true]) w) := by
  have H := h
  obtain ⟨p, N, hN, h⟩ := h
  exact (next_some h hl).mono fun _ _ r => H.same r
theorem tn_next_no (h : TN B t vA vL o b c n [] g w) : Calls Try.prog 47 #[pT t] w (XR B t vA vL o b c n [] g (.tuple #[.int .i64 0, .bool false]) w) := by
  have H := h
  obtain ⟨p, N, hN, h⟩ := h
  exact (next_none h).mono fun _ _ r => H.same r
/-- None is due. -/
def Idle (now : Int) : List It → Prop
  | [] => True
  | x :: _ => now < x.w
theorem tn_take_no {now : Int} (h : TN B t vA vL o b c n S g w) (hl : S.length ≤ 1000) (hi : Idle now S) : Calls Try.prog 32 #[pT t, .int .i64 now] w (XR B t vA vL o b c n S g (.tuple #[vD 0 0 0, .bool false]) w) := by
  have H := h
  obtain ⟨p, N, hN, h⟩ := h
  cases S with
  | nil => exact (take_empty h).mono fun _ _ r => H.same r
  | cons x S => exact (take_early h hl hi).mono fun _ _ r => H.same r
theorem tn_take_end {x : It} {now : Int} (h : TN B t vA vL o b c n (x :: S) g w) (hl : (x :: S).length ≤ 1000) (hw : x.w ≤ now) (hg : ¬ Gon x.w (g x.id) now) : Calls Try.prog 32 #[pT t, .int .i64 now] w (XR B t vA vL o b c n S (fput g x.id 0) (.tuple #[vD x.id x.w now, .bool true]) w) := by
  obtain ⟨p, N, hN, h⟩ := h
  exact (take_end h hl hw hg).mono fun _ _ r => h.xr hN r
theorem tn_take_on {x : It} {now : Int} (h : TN B t vA vL o b c n (x :: S) g w) (hn : n ≤ 1000000) (hl : (x :: S).length ≤ 1000) (hw : x.w ≤ now) (hg : Gon x.w (g x.id) now) : Calls Try.prog 32 #[pT t, .int .i64 now] w (XR B t vA vL o b c (n + 1) (ins ⟨x.id, nx x.w (g x.id) now, (n : Int) + 1⟩ S) g (.tuple #[vD x.id x.w now, .bool true]) w) := by
  obtain ⟨p, N, hN, h⟩ := h
  exact (take_on h hn hl hw hg).mono fun _ _ r => h.xr (by omega) r
/-- A store into a row of another kind. -/
theorem TN.put3 (h : TN B t vA vL o b c n S g w) {s ty : Nat} {u0 u1 u2 : Value} (ht : w.heap[s]? = some (.cells #[u0, u1, u2] ty (0, 0))) (h1 : ty ≠ 120) (h2 : ty ≠ 106) (h3 : ty ≠ 73) (v0 v1 v2 : Value) : TN B t vA vL o b c n S g (((w.setCell ⟨s, 0, none⟩ v0).setCell ⟨s, 1, none⟩ v1).setCell ⟨s, 2, none⟩ v2) := by
  have e1 := heap_setCell_same w s 0 _ _ v0 ht
  have e2 := heap_setCell_same _ s 1 _ _ v1 e1
  exact ((h.cell ht h1 h2 h3 _).cell e1 h1 h2 h3 _).cell e2 h1 h2 h3 _
end
/-- The timers since a call began. -/
structure XS (W : World) (t : Nat) (vA vL : Value) (o b c n : Nat) (S : List It) (g : Int → Int) (w : World) : Prop where
  bel : Below W.heap.size W w
  tn : TN W.heap.size t vA vL o b c n S g w
section
variable {W w w' : World} {t o b c n n' : Nat} {vA vL : Value} {S S' : List It} {g g' : Int → Int} {v : Value} {f : Nat} {args : Array Value} {e : Ending}
theorem XS.later (h : XS W t vA vL o b c n S g w) (hb : Below w.heap.size w w') : XS W t vA vL o b c n S g w' := ⟨h.bel.trans (hb.mono h.bel.size), h.tn.later hb⟩
theorem XS.go (h : XS W t vA vL o b c n S g w) (r : XR W.heap.size t vA vL o b c n' S' g' v w e w') : e = .returned v ∧ XS W t vA vL o b c n' S' g' w' ∧ OX w w' := ⟨r.1, ⟨h.bel.trans r.2.2.1, r.2.1⟩, r.2.2.2⟩
theorem XS.run (h : XS W t vA vL o b c n S g w) (hc : Calls Try.prog f args w (XR W.heap.size t vA vL o b c n' S' g' v w)) : Calls Try.prog f args w (fun e w' => e = .returned v ∧ XS W t vA vL o b c n' S' g' w' ∧ OX w w') := hc.mono fun _ _ r => h.go r
theorem XS.box (h : XS W t vA vL o b c n S g w) (u : Obj) : XS W t vA vL o b c n S g (w.alloc u) := h.later (below_al w u)
/-- A store into a row of another kind that the call made. -/
theorem XS.cell (h : XS W t vA vL o b c n S g w) {s ty j : Nat} {cs : Array Value} {fr : Nat × Nat} (hs : W.heap.size ≤ s) (ht : w.heap[s]? = some (.cells cs ty fr)) (h1 : ty ≠ 120) (h2 : ty ≠ 106) (h3 : ty ≠ 73) (v : Value) : XS W t vA vL o b c n S g (w.setCell ⟨s, j, none⟩ v) := ⟨h.bel.setCell hs _, h.tn.cell ht h1 h2 h3 v⟩
theorem Dbk.ox {s : Nat} {i x y : Int} (h : Dbk w s i x y) (k : OX w w') : Dbk w' s i x y := k s _ _ _ h (by decide) (by decide)
end
theorem wf_small {x : Int} (h1 : -1000000 ≤ x) (h2 : x ≤ 1000000) : Wf x := wf_of (by omega) (by omega)
end Go.Proofs.Ytmadcnpkaijllaa
