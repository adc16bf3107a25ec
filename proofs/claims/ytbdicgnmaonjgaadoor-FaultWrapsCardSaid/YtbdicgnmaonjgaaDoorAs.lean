/- errors.As finds the first code of an error. Conditions: the error lies in memory, each group of it was made here. -/
import Derived.Test.YtbdicgnmaonjgaaDoorAsM
namespace Go.Proofs.YtbdicgnmaonjgaaDoor
open Go.RowKit Go.Extern.Stop Go.Stop Go.Extern
set_option linter.unusedVariables false

/-- The code that stands first. -/
def firstF : Fo → Int
  | .nil => 0
  | .cons c _ ks _ => if 0 < c then c else firstF ks

abbrev tgV (L : Nat) : Value := .iface 56 (.pointer (some ⟨L, 0, none⟩))
abbrev vlV (vb : Nat) : Value := .agg #[.pointer (some ⟨5, 56, none⟩), .pointer (some ⟨vb, 0, none⟩), .int .u64 150]
abbrev tyV : Value := .iface 78 (.agg #[.pointer (some ⟨5, 40, none⟩)])

def AsPost (x : Int) (L : Nat) (W : World) (e : Ending) (w : World) : Prop := e = .returned (.bool true) ∧ Below L W w ∧ w.cell? ⟨L, 0, none⟩ = some (.int .i64 x)
def AsC (c : Int) (o : ByteArray) (ks : Fo) : Prop :=
  okF (.cons c o ks .nil) → shortF (.cons c o ks .nil) → ∀ (W : World) (v : Value) (L vb : Nat) (old : Value), EIs W (Lt L) c o ks v → L < W.heap.size →
    W.cell? ⟨L, 0, none⟩ = some old → W.frozen? ⟨L, 0, none⟩ = false → W.cell? ⟨vb, 0, none⟩ = some (.pointer (some ⟨L, 0, none⟩)) →
    Calls Tryd.prog 34 #[v, tgV L, vlV vb, tyV] W (AsPost (firstF (.cons c o ks .nil)) L W)

set_option maxRecDepth 100000 in
set_option maxHeartbeats 1000000 in
theorem as_code (c : Int) (W : World) (L vb : Nat) (old : Value) (hL : L < W.heap.size) (hc : W.cell? ⟨L, 0, none⟩ = some old) (hf : W.frozen? ⟨L, 0, none⟩ = false) (hvc : W.cell? ⟨vb, 0, none⟩ = some (.pointer (some ⟨L, 0, none⟩))) :
    Calls Tryd.prog 34 #[.iface 40 (.agg #[.int .i64 c]), tgV L, vlV vb, tyV] W (AsPost c L W) := by
  have hvb := World.block_lt_of_cell? W _ hvc
  have h26 := Tryd.call26
  have mA := Tryd.mAssign
  have a40 := Tryd.asg40
  have v40 := Tryd.vOf40
  have e56 := Tryd.elemV56 ⟨vb, 0, none⟩ ⟨L, 0, none⟩ (W.alloc (.cells #[.pointer (some ⟨5, 56, none⟩), .pointer (some ⟨vb, 0, none⟩), .int .u64 150] 70)) (by rw [cell_al _ hvb]; exact hvc)
  have s40 := Tryd.set40 L (W.heap.size + 1) c old ((W.alloc (.cells #[.pointer (some ⟨5, 56, none⟩), .pointer (some ⟨vb, 0, none⟩), .int .u64 150] 70)).alloc (.cells #[.int .i64 c] 40)) (by simp) (by rw [cell_al _ (by simp; omega), cell_al _ hL]; exact hc) (by rw [frz_al _ (by simp; omega), frz_al _ hL]; exact hf)
  go_enter Tryd.func34, Tryd.ntmps34
  go_wp2
  refine wp_loop_rounds 1 ?_
  rw [rounds_succ]
  go_wp2
  go_ret
  refine ⟨rfl, ?_, ?_⟩
  · exact (((Below.refl L W).setCell (p := ⟨L, 0, none⟩) (Nat.le_refl _) _).alloc (by rw [size_set]; omega) _).alloc (by rw [size_al, size_set]; omega) _
  · rw [cell_al _ (by rw [size_al, size_set]; omega), cell_al _ (by rw [size_set]; omega)]; exact World.cell?_setCell_same _ _ _ hc

set_option maxRecDepth 100000 in
set_option maxHeartbeats 1000000 in
theorem as_foreign (W : World) (a : Value) (t vl : Value) (hvl : ∃ vb, vl = vlV vb) :
    Calls Tryd.prog 34 #[.iface 52 a, t, vl, tyV] W (BoolPost false W) := by
  obtain ⟨vb, rfl⟩ := hvl
  have h26 := Tryd.tyOf52
  have mA := Tryd.mAssign
  have a52 := Tryd.asg52
  have h2 := Tryd.noAsF
  have h3 := Tryd.noUnF
  have h4 := Tryd.noUnsF
  go_enter Tryd.func34, Tryd.ntmps34
  go_wp2
  refine wp_loop_rounds 1 ?_
  rw [rounds_succ]
  go_wp2
  go_ret
  exact ⟨rfl, below_al _ _⟩

set_option maxRecDepth 100000 in
set_option maxHeartbeats 1000000 in
theorem as_group (o : ByteArray) (c' : Int) (o' : ByteArray) (ks' R : Fo) (h1st : Hid (AsC c' o' ks')) (hok : Hid (okF (.cons c' o' ks' R))) (hsh : Hid (shortF (.cons c' o' ks' R)))
    (W : World) (L vb g b off cap : Nat) (old : Value) (hn2 : (Fo.cons c' o' ks' R).len ≤ 1000)
    (hL : L < W.heap.size) (hc : W.cell? ⟨L, 0, none⟩ = some old) (hf : W.frozen? ⟨L, 0, none⟩ = false) (hvc : W.cell? ⟨vb, 0, none⟩ = some (.pointer (some ⟨L, 0, none⟩)))
    (hg : W.cell? ⟨g, 1, none⟩ = some (.slice (some ⟨b, off, none⟩) (Fo.cons c' o' ks' R).len cap)) (hE : EAt W (Lt L) (.cons c' o' ks' R) b off) (hcap : (Fo.cons c' o' ks' R).len ≤ cap) :
    Calls Tryd.prog 34 #[.iface 63 (.pointer (some ⟨g, 0, none⟩)), tgV L, vlV vb, tyV] W (AsPost (firstF (.cons c' o' ks' .nil)) L W) := by
  have hgb := World.block_lt_of_cell? W _ hg
  have hvb := World.block_lt_of_cell? W _ hvc
  have h26 := Tryd.tyOf63
  have mA := Tryd.mAssign
  have a63 := Tryd.asg63
  have h2 := Tryd.noAsG
  have h3 := Tryd.noUnG
  have h4 := Tryd.hasUnsG
  have h5 := Tryd.methodUnwrap
  have HU := Lib.hid (unwrap_any (Lt L) (.cons c' o' ks' R) (W.alloc (.cells #[.pointer (some ⟨5, 56, none⟩), .pointer (some ⟨vb, 0, none⟩), .int .u64 150] 70)) (fun x hx => by have h2 : x < L := hx; simp; omega) g b off cap (by simp [Fo.len]) hn2 (by rw [cell_al _ hgb]; exact hg)
    (hE.agr (fun x hx => (below_al W _).block x (Nat.lt_trans hx hL)) (fun x hx => hx)) hcap)
  have HE := Lib.hid hE
  clear hE hg
  go_enter Tryd.func34, Tryd.ntmps34
  go_wp2_with fail
  refine wp_loop_rounds 1 ?_
  rw [rounds_succ]
  go_wp2_with fail
  refine HU.out.mono ?_
  rintro e w0 ⟨hb0, bb, cc, rfl, hcc, hbl, hR⟩
  obtain ⟨⟨v, q1, q2⟩, q3⟩ := hR
  have hs0 := hb0.size
  have q4 : w0.cell? ⟨L, 0, none⟩ = some old := by rw [cell_blk (hb0.block L (by simp; omega)) 0, cell_al _ hL]; exact hc
  have q5 : w0.frozen? ⟨L, 0, none⟩ = false := by rw [hb0.frozen (p := ⟨L, 0, none⟩) (by simp; omega), frz_al _ hL]; exact hf
  have q6 : w0.cell? ⟨vb, 0, none⟩ = some (.pointer (some ⟨L, 0, none⟩)) := by rw [cell_blk (hb0.block vb (by simp; omega)) 0, cell_al _ hvb]; exact hvc
  have q7 : w0.cell? ⟨W.heap.size, 0, none⟩ = some (.pointer (some ⟨5, 56, none⟩)) := by rw [cell_blk (hb0.block W.heap.size (by simp)) 0]; simp
  have q8 : w0.cell? ⟨W.heap.size, 1, none⟩ = some (.pointer (some ⟨vb, 0, none⟩)) := by rw [cell_blk (hb0.block W.heap.size (by simp)) 1]; simp
  have q9 : w0.cell? ⟨W.heap.size, 2, none⟩ = some (.int .u64 150) := by rw [cell_blk (hb0.block W.heap.size (by simp)) 2]; simp
  simp only [size_al] at hs0
  have HC := Lib.hid (h1st.out ⟨hok.out.1, trivial⟩ ⟨hsh.out.1, hsh.out.2.1, trivial⟩ w0 v L vb old q2 (by omega) q4 q5 q6)
  have HB0 := Lib.hid ((below_al W (.cells #[.pointer (some ⟨5, 56, none⟩), .pointer (some ⟨vb, 0, none⟩), .int .u64 150] 70)).trans (hb0.mono (by simp)))
  obtain ⟨vT, vu, rfl⟩ := EIs.made q2 ⟨hok.out.1, trivial⟩
  have hne := run_eql_held_nil w0 29 vT vu (P := Tryd.prog) (by kernel_rfl)
  generalize hN : (Fo.cons c' o' ks' R).len = n at *
  have hn : 0 < n := by rw [← hN]; simp [Fo.len]
  clear q2 q3 q4 q5 q6 hb0 hN hc hf hvc
  go_wp2_with fail
  go_loopw [50] (fun i wr => i = .int .i64 0 ∧ wr = w0) (fun _ _ => 0)
  case atStart => exact ⟨rfl, rfl⟩
  case round =>
    obtain ⟨rfl, rfl⟩ := hrel
    go_wp2_with fail
    refine HC.out.mono ?_
    rintro e w' ⟨rfl, hb', hc'⟩
    have HB' := Lib.hid hb'
    clear hb'
    go_wp2_with fail
    go_ret
    exact ⟨rfl, (HB0.out.mono (Nat.le_of_lt hL)).trans HB'.out, hc'⟩
theorem as_tree (c : Int) (o : ByteArray) (ks : Fo) (h : ks.All AsC) : AsC c o ks := by
  intro hok hsh W v L vb old hv hL hc hf hvc
  rcases hv with ⟨h1, h2, h3, rfl⟩ | ⟨rfl, g, rfl, h2, h3, p, cap, h4, h5, h6, b, o', h7, h8⟩ | ⟨rfl, h2, h3, hv⟩
  · have e : firstF (.cons c o ks .nil) = c := if_pos h1
    rw [e]; exact as_code c W L vb old hL hc hf hvc
  · rcases hok.1 with ⟨h9, _⟩ | ⟨_, _, h10, h11⟩
    · omega
    · cases ks with
      | nil => simp [Fo.len] at h10
      | cons c' o2 ks' R =>
        obtain ⟨rfl, hb⟩ := h7 (by simp [Fo.len])
        exact as_group o c' o2 ks' R h.1 h11 hsh.2.1 W L vb g b o' cap old hsh.1 hL hc hf hvc h4 ⟨fun _ => hb, h8⟩ h5
  · rcases hok.1 with ⟨h9, _⟩ | ⟨_, h9, _⟩
    · omega
    · exact absurd h2 h9
theorem as_all : ∀ F : Fo, F.All AsC
  | .nil => trivial
  | .cons c o ks r => ⟨as_tree c o ks (as_all ks), as_all r⟩
theorem as_any (c : Int) (o : ByteArray) (ks : Fo) : AsC c o ks := as_tree c o ks (as_all ks)
end Go.Proofs.YtbdicgnmaonjgaaDoor
