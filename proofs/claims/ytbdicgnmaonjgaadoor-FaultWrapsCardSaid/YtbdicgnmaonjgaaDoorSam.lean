/- Two shapes that are the same are told so. Conditions: both lie in memory. -/
import Derived.Test.YtbdicgnmaonjgaaDoorTxX
namespace Go.Proofs.YtbdicgnmaonjgaaDoor
open Go.RowKit Go.Extern.Stop Go.Stop Go.Extern
set_option linter.unusedVariables false

def SamC (c : Int) (o : ByteArray) (ks : Fo) : Prop :=
  ∀ (W : World) (p p' : Option Addr) (cap cap' : Nat), KAt W (Lt W.heap.size) ks p ks.len cap → KAt W (Lt W.heap.size) ks p' ks.len cap' →
    Calls Tryd.prog 12 #[.agg #[.int .i64 c, .string o, .slice p ks.len cap], .agg #[.int .i64 c, .string o, .slice p' ks.len cap']] W (BoolPost true W)

set_option maxRecDepth 100000 in
set_option maxHeartbeats 1000000 in
theorem sam_nil (c : Int) (o : ByteArray) (W : World) (p p' : Option Addr) (cap cap' : Nat) :
    Calls Tryd.prog 12 #[.agg #[.int .i64 c, .string o, .slice p 0 cap], .agg #[.int .i64 c, .string o, .slice p' 0 cap']] W (BoolPost true W) := by
  go_enter Tryd.func12, Tryd.ntmps12
  go_wp2_with fail
  go_loopw [5] (fun i wr => i = .int .i64 0 ∧ wr = (W.alloc (.cells #[.int .i64 c, .string o, .slice p 0 cap] 27)).alloc (.cells #[.int .i64 c, .string o, .slice p' 0 cap'] 27)) (fun _ _ => 0)
  case atStart => exact ⟨rfl, rfl⟩
  case round =>
    obtain ⟨rfl, rfl⟩ := hrel
    go_wp2_with fail
    go_ret
    exact ⟨rfl, (below_al _ _).alloc (by simp) _⟩

set_option maxRecDepth 100000 in
set_option maxHeartbeats 1000000 in
theorem sam_some (c : Int) (o : ByteArray) (ks : Fo) (hks : Hid (ks.All SamC)) (W : World) (b off b' off' n cap cap' : Nat) (hN : Hid (ks.len = n)) (hn : 0 < n) (hn2 : n < 4611686018427387904) (hcap : n ≤ cap) (hcap' : n ≤ cap')
    (hF : Hid (FAt W (Lt W.heap.size) ks b off)) (hF' : Hid (FAt W (Lt W.heap.size) ks b' off')) :
    Calls Tryd.prog 12 #[.agg #[.int .i64 c, .string o, .slice (some ⟨b, off, none⟩) n cap], .agg #[.int .i64 c, .string o, .slice (some ⟨b', off', none⟩) n cap']] W (BoolPost true W) := by
  have hn0 : ¬ n = 0 := by omega
  go_enter Tryd.func12, Tryd.ntmps12
  go_wp2_with fail
  go_loopw [5] (fun i wr => ∃ (R : Fo) (k : Nat), Hid (k + R.len = n) ∧ k ≤ n ∧ i = .int .i64 k ∧ Hid (Below W.heap.size W wr) ∧ W.heap.size + 1 < wr.heap.size ∧ wr.cell? ⟨W.heap.size, 2, none⟩ = some (.slice (some ⟨b, off, none⟩) n cap) ∧ wr.cell? ⟨W.heap.size + 1, 2, none⟩ = some (.slice (some ⟨b', off', none⟩) n cap') ∧ Hid (R.All SamC) ∧ Hid (FAt wr (Lt W.heap.size) R b (off + k * 3)) ∧ Hid (FAt wr (Lt W.heap.size) R b' (off' + k * 3))) (fun i _ => n - (intOf i).toNat)
  case atStart =>
    have hb2 : Below W.heap.size W ((W.alloc (.cells #[.int .i64 c, .string o, .slice (some ⟨b, off, none⟩) n cap] 27)).alloc (.cells #[.int .i64 c, .string o, .slice (some ⟨b', off', none⟩) n cap'] 27)) := (below_al _ _).alloc (by simp) _
    refine ⟨ks, 0, by have := hN.out; show _ = _; omega, by omega, rfl, hb2, by simp, by simp, by simp, hks, ?_, ?_⟩
    · have h5 : FAt W (Lt W.heap.size) ks b (off + 0 * 3) := by simpa using hF.out
      exact FAt.below hb2 (Nat.le_refl _) _ _ _ h5
    · have h5 : FAt W (Lt W.heap.size) ks b' (off' + 0 * 3) := by simpa using hF'.out
      exact FAt.below hb2 (Nat.le_refl _) _ _ _ h5
  case round =>
    obtain ⟨R, k, hk1, hkn, rfl, hB, hs, c2, c3, hAll, hR, hR'⟩ := hrel
    cases R with
    | nil =>
      obtain rfl : k = n := by have := hk1.out; simp only [Fo.len] at this; omega
      go_wp2_with fail
      go_ret
      exact ⟨rfl, hB.out⟩
    | cons c' o' ks' R' =>
      have hlt : k < n := by have := hk1.out; simp only [Fo.len] at this; omega
      have hi0 : (0 : Int) ≤ (k : Int) := Int.natCast_nonneg _
      have hi1 : (k : Int) < (n : Int) := by omega
      obtain ⟨hbL, q0, q1, ⟨p, kc, q2, q3⟩, q5⟩ := FAt.head hR.out
      obtain ⟨hbL', q0', q1', ⟨p', kc', q2', q3'⟩, q5'⟩ := FAt.head hR'.out
      have hC : ∀ w', Below wr.heap.size wr w' → Calls Tryd.prog 12 #[.agg #[.int .i64 c', .string o', .slice p ks'.len kc], .agg #[.int .i64 c', .string o', .slice p' ks'.len kc']] w' (BoolPost true w') := fun w' hb =>
        hAll.out.1 w' p p' kc kc' (q3.agr (fun x hx => hb.block x (by have h2 : x < W.heap.size := hx; omega)) (fun x hx => by have h2 : x < W.heap.size := hx; have := hb.size; show x < _; omega)) (q3'.agr (fun x hx => hb.block x (by have h2 : x < W.heap.size := hx; omega)) (fun x hx => by have h2 : x < W.heap.size := hx; have := hb.size; show x < _; omega))
      have HC := Lib.hid hC
      have Q5 := Lib.hid q5
      have Q5' := Lib.hid q5'
      have HZ : Hid (Below wr.heap.size wr wr) := Below.refl _ _
      have hbs : b < wr.heap.size := by have h2 : b < W.heap.size := hbL; omega
      have hbs' : b' < wr.heap.size := by have h2 : b' < W.heap.size := hbL'; omega
      have hKeep : ∀ w', Below wr.heap.size wr w' → w'.cell? ⟨W.heap.size, 2, none⟩ = some (.slice (some ⟨b, off, none⟩) n cap) ∧ w'.cell? ⟨W.heap.size + 1, 2, none⟩ = some (.slice (some ⟨b', off', none⟩) n cap') ∧
          w'.cell? ⟨b, off + k * 3, none⟩ = some (.int .i64 c') ∧ w'.cell? ⟨b, off + k * 3 + 1, none⟩ = some (.string o') ∧ w'.cell? ⟨b, off + k * 3 + 2, none⟩ = some (.slice p ks'.len kc) ∧
          w'.cell? ⟨b', off' + k * 3, none⟩ = some (.int .i64 c') ∧ w'.cell? ⟨b', off' + k * 3 + 1, none⟩ = some (.string o') ∧ w'.cell? ⟨b', off' + k * 3 + 2, none⟩ = some (.slice p' ks'.len kc') ∧ Hid (Below wr.heap.size wr w') := fun w' hb =>
        ⟨(cell_blk (hb.block _ (by omega)) _).trans c2, (cell_blk (hb.block _ hs) _).trans c3, (cell_blk (hb.block _ hbs) _).trans q0, (cell_blk (hb.block _ hbs) _).trans q1, (cell_blk (hb.block _ hbs) _).trans q2, (cell_blk (hb.block _ hbs') _).trans q0', (cell_blk (hb.block _ hbs') _).trans q1', (cell_blk (hb.block _ hbs') _).trans q2', hb⟩
      have HK := Lib.hid hKeep
      clear hC hKeep q3 q3' q5 q5' hbL hbL'
      go_wp2_with fail
      go_region_held3 (fun w' => w'.cell? ⟨W.heap.size, 2, none⟩ = some (.slice (some ⟨b, off, none⟩) n cap) ∧ w'.cell? ⟨W.heap.size + 1, 2, none⟩ = some (.slice (some ⟨b', off', none⟩) n cap') ∧ w'.cell? ⟨b, off + k * 3, none⟩ = some (.int .i64 c') ∧ w'.cell? ⟨b, off + k * 3 + 1, none⟩ = some (.string o') ∧ w'.cell? ⟨b, off + k * 3 + 2, none⟩ = some (.slice p ks'.len kc) ∧ w'.cell? ⟨b', off' + k * 3, none⟩ = some (.int .i64 c') ∧ w'.cell? ⟨b', off' + k * 3 + 1, none⟩ = some (.string o') ∧ w'.cell? ⟨b', off' + k * 3 + 2, none⟩ = some (.slice p' ks'.len kc') ∧ Hid (Below wr.heap.size wr w'))
        (first
          | exact HK.out _ (Below.drew HZ.out)
          | exact HK.out _ ((Below.drew HZ.out).trans (hb'.mono (Nat.le_refl _))))
        (first | (go_at_call 12; (with_reducible refine (HC.out _ (Below.drew HZ.out)).mono ?_); rintro e w' ⟨rfl, hb'⟩))
      have HB' : Hid (Below wr.heap.size wr w') := (Below.drew HZ.out).trans (hb'.mono (Nat.le_refl _))
      have hs' := HB'.out.size
      have d2 := (HK.out _ HB'.out).1
      have d3 := (HK.out _ HB'.out).2.1
      clear hb'
      go_wp2_with fail
      go_roundw
      case rel =>
        refine ⟨R', k + 1, ?_, by omega, by go_num, hB.out.trans (HB'.out.mono (by omega)), by omega, d2, d3, hAll.out.2, ?_, ?_⟩
        · have := hk1.out; simp only [Fo.len] at this; show _ = _; omega
        · have h5 : FAt wr (Lt W.heap.size) R' b (off + (k + 1) * 3) := by have := Q5.out; rw [show off + (k + 1) * 3 = off + k * 3 + 3 by omega]; exact this
          exact FAt.below HB'.out (by omega) _ _ _ h5
        · have h5 : FAt wr (Lt W.heap.size) R' b' (off' + (k + 1) * 3) := by have := Q5'.out; rw [show off' + (k + 1) * 3 = off' + k * 3 + 3 by omega]; exact this
          exact FAt.below HB'.out (by omega) _ _ _ h5
      case measure => simp [intOf]; omega

theorem sam_tree (c : Int) (o : ByteArray) (ks : Fo) (h : ks.All SamC) : SamC c o ks := by
  intro W p p' cap cap' ⟨_, h2, h3, b, off, h4, h5⟩ ⟨_, h2', _, b', off', h4', h5'⟩
  cases ks with
  | nil => exact sam_nil c o W p p' cap cap'
  | cons c2 o2 k2 r2 =>
    have hn : 0 < (Fo.cons c2 o2 k2 r2).len := by simp [Fo.len]
    obtain rfl := h4 hn
    obtain rfl := h4' hn
    exact sam_some c o _ h W b off b' off' _ cap cap' rfl hn h3 h2 h2' h5 h5'
theorem sam_all : ∀ F : Fo, F.All SamC
  | .nil => trivial
  | .cons c o ks r => ⟨sam_tree c o ks (sam_all ks), sam_all r⟩
theorem sam_any (c : Int) (o : ByteArray) (ks : Fo) : SamC c o ks := sam_tree c o ks (sam_all ks)
#print axioms sam_any
end Go.Proofs.YtbdicgnmaonjgaaDoor
