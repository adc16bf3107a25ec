/- Join of nothing, and Shape. Conditions: the error lies in memory; no row of kids is long. -/
import Derived.Test.YtbefcakakoaieaaGat
namespace Go.Proofs.Ytbefcakakoaieaa
open Go.RowKit

theorem mayB_none (o : ByteArray) : mayB 0 o .nil = false := by
  unfold mayB fitsF
  rw [if_neg (by omega), if_neg (by simp), if_pos (by simp [Fo.len])]

set_option maxRecDepth 100000 in
theorem join_none (W : World) : Calls Try.prog 21 #[.slice none 0 0] W (NilPost W) := by
  have HC := Lib.hid ((gather_any allB .nil trivial W none 0 0 (by omega) ⟨rfl, Nat.le_refl _, by omega, 0, 0, fun h => absurd h (by omega), fun h => absurd h (by simp [Fo.len]), trivial⟩).1 (mayB_none _))
  go_enter Try.func21, Try.ntmps21
  go_wp2_with fail
  go_loopw [3, 8] (fun kv i wr => kv = .slice none 0 0 ∧ i = .int .i64 0 ∧ wr = W) (fun _ _ _ => 0)
  case atStart => exact ⟨rfl, rfl, rfl⟩
  case round =>
    obtain ⟨rfl, rfl, rfl⟩ := hrel
    go_wp2_with fail
    refine HC.out.mono ?_
    rintro e w' ⟨rfl, hb⟩
    have HB := Lib.hid hb
    clear hb
    go_wp2_with fail
    go_ret
    exact ⟨rfl, HB.out⟩

def ShaPost (c : Int) (o : ByteArray) (ks : Fo) (W : World) (e : Ending) (w : World) : Prop :=
  Below W.heap.size W w ∧ ∃ p cap, e = .returned (.tuple #[.agg #[.int .i64 c, .string o, .slice p ks.len cap], .bool true]) ∧ KAt w (Btw W.heap.size w.heap.size) ks p ks.len cap
def ShaNo (W : World) (e : Ending) (w : World) : Prop := e = .returned (.tuple #[.agg #[.int .i64 0, .string ⟨#[]⟩, .slice none 0 0], .bool false]) ∧ Below W.heap.size W w

set_option maxRecDepth 100000 in
theorem shape_any (c : Int) (o : ByteArray) (ks : Fo) (hs : shortF (.cons c o ks .nil)) (W : World) (v : Value) (hE : EIs W (Lt W.heap.size) c o ks v) :
    (mayB c o ks = false → Calls Try.prog 23 #[v] W (ShaNo W)) ∧ (mayB c o ks = true → Calls Try.prog 23 #[v] W (ShaPost c o ks W)) := by
  have HC := Lib.hid (shp_any c o ks hs (W.alloc (.cells #[.int .i64 0, .string ⟨#[]⟩, .slice none 0 0] 24)) v (hE.agr (fun x hx => (below_al W _).block x hx) (fun x hx => by have h2 : x < W.heap.size := hx; show x < _; simp; omega)))
  have HB0 := Lib.hid (below_al W (.cells #[.int .i64 0, .string ⟨#[]⟩, .slice none 0 0] 24))
  clear hE
  constructor
  all_goals
    intro h
    go_enter Try.func23, Try.ntmps23
    go_wp2_with fail
    refine HC.out.mono ?_
    rintro e w' ⟨hb, p, n, cap, rfl, hK⟩
    obtain rfl : n = ks.len := hK.1
    have hK2 := hK.agr (W' := w'.alloc (.cells #[.int .i64 c, .string o, .slice p ks.len cap] 24)) (S' := Lt (w'.alloc (.cells #[.int .i64 c, .string o, .slice p ks.len cap] 24)).heap.size) (fun x hx => (below_al w' _).block x hx.2) (fun x hx => by have := hx.2; show x < _; simp; omega)
    have HM := Lib.hid (may_any c o ks (w'.alloc (.cells #[.int .i64 c, .string o, .slice p ks.len cap] 24)) p ks.len cap hK2)
    have HB := Lib.hid hb
    have HK := Lib.hid hK
    have hsz := hb.size
    simp only [size_al] at hsz
    have g0 : w'.cell? ⟨W.heap.size, 0, none⟩ = some (.int .i64 0) := by rw [cell_blk (hb.block W.heap.size (by simp)) 0]; simp
    have g1 : w'.cell? ⟨W.heap.size, 1, none⟩ = some (.string ⟨#[]⟩) := by rw [cell_blk (hb.block W.heap.size (by simp)) 1]; simp
    have g2 : w'.cell? ⟨W.heap.size, 2, none⟩ = some (.slice none 0 0) := by rw [cell_blk (hb.block W.heap.size (by simp)) 2]; simp
    clear hb hK hK2
    go_wp2_with fail
    refine HM.out.mono ?_
    rintro e w2 ⟨rfl, hb2⟩
    rw [h]
    have hs2 := hb2.size
    simp only [size_al] at hs2
    have e0 : w2.cell? ⟨W.heap.size, 0, none⟩ = some (.int .i64 0) := by rw [cell_blk (hb2.block W.heap.size (by simp; omega)) 0, cell_al _ (by omega)]; exact g0
    have e1 : w2.cell? ⟨W.heap.size, 1, none⟩ = some (.string ⟨#[]⟩) := by rw [cell_blk (hb2.block W.heap.size (by simp; omega)) 1, cell_al _ (by omega)]; exact g1
    have e2 : w2.cell? ⟨W.heap.size, 2, none⟩ = some (.slice none 0 0) := by rw [cell_blk (hb2.block W.heap.size (by simp; omega)) 2, cell_al _ (by omega)]; exact g2
    have hO : Own w2 W.heap.size 3 := (((show Own (W.alloc (.cells #[.int .i64 0, .string ⟨#[]⟩, .slice none 0 0] 24)) W.heap.size 3 from ⟨_, _, heap_alloc_new W _, by simp⟩).below HB.out).eq (by rw [hb2.block W.heap.size (by simp; omega)]; exact Below.heap_alloc _ _ _ (by omega)))
    have z0 := hO.frz 0
    have z1 := hO.frz 1
    have z2 := hO.frz 2
    have d0 : w2.cell? ⟨w'.heap.size, 0, none⟩ = some (.int .i64 c) := by rw [cell_blk (hb2.block w'.heap.size (by simp)) 0]; simp
    have d1 : w2.cell? ⟨w'.heap.size, 1, none⟩ = some (.string o) := by rw [cell_blk (hb2.block w'.heap.size (by simp)) 1]; simp
    have d2 : w2.cell? ⟨w'.heap.size, 2, none⟩ = some (.slice p ks.len cap) := by rw [cell_blk (hb2.block w'.heap.size (by simp)) 2]; simp
    have HB1 : Hid (Below W.heap.size W w2) := (HB0.out.trans (HB.out.mono (by simp))).trans (((below_al w' _).mono (by omega)).trans (hb2.mono (by simp; omega)))
    have HB2 := Lib.hid hb2
    clear hb2 hO g0 g1 g2
    go_wp2_with fail
  · refine bodyPost_ret (v := .tuple #[.agg #[.int .i64 0, .string ⟨#[]⟩, .slice none 0 0], .bool false]) (by simp [results, Try.results23, go_sem, e0, e1, e2]) rfl ⟨rfl, ?_⟩
    exact ((HB1.out.setCell (Nat.le_refl _) _).setCell (Nat.le_refl _) _).setCell (Nat.le_refl _) _
  · refine bodyPost_ret (v := .tuple #[.agg #[.int .i64 c, .string o, .slice p ks.len cap], .bool true]) (by simp [results, Try.results23, go_sem, e0, e1, e2]) rfl ⟨?_, p, cap, rfl, ?_⟩
    · exact ((HB1.out.setCell (Nat.le_refl _) _).setCell (Nat.le_refl _) _).setCell (Nat.le_refl _) _
    · refine HK.out.agr (fun x hx => ?_) (fun x hx => ?_)
      · have h1 := hx.1
        have h2 := hx.2
        simp only [size_al] at h1
        rw [heap_set_other (by omega), heap_set_other (by omega), heap_set_other (by omega), HB2.out.block x (by simp; omega)]
        exact Below.heap_alloc _ _ _ h2
      · have h1 := hx.1
        have h2 := hx.2
        simp only [size_al] at h1
        exact ⟨by omega, by rw [size_set, size_set, size_set]; omega⟩
#print axioms shape_any
end Go.Proofs.Ytbefcakakoaieaa
