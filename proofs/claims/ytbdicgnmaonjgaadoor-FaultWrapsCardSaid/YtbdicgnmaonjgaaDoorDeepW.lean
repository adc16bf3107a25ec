/- The walk of the law on deep and wide shapes. Condition: the variable errors.errorType reads as its program lays it. -/
import Derived.Test.YtbdicgnmaonjgaaDoorDp
import Derived.Deep.AppendLies
namespace Go.Proofs.YtbdicgnmaonjgaaDoor
open Go.RowKit Go.Extern.Stop Go.Stop Go.Extern
set_option linter.unusedVariables false

def Oth (w : World) (B : Nat) : Nat → Prop := fun b => b < w.heap.size ∧ b ≠ B

theorem deep_step {wr : World} {B m : Nat} {code c : Int} {o : ByteArray} {ks : Fo} {p : Option Addr} {cap b' o' : Nat} (hO : Own wr B 3) (hch : chF code m = .cons c o ks .nil)
    (q4 : ks.len ≤ cap) (q5 : ks.len < 4611686018427387904) (q6 : 0 < ks.len → p = some ⟨b', o', none⟩ ∧ Oth wr B b') (q7 : FRow wr (Oth wr B) ks b' o') (X : World)
    (hX : X = (((wr.setCell ⟨B, 0, none⟩ (.int .i64 0)).setCell ⟨B, 1, none⟩ (.string ⟨#[111]⟩)).setCell ⟨B, 2, none⟩ (.slice (some ⟨wr.heap.size, 0, none⟩) 1 1)).alloc (.cells #[.int .i64 c, .string o, .slice p ks.len cap] 27)) :
    Below B wr X ∧ Own X B 3 ∧ FRow X (Oth X B) (chF code (m + 1)) B 0 := by
  have hBs := hO.lt
  have hYs : ((((wr.setCell ⟨B, 0, none⟩ (.int .i64 0)).setCell ⟨B, 1, none⟩ (.string ⟨#[111]⟩)).setCell ⟨B, 2, none⟩ (.slice (some ⟨wr.heap.size, 0, none⟩) 1 1))).heap.size = wr.heap.size := by rw [size_set, size_set, size_set]
  have hXs : X.heap.size = wr.heap.size + 1 := by rw [hX, size_al, hYs]
  have hOY := (((hO.set 0 (.int .i64 0)).set 1 (.string ⟨#[111]⟩)).set 2 (.slice (some ⟨wr.heap.size, 0, none⟩) 1 1))
  have hcB : ∀ i, X.cell? ⟨B, i, none⟩ = ((((wr.setCell ⟨B, 0, none⟩ (.int .i64 0)).setCell ⟨B, 1, none⟩ (.string ⟨#[111]⟩)).setCell ⟨B, 2, none⟩ (.slice (some ⟨wr.heap.size, 0, none⟩) 1 1))).cell? ⟨B, i, none⟩ := fun i => by rw [hX, cell_al _ (by rw [hYs]; exact hBs)]
  have hcN : ∀ i, X.cell? ⟨wr.heap.size, i, none⟩ = #[Value.int .i64 c, .string o, .slice p ks.len cap][i]? := fun i => by rw [hX, World.cell?_alloc_at _ _ _ _ hYs.symm]
  have hold : ∀ b, Oth wr B b → X.heap[b]? = wr.heap[b]? := fun b hb => by
    rw [hX, Below.heap_alloc _ _ _ (by rw [hYs]; exact hb.1), heap_set_other hb.2, heap_set_other hb.2, heap_set_other hb.2]
  have hOth : ∀ b, Oth wr B b → Oth X B b := fun b hb => ⟨by rw [hXs]; have := hb.1; omega, hb.2⟩
  refine ⟨?_, ?_, ?_⟩
  · rw [hX]
    exact ((((Below.refl B wr).setCell (p := ⟨B, 0, none⟩) (Nat.le_refl _) _).setCell (p := ⟨B, 1, none⟩) (Nat.le_refl _) _).setCell (p := ⟨B, 2, none⟩) (Nat.le_refl _) _).alloc (by rw [hYs]; omega) _
  · rw [hX]; exact hOY.eq (Below.heap_alloc _ _ _ (by rw [hYs]; exact hBs))
  · refine ⟨?_, ?_, ⟨some ⟨wr.heap.size, 0, none⟩, 1, ?_, ?_, ?_, wr.heap.size, 0, fun _ => ⟨rfl, by rw [hXs]; omega, by omega⟩, ?_⟩, trivial⟩
    · rw [hcB, cell_set_other (.inr (by omega)), cell_set_other (.inr (by omega))]; exact cell_set_same hO (by omega)
    · rw [hcB, Nat.zero_add, cell_set_other (.inr (by omega))]; exact cell_set_same (hO.set _ _) (by omega)
    · rw [hcB, Nat.zero_add, chF_len]; exact cell_set_same ((hO.set _ _).set _ _) (by omega)
    · rw [chF_len]; exact Nat.le_refl _
    · rw [chF_len]; omega
    · rw [hch]
      refine ⟨by rw [hcN]; rfl, by rw [hcN]; rfl, ⟨p, cap, by rw [hcN]; rfl, q4, q5, b', o', fun hp => ⟨(q6 hp).1, hOth _ (q6 hp).2⟩, ?_⟩, trivial⟩
      exact FRow.agr hold hOth ks b' o' (fun i hi => cell_blk (hold b' (q6 (by omega)).2) _) q7

/-- The cells of the codes 1 to j. -/
def wL : Nat → List Value
  | 0 => []
  | j + 1 => wL j ++ [.int .i64 ((j : Int) + 1), .string ⟨#[]⟩, .slice none 0 0]
theorem wL_len : ∀ j, (wL j).length = j * 3
  | 0 => rfl
  | j + 1 => by simp [wL, wL_len j]; omega
theorem wrow {w : World} {S : Nat → Prop} {b : Nat} : ∀ j, (∀ i u, (wL j)[i]? = some u → w.cell? ⟨b, 0 + i, none⟩ = some u) → FRow w S (wF j) b 0
  | 0, _ => trivial
  | j + 1, h => by
    have hl := wL_len j
    refine FRow.snoc (wF j) 0 (wrow j fun i u hu => h i u ?_) ?_
    · rw [wL, List.getElem?_append_left (by have := (List.getElem?_eq_some_iff.1 hu).1; exact this)]; exact hu
    · rw [wF_len]
      have g : ∀ i u, [Value.int .i64 ((j : Int) + 1), .string ⟨#[]⟩, .slice none 0 0][i]? = some u → w.cell? ⟨b, 0 + j * 3 + i, none⟩ = some u := fun i u hu => by
        have := h (j * 3 + i) u (by rw [wL, List.getElem?_append_right (by omega), hl, Nat.add_sub_cancel_left]; exact hu)
        rw [show 0 + j * 3 + i = 0 + (j * 3 + i) by omega]; exact this
      exact ⟨g 0 _ rfl, g 1 _ rfl, ⟨none, 0, g 2 _ rfl, Nat.le_refl _, by simp [Fo.len], 0, 0, fun h => absurd h (by simp [Fo.len]), trivial⟩, trivial⟩

theorem own_slice3 {w : World} {base n : Nat} {v : Value} {xs : List Value} (h : w.ownsRow base 27 3 v n xs) : ∃ p cap, v = .slice p n cap ∧ n ≤ cap ∧ ∃ b, (0 < n → p = some ⟨b, 0, none⟩ ∧ b < w.heap.size ∧ base ≤ b) ∧ ∀ j u, xs[j]? = some u → w.cell? ⟨b, 0 + j, none⟩ = some u := by
  rcases h.2 with ⟨rfl, rfl⟩ | ⟨g, cap, cur, rfl, hb, hg, hc, _, _, htake⟩
  · have hx : xs = [] := by have := h.1; simpa using this
    subst hx
    exact ⟨none, 0, rfl, Nat.le_refl _, 0, fun h => absurd h (by omega), fun j u hu => by simp at hu⟩
  · refine ⟨_, cap, rfl, hc, g, fun _ => ⟨rfl, (Array.getElem?_eq_some_iff.1 hg).1, hb⟩, fun j u hu => ?_⟩
    have := World.ownsRow.cells h rfl j u hu
    rw [Nat.zero_add]
    have hadd : (⟨g, 0, none⟩ : Addr).add j = ⟨g, j, none⟩ := by unfold Addr.add; split <;> simp_all
    rw [← hadd]; exact this

theorem dw_grow {wr w1 : World} {G n : Nat} {kv : Value} {xs : List Value} {ob : Obj} (hg : (wr.alloc ob).grownBy w1 kv.ownBlock) (hown : wr.ownsRow (G + 1) 27 3 kv n xs) (hG : G < wr.heap.size) : w1.heap[G]? = wr.heap[G]? := by
  rw [hg.block G (by simp; omega) (fun h => by have := (hown.lt G h.symm).1; omega)]
  exact Below.heap_alloc _ _ _ hG
theorem dw_below {v0 wr w1 : World} {n : Nat} {kv : Value} {xs : List Value} {ob : Obj} (hB : Below v0.heap.size v0 wr) (hg : (wr.alloc ob).grownBy w1 kv.ownBlock) (hown : wr.ownsRow (v0.heap.size + 1) 27 3 kv n xs) : Below v0.heap.size v0 w1 :=
  (hB.trans ((below_al wr ob).mono hB.size)).grown hg (by have := hB.size; simp; omega) (fun k hk => by have := (hown.lt k hk).1; omega)

/-- A shape in a variable: its cells, and what hangs on it. -/
def VarF (w : World) (S : Nat → Prop) (B : Nat) (c : Int) (o : ByteArray) (ks : Fo) (p : Option Addr) (cap : Nat) : Prop :=
  w.cell? ⟨B, 0, none⟩ = some (.int .i64 c) ∧ w.cell? ⟨B, 1, none⟩ = some (.string o) ∧ w.cell? ⟨B, 2, none⟩ = some (.slice p ks.len cap) ∧ KAt w S ks p ks.len cap

def MkP (b : Bool) (c : Int) (o : ByteArray) (ks : Fo) (W : World) (e : Ending) (w : World) : Prop :=
  Below W.heap.size W w ∧ ∃ v, e = .returned v ∧ ((b = true ∧ (∃ T u, v = .iface T u) ∧ EIs w (Lt w.heap.size) c o ks v) ∨ (b = false ∧ v = .nilIface))
theorem mk_any {wr : World} {B : Nat} {c : Int} {o : ByteArray} {ks : Fo} {p : Option Addr} {cap : Nat} (hV : VarF wr (Lt wr.heap.size) B c o ks p cap) (w : World) (hb : Below wr.heap.size wr w) :
    Calls Tryd.prog 8 #[.agg #[.int .i64 c, .string o, .slice p ks.len cap]] w (MkP (mayB c o ks) c o ks w) := by
  have hK := hV.2.2.2.agr (W' := w) (S' := Lt w.heap.size) (fun x hx => hb.block x hx) (fun x hx => Nat.lt_of_lt_of_le hx hb.size)
  cases hm : mayB c o ks with
  | false => exact (make_no c o ks hm w p ks.len cap hK).mono fun e w' ⟨h1, h2⟩ => ⟨h2, _, h1, .inr ⟨rfl, rfl⟩⟩
  | true => exact (make_yes c o ks hm w p ks.len cap hK).mono fun e w' ⟨h1, v, h2, h3⟩ => ⟨h1, v, h2, .inl ⟨rfl, h3.made (okF_of_fits _ _ _ hm), h3.agr (fun _ _ => rfl) (fun x hx => hx.2)⟩⟩
theorem dS_of {wr : World} {B G : Nat} {c c2 : Int} {o o2 : ByteArray} {ks ks2 : Fo} {p p2 : Option Addr} {cap cap2 : Nat} (hB : B < wr.heap.size) (hG : G < wr.heap.size) (hV : VarF wr (Lt wr.heap.size) B c o ks p cap) (hV2 : VarF wr (Lt wr.heap.size) G c2 o2 ks2 p2 cap2) (w' : World) (hb : Below wr.heap.size wr w') :
    w'.cell? ⟨B, 0, none⟩ = some (.int .i64 c) ∧ w'.cell? ⟨B, 1, none⟩ = some (.string o) ∧ w'.cell? ⟨B, 2, none⟩ = some (.slice p ks.len cap) ∧ w'.cell? ⟨G, 0, none⟩ = some (.int .i64 c2) ∧ w'.cell? ⟨G, 1, none⟩ = some (.string o2) ∧ w'.cell? ⟨G, 2, none⟩ = some (.slice p2 ks2.len cap2) ∧ Hid (Below wr.heap.size wr w') :=
  ⟨(cell_blk (hb.block B hB) 0).trans hV.1, (cell_blk (hb.block B hB) 1).trans hV.2.1, (cell_blk (hb.block B hB) 2).trans hV.2.2.1, (cell_blk (hb.block G hG) 0).trans hV2.1, (cell_blk (hb.block G hG) 1).trans hV2.2.1, (cell_blk (hb.block G hG) 2).trans hV2.2.2.1, hb⟩

theorem chF_form (code : Int) (m : Nat) : ∃ c o ks, chF code m = .cons c o ks .nil := by cases m <;> exact ⟨_, _, _, rfl⟩
set_option maxRecDepth 100000 in
set_option maxHeartbeats 1000000 in
theorem deep_in (D J : Nat) (code : Int) (hD : 1 ≤ D) (hD2 : D ≤ 30) (hJ : 1 ≤ J) (hJ2 : J ≤ 60) (hc : 1 ≤ code) (W : World) (hE : Hid (ETy W)) : Calls Tryd.prog 4 #[.int .i64 D, .int .i64 J, .int .i64 code] W (BoolPost true W) := by
  go_enter Tryd.func4, Tryd.ntmps4
  go_wp2_with fail
  go_loopw [8] (fun i wr => ∃ (m k : Nat), Hid (k = m + 1) ∧ k ≤ D ∧ i = .int .i64 k ∧ Hid (Below W.heap.size W wr) ∧ Hid (Own wr W.heap.size 3) ∧ Hid (FRow wr (Oth wr W.heap.size) (chF code m) W.heap.size 0)) (fun i _ => D - (intOf i).toNat)
  case atStart =>
    refine ⟨0, 1, rfl, hD, rfl, below_al _ _, ⟨_, _, heap_alloc_new W _, by simp⟩, ?_⟩
    exact ⟨by simp, by simp, ⟨none, 0, by simp [Fo.len], by simp [Fo.len], by simp [Fo.len], 0, 0, fun h => absurd h (by simp [Fo.len]), trivial⟩, trivial⟩
  case round =>
    obtain ⟨m, k, hk, hkD, rfl, hB, hO, hF⟩ := hrel
    by_cases hlt : k < D
    · obtain ⟨c, o, ks, hch⟩ := chF_form code m
      have hF2 := hF.out
      rw [hch] at hF2
      obtain ⟨q1, q2, ⟨p, cap, q3, q4, q5, b', o', q6, q7⟩, _⟩ := hF2
      obtain ⟨x0, x1, x2, f0, f1, f2, z0, z1, z2⟩ := own3 hO.out
      simp only [Nat.zero_add] at q1 q2 q3
      have Q6 := Lib.hid q6
      have Q7 := Lib.hid q7
      have HCH := Lib.hid hch
      clear f0 f1 f2 q6 q7 hch
      have hNs := hO.out.lt
      obtain ⟨s1, s2, s3⟩ := deep_step hO.out HCH.out q4 q5 Q6.out Q7.out _ rfl
      have S1 := Lib.hid s1
      have S2 := Lib.hid s2
      have S3 := Lib.hid s3
      clear s1 s2 s3
      go_wp2_with fail
      go_roundw
      case rel => exact ⟨m + 1, k + 1, by have := hk.out; show _ = _; omega, by omega, by go_num, hB.out.trans S1.out, S2.out, S3.out⟩
      case measure => simp [intOf]; omega
    · obtain rfl : k = D := by omega
      obtain ⟨c, o, ks, hch⟩ := chF_form code m
      have hF2 := hF.out
      rw [hch] at hF2
      obtain ⟨q1, q2, ⟨p, cap, q3, q4, q5, b', o', q6, q7⟩, _⟩ := hF2
      have hNs := hO.out.lt
      have HVf : Hid (VarF wr (Lt wr.heap.size) W.heap.size c o ks p cap) := ⟨q1, q2, q3, rfl, q4, q5, b', o', fun hp => (q6 hp).1, fun hp => (q6 hp).2.1, FRow.agr (fun _ _ => rfl) (fun x hx => hx.1) ks b' o' (fun _ _ => rfl) q7⟩
      have HCH := Lib.hid hch
      clear q1 q2 q3 q4 q5 q6 q7 hch
      have HMa : Hid (mayB c o ks = decide (k ≤ 20)) := by
        show (fitsF (.cons c o ks .nil) 20 50).1 = _
        rw [← HCH.out, fits_ch code (by omega) m 20 50 (by omega) (by have := hk.out; omega), Bool.eq_iff_iff]
        have := hk.out
        simp; omega
      have HHa : Hid (hasF code (.cons c o ks .nil) = true) := by show _ = _; rw [← HCH.out]; exact has_ch code (by omega) m
      clear hO hF hk
      obtain ⟨v0, hv0⟩ : ∃ v0, v0 = wr := ⟨wr, rfl⟩
      subst hv0
      obtain ⟨i0, hi, hz0, hz1, hz2⟩ := info_parts Tryd.info27
      go_wp2_with fail
      go_loopw [10] (fun i w2 => ∃ (j : Nat) (kv : Value), j ≤ J ∧ i = .int .i64 j ∧ Hid (Below v0.heap.size v0 w2) ∧ Hid (Own w2 v0.heap.size 3) ∧ w2.cell? ⟨v0.heap.size, 0, none⟩ = some (.int .i64 0) ∧ w2.cell? ⟨v0.heap.size, 1, none⟩ = some (.string ⟨#[119]⟩) ∧ w2.cell? ⟨v0.heap.size, 2, none⟩ = some kv ∧ w2.ownsRow (v0.heap.size + 1) 27 3 kv j (wL j) ∧ v0.heap.size < w2.heap.size) (fun i _ => J - (intOf i).toNat)
      case atStart =>
        exact ⟨0, .slice none 0 0, by omega, rfl, below_al _ _, ⟨_, _, heap_alloc_new v0 _, by simp⟩, by simp, by simp, by simp, World.ownsRow_nil _ _ _ _, by simp⟩
      case round =>
        obtain ⟨j, kv, hj, rfl, hB2, hO2, g0, g1, g2, hown, hG⟩ := hrel
        obtain ⟨kp, kc, rfl, hkc, kb, hkb, hcc⟩ := own_slice3 hown
        by_cases hlt2 : j < J
        · have hfr := hO2.out.frz 2
          have hkb2 := Lib.hid hkb
          have hcc2 := Lib.hid hcc
          clear hkb hcc
          go_wp2_with (at_builtin; go_loud (refine wpList_append_own _ rfl _ _ 25 rfl (v0.heap.size + 1) 27 i0 (.agg #[.int .i64 0, .string ⟨#[]⟩, .slice none 0 0]) 3 48 Tryd.underlying25 hi hz0 hz1 hz2 rfl (by decide) _ _ _ rfl (hown.alloc _) ⟨wr.heap.size, 0, none⟩ 1 1 [.int .i64 ((j : Int) + 1), .string ⟨#[]⟩, .slice none 0 0] rfl rfl (World.news_of_block (cs := #[.int .i64 ((j : Int) + 1), .string ⟨#[]⟩, .slice none 0 0]) (t := 27) (fr := (0, 0)) (heap_alloc_new wr _)) (by intro u hu; simp at hu; rcases hu with rfl | rfl | rfl <;> rfl) (by unfold maxLen; omega) (by omega) (by simp; omega) ?_; intro v' w1 hown1 hgrow1 _; have eG := dw_grow (kv := .slice kp j kc) hgrow1 hown hG; have r0 := (cell_blk eG 0).trans g0; have r1 := (cell_blk eG 1).trans g1; have r2 := (cell_blk eG 2).trans g2; have hO3 := hO2.out.eq eG; have rz := hO3.frz 2; have HO3 := Lib.hid hO3; have HB3 := Lib.hid (dw_below (kv := .slice kp j kc) hB2.out hgrow1 hown); have hG3 := hO3.lt; obtain ⟨p1, c1, rfl, hpc1, _⟩ := own_slice3 hown1; have HW := Lib.hid hown1; clear hown1 hgrow1 hown g0 g1 g2 eG hO3))
          go_roundw
          case rel =>
            refine ⟨j + 1, .slice p1 (j + 1) c1, by omega, by go_num, HB3.out.setCell (p := ⟨v0.heap.size, 2, none⟩) (Nat.le_refl _) _, HO3.out.set _ _, ?_, ?_, ?_, ?_, ?_⟩
            · rw [cell_set_other (.inr (by omega))]; exact r0
            · rw [cell_set_other (.inr (by omega))]; exact r1
            · exact cell_set_same HO3.out (by omega)
            · exact ownsRow_setCell_below HW.out (by show v0.heap.size < _; omega) _
            · rw [size_set]; exact hG3
          case measure => simp [intOf]; omega
        · obtain rfl : j = J := by omega
          obtain ⟨hkb1, hkb2, hkb3⟩ := hkb (by omega)
          subst hkb1
          have HVg : Hid (VarF wr (Lt wr.heap.size) v0.heap.size 0 ⟨#[119]⟩ (wF j) (some ⟨kb, 0, none⟩) kc) := ⟨g0, g1, by rw [wF_len]; exact g2, rfl, by rw [wF_len]; exact hkc, by rw [wF_len]; omega, kb, 0, fun _ => rfl, fun _ => hkb2, wrow j hcc⟩
          have HVf2 : Hid (VarF wr (Lt wr.heap.size) W.heap.size c o ks p cap) := ⟨(cell_blk (hB2.out.block _ hNs) 0).trans HVf.out.1, (cell_blk (hB2.out.block _ hNs) 1).trans HVf.out.2.1, (cell_blk (hB2.out.block _ hNs) 2).trans HVf.out.2.2.1, HVf.out.2.2.2.agr (fun x hx => hB2.out.block x hx) (fun x hx => Nat.lt_of_lt_of_le hx hB2.out.size)⟩
          have HBw := Lib.hid (hB.out.trans (hB2.out.mono hB.out.size))
          have hNw : W.heap.size < wr.heap.size := by omega
          have HZ : Hid (Below wr.heap.size wr wr) := Below.refl _ _
          have HDS := Lib.hid (dS_of hNw hG HVf2.out HVg.out)
          have HA := Lib.hid (mk_any HVf2.out)
          have HG := Lib.hid (mk_any HVg.out)
          have hMb := may_w j (by omega)
          have HMb : Hid (mayB 0 ⟨#[119]⟩ (wF j) = decide (j ≤ 49)) := hMb
          have hwl := wF_len j
          rw [hwl] at HG HDS
          have HHb : Hid (hasF (j : Int) (.cons 0 ⟨#[119]⟩ (wF j) .nil) = true) := by show _ = _; simp [hasF]; exact has_w j (by omega)
          clear hkb3 hcc hown HVf hB2 hO2 g0 g1 g2 hMb hwl HVf2 HVg
          go_wp2_with fail
          go_region_held3 (fun w' => w'.cell? ⟨W.heap.size, 0, none⟩ = some (.int .i64 c) ∧ w'.cell? ⟨W.heap.size, 1, none⟩ = some (.string o) ∧ w'.cell? ⟨W.heap.size, 2, none⟩ = some (.slice p ks.len cap) ∧ w'.cell? ⟨v0.heap.size, 0, none⟩ = some (.int .i64 0) ∧ w'.cell? ⟨v0.heap.size, 1, none⟩ = some (.string ⟨#[119]⟩) ∧ w'.cell? ⟨v0.heap.size, 2, none⟩ = some (.slice (some ⟨kb, 0, none⟩) j kc) ∧ Hid (Below wr.heap.size wr w'))
            (first
              | exact HDS.out _ (Below.drew HZ.out)
              | exact HDS.out _ ((Below.drew HZ.out).trans (hb'.mono (Nat.le_refl _)))
              | exact HDS.out _ (((Below.drew HZ.out).trans (hb'.mono (Nat.le_refl _))).trans (hb2.mono hb'.size)))
            (first
              | (go_at_call 8; (with_reducible refine (HA.out _ (Below.drew HZ.out)).mono ?_); rintro e w' ⟨hb', va, rfl, ka⟩; have KA := Lib.hid ka; clear ka)
              | (go_at_call 8; (with_reducible refine (HG.out _ ((Below.drew HZ.out).trans (hb'.mono (Nat.le_refl _)))).mono ?_); rintro e w'' ⟨hb2, vg, rfl, kg⟩; have KG := Lib.hid kg; clear kg))
          have HB2 : Hid (Below W.heap.size W w'') := HBw.out.trans ((((Below.drew HZ.out).trans (hb'.mono (Nat.le_refl _))).trans (hb2.mono hb'.size)).mono HBw.out.size)
          have hb2s : Hid (Below w'.heap.size w' w'') := hb2
          clear hb' hb2
          by_cases h20 : k ≤ 20
          · obtain ⟨⟨vT, vu, rfl⟩, EA⟩ : (∃ T u, va = .iface T u) ∧ Hid (EIs w' (Lt w'.heap.size) c o ks va) := by
              rcases KA.out with ⟨_, h1, h2⟩ | ⟨h1, _⟩
              · exact ⟨h1, h2⟩
              · rw [HMa.out, decide_eq_true h20] at h1; cases h1
            have EA2 := Lib.hid (EA.out.later hb2s.out)
            have hMa2 : mayB c o ks = true := by rw [HMa.out]; exact decide_eq_true h20
            have HCa := has_any code c o ks hMa2 w'' _ EA2.out
            rw [HHa.out] at HCa
            have HCA := Lib.hid HCa
            clear HCa hMa2
            by_cases h49 : j ≤ 49
            · obtain ⟨⟨vT2, vu2, rfl⟩, EG⟩ : (∃ T u, vg = .iface T u) ∧ Hid (EIs w'' (Lt w''.heap.size) 0 ⟨#[119]⟩ (wF j) vg) := by
                rcases KG.out with ⟨_, h1, h2⟩ | ⟨h1, _⟩
                · exact ⟨h1, h2⟩
                · rw [HMb.out, decide_eq_true h49] at h1; cases h1
              have hMb2 : mayB 0 ⟨#[119]⟩ (wF j) = true := by rw [HMb.out]; exact decide_eq_true h49
              have HCg := fun w3 hE => has_any (j : Int) 0 ⟨#[119]⟩ (wF j) hMb2 w3 (.iface vT2 vu2) hE
              rw [HHb.out] at HCg
              have HCG := Lib.hid HCg
              clear hMb2 HCg
              go_wp2_with fail
              refine HCA.out.mono ?_
              rintro e w3 ⟨rfl, hb⟩
              have HC2 := Lib.hid (HCG.out w3 (EG.out.later hb))
              have HB3 := Lib.hid (HB2.out.trans (hb.mono HB2.out.size))
              clear hb
              go_wp2_with fail
              refine HC2.out.mono ?_
              rintro e w4 ⟨rfl, hb⟩
              have HB4 := Lib.hid (HB3.out.trans (hb.mono HB3.out.size))
              clear hb
              go_wp2_with fail
              refine (awake_any w4 (hE.out.below HB4.out)).mono ?_
              rintro e w5 ⟨rfl, hb⟩
              have HB5 := Lib.hid (HB4.out.trans (hb.mono HB4.out.size))
              clear hb
              go_wp2_with fail
              go_ret
              exact ⟨ret_bool (by first | rfl | (simp; omega)), HB5.out⟩
            · obtain rfl : vg = .nilIface := by
                rcases KG.out with ⟨h1, _⟩ | ⟨_, h1⟩
                · rw [HMb.out, decide_eq_false h49] at h1; cases h1
                · exact h1
              go_wp2_with fail
              refine HCA.out.mono ?_
              rintro e w3 ⟨rfl, hb⟩
              have HC2 := Lib.hid (has_of (j : Int) .nilIface w3 false (gois_nil (j : Int) w3))
              have HB3 := Lib.hid (HB2.out.trans (hb.mono HB2.out.size))
              clear hb
              go_wp2_with fail
              refine HC2.out.mono ?_
              rintro e w4 ⟨rfl, hb⟩
              have HB4 := Lib.hid (HB3.out.trans (hb.mono HB3.out.size))
              clear hb
              go_wp2_with fail
              refine (awake_any w4 (hE.out.below HB4.out)).mono ?_
              rintro e w5 ⟨rfl, hb⟩
              have HB5 := Lib.hid (HB4.out.trans (hb.mono HB4.out.size))
              clear hb
              go_wp2_with fail
              go_ret
              exact ⟨ret_bool (by first | rfl | (simp; omega)), HB5.out⟩
          · obtain rfl : va = .nilIface := by
              rcases KA.out with ⟨h1, _⟩ | ⟨_, h1⟩
              · rw [HMa.out, decide_eq_false h20] at h1; cases h1
              · exact h1
            have HCA := Lib.hid (has_of code .nilIface w'' false (gois_nil code w''))
            by_cases h49 : j ≤ 49
            · obtain ⟨⟨vT2, vu2, rfl⟩, EG⟩ : (∃ T u, vg = .iface T u) ∧ Hid (EIs w'' (Lt w''.heap.size) 0 ⟨#[119]⟩ (wF j) vg) := by
                rcases KG.out with ⟨_, h1, h2⟩ | ⟨h1, _⟩
                · exact ⟨h1, h2⟩
                · rw [HMb.out, decide_eq_true h49] at h1; cases h1
              have hMb2 : mayB 0 ⟨#[119]⟩ (wF j) = true := by rw [HMb.out]; exact decide_eq_true h49
              have HCg := fun w3 hE => has_any (j : Int) 0 ⟨#[119]⟩ (wF j) hMb2 w3 (.iface vT2 vu2) hE
              rw [HHb.out] at HCg
              have HCG := Lib.hid HCg
              clear hMb2 HCg
              go_wp2_with fail
              refine HCA.out.mono ?_
              rintro e w3 ⟨rfl, hb⟩
              have HC2 := Lib.hid (HCG.out w3 (EG.out.later hb))
              have HB3 := Lib.hid (HB2.out.trans (hb.mono HB2.out.size))
              clear hb
              go_wp2_with fail
              refine HC2.out.mono ?_
              rintro e w4 ⟨rfl, hb⟩
              have HB4 := Lib.hid (HB3.out.trans (hb.mono HB3.out.size))
              clear hb
              go_wp2_with fail
              refine (awake_any w4 (hE.out.below HB4.out)).mono ?_
              rintro e w5 ⟨rfl, hb⟩
              have HB5 := Lib.hid (HB4.out.trans (hb.mono HB4.out.size))
              clear hb
              go_wp2_with fail
              go_ret
              exact ⟨ret_bool (by first | rfl | (simp; omega)), HB5.out⟩
            · obtain rfl : vg = .nilIface := by
                rcases KG.out with ⟨h1, _⟩ | ⟨_, h1⟩
                · rw [HMb.out, decide_eq_false h49] at h1; cases h1
                · exact h1
              go_wp2_with fail
              refine HCA.out.mono ?_
              rintro e w3 ⟨rfl, hb⟩
              have HC2 := Lib.hid (has_of (j : Int) .nilIface w3 false (gois_nil (j : Int) w3))
              have HB3 := Lib.hid (HB2.out.trans (hb.mono HB2.out.size))
              clear hb
              go_wp2_with fail
              refine HC2.out.mono ?_
              rintro e w4 ⟨rfl, hb⟩
              have HB4 := Lib.hid (HB3.out.trans (hb.mono HB3.out.size))
              clear hb
              go_wp2_with fail
              refine (awake_any w4 (hE.out.below HB4.out)).mono ?_
              rintro e w5 ⟨rfl, hb⟩
              have HB5 := Lib.hid (HB4.out.trans (hb.mono HB4.out.size))
              clear hb
              go_wp2_with fail
              go_ret
              exact ⟨ret_bool (by first | rfl | (simp; omega)), HB5.out⟩
#print axioms deep_in
end Go.Proofs.YtbdicgnmaonjgaaDoor
