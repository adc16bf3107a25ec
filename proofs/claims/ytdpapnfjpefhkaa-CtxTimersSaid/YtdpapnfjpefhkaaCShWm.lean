/- shut walked; Close, End. Conditions: each theorem's own premises.
Recv receives. Conditions: each theorem's own premises.
Close, End; every call on no channel. Conditions: each theorem's own premises. -/
import Derived.Test.YtdpapnfjpefhkaaCAllm
import Derived.Test.YtdpapnfjpefhkaaCGvm
namespace Go.Proofs.Ytdpapnfjpefhkaa.Ch
open Go.RowKit
set_option linter.unusedVariables false
set_option maxRecDepth 100000

theorem ix0 (w : World) : (Instr.index 200 (.agg #[.bool false, .bool true]) (.int .i64 0)).run Try.prog w = .ok (.bool false) w := by kernel_rfl
theorem ix1 (w : World) : (Instr.index 200 (.agg #[.bool false, .bool true]) (.int .i64 1)).run Try.prog w = .ok (.bool true) w := by kernel_rfl
theorem inf45 : (Try.prog.info? 67).map (fun i => (i.zero, i.size, i.bytes)) = some (some (.agg #[.int .i64 0, .int .i64 0, .int .i64 0, .bool false, .bool false]), 5, 32) := by kernel_rfl
def hdW : List Wt → Wt
  | [] => ⟨0, 0, 0⟩
  | x :: _ => x
def ne : List Wt → Bool
  | [] => false
  | _ :: _ => true
theorem ne_nil : ne [] = false := rfl
theorem ne_cons (x : Wt) (r : List Wt) : ne (x :: r) = true := rfl
/-- The state at the inner loop: l is left, its first one is taken out and lies in block g. -/
structure SI (W : World) (F : Nat → Prop) (c b : Nat) (s : CS) (sd : Bool) (v : Value) (acc : List Wk) (g : Nat) (l : List Wt) (w : World) : Prop where
  x : SX W F c b v acc (acc.map (·.t)) (sS s sd l.tail) w
  pf : PF s sd acc l
  hg : w.heap[g]? = some (.cells #[.int .i64 (hdW l).t, .int .i64 (hdW l).c, .int .i64 (hdW l).v] 65 (0, 0))
  wf : ∀ y ∈ l, Wf y.t
/-- The state at the outer loop. -/
structure SO (W : World) (F : Nat → Prop) (c b : Nat) (s : CS) (sd : Bool) (v : Value) (acc : List Wk) (l : List Wt) (w : World) : Prop where
  x : SX W F c b v acc (acc.map (·.t)) (sS s sd l) w
  pf : PF s sd acc l
  wf : ∀ y ∈ l, Wf y.t
section
variable {W w w' : World} {F : Nat → Prop} {c b g : Nat} {s : CS} {sd : Bool} {v : Value} {acc : List Wk} {l : List Wt}
theorem ch_pop_any (h : SX W F c b v acc (acc.map (·.t)) (sS s sd l) w) (hn : l.length ≤ 1000000) : Calls Try.prog 75 #[.pointer (some ⟨c, off sd, none⟩)] w fun e w' => e = .returned (.tuple #[wG (hdW l), .bool (ne l)]) ∧ SX W F c b v acc (acc.map (·.t)) (sS s sd l.tail) w' ∧ ∀ (k : Nat) (cs : Array Value), w.heap[k]? = some (.cells cs 65 (0, 0)) → w'.heap[k]? = some (.cells cs 65 (0, 0)) := by
  obtain ⟨F', hc, back⟩ := h.at
  have hk : ∀ st' w', Go F' c st' w w' → ∀ (k : Nat) (cs : Array Value), w.heap[k]? = some (.cells cs 65 (0, 0)) → w'.heap[k]? = some (.cells cs 65 (0, 0)) := fun st' w' g k cs hk => (g.other hc (lt_of_blk hk) (not_isc hk (by decide))).trans hk
  cases l with
  | nil =>
    refine (ch_pop_none hc sd (sS_q s sd [])).mono ?_
    rintro e w' ⟨rfl, g⟩
    exact ⟨rfl, back _ _ g, hk _ _ g⟩
  | cons x r =>
    refine (ch_pop_some hc sd (sS_q s sd (x :: r)) (by simp at hn; omega)).mono ?_
    rintro e w' ⟨rfl, g⟩
    rw [sS_sq] at g
    exact ⟨rfl, back _ _ g, hk _ _ g⟩
/-- A cell of another block is written. -/
theorem SX.set30 {ks : List Int} {st : CS} {cs : Array Value} {i : Nat} (h : SX W F c b v acc ks st w) (hg : w.heap[g]? = some (.cells cs 65 (0, 0))) (hW : W.heap.size ≤ g) (u : Value) : SX W F c b v acc ks st (w.setCell ⟨g, i, none⟩ u) := by
  obtain ⟨F', hc, hs, tn⟩ := h.go
  have k : ∀ k, k ≠ g → (w.setCell ⟨g, i, none⟩ u).heap[k]? = w.heap[k]? := fun k hk => Below.heap_setCell _ _ _ _ hk
  refine ⟨⟨F', hc.keep fun q hq => k q ?_, hs, tn.set (.inr hW) _⟩, h.hb, h.m.keep (k b (h.m.ne hg).symm), own_keep h.row fun q ds hq => k q (tag_ne hq hg (by decide))⟩
  rintro rfl; exact not_isc hg (by decide) (hc.tag hq)
theorem SX.add {st : CS} {v' : Value} {k : Wk} (h : SX W F c b v acc (acc.map (·.t) ++ [k.t]) st w) (hg : w.grownBy w' v.ownBlock) (ho : w'.ownsRow W.heap.size 67 5 v' (acc.length + 1) (flK acc ++ flK [k])) : SX W F c b v' (acc ++ [k]) ((acc ++ [k]).map (·.t)) st w' := by
  rw [List.map_append]
  exact h.grow hg (by rw [List.length_append, flK_app]; exact ho)
theorem SI.next {a0 a1 a2 : Value} {r : List Wt} (x : SX W F c b v acc (acc.map (·.t)) (sS s sd r.tail) w) (pf : PF s sd acc r) (wf : ∀ y ∈ r, Wf y.t) (hg : w.heap[g]? = some (.cells #[a0, a1, a2] 65 (0, 0))) (hW : W.heap.size ≤ g) :
    SI W F c b s sd v acc g r (((w.setCell ⟨g, 0, none⟩ (.int .i64 (hdW r).t)).setCell ⟨g, 1, none⟩ (.int .i64 (hdW r).c)).setCell ⟨g, 2, none⟩ (.int .i64 (hdW r).v)) := by
  have h1 := heap_setCell_same w g 0 _ _ (.int .i64 (hdW r).t) hg
  have h2 := heap_setCell_same _ g 1 _ _ (.int .i64 (hdW r).c) h1
  have h3 := heap_setCell_same _ g 2 _ _ (.int .i64 (hdW r).v) h2
  exact ⟨((x.set30 hg hW _).set30 h1 hW _).set30 h2 hW _, pf, h3, wf⟩
theorem SX.keepG {ks : List Int} {st st' : CS} {cs : Array Value} (h : SX W F c b v acc ks st w) (hg : w.heap[g]? = some (.cells cs 65 (0, 0))) {F' : Nat → Prop} (hc : CH w F' c st) (k : Go F' c st' w w') : w'.heap[g]? = some (.cells cs 65 (0, 0)) := (k.other hc (lt_of_blk hg) (not_isc hg (by decide))).trans hg
end
theorem shp_len : ∀ (l : List Wt) (acc : List Wk) (p : Bool), (shp acc l p).length ≤ acc.length + l.length
  | [], acc, p => by simp [shp]
  | x :: r, acc, p => by
    have := shp_len r (one acc x p) p
    have h2 : (one acc x p).length ≤ acc.length + 1 := by unfold one; split <;> simp
    simp only [shp, List.length_cons]
    omega
theorem tot_len (s : CS) : (tot s).length ≤ s.rs.length + s.ss.length := by
  unfold tot
  have h1 := shp_len s.rs [] false
  have h2 := shp_len s.ss (shp [] s.rs false) true
  simp at h1
  omega
def done (s : CS) : CS := { s with cl := true, ss := [], rs := [] }
def ShR (F : Nat → Prop) (c : Nat) (s : CS) (w : World) (e : Ending) (w' : World) : Prop :=
  ∃ A cap, e = .returned (.slice A (tot s).length cap) ∧ RdK w' A (tot s).length (tot s) ∧ Go F c (done s) w w'
theorem Kd.one (w : World) (x : Wk) (N : Nat) (h : N = w.heap.size) : Rd (w.alloc (.cells (kA x) 67)) (w.alloc (.cells (kA x) 67)).heap.size (some ⟨N, 0, none⟩) 1 5 (flK [x]) := by
  subst h
  exact Rd.new w (kA x) 1 5 67 rfl
def oS (s : CS) : Nat → Bool × List Wt
  | 0 => (false, s.rs)
  | 1 => (true, s.ss)
  | _ => (true, [])
set_option maxHeartbeats 4000000 in
set_option maxRecDepth 100000 in
theorem shut_any {w : World} {F : Nat → Prop} {c : Nat} {s : CS} (h : CH w F c s) (hn : s.ss.length ≤ 1000000) (hm : s.rs.length ≤ 1000000) : Calls Try.prog 82 #[.pointer (some ⟨c, 0, none⟩)] w (ShR F c s w) := by
  obtain ⟨i0, hi, hz0, hz1, hz2⟩ := info_parts inf45
  have hwf1 := Lib.hid (h.wf true)
  have hwf2 := Lib.hid (h.wf false)
  have c1 := h.c1
  have f1 := h.fz 1
  have g1 : Go F c (sS s false s.rs) w (w.setCell ⟨c, 1, none⟩ (.bool true)) := by
    obtain ⟨ro, ns, ms, hF, hx⟩ := h
    exact ⟨_, ⟨ro, ns, ms, hF, hx.shut⟩, fun b hb => .inl hb, (Tn.refl F w).set (.inl ((hF c).2 (.inl rfl))) _⟩
  have HS0 : Hid (SO w F c w.heap.size s false (.slice none 0 0) [] s.rs ((w.setCell ⟨c, 1, none⟩ (.bool true)).alloc (.map #[] 0))) := by
    have hsz : (w.setCell ⟨c, 1, none⟩ (.bool true)).heap.size = w.heap.size := size_set _ _ _
    refine ⟨⟨g1.later (below_al _ _), Nat.le_refl _, ?_, World.ownsRow_nil _ _ _ _⟩, ⟨rfl, by simp [oB]⟩, hwf2.out⟩
    rw [← hsz]; exact Wm.new _
  have hcs := h.lt h.has
  try rw [World.setCell_alloc_past _ _ _ _ (by first | omega | (simp; omega))] at HS0
  clear h g1
  have hmm := @run_makeMap Try.prog
  have hx0 := ix0
  have hx1 := ix1
  go_enter Try.func82, Try.ntmps82
  go_wp2_with fail
  go_loopw [3, 17] (fun v i wr => ∃ (k : Nat) (acc : List Wk), k ≤ 2 ∧ i = .int .i64 k ∧ Hid (SO w F c w.heap.size s (oS s k).1 v acc (oS s k).2 wr)) (fun _ i _ => 2 - (intOf i).toNat)
  case atStart => exact ⟨0, [], by omega, rfl, HS0⟩
  case round =>
    obtain ⟨k, acc, hk, rfl, hS⟩ := hrel
    clear HS0
    obtain rfl | rfl | rfl : k = 0 ∨ k = 1 ∨ k = 2 := by omega
    · simp only [oS] at hS

      have hlL : Hid (s.rs.length ≤ 1000000) := hm
      have SX0 := Lib.hid hS.out
      obtain ⟨F', hc, hbk⟩ := SX0.out.x.at
      have HL := Lib.hid (ch_line hc false)
      clear hc hS hbk
      go_wp2_with fail
      refine HL.out.mono ?_
      rintro e w' ⟨rfl, rfl⟩
      clear HL
      go_wp2_with fail
      refine (ch_pop_any SX0.out.x hlL.out).mono ?_
      rintro e w2 ⟨rfl, x2, _⟩
      have SI0 : Hid (SI w F c w.heap.size s false u3 acc w2.heap.size s.rs (w2.alloc (.cells #[.int .i64 (hdW s.rs).t, .int .i64 (hdW s.rs).c, .int .i64 (hdW s.rs).v] 65))) := ⟨x2.alloc _, SX0.out.pf, heap_alloc_new _ _, SX0.out.wf⟩
      clear x2 SX0
      unfold wG
      go_wp2_with fail
      go_loopg [3, 8, 9] s.rs.length (fun m v p o wr => ∃ (acc : List Wk) (g : Nat) (l : List Wt), p = .pointer (some ⟨g, 0, none⟩) ∧ o = .bool (ne l) ∧ l.length = m ∧ l.length ≤ 1000000 ∧ Hid (SI w F c w.heap.size s false v acc g l wr))
      case atStart => exact ⟨acc, _, s.rs, rfl, rfl, rfl, hlL.out, SI0⟩
      case round =>
        clear SI0 hlL
        obtain ⟨acc1, g, l, rfl, rfl, hm1, hl1, hS⟩ := hrel
        cases l with
        | nil =>
          have HO : Hid (SO w F c w.heap.size s (oS s 1).1 u3 acc1 (oS s 1).2 wr) := ⟨hS.out.x, ⟨hS.out.pf.e, by have := hS.out.pf.b; simp [oB, oS] at this ⊢; omega⟩, hwf1.out⟩
          clear hS hm1
          rw [ne_nil]
          go_wp2_with fail
          go_roundw
          case rel => exact ⟨1, acc1, by omega, by go_num, HO⟩
          case measure => simp [intOf]
        | cons x r =>
          have hb := hS.out.hg
          have hW : Hid (w.heap.size ≤ wr.heap.size) := by obtain ⟨_, _, _, t⟩ := hS.out.x.go; exact t.size
          have c0 := cell_of_row wr g 0 _ _ _ hb
          have c1 := cell_of_row wr g 1 _ _ _ hb
          have c2 := cell_of_row wr g 2 _ _ _ hb
          simp only [List.getElem?_toArray, List.getElem?_cons_succ, List.getElem?_cons_zero, hdW] at c0 c1 c2
          have hgs := lt_of_blk hb
          have HWF := Lib.hid (hS.out.wf x (by simp))
          have hlk := (hS.out.x.m).look HWF.out
          have HM := Lib.hid hm1
          have HR : Hid (r.length ≤ 1000000) := by simp at hl1; show _ ≤ _; omega
          have HWR : Hid (∀ y ∈ r, Wf y.t) := fun y hy => hS.out.wf y (List.mem_cons_of_mem _ hy)
          rw [ne_cons]
          clear hm1 hl1
          by_cases hin : x.t ∈ acc1.map (·.t)
          · rw [decide_eq_true hin] at hlk
            have HP := Lib.hid (hS.out.pf.skip hin)
            have HX : Hid (SX w F c w.heap.size u3 acc1 (acc1.map (·.t)) (sS s false r) ((wr.alloc (.cells #[] 201)).alloc (.cells #[.int .i64 x.t, .int .i64 x.c, .int .i64 x.v] 65))) := ((show SX w F c w.heap.size u3 acc1 (acc1.map (·.t)) (sS s false r) wr from hS.out.x).alloc _).alloc _
            have HG : Hid (((wr.alloc (.cells #[] 201)).alloc (.cells #[.int .i64 x.t, .int .i64 x.c, .int .i64 x.v] 65)).heap[wr.heap.size + 1]? = some (.cells #[.int .i64 x.t, .int .i64 x.c, .int .i64 x.v] 65 (0, 0))) := by
              have := heap_alloc_new (wr.alloc (.cells #[] 201)) (.cells #[.int .i64 x.t, .int .i64 x.c, .int .i64 x.v] 65)
              rw [World.size_alloc] at this
              exact this
            clear hb hS hin
            go_wp2_with fail
            refine (ch_pop_any HX.out HR.out).mono ?_
            rintro e w3 ⟨rfl, x3, hk3⟩
            have hg3 := hk3 _ _ HG.out
            have d0 := cell_of_row w3 (wr.heap.size + 1) 0 _ _ _ hg3
            have d1 := cell_of_row w3 (wr.heap.size + 1) 1 _ _ _ hg3
            have d2 := cell_of_row w3 (wr.heap.size + 1) 2 _ _ _ hg3
            simp only [List.getElem?_toArray, List.getElem?_cons_succ, List.getElem?_cons_zero] at d0 d1 d2
            have e0 := frozen_of_row w3 (wr.heap.size + 1) 0 _ _ hg3
            have e1 := frozen_of_row w3 (wr.heap.size + 1) 1 _ _ hg3
            have e2 := frozen_of_row w3 (wr.heap.size + 1) 2 _ _ hg3
            have HI := Lib.hid (SI.next x3 HP.out HWR.out hg3 (Nat.le_succ_of_le hW.out))
            clear x3 hk3 hg3 HX HG HP hlk c0 c1 c2
            unfold wG
            go_wp2_with fail
            go_roundg r.length
            case measure => have := HM.out; simp at this; omega
            case rel => exact ⟨acc1, _, r, rfl, rfl, rfl, HR.out, HI⟩
          · rw [decide_eq_false hin] at hlk
            have HP := Lib.hid (hS.out.pf.add hin)
            have hbd := HP.out.b
            simp only [List.length_append, List.length_singleton] at hbd
            have hacc : Hid (acc1.length ≤ 2000000) := by show _ ≤ _; omega
            have HX : Hid (SX w F c w.heap.size u3 acc1 (acc1.map (·.t)) (sS s false r) (wr.alloc (.cells #[] 201))) := (show SX w F c w.heap.size u3 acc1 (acc1.map (·.t)) (sS s false r) wr from hS.out.x).alloc _
            have HG : Hid ((wr.alloc (.cells #[] 201)).heap[g]? = some (.cells #[.int .i64 x.t, .int .i64 x.c, .int .i64 x.v] 65 (0, 0))) := ((below_al wr (.cells #[] 201)).block g hgs).trans hb
            have HIN := Lib.hid hin
            have hbs := HX.out.m.lt
            clear hb hS hin hbd
            go_wp2_with (first
              | (at_mapUpdate; go_loud (refine wp_store rfl (.tmp 42) (.tmp 44) (.tmp 45) rfl HX.out.m HWF.out (by have := hacc.out; unfold maxLen; simp; omega) HIN.out rfl rfl (by first | rfl | (simp; done)) ?_; intro wS ht tm; have hgS : wS.heap[g]? = some (.cells #[.int .i64 x.t, .int .i64 x.c, .int .i64 x.v] 65 (0, 0)) := (ht.2.2.2.2 g (HX.out.m.ne HG.out)).trans HG.out; have s0 := cell_of_row wS g 0 _ _ _ hgS; have s1 := cell_of_row wS g 1 _ _ _ hgS; simp only [List.getElem?_toArray, List.getElem?_cons_succ, List.getElem?_cons_zero] at s0 s1; have hgl := lt_of_blk hgS; have HSS : Hid (wS.heap.size = wr.heap.size + 1) := (ht.2.2.2.1.trans (by simp)); have XS := Lib.hid (HX.out.store ht tm); have HGS := Lib.hid hgS; have HWS : Hid (w.heap.size ≤ wS.heap.size) := (by show _ ≤ _; rw [HSS.out]; exact Nat.le_succ_of_le hW.out); clear ht tm hgS hlk c0 c1 c2))
              | (at_builtin; go_loud (refine app_wp rfl (.tmp 46) (.tmp 53) 39 rfl w.heap.size 67 5 32 i0 (.agg #[.int .i64 0, .int .i64 0, .int .i64 0, .bool false, .bool false]) Try.underlying39 hi hz0 hz1 hz2 rfl (by decide) u3 acc1.length (flK acc1) rfl (XS.out.row.alloc _) _ (some ⟨wS.heap.size, 0, none⟩) 1 1 (flK [⟨x.t, x.c, 0, false, false⟩]) rfl (Kd.one wS ⟨x.t, x.c, 0, false, false⟩ _ rfl) (flK_one _) (by have := hacc.out; unfold maxLen; omega) (by have := hacc.out; omega) (by have := HWS.out; simp; omega) ?_; intro v1 w4 ho4 hg4; have hb4 : w4.heap[g]? = some (.cells #[.int .i64 x.t, .int .i64 x.c, .int .i64 x.v] 65 (0, 0)) := (grow_blk (XS.out.row.alloc _) hg4 (((below_al wS _).block g (lt_of_blk HGS.out)).trans HGS.out) (by decide)).trans (((below_al wS _).block g (lt_of_blk HGS.out)).trans HGS.out); have c0 := cell_of_row w4 g 0 _ _ _ hb4; have c1 := cell_of_row w4 g 1 _ _ _ hb4; have c2 := cell_of_row w4 g 2 _ _ _ hb4; simp only [List.getElem?_toArray, List.getElem?_cons_succ, List.getElem?_cons_zero] at c0 c1 c2; have hgl4 := lt_of_blk hb4; have XA := Lib.hid (SX.add (k := ⟨x.t, x.c, 0, false, false⟩) (XS.out.alloc _) hg4 ho4); have HW4 : Hid (w.heap.size ≤ w4.heap.size) := (by obtain ⟨_, _, _, t⟩ := XA.out.go; exact t.size); clear ho4 hg4 hb4 s0 s1 hgl)))
            have HX4 := Lib.hid (XA.out.alloc (.cells #[.int .i64 x.t, .int .i64 x.c, .int .i64 x.v] 65))
            have HG4 : Hid ((w4.alloc (.cells #[.int .i64 x.t, .int .i64 x.c, .int .i64 x.v] 65)).heap[w4.heap.size]? = some (.cells #[.int .i64 x.t, .int .i64 x.c, .int .i64 x.v] 65 (0, 0))) := heap_alloc_new _ _
            refine (ch_pop_any HX4.out HR.out).mono ?_
            rintro e w3 ⟨rfl, x3, hk3⟩
            have hg3 := hk3 _ _ HG4.out
            have d0 := cell_of_row w3 w4.heap.size 0 _ _ _ hg3
            have d1 := cell_of_row w3 w4.heap.size 1 _ _ _ hg3
            have d2 := cell_of_row w3 w4.heap.size 2 _ _ _ hg3
            simp only [List.getElem?_toArray, List.getElem?_cons_succ, List.getElem?_cons_zero] at d0 d1 d2
            have e0 := frozen_of_row w3 w4.heap.size 0 _ _ hg3
            have e1 := frozen_of_row w3 w4.heap.size 1 _ _ hg3
            have e2 := frozen_of_row w3 w4.heap.size 2 _ _ hg3
            have HI := Lib.hid (SI.next x3 HP.out HWR.out hg3 HW4.out)
            clear x3 hk3 hg3 HX4 HG4 HP XA XS HX HG HGS c0 c1 c2
            unfold wG
            go_wp2_with fail
            go_roundg r.length
            case measure => have := HM.out; simp at this; omega
            case rel => exact ⟨acc1 ++ [⟨x.t, x.c, 0, false, false⟩], _, r, rfl, rfl, rfl, HR.out, HI⟩
    · simp only [oS] at hS

      have hlL : Hid (s.ss.length ≤ 1000000) := hn
      have SX0 := Lib.hid hS.out
      obtain ⟨F', hc, hbk⟩ := SX0.out.x.at
      have HL := Lib.hid (ch_line hc true)
      clear hc hS hbk
      go_wp2_with fail
      refine HL.out.mono ?_
      rintro e w' ⟨rfl, rfl⟩
      clear HL
      go_wp2_with fail
      refine (ch_pop_any SX0.out.x hlL.out).mono ?_
      rintro e w2 ⟨rfl, x2, _⟩
      have SI0 : Hid (SI w F c w.heap.size s true u3 acc w2.heap.size s.ss (w2.alloc (.cells #[.int .i64 (hdW s.ss).t, .int .i64 (hdW s.ss).c, .int .i64 (hdW s.ss).v] 65))) := ⟨x2.alloc _, SX0.out.pf, heap_alloc_new _ _, SX0.out.wf⟩
      clear x2 SX0
      unfold wG
      go_wp2_with fail
      go_loopg [3, 8, 9] s.ss.length (fun m v p o wr => ∃ (acc : List Wk) (g : Nat) (l : List Wt), p = .pointer (some ⟨g, 0, none⟩) ∧ o = .bool (ne l) ∧ l.length = m ∧ l.length ≤ 1000000 ∧ Hid (SI w F c w.heap.size s true v acc g l wr))
      case atStart => exact ⟨acc, _, s.ss, rfl, rfl, rfl, hlL.out, SI0⟩
      case round =>
        clear SI0 hlL
        obtain ⟨acc1, g, l, rfl, rfl, hm1, hl1, hS⟩ := hrel
        cases l with
        | nil =>
          have HO : Hid (SO w F c w.heap.size s (oS s 2).1 u3 acc1 (oS s 2).2 wr) := ⟨hS.out.x, ⟨hS.out.pf.e, by have := hS.out.pf.b; simp [oB, oS] at this ⊢; omega⟩, (fun y hy => by simp [oS] at hy)⟩
          clear hS hm1
          rw [ne_nil]
          go_wp2_with fail
          go_roundw
          case rel => exact ⟨2, acc1, by omega, by go_num, HO⟩
          case measure => simp [intOf]
        | cons x r =>
          have hb := hS.out.hg
          have hW : Hid (w.heap.size ≤ wr.heap.size) := by obtain ⟨_, _, _, t⟩ := hS.out.x.go; exact t.size
          have c0 := cell_of_row wr g 0 _ _ _ hb
          have c1 := cell_of_row wr g 1 _ _ _ hb
          have c2 := cell_of_row wr g 2 _ _ _ hb
          simp only [List.getElem?_toArray, List.getElem?_cons_succ, List.getElem?_cons_zero, hdW] at c0 c1 c2
          have hgs := lt_of_blk hb
          have HWF := Lib.hid (hS.out.wf x (by simp))
          have hlk := (hS.out.x.m).look HWF.out
          have HM := Lib.hid hm1
          have HR : Hid (r.length ≤ 1000000) := by simp at hl1; show _ ≤ _; omega
          have HWR : Hid (∀ y ∈ r, Wf y.t) := fun y hy => hS.out.wf y (List.mem_cons_of_mem _ hy)
          rw [ne_cons]
          clear hm1 hl1
          by_cases hin : x.t ∈ acc1.map (·.t)
          · rw [decide_eq_true hin] at hlk
            have HP := Lib.hid (hS.out.pf.skip hin)
            have HX : Hid (SX w F c w.heap.size u3 acc1 (acc1.map (·.t)) (sS s true r) ((wr.alloc (.cells #[] 201)).alloc (.cells #[.int .i64 x.t, .int .i64 x.c, .int .i64 x.v] 65))) := ((show SX w F c w.heap.size u3 acc1 (acc1.map (·.t)) (sS s true r) wr from hS.out.x).alloc _).alloc _
            have HG : Hid (((wr.alloc (.cells #[] 201)).alloc (.cells #[.int .i64 x.t, .int .i64 x.c, .int .i64 x.v] 65)).heap[wr.heap.size + 1]? = some (.cells #[.int .i64 x.t, .int .i64 x.c, .int .i64 x.v] 65 (0, 0))) := by
              have := heap_alloc_new (wr.alloc (.cells #[] 201)) (.cells #[.int .i64 x.t, .int .i64 x.c, .int .i64 x.v] 65)
              rw [World.size_alloc] at this
              exact this
            clear hb hS hin
            go_wp2_with fail
            refine (ch_pop_any HX.out HR.out).mono ?_
            rintro e w3 ⟨rfl, x3, hk3⟩
            have hg3 := hk3 _ _ HG.out
            have d0 := cell_of_row w3 (wr.heap.size + 1) 0 _ _ _ hg3
            have d1 := cell_of_row w3 (wr.heap.size + 1) 1 _ _ _ hg3
            have d2 := cell_of_row w3 (wr.heap.size + 1) 2 _ _ _ hg3
            simp only [List.getElem?_toArray, List.getElem?_cons_succ, List.getElem?_cons_zero] at d0 d1 d2
            have e0 := frozen_of_row w3 (wr.heap.size + 1) 0 _ _ hg3
            have e1 := frozen_of_row w3 (wr.heap.size + 1) 1 _ _ hg3
            have e2 := frozen_of_row w3 (wr.heap.size + 1) 2 _ _ hg3
            have HI := Lib.hid (SI.next x3 HP.out HWR.out hg3 (Nat.le_succ_of_le hW.out))
            clear x3 hk3 hg3 HX HG HP hlk c0 c1 c2
            unfold wG
            go_wp2_with fail
            go_roundg r.length
            case measure => have := HM.out; simp at this; omega
            case rel => exact ⟨acc1, _, r, rfl, rfl, rfl, HR.out, HI⟩
          · rw [decide_eq_false hin] at hlk
            have HP := Lib.hid (hS.out.pf.add hin)
            have hbd := HP.out.b
            simp only [List.length_append, List.length_singleton] at hbd
            have hacc : Hid (acc1.length ≤ 2000000) := by show _ ≤ _; omega
            have HX : Hid (SX w F c w.heap.size u3 acc1 (acc1.map (·.t)) (sS s true r) (wr.alloc (.cells #[] 201))) := (show SX w F c w.heap.size u3 acc1 (acc1.map (·.t)) (sS s true r) wr from hS.out.x).alloc _
            have HG : Hid ((wr.alloc (.cells #[] 201)).heap[g]? = some (.cells #[.int .i64 x.t, .int .i64 x.c, .int .i64 x.v] 65 (0, 0))) := ((below_al wr (.cells #[] 201)).block g hgs).trans hb
            have HIN := Lib.hid hin
            have hbs := HX.out.m.lt
            clear hb hS hin hbd
            go_wp2_with (first
              | (at_mapUpdate; go_loud (refine wp_store rfl (.tmp 42) (.tmp 44) (.tmp 45) rfl HX.out.m HWF.out (by have := hacc.out; unfold maxLen; simp; omega) HIN.out rfl rfl (by first | rfl | (simp; done)) ?_; intro wS ht tm; have hgS : wS.heap[g]? = some (.cells #[.int .i64 x.t, .int .i64 x.c, .int .i64 x.v] 65 (0, 0)) := (ht.2.2.2.2 g (HX.out.m.ne HG.out)).trans HG.out; have s0 := cell_of_row wS g 0 _ _ _ hgS; have s1 := cell_of_row wS g 1 _ _ _ hgS; simp only [List.getElem?_toArray, List.getElem?_cons_succ, List.getElem?_cons_zero] at s0 s1; have hgl := lt_of_blk hgS; have HSS : Hid (wS.heap.size = wr.heap.size + 1) := (ht.2.2.2.1.trans (by simp)); have XS := Lib.hid (HX.out.store ht tm); have HGS := Lib.hid hgS; have HWS : Hid (w.heap.size ≤ wS.heap.size) := (by show _ ≤ _; rw [HSS.out]; exact Nat.le_succ_of_le hW.out); clear ht tm hgS hlk c0 c1 c2))
              | (at_builtin; go_loud (refine app_wp rfl (.tmp 46) (.tmp 53) 39 rfl w.heap.size 67 5 32 i0 (.agg #[.int .i64 0, .int .i64 0, .int .i64 0, .bool false, .bool false]) Try.underlying39 hi hz0 hz1 hz2 rfl (by decide) u3 acc1.length (flK acc1) rfl (XS.out.row.alloc _) _ (some ⟨wS.heap.size, 0, none⟩) 1 1 (flK [⟨x.t, x.c, 0, false, true⟩]) rfl (Kd.one wS ⟨x.t, x.c, 0, false, true⟩ _ rfl) (flK_one _) (by have := hacc.out; unfold maxLen; omega) (by have := hacc.out; omega) (by have := HWS.out; simp; omega) ?_; intro v1 w4 ho4 hg4; have hb4 : w4.heap[g]? = some (.cells #[.int .i64 x.t, .int .i64 x.c, .int .i64 x.v] 65 (0, 0)) := (grow_blk (XS.out.row.alloc _) hg4 (((below_al wS _).block g (lt_of_blk HGS.out)).trans HGS.out) (by decide)).trans (((below_al wS _).block g (lt_of_blk HGS.out)).trans HGS.out); have c0 := cell_of_row w4 g 0 _ _ _ hb4; have c1 := cell_of_row w4 g 1 _ _ _ hb4; have c2 := cell_of_row w4 g 2 _ _ _ hb4; simp only [List.getElem?_toArray, List.getElem?_cons_succ, List.getElem?_cons_zero] at c0 c1 c2; have hgl4 := lt_of_blk hb4; have XA := Lib.hid (SX.add (k := ⟨x.t, x.c, 0, false, true⟩) (XS.out.alloc _) hg4 ho4); have HW4 : Hid (w.heap.size ≤ w4.heap.size) := (by obtain ⟨_, _, _, t⟩ := XA.out.go; exact t.size); clear ho4 hg4 hb4 s0 s1 hgl)))
            have HX4 := Lib.hid (XA.out.alloc (.cells #[.int .i64 x.t, .int .i64 x.c, .int .i64 x.v] 65))
            have HG4 : Hid ((w4.alloc (.cells #[.int .i64 x.t, .int .i64 x.c, .int .i64 x.v] 65)).heap[w4.heap.size]? = some (.cells #[.int .i64 x.t, .int .i64 x.c, .int .i64 x.v] 65 (0, 0))) := heap_alloc_new _ _
            refine (ch_pop_any HX4.out HR.out).mono ?_
            rintro e w3 ⟨rfl, x3, hk3⟩
            have hg3 := hk3 _ _ HG4.out
            have d0 := cell_of_row w3 w4.heap.size 0 _ _ _ hg3
            have d1 := cell_of_row w3 w4.heap.size 1 _ _ _ hg3
            have d2 := cell_of_row w3 w4.heap.size 2 _ _ _ hg3
            simp only [List.getElem?_toArray, List.getElem?_cons_succ, List.getElem?_cons_zero] at d0 d1 d2
            have e0 := frozen_of_row w3 w4.heap.size 0 _ _ hg3
            have e1 := frozen_of_row w3 w4.heap.size 1 _ _ hg3
            have e2 := frozen_of_row w3 w4.heap.size 2 _ _ hg3
            have HI := Lib.hid (SI.next x3 HP.out HWR.out hg3 HW4.out)
            clear x3 hk3 hg3 HX4 HG4 HP XA XS HX HG HGS c0 c1 c2
            unfold wG
            go_wp2_with fail
            go_roundg r.length
            case measure => have := HM.out; simp at this; omega
            case rel => exact ⟨acc1 ++ [⟨x.t, x.c, 0, false, true⟩], _, r, rfl, rfl, rfl, HR.out, HI⟩
    · simp only [oS] at hS
      have hend : Hid (ShR F c s w (.returned u3) wr) := by
        obtain ⟨x, pf, _⟩ := hS.out
        have he : acc = tot s := pf.e
        subst he
        obtain ⟨A, cap, e, hr⟩ := RdK.of_own rfl x.row
        exact ⟨A, cap, by rw [e], hr, x.go⟩
      clear hS
      go_wp2_with fail
      go_ret
      exact hend.out
end Go.Proofs.Ytdpapnfjpefhkaa.Ch
namespace Go.Proofs.Ytdpapnfjpefhkaa.Ch
open Go.RowKit
set_option linter.unusedVariables false
set_option maxRecDepth 100000

theorem results_tmp4 {fn : Func} {t u v x : Tmp} (h : fn.results = #[.tmp t, .tmp u, .tmp v, .tmp x]) (tmps : Array Value) (P : Program) (w : World) :
    (results fn tmps).run P w = .ok (.tuple #[tmps.getD t undef, tmps.getD u undef, tmps.getD v undef, tmps.getD x undef]) w := by
  simp [results, h]
section
variable {w : World} {c : Nat} {F : Nat → Prop} {s : CS}
theorem tn_same {F : Nat → Prop} {w w' : World} (hh : w'.heap = w.heap) (h1 : w'.os = w.os) (h2 : w'.tape = w.tape) (h3 : w'.output = w.output) : Tn F w w' := (Tn.refl F w).draws hh h1 h2 h3
/-- What is received. -/
def rc (s : CS) : CS × Int × Bool × Bool × List Wk := match s.l, s.ss with
  | v :: l, [] => ({ s with l := l }, v, true, true, [])
  | v :: l, x :: r => ({ s with l := l ++ [x.v], ss := r }, v, true, true, [⟨x.t, x.c, 0, true, false⟩])
  | [], x :: r => ({ s with ss := r }, x.v, true, true, [⟨x.t, x.c, 0, true, false⟩])
  | [], [] => (s, 0, false, s.cl, [])
def RcR (F : Nat → Prop) (c : Nat) (g : CS × Int × Bool × Bool × List Wk) (w : World) (e : Ending) (w' : World) : Prop :=
  ∃ A cap, e = .returned (.tuple #[.int .i64 g.2.1, .bool g.2.2.1, .bool g.2.2.2.1, .slice A g.2.2.2.2.length cap]) ∧ RdK w' A g.2.2.2.2.length g.2.2.2.2 ∧ Go F c g.1 w w'
end
end Go.Proofs.Ytdpapnfjpefhkaa.Ch
namespace Go.Proofs.Ytdpapnfjpefhkaa.Ch
open Go.RowKit
set_option linter.unusedVariables false
set_option maxRecDepth 100000
section
variable {w : World} {c : Nat} {F : Nat → Prop} {s : CS}
def ClR (F : Nat → Prop) (c : Nat) (s : CS) (w : World) (e : Ending) (w' : World) : Prop :=
  ∃ A cap, e = .returned (.tuple #[.slice A (tot s).length cap, .int .i64 0]) ∧ RdK w' A (tot s).length (tot s) ∧ Go F c (done s) w w'
theorem end_not (h : CH w F c s) (hk : s.kd ≠ 2 ∨ s.cl = true) : Calls Try.prog 69 #[.pointer (some ⟨c, 0, none⟩)] w fun e w' => e = .returned (.slice none 0 0) ∧ w = w' := by
  have c0 := h.c0
  have c1 := h.c1
  clear h
  by_cases h2 : s.kd = 2
  · have hc : s.cl = true := by rcases hk with hk | hk; exact absurd h2 hk; exact hk
    rw [h2] at c0
    rw [hc] at c1
    clear hk
    go_enter Try.func69, Try.ntmps69
    go_wp2
    go_ret
    exact ⟨rfl, rfl⟩
  · have b1 : ((s.kd : Int) == 2) = false := by rw [beq_eq_false_iff_ne]; omega
    have b2 : ¬ ((s.kd : Int) = 2) := by omega
    clear hk h2
    go_enter Try.func69, Try.ntmps69
    go_wp2
    go_ret
    exact ⟨rfl, rfl⟩
theorem end_any (h : CH w F c s) (hk : s.kd = 2) (hc : s.cl = false) (hn : s.ss.length ≤ 1000000) (hm : s.rs.length ≤ 1000000) : Calls Try.prog 69 #[.pointer (some ⟨c, 0, none⟩)] w (ShR F c s w) := by
  have c0 := h.c0
  have c1 := h.c1
  rw [hk] at c0
  rw [hc] at c1
  have hg := Lib.hid (shut_any h hn hm)
  clear h
  go_enter Try.func69, Try.ntmps69
  go_wp2_with fail
  refine hg.out.mono ?_
  rintro e w' ⟨A, cap, rfl, hK, hG⟩
  have HP : Hid (RdK w' A (tot s).length (tot s) ∧ Go F c (done s) w w') := ⟨hK, hG⟩
  clear hK hG hg
  go_wp2
  go_ret
  exact ⟨A, cap, rfl, HP.out.1, HP.out.2⟩
end

/-! On no channel. -/
theorem wait_nil (x : Wt) (b : Bool) (w : World) : Calls Try.prog 27 #[.pointer none, wG x, .bool b] w fun e w' => e = .returned (.int .i64 6) ∧ Below w.heap.size w w' := by
  unfold wG
  go_enter Try.func27, Try.ntmps27
  go_wp2
  go_ret
  exact ⟨rfl, below_al _ _⟩
theorem put_nil (v : Int) (w : World) : Calls Try.prog 42 #[.pointer none, .int .i64 v] w fun e w' => e = .returned (.tuple #[.slice none 0 0, .bool false]) ∧ w = w' := by
  go_enter Try.func42, Try.ntmps42
  go_wp2
  go_ret2
  exact ⟨rfl, rfl⟩
theorem drop_nil (w : World) : Calls Try.prog 92 #[.pointer none] w fun e w' => e = .returned (.bool false) ∧ w = w' := by
  go_enter Try.func92, Try.ntmps92
  go_wp2
  go_ret
  exact ⟨rfl, rfl⟩
theorem end_nil (w : World) : Calls Try.prog 69 #[.pointer none] w fun e w' => e = .returned (.slice none 0 0) ∧ w = w' := by
  go_enter Try.func69, Try.ntmps69
  go_wp2
  go_ret
  exact ⟨rfl, rfl⟩
theorem closed_none (w : World) : Calls Try.prog 26 #[.pointer none] w fun e w' => e = .returned (.bool false) ∧ w = w' := by
  go_enter Try.func26, Try.ntmps26
  go_wp2
  go_ret
  exact ⟨rfl, rfl⟩
theorem waiting_none (b : Bool) (w : World) : Calls Try.prog 28 #[.pointer none, .bool b] w fun e w' => e = .returned (.slice none 0 0) ∧ w = w' := by
  go_enter Try.func28, Try.ntmps28
  go_wp2
  go_ret
  exact ⟨rfl, rfl⟩
end Go.Proofs.Ytdpapnfjpefhkaa.Ch
