/- The document's own channel: met, end, Close, End. Conditions: each theorem's own premises.
The document's own channel: Len, Cap, Can, others, Wait. Conditions: each theorem's own premises.
The document's own channel: Wait. Conditions: each theorem's own premises.
The document's own channel: Wait, whatever comes of it. Conditions: each theorem's own premises. -/
import Derived.Test.YtdpapnfjpefhkaaGreatCMdm
import Derived.Test.YtdpapnfjpefhkaaGreatCAllm
import Derived.Deep.CutRange
import Derived.Deep.RegionHeld3
namespace Go.Proofs.YtdpapnfjpefhkaaGreat.Ch
open Go.RowKit
set_option linter.unusedVariables false
set_option maxRecDepth 100000
theorem met_any {w : World} {A : Option Addr} {n c : Nat} {l : List Wk} (t : Int) (h : RdK w A n l) (hn : n ≤ 1000000) : Calls Tryz.prog 118 #[.slice A n c, .int .i64 t] w fun e w' => e = .returned (.bool (decide (t ∈ l.map (·.t)))) ∧ w = w' := by
 have H := Lib.hid h
 have b1 : (n : Int) ≤ 1000000 := by omega
 clear h
 go_enter Tryz.func118, Tryz.ntmps118
 go_wp2_with fail
 go_loopw [5] (fun i wr => ∃ k : Nat, k ≤ n ∧ i = .int .i64 k ∧ wr = w ∧ Hid (t ∉ (l.take k).map (·.t))) (fun i _ => n - (intOf i).toNat)
 case atStart => exact ⟨0, by omega, rfl, rfl, by show _ ∉ _; simp⟩
 case round =>
  obtain ⟨k, hk, rfl, rfl, hT⟩ := hrel
  by_cases hlt : k < n
  · have k1 : (k : Int) < (n : Int) := by omega
    have k2 : 0 ≤ (k : Int) := by omega
    have hkl : k < l.length := by rw [H.out.1]; exact hlt
    have hx : l[k]? = some (l[k]'hkl) := List.getElem?_eq_getElem hkl
    have HT : Hid (l.take (k + 1) = l.take k ++ [l[k]'hkl]) := List.take_succ_eq_append_getElem hkl
    obtain ⟨b, cs, e0, hb, hc⟩ := H.out.2 (by omega)
    subst e0
    have c0 := (hc k _ hx).1
    generalize l[k]'hkl = x at *
    have HX : Hid (x ∈ l) := List.mem_of_getElem? hx
    clear hc hb hx hkl
    by_cases d : x.t = t
    · have HE : Hid (decide (t ∈ l.map (·.t)) = true) := decide_eq_true (by rw [← d]; exact List.mem_map.2 ⟨x, HX.out, rfl⟩)
      clear hT HT
      go_wp2_with fail
      go_ret
      exact ⟨ret_bool HE.out.symm, rfl⟩
    · have HT2 : Hid (t ∉ (l.take (k + 1)).map (·.t)) := by
       show _ ∉ _
       rw [HT.out, List.map_append]
       intro h9
       rcases List.mem_append.1 h9 with h9 | h9
       · exact hT.out h9
       · simp at h9; exact d h9.symm
      have d2 : ¬ x.t = t := d
      clear hT HT
      go_wp2_with fail
      go_roundw
      case rel => exact ⟨k + 1, by omega, by go_num, trivial, HT2⟩
      case measure => simp [intOf]; omega
  · obtain rfl : k = n := by omega
    have HE : Hid (decide (t ∈ l.map (·.t)) = false) := by
     show _ = _
     rw [decide_eq_false_iff_not]
     have h9 := hT.out
     rw [List.take_of_length_le (by rw [H.out.1]; exact Nat.le_refl _)] at h9
     exact h9
    clear hT
    go_wp2_with fail
    go_ret
    exact ⟨ret_bool HE.out.symm, rfl⟩
theorem okN_no' {ok : Nat → Prop} {N m : Nat} (h : ¬ ok m) (hm : m < N) : ¬ okN ok N m := fun hn => by rcases hn with hn | hn; exact h hn; omega
theorem inf45' : (Tryz.prog.info? 208).map (fun i => (i.zero, i.size, i.bytes)) = some (some (.agg #[.int .i64 0, .int .i64 0, .int .i64 0, .bool false, .bool false]), 5, 32) := by kernel_rfl
theorem shp_snoc (p : Bool) : ∀ (l : List Wt) (acc : List Wk) (x : Wt), shp acc (l ++ [x]) p = one (shp acc l p) x p
 | [], acc, x => rfl
 | y :: l, acc, x => shp_snoc p l (one acc y p) x
structure EN (W : World) (ok : Nat → Prop) (m : Nat) (s : CS) (b q r : Option Addr × Nat) (v : Value) (acc : List Wk) (w : World) : Prop where
 mx : MX w ok m s b q r
 row : w.ownsRow W.heap.size 208 5 v acc.length (flK acc)
 bel : Below W.heap.size W w
section
variable {W w w' : World} {ok : Nat → Prop} {m : Nat} {s : CS} {b q r : Option Addr × Nat} {v v' : Value} {acc acc' : List Wk}
theorem EN.later (h : EN W ok m s b q r v acc w) (hb : Below w.heap.size w w') : EN W ok m s b q r v acc w' :=
 ⟨h.mx.later hb, own_keep h.row fun b cs hk => hb.block b (lt_of_blk hk), h.bel.trans (hb.mono h.bel.size)⟩
theorem EN.rd (h : EN W ok m s b q r v acc w) : ∃ A cap, v = .slice A acc.length cap ∧ RdK w A acc.length acc := RdK.of_own rfl h.row
theorem EN.grow (h : EN W ok m s b q r v acc w) (hm : m < W.heap.size) (hw : MX W ok m s b q r) (hg : w.grownBy w' v.ownBlock) (row : w'.ownsRow W.heap.size 208 5 v' acc'.length (flK acc')) : EN W ok m s b q r v' acc' w' := by
 have hb := below_app h.bel (Nat.le_refl _) h.bel.size h.row hg
 exact ⟨hw.later hb, row, hb⟩
end
section
variable {w : World} {ok : Nat → Prop} {m : Nat} {s : CS}
set_option maxRecDepth 100000 in
set_option maxHeartbeats 8000000 in
theorem mend_any (h : MD w ok m s) (hs : s.ss.length ≤ 1000) (hr : s.rs.length ≤ 1000) : Calls Tryz.prog 103 #[.pointer (some ⟨m, 0, none⟩)] w fun e w' => ∃ A cap, e = .returned (.slice A (tot s).length cap) ∧ RdK w' A (tot s).length (tot s) ∧ Mo ok m (done s) w w' := by
 obtain ⟨b, q, r, hx⟩ := h
 obtain ⟨i0, hi, hz0, hz1, hz2⟩ := info_parts inf45'
 have HX := Lib.hid hx
 have hml := hx.lt
 have HE0 : Hid (EN w ok m s b q r (.slice none 0 0) (shp [] (s.rs.take 0) false) w) := ⟨hx, World.ownsRow_nil _ _ _ _, Below.refl _ _⟩
 have r1 : (s.rs.length : Int) ≤ 1000 := by omega
 have r2 : (s.ss.length : Int) ≤ 1000 := by omega
 clear hx
 go_enter Tryz.func103, Tryz.ntmps103
 go_wp2_with fail
 go_loopw [3, 4] (fun v i wr => ∃ k : Nat, k ≤ s.rs.length ∧ i = .int .i64 k ∧ Hid (EN w ok m s b q r v (shp [] (s.rs.take k) false) wr)) (fun _ i _ => s.rs.length - (intOf i).toNat)
 case atStart => exact ⟨0, by omega, rfl, HE0⟩
 case round =>
  clear HE0
  obtain ⟨k, hk, rfl, hE⟩ := hrel
  have c6 := hE.out.mx.c6
  by_cases hlt : k < s.rs.length
  · have k1 : (k : Int) < (s.rs.length : Int) := by omega
    have k2 : 0 ≤ (k : Int) := by omega
    have hxk : s.rs[k]? = some (s.rs[k]'hlt) := List.getElem?_eq_getElem hlt
    have HT : Hid (s.rs.take (k + 1) = s.rs.take k ++ [s.rs[k]'hlt]) := List.take_succ_eq_append_getElem hlt
    obtain ⟨bk, off, e6, hbl, hc⟩ := Rd.at wV_len hE.out.mx.rr.rd (by omega)
    have d0 := hc k _ hxk 0 (by omega) _ rfl
    have d1 := hc k _ hxk 1 (by omega) _ rfl
    simp only [Nat.add_zero] at d0
    rw [e6] at c6
    generalize s.rs[k]'hlt = x at *
    have hal : Hid ((shp [] (s.rs.take k) false).length ≤ 2000) := by have h9 := shp_len (s.rs.take k) [] false; rw [List.length_take] at h9; simp only [List.length_nil] at h9; show _ ≤ _; omega
    have HT2 : Hid (shp [] (s.rs.take (k + 1)) false = one (shp [] (s.rs.take k) false) x false) := by show _ = _; rw [HT.out, shp_snoc]
    generalize shp [] (s.rs.take k) false = acc at *
    clear hc hxk HT e6
    go_wp2_with fail
    obtain ⟨A, cap, hv, hrd⟩ := hE.out.rd
    subst hv
    refine (met_any x.t hrd (by have := hal.out; omega)).mono ?_
    rintro e w' ⟨rfl, rfl⟩
    by_cases d : x.t ∈ acc.map (·.t)
    · rw [decide_eq_true d]
      have HE2 : Hid (EN w ok m s b q r (.slice A acc.length cap) (shp [] (s.rs.take (k + 1)) false) wr) := by
       have e9 := HT2.out
       unfold one at e9
       rw [if_pos d] at e9
       show EN _ _ _ _ _ _ _ _ _ _
       rw [e9]; exact hE.out
      clear hE d0 d1 d hrd HT2
      go_wp2_with fail
      go_roundw
      case rel => exact ⟨k + 1, by omega, by go_num, HE2⟩
      case measure => simp [intOf]; omega
    · rw [decide_eq_false d]
      have HT3 : Hid (shp [] (s.rs.take (k + 1)) false = acc ++ [⟨x.t, x.c, 0, false, false⟩]) := by
       have e9 := HT2.out
       unfold one at e9
       rw [if_neg d] at e9
       exact e9
      have hWs := hE.out.bel.size
      have hal2 := hal.out
      clear d hrd HT2
      go_wp2_with fail
      go_region_law (go_loud (refine step_app rfl (.tmp 26) (.tmp 44) 55 rfl w.heap.size 208 5 32 i0 (.agg #[.int .i64 0, .int .i64 0, .int .i64 0, .bool false, .bool false]) Tryz.underlying55 hi hz0 hz1 hz2 rfl (by decide) (.slice A acc.length cap) acc.length (flK acc) rfl (hE.out.later (by repeat' (first | exact Below.refl _ _ | refine Below.drew ?_ | refine Below.alloc ?_ (by first | omega | (simp <;> omega)) _))).row _ (some ⟨wr.heap.size, 0, none⟩) 1 1 (flK [⟨x.t, x.c, 0, false, false⟩]) rfl (by exact Rd.new wr (kA ⟨x.t, x.c, 0, false, false⟩) 1 5 208 rfl) (flK_one _) (by unfold maxLen; omega) (by omega) (by simp <;> omega) ?_; intro v7 w7 ho7 hg7; have HE7 : Hid (EN w ok m s b q r v7 (shp [] (s.rs.take (k + 1)) false) w7) := (by show EN _ _ _ _ _ _ _ _ _ _; rw [HT3.out]; exact EN.grow (hE.out.later (by repeat' (first | exact Below.refl _ _ | refine Below.drew ?_ | refine Below.alloc ?_ (by first | omega | (simp <;> omega)) _))) hml HX.out hg7 (by rw [List.length_append, flK_app]; exact ho7)); clear ho7 hg7))
      all_goals
       clear hE d0 d1 HT3 hal2
       go_wp2_with fail
       go_roundw
       case rel => exact ⟨k + 1, by omega, by go_num, HE7⟩
       case measure => simp [intOf]; omega
  · obtain rfl : k = s.rs.length := by omega
    have HE1 : Hid (EN w ok m s b q r u3 (shp (shp [] s.rs false) (s.ss.take 0) true) wr) := by
     have h9 := hE.out
     rw [List.take_of_length_le (Nat.le_refl _)] at h9
     exact h9
    clear hE
    go_wp2_with fail
    go_loopw [3, 5] (fun v i wr => ∃ k : Nat, k ≤ s.ss.length ∧ i = .int .i64 k ∧ Hid (EN w ok m s b q r v (shp (shp [] s.rs false) (s.ss.take k) true) wr)) (fun _ i _ => s.ss.length - (intOf i).toNat)
    case atStart => exact ⟨0, by omega, rfl, HE1⟩
    case round =>
     clear HE1
     obtain ⟨k, hk, rfl, hE⟩ := hrel
     have c6 := hE.out.mx.c5
     by_cases hlt : k < s.ss.length
     · have k1 : (k : Int) < (s.ss.length : Int) := by omega
       have k2 : 0 ≤ (k : Int) := by omega
       have hxk : s.ss[k]? = some (s.ss[k]'hlt) := List.getElem?_eq_getElem hlt
       have HT : Hid (s.ss.take (k + 1) = s.ss.take k ++ [s.ss[k]'hlt]) := List.take_succ_eq_append_getElem hlt
       obtain ⟨bk, off, e6, hbl, hc⟩ := Rd.at wV_len hE.out.mx.rq.rd (by omega)
       have d0 := hc k _ hxk 0 (by omega) _ rfl
       have d1 := hc k _ hxk 1 (by omega) _ rfl
       simp only [Nat.add_zero] at d0
       rw [e6] at c6
       generalize s.ss[k]'hlt = x at *
       have hal : Hid ((shp (shp [] s.rs false) (s.ss.take k) true).length ≤ 2000) := by have h9 := shp_len (s.ss.take k) (shp [] s.rs false) true; rw [List.length_take] at h9; have h8 := shp_len s.rs [] false; simp only [List.length_nil] at h8; show _ ≤ _; omega
       have HT2 : Hid (shp (shp [] s.rs false) (s.ss.take (k + 1)) true = one (shp (shp [] s.rs false) (s.ss.take k) true) x true) := by show _ = _; rw [HT.out, shp_snoc]
       generalize shp (shp [] s.rs false) (s.ss.take k) true = acc at *
       clear hc hxk HT e6
       go_wp2_with fail
       obtain ⟨A, cap, hv, hrd⟩ := hE.out.rd
       subst hv
       refine (met_any x.t hrd (by have := hal.out; omega)).mono ?_
       rintro e w' ⟨rfl, rfl⟩
       by_cases d : x.t ∈ acc.map (·.t)
       · rw [decide_eq_true d]
         have HE2 : Hid (EN w ok m s b q r (.slice A acc.length cap) (shp (shp [] s.rs false) (s.ss.take (k + 1)) true) wr) := by
          have e9 := HT2.out
          unfold one at e9
          rw [if_pos d] at e9
          show EN _ _ _ _ _ _ _ _ _ _
          rw [e9]; exact hE.out
         clear hE d0 d1 d hrd HT2
         go_wp2_with fail
         go_roundw
         case rel => exact ⟨k + 1, by omega, by go_num, HE2⟩
         case measure => simp [intOf]; omega
       · rw [decide_eq_false d]
         have HT3 : Hid (shp (shp [] s.rs false) (s.ss.take (k + 1)) true = acc ++ [⟨x.t, x.c, 0, false, true⟩]) := by
          have e9 := HT2.out
          unfold one at e9
          rw [if_neg d] at e9
          exact e9
         have hWs := hE.out.bel.size
         have hal2 := hal.out
         clear d hrd HT2
         go_wp2_with fail
         go_region_law (go_loud (refine step_app rfl (.tmp 66) (.tmp 84) 55 rfl w.heap.size 208 5 32 i0 (.agg #[.int .i64 0, .int .i64 0, .int .i64 0, .bool false, .bool false]) Tryz.underlying55 hi hz0 hz1 hz2 rfl (by decide) (.slice A acc.length cap) acc.length (flK acc) rfl (hE.out.later (by repeat' (first | exact Below.refl _ _ | refine Below.drew ?_ | refine Below.alloc ?_ (by first | omega | (simp <;> omega)) _))).row _ (some ⟨wr.heap.size, 0, none⟩) 1 1 (flK [⟨x.t, x.c, 0, false, true⟩]) rfl (by exact Rd.new wr (kA ⟨x.t, x.c, 0, false, true⟩) 1 5 208 rfl) (flK_one _) (by unfold maxLen; omega) (by omega) (by simp <;> omega) ?_; intro v7 w7 ho7 hg7; have HE7 : Hid (EN w ok m s b q r v7 (shp (shp [] s.rs false) (s.ss.take (k + 1)) true) w7) := (by show EN _ _ _ _ _ _ _ _ _ _; rw [HT3.out]; exact EN.grow (hE.out.later (by repeat' (first | exact Below.refl _ _ | refine Below.drew ?_ | refine Below.alloc ?_ (by first | omega | (simp <;> omega)) _))) hml HX.out hg7 (by rw [List.length_append, flK_app]; exact ho7)); clear ho7 hg7))
         all_goals
          clear hE d0 d1 HT3 hal2
          go_wp2_with fail
          go_roundw
          case rel => exact ⟨k + 1, by omega, by go_num, HE7⟩
          case measure => simp [intOf]; omega
     · obtain rfl : k = s.ss.length := by omega
       have hX := hE.out.mx
       have f6 := hX.fz 6
       have f5 := hX.fz 5
       have f3 := hX.fz 3
       have c3 := hX.c3
       have c5 := hX.c5
       have c6' := hX.c6
       have hl3 := hX.lt
       have hno := hX.no
       have HF : Hid (∃ A cap, u3 = .slice A (tot s).length cap ∧ RdK (((wr.setCell ⟨m, 6, none⟩ (.slice none 0 0)).setCell ⟨m, 5, none⟩ (.slice none 0 0)).setCell ⟨m, 3, none⟩ (.bool true)) A (tot s).length (tot s) ∧ Mo ok m (done s) w (((wr.setCell ⟨m, 6, none⟩ (.slice none 0 0)).setCell ⟨m, 5, none⟩ (.slice none 0 0)).setCell ⟨m, 3, none⟩ (.bool true))) := by
        have h9 := hE.out
        rw [List.take_of_length_le (Nat.le_refl _)] at h9
        obtain ⟨A, cap, hv, hrd⟩ := h9.rd
        refine ⟨A, cap, hv, ?_, ⟨⟨b, (none, 0), (none, 0), ?_⟩, ?_⟩⟩
        · refine hrd.keep fun bb cs hb => ?_
          have hne : bb ≠ m := tag_ne hb h9.mx.hb (by decide)
          exact (Below.heap_setCell _ _ _ _ hne).trans ((Below.heap_setCell _ _ _ _ hne).trans (Below.heap_setCell _ _ _ _ hne))
        · have y1 := h9.mx.setR (l := []) (r' := (none, 0)) (Ro.nil _ _ _ _ _ (by omega))
          have y2 := y1.setQ (l := []) (q' := (none, 0)) (Ro.nil _ _ _ _ _ (by omega))
          exact (y2.setC).mono (fun b _ ho => .inl ho) (okN_no' hno hml)
        · exact ((((Tn.of_below (F := fun k => k = m) h9.bel).set (.inl rfl) _).set (.inl rfl) _).set (.inl rfl) _)
       obtain ⟨A, cap, hv, h1, h2⟩ := HF.out
       subst hv
       have HF1 := Lib.hid h1
       have HF2 := Lib.hid h2
       clear hE hX hno HX HF h1 h2
       go_wp2_with fail
       go_ret
       exact ⟨A, cap, rfl, HF1.out, HF2.out⟩
theorem mEnd_go (h : MD w ok m s) (hk : s.kd = 2) (hc : s.cl = false) (hs : s.ss.length ≤ 1000) (hr : s.rs.length ≤ 1000) : Calls Tryz.prog 83 #[.pointer (some ⟨m, 0, none⟩)] w fun e w' => ∃ A cap, e = .returned (.slice A (tot s).length cap) ∧ RdK w' A (tot s).length (tot s) ∧ Mo ok m (done s) w w' := by
 have HC := Lib.hid (mend_any h hs hr)
 obtain ⟨b, q, r, hx⟩ := h
 have c2 : w.cell? ⟨m, 2, none⟩ = some (.bool true) := hx.k2 hk
 have c3 := hx.k3 hc
 clear hx hs hr
 go_enter Tryz.func83, Tryz.ntmps83
 go_wp2_with fail
 refine HC.out.mono ?_
 rintro e w' ⟨A, cap, rfl, hK, hG⟩
 have HP : Hid (RdK w' A (tot s).length (tot s) ∧ Mo ok m (done s) w w') := ⟨hK, hG⟩
 clear hK hG HC
 go_wp2
 go_ret
 exact ⟨A, cap, rfl, HP.out.1, HP.out.2⟩
theorem mDrop_nil (w : World) : Calls Tryz.prog 105 #[.pointer none] w fun e w' => e = .returned (.bool false) ∧ w = w' := by
 go_enter Tryz.func105, Tryz.ntmps105
 go_wp2
 go_ret
 exact ⟨rfl, rfl⟩
end
end Go.Proofs.YtdpapnfjpefhkaaGreat.Ch
namespace Go.Proofs.YtdpapnfjpefhkaaGreat.Ch
open Go.RowKit
set_option linter.unusedVariables false
set_option maxRecDepth 100000
theorem others_any {w : World} {A : Option Addr} {n c : Nat} {l : List Wt} (t : Int) (h : RdW w A n l) (hn : n ≤ 1000000) : Calls Tryz.prog 73 #[.slice A n c, .int .i64 t] w fun e w' => e = .returned (.bool (meet t l)) ∧ w = w' := by
 have H := Lib.hid h
 have b1 : (n : Int) ≤ 1000000 := by omega
 clear h
 go_enter Tryz.func73, Tryz.ntmps73
 go_wp2_with fail
 go_loopw [5] (fun i wr => ∃ k : Nat, k ≤ n ∧ i = .int .i64 k ∧ wr = w ∧ Hid (∀ x ∈ l.take k, isT t x = true)) (fun i _ => n - (intOf i).toNat)
 case atStart => exact ⟨0, by omega, rfl, rfl, by show ∀ _ ∈ _, _; simp⟩
 case round =>
  obtain ⟨k, hk, rfl, rfl, hT⟩ := hrel
  by_cases hlt : k < n
  · have k1 : (k : Int) < (n : Int) := by omega
    have k2 : 0 ≤ (k : Int) := by omega
    have hkl : k < l.length := by rw [H.out.1]; exact hlt
    have hx : l[k]? = some (l[k]'hkl) := List.getElem?_eq_getElem hkl
    have HT : Hid (l.take (k + 1) = l.take k ++ [l[k]'hkl]) := List.take_succ_eq_append_getElem hkl
    obtain ⟨bb, o, e0, hb, hc⟩ := H.out.cells (by omega)
    subst e0
    have c0 := (hc k _ hx).1
    generalize l[k]'hkl = x at *
    have HX : Hid (x ∈ l) := List.mem_of_getElem? hx
    clear hc hb hx hkl
    by_cases d : x.t = t
    · have HT2 : Hid (∀ x ∈ l.take (k + 1), isT t x = true) := by
       show ∀ _ ∈ _, _
       rw [HT.out]
       intro y hy
       rcases List.mem_append.1 hy with hy | hy
       · exact hT.out y hy
       · simp at hy; subst hy; simp [isT, d]
      clear hT HT
      go_wp2_with fail
      go_roundw
      case rel => exact ⟨k + 1, by omega, by go_num, trivial, HT2⟩
      case measure => simp [intOf]; omega
    · have HE : Hid (meet t l = true) := by
       show _ = _
       unfold meet
       rw [List.any_eq_true]
       exact ⟨x, HX.out, by simp [isT, d]⟩
      have d2 : ¬ x.t = t := d
      clear hT HT
      go_wp2_with fail
      go_ret
      exact ⟨ret_bool HE.out.symm, rfl⟩
  · obtain rfl : k = n := by omega
    have HE : Hid (meet t l = false) := by
     show _ = _
     unfold meet
     rw [List.any_eq_false]
     intro x hx
     have h9 := hT.out
     rw [List.take_of_length_le (by rw [H.out.1]; exact Nat.le_refl _)] at h9
     simp [h9 x hx]
    clear hT
    go_wp2_with fail
    go_ret
    exact ⟨ret_bool HE.out.symm, rfl⟩
end Go.Proofs.YtdpapnfjpefhkaaGreat.Ch
namespace Go.Proofs.YtdpapnfjpefhkaaGreat.Ch
open Go.RowKit
set_option linter.unusedVariables false
set_option maxRecDepth 100000
theorem heap_e1 (w : World) : (w.alloc (.cells #[] 103)).heap[w.heap.size]? = some (.cells #[] 103 (0, 0)) := heap_alloc_new _ _
theorem heap_e2 (w : World) (o : Obj) : ((w.alloc (.cells #[] 103)).alloc o).heap[w.heap.size]? = some (.cells #[] 103 (0, 0)) := (Below.heap_alloc _ _ _ (by simp)).trans (heap_alloc_new _ _)
theorem heap_e3 (w : World) (o : Obj) : ((w.alloc o).alloc (.cells #[] 103)).heap[w.heap.size + 1]? = some (.cells #[] 103 (0, 0)) := by
 have := heap_alloc_new (w.alloc o) (.cells #[] 103)
 rw [World.size_alloc] at this
 exact this
theorem own_e {wx : World} {base N : Nat} (hN : wx.heap[N]? = some (.cells #[] 103 (0, 0))) (h : base ≤ N) : wx.ownsRow base 103 3 (.slice (some ⟨N, 0, none⟩) 0 0) 0 [] :=
 ⟨rfl, .inr ⟨N, 0, #[], rfl, h, hN, Nat.le_refl _, by unfold maxLen; omega, rfl, rfl⟩⟩
section
variable {w2 wx : World} {ops : Array Oper} {o : Oper} {a : Act} {K : Act → World → Prop} {Q : Exit → Act → World → Prop} {E : Prop}
theorem step_copy (hgd : o.guard = none) (s x : Operand) (hop : o.op = .call { callee := .builtin .append, args := #[s, x], argTypes := #[112, 112] })
  (N : Nat) (A : Option Addr) (m c : Nat) (l : List Wt) (hv : a.eval s = .slice (some ⟨N, 0, none⟩) 0 0) (hx : a.eval x = .slice A m c)
  (hN : wx.heap[N]? = some (.cells #[] 103 (0, 0))) (hle : w2.heap.size ≤ N) (hb : Below w2.heap.size w2 wx) (hr : RdW w2 A m l) (hm : m ≤ 1000)
  (hK : ∀ v' w', w'.ownsRow w2.heap.size 103 3 v' m (flW l) → Below w2.heap.size w2 w' → wx.grownBy w' (some N) → K (a.put o.dst v') w') :
  if Region.wanted o (yielded ops a.tmps) = true then Oper.wp Tryz.prog o a wx K Q else E := by
 obtain ⟨i0, hi, hz0, hz1, hz2⟩ := info_parts inf30
 have hE := own_e hN hle
 refine step_app hgd s x 112 hop w2.heap.size 103 3 24 i0 _ Tryz.underlying112 hi hz0 hz1 hz2 rfl (by decide) _ 0 [] hv hE _ A m c (flW l) hx (hr.later hb).2 (flW_one _) (by unfold maxLen; omega) (by omega) hb.size fun v' w' ho hg => ?_
 rw [Nat.zero_add, List.nil_append] at ho
 exact hK v' w' ho (below_app hb (Nat.le_refl _) hb.size hE hg) hg
theorem step_more (hgd : o.guard = none) (s x : Operand) (hop : o.op = .call { callee := .builtin .append, args := #[s, x], argTypes := #[112, 112] })
  (v : Value) (A : Option Addr) (n m c : Nat) (l l' : List Wt) (hv : a.eval s = v) (hx : a.eval x = .slice A m c)
  (ho : wx.ownsRow w2.heap.size 103 3 v n (flW l)) (hb : Below w2.heap.size w2 wx) (hr : RdW wx A m l') (hn : n ≤ 1000) (hm : m ≤ 1000)
  (hK : ∀ v' w', w'.ownsRow w2.heap.size 103 3 v' (n + m) (flW (l ++ l')) → Below w2.heap.size w2 w' → K (a.put o.dst v') w') :
  if Region.wanted o (yielded ops a.tmps) = true then Oper.wp Tryz.prog o a wx K Q else E := by
 obtain ⟨i0, hi, hz0, hz1, hz2⟩ := info_parts inf30
 refine step_app hgd s x 112 hop w2.heap.size 103 3 24 i0 _ Tryz.underlying112 hi hz0 hz1 hz2 rfl (by decide) _ n (flW l) hv ho _ A m c (flW l') hx hr.2 (flW_one _) (by unfold maxLen; omega) (by omega) hb.size fun v' w' ho' hg => ?_
 rw [← flW_app] at ho'
 exact hK v' w' ho' (below_app hb (Nat.le_refl _) hb.size ho hg)
end
theorem rd_one (w : World) (x : Wt) : RdW (w.alloc (.cells #[.int .i64 x.t, .int .i64 x.c, .int .i64 x.v] 103)) (some ⟨w.heap.size, 0, none⟩) 1 [x] := ⟨rfl, Rd.one w x _ rfl⟩
theorem rd_blk {w : World} {N : Nat} {x : Wt} (h : w.heap[N]? = some (.cells #[.int .i64 x.t, .int .i64 x.c, .int .i64 x.v] 103 (0, 0))) : RdW w (some ⟨N, 0, none⟩) 1 [x] := by
 refine ⟨rfl, rfl, fun _ => ⟨N, 0, rfl, lt_of_blk h, fun j u hu => ?_⟩⟩
 rw [Nat.zero_add, cell_of_row w N j _ _ _ h]
 simpa [flW, wV] using hu
theorem heap_w2 (w : World) (o o2 : Obj) : ((w.alloc o).alloc o2).heap[w.heap.size]? = some o := (Below.heap_alloc _ _ _ (by simp)).trans (heap_alloc_new _ _)
theorem heap_w3 (w : World) (o o2 : Obj) : ((w.alloc o).alloc o2).heap[w.heap.size + 1]? = some o2 := by
 have := heap_alloc_new (w.alloc o) o2
 rw [World.size_alloc] at this
 exact this
theorem kept {w w' : World} {N k : Nat} {o : Obj} (hg : w.grownBy w' (some N)) (hk : w.heap[k]? = some o) (hne : k ≠ N) : w'.heap[k]? = some o := (hg.block k (lt_of_blk hk) (fun e => hne (by cases e; rfl))).trans hk
theorem okN_nn {ok : Nat → Prop} {N m : Nat} (h : ¬ ok m) (hm : m < N) : ¬ okN ok N m := fun hn => by rcases hn with hn | hn; exact h hn; omega
def MwR (ok : Nat → Prop) (m : Nat) (g : CS × Int) (w : World) (e : Ending) (w' : World) : Prop := e = .returned (.int .i64 g.2) ∧ Mo ok m g.1 w w'
section
variable {w : World} {ok : Nat → Prop} {m : Nat} {s : CS}
set_option maxRecDepth 100000 in
set_option maxHeartbeats 8000000 in
theorem mwait_send (x : Wt) (h : MD w ok m s) (hk : s.kd = 0) (hc : s.cl = false) (hf : ¬ s.l.length < s.sz) (hm : meet x.t s.rs = false) (hn : s.ss.length ≤ 1000) (hn2 : s.rs.length ≤ 1000) (hl : s.l.length ≤ 1000) : Calls Tryz.prog 37 #[.pointer (some ⟨m, 0, none⟩), wG x, .bool true] w (MwR ok m ({ s with ss := s.ss ++ [x] }, 0) w) := by
 obtain ⟨b, q, r, hx⟩ := h
 have hml := hx.lt
 have HX0 := Lib.hid hx
 have HX2 := Lib.hid (hx.later (below_al w (.cells #[.int .i64 x.t, .int .i64 x.c, .int .i64 x.v] 103)))
 have HA2 : Hid ((w.alloc (.cells #[.int .i64 x.t, .int .i64 x.c, .int .i64 x.v] 103)).heap[w.heap.size]? = some (.cells #[.int .i64 x.t, .int .i64 x.c, .int .i64 x.v] 103 (0, 0))) := heap_alloc_new _ _
 have HB2 := Lib.hid (below_al w (.cells #[.int .i64 x.t, .int .i64 x.c, .int .i64 x.v] 103))
 have hN2 := lt_of_blk HA2.out
 obtain ⟨N, hNe⟩ : ∃ N, w.heap.size = N := ⟨_, rfl⟩
 rw [hNe] at hN2
 clear hx
 unfold wG
 go_enter Tryz.func37, Tryz.ntmps37
 go_upto_region 2 with (fail)
 have HA2 : Hid ((w.alloc (.cells #[.int .i64 x.t, .int .i64 x.c, .int .i64 x.v] 103)).heap[N]? = some (.cells #[.int .i64 x.t, .int .i64 x.c, .int .i64 x.v] 103 (0, 0))) := by rw [← hNe]; exact HA2.out
 have HN := Lib.hid hNe
 clear hNe
 generalize w.alloc (.cells #[.int .i64 x.t, .int .i64 x.c, .int .i64 x.v] 103) = w2 at *
 have p3 : ¬ (s.l.length : Int) < (s.sz : Int) := by omega
 have p4 : decide (s.l.length < s.sz) = false := decide_eq_false hf
 have c0 := HX2.out.c0
 have c3 : w2.cell? ⟨m, 3, none⟩ = some (.bool false) := HX2.out.k3 hc
 have c4 := HX2.out.c4
 have c5 := HX2.out.c5
 have c6 := HX2.out.c6
 have a0 := cell_of_row w2 N 0 _ _ _ HA2.out
 have a1 := cell_of_row w2 N 1 _ _ _ HA2.out
 have a2 := cell_of_row w2 N 2 _ _ _ HA2.out
 simp only [List.getElem?_toArray, List.getElem?_cons_succ, List.getElem?_cons_zero] at a0 a1 a2
 have c1 : w2.cell? ⟨m, 1, none⟩ = some (.bool false) := HX2.out.k1 hk
 have c2 : w2.cell? ⟨m, 2, none⟩ = some (.bool false) := HX2.out.k2 hk
 have HO : Hid (∀ n, Calls Tryz.prog 73 #[.slice r.1 s.rs.length r.2, .int .i64 x.t] (w2.drewN n) fun e w' => e = .returned (.bool false) ∧ w' = w2.drewN n) := by
  intro n
  rw [← hm]
  exact (others_any x.t ⟨rfl, (HX2.out.rr.later (below_drewN (Below.refl _ _) n)).rd⟩ (by omega)).mono fun _ _ h => ⟨h.1, h.2.symm⟩
 go_wp2_with fail
 go_quiet (exact Calls.quiet_of_same (HO.out _))
 have HX3 := Lib.hid (HX2.out.later (below_drewN (Below.refl _ _) nq))
 have HA3 : Hid ((w2.drewN nq).heap[N]? = some (.cells #[.int .i64 x.t, .int .i64 x.c, .int .i64 x.v] 103 (0, 0))) := HA2.out
 have HB3 : Hid (Below w.heap.size w (w2.drewN nq)) := below_drewN HB2.out nq
 have hN3 : N < (w2.drewN nq).heap.size := hN2
 clear c0 c3 c4 c5 c6 a0 a1 a2 c1 c2 HX2 HA2 HB2 hN2
 generalize w2.drewN nq = w3 at *
 clear HO
 have c0 := HX3.out.c0
 have c3 : w3.cell? ⟨m, 3, none⟩ = some (.bool false) := HX3.out.k3 hc
 have c4 := HX3.out.c4
 have c5 := HX3.out.c5
 have c6 := HX3.out.c6
 have a0 := cell_of_row w3 N 0 _ _ _ HA3.out
 have a1 := cell_of_row w3 N 1 _ _ _ HA3.out
 have a2 := cell_of_row w3 N 2 _ _ _ HA3.out
 simp only [List.getElem?_toArray, List.getElem?_cons_succ, List.getElem?_cons_zero] at a0 a1 a2
 have c1 : w3.cell? ⟨m, 1, none⟩ = some (.bool false) := HX3.out.k1 hk
 have c2 : w3.cell? ⟨m, 2, none⟩ = some (.bool false) := HX3.out.k2 hk
 go_wp2_with fail
 go_quiet (fail)
 have HX4 := Lib.hid (HX3.out.later (below_drewN (Below.refl _ _) nq))
 have HA4 : Hid ((w3.drewN nq).heap[N]? = some (.cells #[.int .i64 x.t, .int .i64 x.c, .int .i64 x.v] 103 (0, 0))) := HA3.out
 have HB4 : Hid (Below w.heap.size w (w3.drewN nq)) := below_drewN HB3.out nq
 have hN4 : N < (w3.drewN nq).heap.size := hN3
 clear c0 c3 c4 c5 c6 a0 a1 a2 c1 c2 HX3 HA3 HB3 hN3
 generalize w3.drewN nq = w4 at *
 have c0 := HX4.out.c0
 have c3 : w4.cell? ⟨m, 3, none⟩ = some (.bool false) := HX4.out.k3 hc
 have c4 := HX4.out.c4
 have c5 := HX4.out.c5
 have c6 := HX4.out.c6
 have a0 := cell_of_row w4 N 0 _ _ _ HA4.out
 have a1 := cell_of_row w4 N 1 _ _ _ HA4.out
 have a2 := cell_of_row w4 N 2 _ _ _ HA4.out
 simp only [List.getElem?_toArray, List.getElem?_cons_succ, List.getElem?_cons_zero] at a0 a1 a2
 have c1 : w4.cell? ⟨m, 1, none⟩ = some (.bool false) := HX4.out.k1 hk
 have c2 : w4.cell? ⟨m, 2, none⟩ = some (.bool false) := HX4.out.k2 hk
 clear hm hc hf hk
 go_wp2_with fail
 have f4 := HX4.out.fz 5
 have hl4 := HX4.out.lt
 go_region_law (first
  | (refine step_copy (w2 := w4) rfl (.tmp 86) (.tmp 90) rfl _ q.1 s.ss.length q.2 s.ss rfl rfl (by first | exact heap_e1 _ | exact heap_e2 _ _ | exact heap_e3 _ _) (by first | omega | (simp <;> omega)) (by repeat' (first | exact Below.refl _ _ | (with_reducible assumption) | refine Below.drew ?_ | refine Below.alloc ?_ (by first | omega | (simp <;> omega)) _)) ⟨rfl, HX4.out.rq.rd⟩ (by omega) ?_; intro v6 w6 ho6 hb6 hg6; have hs6 := hb6.size; have HO6 := Lib.hid ho6; have hx6 := HX4.out.later hb6; have e6 := (hb6.block N hN4).trans HA4.out; have a06 := cell_of_row w6 N 0 _ _ _ e6; have a16 := cell_of_row w6 N 1 _ _ _ e6; have a26 := cell_of_row w6 N 2 _ _ _ e6; simp only [List.getElem?_toArray, List.getElem?_cons_succ, List.getElem?_cons_zero] at a06 a16 a26; have hN6 := lt_of_blk e6; clear ho6 hx6 e6)
  | (refine step_more (w2 := w4) rfl (.tmp 91) (.tmp 93) rfl v6 _ s.ss.length 1 1 s.ss [x] rfl rfl (HO6.out.alloc _) (Below.alloc hb6 (by first | omega | (simp <;> omega)) _) (rd_one w6 x) (by omega) (by omega) ?_; intro v7 w7 ho7 hb7; obtain ⟨A5, k5, hv5, _, _⟩ := own_cap ho7; subst hv5; have hx7 := HX4.out.later hb7; have f7 := hx7.fz 5; have hl7 := hx7.lt; have c7 := hx7.c5; have HS : Hid (Mo ok m { s with ss := s.ss ++ [x] } w (w7.setCell ⟨m, 5, none⟩ (.slice A5 (s.ss.length + 1) k5))) := (by have h9 := (hx7.mono (ok' := okN ok w.heap.size) (fun b _ ho => .inl ho) (okN_nn HX0.out.no hml)).setQ (l := s.ss ++ [x]) (q' := (A5, k5)) (Ro.of_own (by rw [List.length_append]; exact ho7) (fun b hb => .inr (Nat.le_trans HB4.out.size hb))); rw [List.length_append] at h9; exact ⟨⟨_, _, _, h9⟩, ((Tn.of_below (F := fun k => k = m) (HB4.out.trans (hb7.mono HB4.out.size))).set (.inl rfl) _)⟩); clear ho7 hx7 c4 c5 c6)
  | (refine step_more (w2 := w4) rfl (.tmp 91) (.tmp 93) rfl v6 _ s.ss.length 1 1 s.ss [x] rfl rfl HO6.out hb6 (rd_blk (x := x) (kept hg6 (by first | exact heap_w2 _ _ _ | exact heap_w3 _ _ _) (by first | omega | (simp <;> omega)))) (by omega) (by omega) ?_; intro v7 w7 ho7 hb7; obtain ⟨A5, k5, hv5, _, _⟩ := own_cap ho7; subst hv5; have hx7 := HX4.out.later hb7; have f7 := hx7.fz 5; have hl7 := hx7.lt; have c7 := hx7.c5; have HS : Hid (Mo ok m { s with ss := s.ss ++ [x] } w (w7.setCell ⟨m, 5, none⟩ (.slice A5 (s.ss.length + 1) k5))) := (by have h9 := (hx7.mono (ok' := okN ok w.heap.size) (fun b _ ho => .inl ho) (okN_nn HX0.out.no hml)).setQ (l := s.ss ++ [x]) (q' := (A5, k5)) (Ro.of_own (by rw [List.length_append]; exact ho7) (fun b hb => .inr (Nat.le_trans HB4.out.size hb))); rw [List.length_append] at h9; exact ⟨⟨_, _, _, h9⟩, ((Tn.of_below (F := fun k => k = m) (HB4.out.trans (hb7.mono HB4.out.size))).set (.inl rfl) _)⟩); clear ho7 hx7 c4 c5 c6))
 all_goals
  go_wp2_with fail
  go_ret
  exact ⟨rfl, HS.out⟩
set_option maxRecDepth 100000 in
set_option maxHeartbeats 8000000 in
theorem mwait_recv (x : Wt) (h : MD w ok m s) (hc : s.cl = false) (hf : s.l = []) (hm : meet x.t s.ss = false) (hn : s.ss.length ≤ 1000) (hn2 : s.rs.length ≤ 1000) (hl : s.l.length ≤ 1000) : Calls Tryz.prog 37 #[.pointer (some ⟨m, 0, none⟩), wG x, .bool false] w (MwR ok m ({ s with rs := s.rs ++ [x] }, 0) w) := by
 obtain ⟨b, q, r, hx⟩ := h
 have hml := hx.lt
 have HX0 := Lib.hid hx
 have HX2 := Lib.hid (hx.later (below_al w (.cells #[.int .i64 x.t, .int .i64 x.c, .int .i64 x.v] 103)))
 have HA2 : Hid ((w.alloc (.cells #[.int .i64 x.t, .int .i64 x.c, .int .i64 x.v] 103)).heap[w.heap.size]? = some (.cells #[.int .i64 x.t, .int .i64 x.c, .int .i64 x.v] 103 (0, 0))) := heap_alloc_new _ _
 have HB2 := Lib.hid (below_al w (.cells #[.int .i64 x.t, .int .i64 x.c, .int .i64 x.v] 103))
 have hN2 := lt_of_blk HA2.out
 obtain ⟨N, hNe⟩ : ∃ N, w.heap.size = N := ⟨_, rfl⟩
 rw [hNe] at hN2
 clear hx
 unfold wG
 go_enter Tryz.func37, Tryz.ntmps37
 go_upto_region 2 with (fail)
 have HA2 : Hid ((w.alloc (.cells #[.int .i64 x.t, .int .i64 x.c, .int .i64 x.v] 103)).heap[N]? = some (.cells #[.int .i64 x.t, .int .i64 x.c, .int .i64 x.v] 103 (0, 0))) := by rw [← hNe]; exact HA2.out
 have HN := Lib.hid hNe
 clear hNe
 generalize w.alloc (.cells #[.int .i64 x.t, .int .i64 x.c, .int .i64 x.v] 103) = w2 at *
 have c0 := HX2.out.c0
 have c3 : w2.cell? ⟨m, 3, none⟩ = some (.bool false) := HX2.out.k3 hc
 have c4 := HX2.out.c4
 have c5 := HX2.out.c5
 have c6 := HX2.out.c6
 have a0 := cell_of_row w2 N 0 _ _ _ HA2.out
 have a1 := cell_of_row w2 N 1 _ _ _ HA2.out
 have a2 := cell_of_row w2 N 2 _ _ _ HA2.out
 simp only [List.getElem?_toArray, List.getElem?_cons_succ, List.getElem?_cons_zero] at a0 a1 a2
 rw [hf, List.length_nil] at c4
 go_wp2_with fail
 go_quiet (fail)
 have HX3 := Lib.hid (HX2.out.later (below_drewN (Below.refl _ _) nq))
 have HA3 : Hid ((w2.drewN nq).heap[N]? = some (.cells #[.int .i64 x.t, .int .i64 x.c, .int .i64 x.v] 103 (0, 0))) := HA2.out
 have HB3 : Hid (Below w.heap.size w (w2.drewN nq)) := below_drewN HB2.out nq
 have hN3 : N < (w2.drewN nq).heap.size := hN2
 clear c0 c3 c4 c5 c6 a0 a1 a2 HX2 HA2 HB2 hN2
 generalize w2.drewN nq = w3 at *
 have c0 := HX3.out.c0
 have c3 : w3.cell? ⟨m, 3, none⟩ = some (.bool false) := HX3.out.k3 hc
 have c4 := HX3.out.c4
 have c5 := HX3.out.c5
 have c6 := HX3.out.c6
 have a0 := cell_of_row w3 N 0 _ _ _ HA3.out
 have a1 := cell_of_row w3 N 1 _ _ _ HA3.out
 have a2 := cell_of_row w3 N 2 _ _ _ HA3.out
 simp only [List.getElem?_toArray, List.getElem?_cons_succ, List.getElem?_cons_zero] at a0 a1 a2
 rw [hf, List.length_nil] at c4
 have HO : Hid (∀ n, Calls Tryz.prog 73 #[.slice q.1 s.ss.length q.2, .int .i64 x.t] (w3.drewN n) fun e w' => e = .returned (.bool false) ∧ w' = w3.drewN n) := by
  intro n
  rw [← hm]
  exact (others_any x.t ⟨rfl, (HX3.out.rq.later (below_drewN (Below.refl _ _) n)).rd⟩ (by omega)).mono fun _ _ h => ⟨h.1, h.2.symm⟩
 go_wp2_with fail
 go_quiet (exact Calls.quiet_of_same (HO.out _))
 have HX4 := Lib.hid (HX3.out.later (below_drewN (Below.refl _ _) nq))
 have HA4 : Hid ((w3.drewN nq).heap[N]? = some (.cells #[.int .i64 x.t, .int .i64 x.c, .int .i64 x.v] 103 (0, 0))) := HA3.out
 have HB4 : Hid (Below w.heap.size w (w3.drewN nq)) := below_drewN HB3.out nq
 have hN4 : N < (w3.drewN nq).heap.size := hN3
 clear c0 c3 c4 c5 c6 a0 a1 a2 HX3 HA3 HB3 hN3
 generalize w3.drewN nq = w4 at *
 clear HO
 have c0 := HX4.out.c0
 have c3 : w4.cell? ⟨m, 3, none⟩ = some (.bool false) := HX4.out.k3 hc
 have c4 := HX4.out.c4
 have c5 := HX4.out.c5
 have c6 := HX4.out.c6
 have a0 := cell_of_row w4 N 0 _ _ _ HA4.out
 have a1 := cell_of_row w4 N 1 _ _ _ HA4.out
 have a2 := cell_of_row w4 N 2 _ _ _ HA4.out
 simp only [List.getElem?_toArray, List.getElem?_cons_succ, List.getElem?_cons_zero] at a0 a1 a2
 rw [hf, List.length_nil] at c4
 clear hm hc hf
 go_wp2_with fail
 have f4 := HX4.out.fz 6
 have hl4 := HX4.out.lt
 go_region_law (first
  | (refine step_copy (w2 := w4) rfl (.tmp 8) (.tmp 12) rfl _ r.1 s.rs.length r.2 s.rs rfl rfl (by first | exact heap_e1 _ | exact heap_e2 _ _ | exact heap_e3 _ _) (by first | omega | (simp <;> omega)) (by repeat' (first | exact Below.refl _ _ | (with_reducible assumption) | refine Below.drew ?_ | refine Below.alloc ?_ (by first | omega | (simp <;> omega)) _)) ⟨rfl, HX4.out.rr.rd⟩ (by omega) ?_; intro v6 w6 ho6 hb6 hg6; have hs6 := hb6.size; have HO6 := Lib.hid ho6; have hx6 := HX4.out.later hb6; have e6 := (hb6.block N hN4).trans HA4.out; have a06 := cell_of_row w6 N 0 _ _ _ e6; have a16 := cell_of_row w6 N 1 _ _ _ e6; have a26 := cell_of_row w6 N 2 _ _ _ e6; simp only [List.getElem?_toArray, List.getElem?_cons_succ, List.getElem?_cons_zero] at a06 a16 a26; have hN6 := lt_of_blk e6; clear ho6 hx6 e6)
  | (refine step_more (w2 := w4) rfl (.tmp 13) (.tmp 15) rfl v6 _ s.rs.length 1 1 s.rs [x] rfl rfl (HO6.out.alloc _) (Below.alloc hb6 (by first | omega | (simp <;> omega)) _) (rd_one w6 x) (by omega) (by omega) ?_; intro v7 w7 ho7 hb7; obtain ⟨A5, k5, hv5, _, _⟩ := own_cap ho7; subst hv5; have hx7 := HX4.out.later hb7; have f7 := hx7.fz 6; have hl7 := hx7.lt; have c7 := hx7.c6; have HS : Hid (Mo ok m { s with rs := s.rs ++ [x] } w (w7.setCell ⟨m, 6, none⟩ (.slice A5 (s.rs.length + 1) k5))) := (by have h9 := (hx7.mono (ok' := okN ok w.heap.size) (fun b _ ho => .inl ho) (okN_nn HX0.out.no hml)).setR (l := s.rs ++ [x]) (r' := (A5, k5)) (Ro.of_own (by rw [List.length_append]; exact ho7) (fun b hb => .inr (Nat.le_trans HB4.out.size hb))); rw [List.length_append] at h9; exact ⟨⟨_, _, _, h9⟩, ((Tn.of_below (F := fun k => k = m) (HB4.out.trans (hb7.mono HB4.out.size))).set (.inl rfl) _)⟩); clear ho7 hx7 c4 c5 c6)
  | (refine step_more (w2 := w4) rfl (.tmp 13) (.tmp 15) rfl v6 _ s.rs.length 1 1 s.rs [x] rfl rfl HO6.out hb6 (rd_blk (x := x) (kept hg6 (by first | exact heap_w2 _ _ _ | exact heap_w3 _ _ _) (by first | omega | (simp <;> omega)))) (by omega) (by omega) ?_; intro v7 w7 ho7 hb7; obtain ⟨A5, k5, hv5, _, _⟩ := own_cap ho7; subst hv5; have hx7 := HX4.out.later hb7; have f7 := hx7.fz 6; have hl7 := hx7.lt; have c7 := hx7.c6; have HS : Hid (Mo ok m { s with rs := s.rs ++ [x] } w (w7.setCell ⟨m, 6, none⟩ (.slice A5 (s.rs.length + 1) k5))) := (by have h9 := (hx7.mono (ok' := okN ok w.heap.size) (fun b _ ho => .inl ho) (okN_nn HX0.out.no hml)).setR (l := s.rs ++ [x]) (r' := (A5, k5)) (Ro.of_own (by rw [List.length_append]; exact ho7) (fun b hb => .inr (Nat.le_trans HB4.out.size hb))); rw [List.length_append] at h9; exact ⟨⟨_, _, _, h9⟩, ((Tn.of_below (F := fun k => k = m) (HB4.out.trans (hb7.mono HB4.out.size))).set (.inl rfl) _)⟩); clear ho7 hx7 c4 c5 c6))
 all_goals
  go_wp2_with fail
  go_ret
  exact ⟨rfl, HS.out⟩
end
end Go.Proofs.YtdpapnfjpefhkaaGreat.Ch
namespace Go.Proofs.YtdpapnfjpefhkaaGreat.Ch
open Go.RowKit
set_option linter.unusedVariables false
set_option maxRecDepth 100000
section
variable {w : World} {ok : Nat → Prop} {m : Nat} {s : CS}
set_option maxRecDepth 100000 in
theorem mwait_room (x : Wt) (h : MD w ok m s) (hk : s.kd = 0) (hc : s.cl = false) (hf : s.l.length < s.sz) (hn : s.ss.length ≤ 1000) (hn2 : s.rs.length ≤ 1000) (hl : s.l.length ≤ 1000) : Calls Tryz.prog 37 #[.pointer (some ⟨m, 0, none⟩), wG x, .bool true] w (MwR ok m (s, 1) w) := by
 obtain ⟨b, q, r, hx⟩ := h
 have hml := hx.lt
 have HM := Lib.hid (Mo.same ⟨b, q, r, hx⟩)
 have HX2 := Lib.hid (hx.later (below_al w (.cells #[.int .i64 x.t, .int .i64 x.c, .int .i64 x.v] 103)))
 have HB2 := Lib.hid (below_al w (.cells #[.int .i64 x.t, .int .i64 x.c, .int .i64 x.v] 103))
 have HA2 : Hid ((w.alloc (.cells #[.int .i64 x.t, .int .i64 x.c, .int .i64 x.v] 103)).heap[w.heap.size]? = some (.cells #[.int .i64 x.t, .int .i64 x.c, .int .i64 x.v] 103 (0, 0))) := heap_alloc_new _ _
 clear hx
 unfold wG
 go_enter Tryz.func37, Tryz.ntmps37
 go_upto_region 2 with (fail)
 have HM2 := Lib.hid (HM.out.later HB2.out)
 clear HM HB2
 generalize w.heap.size = N at *
 generalize w.alloc (.cells #[.int .i64 x.t, .int .i64 x.c, .int .i64 x.v] 103) = w2 at *
 have p3 : (s.l.length : Int) < (s.sz : Int) := by omega
 have p4 : decide (s.l.length < s.sz) = true := decide_eq_true hf
 have c0 := HX2.out.c0
 have c3 : w2.cell? ⟨m, 3, none⟩ = some (.bool false) := HX2.out.k3 hc
 have c4 := HX2.out.c4
 have c5 := HX2.out.c5
 have c6 := HX2.out.c6
 have a0 := cell_of_row w2 N 0 _ _ _ HA2.out
 simp only [List.getElem?_toArray, List.getElem?_cons_zero] at a0
 have c1 : w2.cell? ⟨m, 1, none⟩ = some (.bool false) := HX2.out.k1 hk
 have c2 : w2.cell? ⟨m, 2, none⟩ = some (.bool false) := HX2.out.k2 hk
 go_wp2_with fail
 go_quiet (fail)
 have HX3 := Lib.hid (HX2.out.later (below_drewN (Below.refl _ _) nq))
 have HM3 := Lib.hid (HM2.out.later (w'' := w2.drewN nq) (below_drewN (Below.refl _ _) nq))
 have HA3 : Hid ((w2.drewN nq).heap[N]? = some (.cells #[.int .i64 x.t, .int .i64 x.c, .int .i64 x.v] 103 (0, 0))) := HA2.out
 clear c0 c3 c4 c5 c6 a0 c1 c2 HX2 HA2 HM2
 generalize w2.drewN nq = w3 at *
 go_wp2_with fail
 go_ret
 exact ⟨rfl, HM3.out⟩
set_option maxRecDepth 100000 in
theorem mwait_meet (x : Wt) (h : MD w ok m s) (hk : s.kd = 0) (hc : s.cl = false) (hf : ¬ s.l.length < s.sz) (hm : meet x.t s.rs = true) (hn : s.ss.length ≤ 1000) (hn2 : s.rs.length ≤ 1000) (hl : s.l.length ≤ 1000) : Calls Tryz.prog 37 #[.pointer (some ⟨m, 0, none⟩), wG x, .bool true] w (MwR ok m (s, 1) w) := by
 obtain ⟨b, q, r, hx⟩ := h
 have hml := hx.lt
 have HM := Lib.hid (Mo.same ⟨b, q, r, hx⟩)
 have HX2 := Lib.hid (hx.later (below_al w (.cells #[.int .i64 x.t, .int .i64 x.c, .int .i64 x.v] 103)))
 have HB2 := Lib.hid (below_al w (.cells #[.int .i64 x.t, .int .i64 x.c, .int .i64 x.v] 103))
 have HA2 : Hid ((w.alloc (.cells #[.int .i64 x.t, .int .i64 x.c, .int .i64 x.v] 103)).heap[w.heap.size]? = some (.cells #[.int .i64 x.t, .int .i64 x.c, .int .i64 x.v] 103 (0, 0))) := heap_alloc_new _ _
 clear hx
 unfold wG
 go_enter Tryz.func37, Tryz.ntmps37
 go_upto_region 2 with (fail)
 have HM2 := Lib.hid (HM.out.later HB2.out)
 clear HM HB2
 generalize w.heap.size = N at *
 generalize w.alloc (.cells #[.int .i64 x.t, .int .i64 x.c, .int .i64 x.v] 103) = w2 at *
 have p3 : ¬ (s.l.length : Int) < (s.sz : Int) := by omega
 have p4 : decide (s.l.length < s.sz) = false := decide_eq_false hf
 have c0 := HX2.out.c0
 have c3 : w2.cell? ⟨m, 3, none⟩ = some (.bool false) := HX2.out.k3 hc
 have c4 := HX2.out.c4
 have c5 := HX2.out.c5
 have c6 := HX2.out.c6
 have a0 := cell_of_row w2 N 0 _ _ _ HA2.out
 simp only [List.getElem?_toArray, List.getElem?_cons_zero] at a0
 have c1 : w2.cell? ⟨m, 1, none⟩ = some (.bool false) := HX2.out.k1 hk
 have c2 : w2.cell? ⟨m, 2, none⟩ = some (.bool false) := HX2.out.k2 hk
 have HO : Hid (∀ n, Calls Tryz.prog 73 #[.slice r.1 s.rs.length r.2, .int .i64 x.t] (w2.drewN n) fun e w' => e = .returned (.bool true) ∧ w' = w2.drewN n) := by
  intro n
  rw [← hm]
  exact (others_any x.t ⟨rfl, (HX2.out.rr.later (below_drewN (Below.refl _ _) n)).rd⟩ (by omega)).mono fun _ _ h => ⟨h.1, h.2.symm⟩
 go_wp2_with fail
 go_quiet (exact Calls.quiet_of_same (HO.out _))
 have HX3 := Lib.hid (HX2.out.later (below_drewN (Below.refl _ _) nq))
 have HM3 := Lib.hid (HM2.out.later (w'' := w2.drewN nq) (below_drewN (Below.refl _ _) nq))
 have HA3 : Hid ((w2.drewN nq).heap[N]? = some (.cells #[.int .i64 x.t, .int .i64 x.c, .int .i64 x.v] 103 (0, 0))) := HA2.out
 clear c0 c3 c4 c5 c6 a0 c1 c2 HX2 HA2 HM2
 generalize w2.drewN nq = w3 at *
 clear HO
 go_wp2_with fail
 go_ret
 exact ⟨rfl, HM3.out⟩
set_option maxRecDepth 100000 in
theorem mwait_val (x : Wt) (h : MD w ok m s) (hc : s.cl = false) (hf : 0 < s.l.length) (hn : s.ss.length ≤ 1000) (hn2 : s.rs.length ≤ 1000) (hl : s.l.length ≤ 1000) : Calls Tryz.prog 37 #[.pointer (some ⟨m, 0, none⟩), wG x, .bool false] w (MwR ok m (s, 1) w) := by
 obtain ⟨b, q, r, hx⟩ := h
 have hml := hx.lt
 have HM := Lib.hid (Mo.same ⟨b, q, r, hx⟩)
 have HX2 := Lib.hid (hx.later (below_al w (.cells #[.int .i64 x.t, .int .i64 x.c, .int .i64 x.v] 103)))
 have HB2 := Lib.hid (below_al w (.cells #[.int .i64 x.t, .int .i64 x.c, .int .i64 x.v] 103))
 have HA2 : Hid ((w.alloc (.cells #[.int .i64 x.t, .int .i64 x.c, .int .i64 x.v] 103)).heap[w.heap.size]? = some (.cells #[.int .i64 x.t, .int .i64 x.c, .int .i64 x.v] 103 (0, 0))) := heap_alloc_new _ _
 clear hx
 unfold wG
 go_enter Tryz.func37, Tryz.ntmps37
 go_upto_region 2 with (fail)
 have HM2 := Lib.hid (HM.out.later HB2.out)
 clear HM HB2
 generalize w.heap.size = N at *
 generalize w.alloc (.cells #[.int .i64 x.t, .int .i64 x.c, .int .i64 x.v] 103) = w2 at *
 have p3 : 0 < (s.l.length : Int) := by omega
 have p4 : decide (0 < s.l.length) = true := decide_eq_true hf
 have c0 := HX2.out.c0
 have c3 : w2.cell? ⟨m, 3, none⟩ = some (.bool false) := HX2.out.k3 hc
 have c4 := HX2.out.c4
 have c5 := HX2.out.c5
 have c6 := HX2.out.c6
 have a0 := cell_of_row w2 N 0 _ _ _ HA2.out
 simp only [List.getElem?_toArray, List.getElem?_cons_zero] at a0
 go_wp2_with fail
 go_quiet (fail)
 have HX9 := Lib.hid (HX2.out.later (below_drewN (Below.refl _ _) nq))
 have HM9 := Lib.hid (HM2.out.later (w'' := w2.drewN nq) (below_drewN (Below.refl _ _) nq))
 have HA9 : Hid ((w2.drewN nq).heap[N]? = some (.cells #[.int .i64 x.t, .int .i64 x.c, .int .i64 x.v] 103 (0, 0))) := HA2.out
 clear c0 c3 c4 c5 c6 a0 HX2 HA2 HM2
 generalize w2.drewN nq = w2' at *
 have c0 := HX9.out.c0
 have c3 : w2'.cell? ⟨m, 3, none⟩ = some (.bool false) := HX9.out.k3 hc
 have c4 := HX9.out.c4
 have c5 := HX9.out.c5
 have c6 := HX9.out.c6
 have a0 := cell_of_row w2' N 0 _ _ _ HA9.out
 simp only [List.getElem?_toArray, List.getElem?_cons_zero] at a0
 go_wp2_with fail
 go_quiet (fail)
 have HX3 := Lib.hid (HX9.out.later (below_drewN (Below.refl _ _) nq))
 have HM3 := Lib.hid (HM9.out.later (w'' := w2'.drewN nq) (below_drewN (Below.refl _ _) nq))
 have HA3 : Hid ((w2'.drewN nq).heap[N]? = some (.cells #[.int .i64 x.t, .int .i64 x.c, .int .i64 x.v] 103 (0, 0))) := HA9.out
 clear c0 c3 c4 c5 c6 a0 HX9 HA9 HM9
 generalize w2'.drewN nq = w3 at *
 go_wp2_with fail
 go_ret
 exact ⟨rfl, HM3.out⟩
set_option maxRecDepth 100000 in
theorem mwait_other (x : Wt) (h : MD w ok m s) (hc : s.cl = false) (hf : s.l = []) (hm : meet x.t s.ss = true) (hn : s.ss.length ≤ 1000) (hn2 : s.rs.length ≤ 1000) (hl : s.l.length ≤ 1000) : Calls Tryz.prog 37 #[.pointer (some ⟨m, 0, none⟩), wG x, .bool false] w (MwR ok m (s, 1) w) := by
 obtain ⟨b, q, r, hx⟩ := h
 have hml := hx.lt
 have HM := Lib.hid (Mo.same ⟨b, q, r, hx⟩)
 have HX2 := Lib.hid (hx.later (below_al w (.cells #[.int .i64 x.t, .int .i64 x.c, .int .i64 x.v] 103)))
 have HB2 := Lib.hid (below_al w (.cells #[.int .i64 x.t, .int .i64 x.c, .int .i64 x.v] 103))
 have HA2 : Hid ((w.alloc (.cells #[.int .i64 x.t, .int .i64 x.c, .int .i64 x.v] 103)).heap[w.heap.size]? = some (.cells #[.int .i64 x.t, .int .i64 x.c, .int .i64 x.v] 103 (0, 0))) := heap_alloc_new _ _
 clear hx
 unfold wG
 go_enter Tryz.func37, Tryz.ntmps37
 go_upto_region 2 with (fail)
 have HM2 := Lib.hid (HM.out.later HB2.out)
 clear HM HB2
 generalize w.heap.size = N at *
 generalize w.alloc (.cells #[.int .i64 x.t, .int .i64 x.c, .int .i64 x.v] 103) = w2 at *
 have c0 := HX2.out.c0
 have c3 : w2.cell? ⟨m, 3, none⟩ = some (.bool false) := HX2.out.k3 hc
 have c4 := HX2.out.c4
 have c5 := HX2.out.c5
 have c6 := HX2.out.c6
 have a0 := cell_of_row w2 N 0 _ _ _ HA2.out
 simp only [List.getElem?_toArray, List.getElem?_cons_zero] at a0
 rw [hf, List.length_nil] at c4
 go_wp2_with fail
 go_quiet (fail)
 have HX9 := Lib.hid (HX2.out.later (below_drewN (Below.refl _ _) nq))
 have HM9 := Lib.hid (HM2.out.later (w'' := w2.drewN nq) (below_drewN (Below.refl _ _) nq))
 have HA9 : Hid ((w2.drewN nq).heap[N]? = some (.cells #[.int .i64 x.t, .int .i64 x.c, .int .i64 x.v] 103 (0, 0))) := HA2.out
 clear c0 c3 c4 c5 c6 a0 HX2 HA2 HM2
 generalize w2.drewN nq = w2' at *
 have c0 := HX9.out.c0
 have c3 : w2'.cell? ⟨m, 3, none⟩ = some (.bool false) := HX9.out.k3 hc
 have c4 := HX9.out.c4
 have c5 := HX9.out.c5
 have c6 := HX9.out.c6
 have a0 := cell_of_row w2' N 0 _ _ _ HA9.out
 simp only [List.getElem?_toArray, List.getElem?_cons_zero] at a0
 rw [hf, List.length_nil] at c4
 have HO : Hid (∀ n, Calls Tryz.prog 73 #[.slice q.1 s.ss.length q.2, .int .i64 x.t] (w2'.drewN n) fun e w' => e = .returned (.bool true) ∧ w' = w2'.drewN n) := by
  intro n
  rw [← hm]
  exact (others_any x.t ⟨rfl, (HX9.out.rq.later (below_drewN (Below.refl _ _) n)).rd⟩ (by omega)).mono fun _ _ h => ⟨h.1, h.2.symm⟩
 go_wp2_with fail
 go_quiet (exact Calls.quiet_of_same (HO.out _))
 have HX3 := Lib.hid (HX9.out.later (below_drewN (Below.refl _ _) nq))
 have HM3 := Lib.hid (HM9.out.later (w'' := w2'.drewN nq) (below_drewN (Below.refl _ _) nq))
 have HA3 : Hid ((w2'.drewN nq).heap[N]? = some (.cells #[.int .i64 x.t, .int .i64 x.c, .int .i64 x.v] 103 (0, 0))) := HA9.out
 clear c0 c3 c4 c5 c6 a0 HX9 HA9 HM9
 generalize w2'.drewN nq = w3 at *
 clear HO
 go_wp2_with fail
 go_ret
 exact ⟨rfl, HM3.out⟩
theorem mwait_nil (x : Wt) (b : Bool) (w : World) : Calls Tryz.prog 37 #[.pointer none, wG x, .bool b] w fun e w' => e = .returned (.int .i64 6) ∧ Below w.heap.size w w' := by
 unfold wG
 go_enter Tryz.func37, Tryz.ntmps37
 go_wp2
 go_ret
 exact ⟨rfl, below_al _ _⟩
theorem mwait_kind (x : Wt) (h : MD w ok m s) (hk : s.kd ≠ 0) (hk2 : s.kd ≤ 2) : Calls Tryz.prog 37 #[.pointer (some ⟨m, 0, none⟩), wG x, .bool true] w (MwR ok m (s, 7) w) := by
 have HM := Lib.hid ((Mo.same h).later (below_al w (.cells #[.int .i64 x.t, .int .i64 x.c, .int .i64 x.v] 103)))
 obtain ⟨b, q, r, hx⟩ := h
 have hx2 := hx.later (below_al w (.cells #[.int .i64 x.t, .int .i64 x.c, .int .i64 x.v] 103))
 clear hx
 unfold wG
 by_cases h1 : s.kd = 1
 · have c1 := hx2.k1 h1
   simp only [BEq.rfl] at c1
   clear hx2 hk hk2
   go_enter Tryz.func37, Tryz.ntmps37
   go_wp2
   go_ret
   exact ⟨rfl, HM.out⟩
 · have h2 : s.kd = 2 := by omega
   have c1 := hx2.k1 h2
   have c2 := hx2.k2 h2
   rw [show ((2 : Nat) == 1) = false from rfl] at c1
   rw [show ((2 : Nat) == 2) = true from rfl] at c2
   clear hx2 hk hk2 h1
   go_enter Tryz.func37, Tryz.ntmps37
   go_wp2
   go_ret
   exact ⟨rfl, HM.out⟩
theorem mwait_closed (x : Wt) (b : Bool) (h : MD w ok m s) (hk : ¬ (b = true ∧ s.kd ≠ 0)) (hc : s.cl = true) : Calls Tryz.prog 37 #[.pointer (some ⟨m, 0, none⟩), wG x, .bool b] w (MwR ok m (s, 5) w) := by
 have HM := Lib.hid ((Mo.same h).later (below_al w (.cells #[.int .i64 x.t, .int .i64 x.c, .int .i64 x.v] 103)))
 obtain ⟨vb, q, r, hx⟩ := h
 have hx2 := hx.later (below_al w (.cells #[.int .i64 x.t, .int .i64 x.c, .int .i64 x.v] 103))
 have c3 := hx2.k3 hc
 clear hx
 unfold wG
 cases b with
 | true =>
  have h0 : s.kd = 0 := by
   by_cases h0 : s.kd = 0
   · exact h0
   · exact absurd ⟨rfl, h0⟩ hk
  have c1 := hx2.k1 h0
  have c2 := hx2.k2 h0
  rw [show ((0 : Nat) == 1) = false from rfl] at c1
  rw [show ((0 : Nat) == 2) = false from rfl] at c2
  clear hx2 hk
  go_enter Tryz.func37, Tryz.ntmps37
  go_wp2
  go_ret
  exact ⟨rfl, HM.out⟩
 | false =>
  clear hx2 hk
  go_enter Tryz.func37, Tryz.ntmps37
  go_wp2
  go_ret
  exact ⟨rfl, HM.out⟩
theorem mwait_any (x : Wt) (b : Bool) (h : MD w ok m s) (hk2 : s.kd ≤ 2) (hn : s.ss.length ≤ 1000) (hn2 : s.rs.length ≤ 1000) (hl : s.l.length ≤ 1000) : Calls Tryz.prog 37 #[.pointer (some ⟨m, 0, none⟩), wG x, .bool b] w (MwR ok m (wt s x b) w) := by
 unfold wt
 split
 · rename_i hk
   obtain ⟨rfl, hk⟩ := hk
   exact mwait_kind x h hk hk2
 · rename_i hk
   split
   · rename_i hc
     exact mwait_closed x b h hk hc
   · rename_i hc
     have hc' : s.cl = false := by simpa using hc
     cases b with
     | true =>
      have h0 : s.kd = 0 := by
       by_cases h0 : s.kd = 0
       · exact h0
       · exact absurd ⟨rfl, h0⟩ hk
      by_cases hf : s.l.length < s.sz
      · rw [if_pos (by simp [fr, hf])]
        exact mwait_room x h h0 hc' hf hn hn2 hl
      · cases hm : meet x.t s.rs with
        | true =>
         rw [if_pos (by simp [fr, CS.q, hm])]
         exact mwait_meet x h h0 hc' hf hm hn hn2 hl
        | false =>
         rw [if_neg (by simp [fr, hf, CS.q, hm])]
         exact mwait_send x h h0 hc' hf hm hn hn2 hl
     | false =>
      by_cases hf : 0 < s.l.length
      · rw [if_pos (by simp [fr, hf])]
        exact mwait_val x h hc' hf hn hn2 hl
      · have hf' : s.l = [] := List.eq_nil_of_length_eq_zero (by omega)
        cases hm : meet x.t s.ss with
        | true =>
         rw [if_pos (by simp [fr, CS.q, hm])]
         exact mwait_other x h hc' hf' hm hn hn2 hl
        | false =>
         rw [if_neg (by simp [fr, hf', CS.q, hm])]
         exact mwait_recv x h hc' hf' hm hn hn2 hl
end
end Go.Proofs.YtdpapnfjpefhkaaGreat.Ch
