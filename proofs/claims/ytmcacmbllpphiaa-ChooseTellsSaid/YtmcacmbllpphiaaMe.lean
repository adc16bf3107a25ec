/- The document's own channel: met, end, Close, End. Conditions: each theorem's own premises. -/
import Derived.Test.YtmcacmbllpphiaaMs
import Derived.Deep.CutRange
namespace Go.Proofs.Ytmcacmbllpphiaa
open Go.RowKit
set_option linter.unusedVariables false

theorem met_any {w : World} {A : Option Addr} {n c : Nat} {l : List Wk} (t : Int) (h : RdK w A n l) (hn : n ≤ 1000000) : Calls Try.prog 81 #[.slice A n c, .int .i64 t] w fun e w' => e = .returned (.bool (decide (t ∈ l.map (·.t)))) ∧ w = w' := by
  have H := Lib.hid h
  have b1 : (n : Int) ≤ 1000000 := by omega
  clear h
  go_enter Try.func81, Try.ntmps81
  go_wp2_with fail
  go_loopw [5] (fun i wr => ∃ k : Nat, k ≤ n ∧ i = .int .i64 k ∧ wr = w ∧ Hid (t ∉ (l.take k).map (·.t))) (fun i _ => n - (intOf i).toNat)
  case atStart => exact ⟨0, by omega, rfl, rfl, by show _ ∉ _; simp⟩
  case round =>
    obtain ⟨k, hk, rfl, rfl, hT⟩ := hrel
    by_cases hlt : k < n
    · have k1 : (k : Int) < (n : Int) := by omega
      have k2 : 0 ≤ (k : Int) := by omega
      have hkl : k < l.length := by rw [H.out.1]; exact hlt
      have hx : l[k]? = some (l[k]'hkl) := List.getElem?_eq_getElem hkl
      have HT : Hid (l.take (k + 1) = l.take k ++ [l[k]'hkl]) := List.take_succ_eq_append_getElem hkl
      obtain ⟨b, cs, e0, hb, hc⟩ := H.out.2 (by omega)
      subst e0
      have c0 := (hc k _ hx).1
      generalize l[k]'hkl = x at *
      have HX : Hid (x ∈ l) := List.mem_of_getElem? hx
      clear hc hb hx hkl
      by_cases d : x.t = t
      · have HE : Hid (decide (t ∈ l.map (·.t)) = true) := decide_eq_true (by rw [← d]; exact List.mem_map.2 ⟨x, HX.out, rfl⟩)
        clear hT HT
        go_wp2_with fail
        go_ret
        exact ⟨ret_bool HE.out.symm, rfl⟩
      · have HT2 : Hid (t ∉ (l.take (k + 1)).map (·.t)) := by
          show _ ∉ _
          rw [HT.out, List.map_append]
          intro h9
          rcases List.mem_append.1 h9 with h9 | h9
          · exact hT.out h9
          · simp at h9; exact d h9.symm
        have d2 : ¬ x.t = t := d
        clear hT HT
        go_wp2_with fail
        go_roundw
        case rel => exact ⟨k + 1, by omega, by go_num, trivial, HT2⟩
        case measure => simp [intOf]; omega
    · obtain rfl : k = n := by omega
      have HE : Hid (decide (t ∈ l.map (·.t)) = false) := by
        show _ = _
        rw [decide_eq_false_iff_not]
        have h9 := hT.out
        rw [List.take_of_length_le (by rw [H.out.1]; exact Nat.le_refl _)] at h9
        exact h9
      clear hT
      go_wp2_with fail
      go_ret
      exact ⟨ret_bool HE.out.symm, rfl⟩
theorem okN_no' {ok : Nat → Prop} {N m : Nat} (h : ¬ ok m) (hm : m < N) : ¬ okN ok N m := fun hn => by rcases hn with hn | hn; exact h hn; omega
theorem inf45' : (Try.prog.info? 75).map (fun i => (i.zero, i.size, i.bytes)) = some (some (.agg #[.int .i64 0, .int .i64 0, .int .i64 0, .bool false, .bool false]), 5, 32) := by kernel_rfl
theorem shp_snoc (p : Bool) : ∀ (l : List Wt) (acc : List Wk) (x : Wt), shp acc (l ++ [x]) p = one (shp acc l p) x p
  | [], acc, x => rfl
  | y :: l, acc, x => shp_snoc p l (one acc y p) x
/-- While all are woken. -/
structure EN (W : World) (ok : Nat → Prop) (m : Nat) (s : CS) (b q r : Option Addr × Nat) (v : Value) (acc : List Wk) (w : World) : Prop where
  mx : MX w ok m s b q r
  row : w.ownsRow W.heap.size 75 5 v acc.length (flK acc)
  bel : Below W.heap.size W w
section
variable {W w w' : World} {ok : Nat → Prop} {m : Nat} {s : CS} {b q r : Option Addr × Nat} {v v' : Value} {acc acc' : List Wk}
theorem EN.later (h : EN W ok m s b q r v acc w) (hb : Below w.heap.size w w') : EN W ok m s b q r v acc w' :=
  ⟨h.mx.later hb, own_keep h.row fun b cs hk => hb.block b (lt_of_blk hk), h.bel.trans (hb.mono h.bel.size)⟩
theorem EN.rd (h : EN W ok m s b q r v acc w) : ∃ A cap, v = .slice A acc.length cap ∧ RdK w A acc.length acc := RdK.of_own rfl h.row
theorem EN.grow (h : EN W ok m s b q r v acc w) (hm : m < W.heap.size) (hw : MX W ok m s b q r) (hg : w.grownBy w' v.ownBlock) (row : w'.ownsRow W.heap.size 75 5 v' acc'.length (flK acc')) : EN W ok m s b q r v' acc' w' := by
  have hb := below_app h.bel (Nat.le_refl _) h.bel.size h.row hg
  exact ⟨hw.later hb, row, hb⟩
end
section
variable {w : World} {ok : Nat → Prop} {m : Nat} {s : CS}
set_option maxRecDepth 100000 in
set_option maxHeartbeats 8000000 in
theorem mend_any (h : MD w ok m s) (hs : s.ss.length ≤ 1000) (hr : s.rs.length ≤ 1000) : Calls Try.prog 67 #[.pointer (some ⟨m, 0, none⟩)] w fun e w' => ∃ A cap, e = .returned (.slice A (tot s).length cap) ∧ RdK w' A (tot s).length (tot s) ∧ Mo ok m (done s) w w' := by
  obtain ⟨b, q, r, hx⟩ := h
  obtain ⟨i0, hi, hz0, hz1, hz2⟩ := info_parts inf45'
  have HX := Lib.hid hx
  have hml := hx.lt
  have HE0 : Hid (EN w ok m s b q r (.slice none 0 0) (shp [] (s.rs.take 0) false) w) := ⟨hx, World.ownsRow_nil _ _ _ _, Below.refl _ _⟩
  have r1 : (s.rs.length : Int) ≤ 1000 := by omega
  have r2 : (s.ss.length : Int) ≤ 1000 := by omega
  clear hx
  go_enter Try.func67, Try.ntmps67
  go_wp2_with fail
  go_loopw [3, 4] (fun v i wr => ∃ k : Nat, k ≤ s.rs.length ∧ i = .int .i64 k ∧ Hid (EN w ok m s b q r v (shp [] (s.rs.take k) false) wr)) (fun _ i _ => s.rs.length - (intOf i).toNat)
  case atStart => exact ⟨0, by omega, rfl, HE0⟩
  case round =>
    clear HE0
    obtain ⟨k, hk, rfl, hE⟩ := hrel
    have c6 := hE.out.mx.c6
    by_cases hlt : k < s.rs.length
    · have k1 : (k : Int) < (s.rs.length : Int) := by omega
      have k2 : 0 ≤ (k : Int) := by omega
      have hxk : s.rs[k]? = some (s.rs[k]'hlt) := List.getElem?_eq_getElem hlt
      have HT : Hid (s.rs.take (k + 1) = s.rs.take k ++ [s.rs[k]'hlt]) := List.take_succ_eq_append_getElem hlt
      obtain ⟨bk, off, e6, hbl, hc⟩ := Rd.at wV_len hE.out.mx.rr.rd (by omega)
      have d0 := hc k _ hxk 0 (by omega) _ rfl
      have d1 := hc k _ hxk 1 (by omega) _ rfl
      simp only [Nat.add_zero] at d0
      rw [e6] at c6
      generalize s.rs[k]'hlt = x at *
      have hal : Hid ((shp [] (s.rs.take k) false).length ≤ 2000) := by have h9 := shp_len (s.rs.take k) [] false; rw [List.length_take] at h9; simp only [List.length_nil] at h9; show _ ≤ _; omega
      have HT2 : Hid (shp [] (s.rs.take (k + 1)) false = one (shp [] (s.rs.take k) false) x false) := by show _ = _; rw [HT.out, shp_snoc]
      generalize shp [] (s.rs.take k) false = acc at *
      clear hc hxk HT e6
      go_wp2_with fail
      obtain ⟨A, cap, hv, hrd⟩ := hE.out.rd
      subst hv
      refine (met_any x.t hrd (by have := hal.out; omega)).mono ?_
      rintro e w' ⟨rfl, rfl⟩
      by_cases d : x.t ∈ acc.map (·.t)
      · rw [decide_eq_true d]
        have HE2 : Hid (EN w ok m s b q r (.slice A acc.length cap) (shp [] (s.rs.take (k + 1)) false) wr) := by
          have e9 := HT2.out
          unfold one at e9
          rw [if_pos d] at e9
          show EN _ _ _ _ _ _ _ _ _ _
          rw [e9]; exact hE.out
        clear hE d0 d1 d hrd HT2
        go_wp2_with fail
        go_roundw
        case rel => exact ⟨k + 1, by omega, by go_num, HE2⟩
        case measure => simp [intOf]; omega
      · rw [decide_eq_false d]
        have HT3 : Hid (shp [] (s.rs.take (k + 1)) false = acc ++ [⟨x.t, x.c, 0, false, false⟩]) := by
          have e9 := HT2.out
          unfold one at e9
          rw [if_neg d] at e9
          exact e9
        have hWs := hE.out.bel.size
        have hal2 := hal.out
        clear d hrd HT2
        go_wp2_with fail
        go_region_law (go_loud (refine step_app rfl (.tmp 26) (.tmp 44) 47 rfl w.heap.size 75 5 32 i0 (.agg #[.int .i64 0, .int .i64 0, .int .i64 0, .bool false, .bool false]) Try.underlying47 hi hz0 hz1 hz2 rfl (by decide) (.slice A acc.length cap) acc.length (flK acc) rfl (hE.out.later (by repeat' (first | exact Below.refl _ _ | refine Below.drew ?_ | refine Below.alloc ?_ (by first | omega | (simp <;> omega)) _))).row _ (some ⟨wr.heap.size, 0, none⟩) 1 1 (flK [⟨x.t, x.c, 0, false, false⟩]) rfl (by exact Rd.new wr (kA ⟨x.t, x.c, 0, false, false⟩) 1 5 75 rfl) (flK_one _) (by unfold maxLen; omega) (by omega) (by simp <;> omega) ?_; intro v7 w7 ho7 hg7; have HE7 : Hid (EN w ok m s b q r v7 (shp [] (s.rs.take (k + 1)) false) w7) := (by show EN _ _ _ _ _ _ _ _ _ _; rw [HT3.out]; exact EN.grow (hE.out.later (by repeat' (first | exact Below.refl _ _ | refine Below.drew ?_ | refine Below.alloc ?_ (by first | omega | (simp <;> omega)) _))) hml HX.out hg7 (by rw [List.length_append, flK_app]; exact ho7)); clear ho7 hg7))
        all_goals
          clear hE d0 d1 HT3 hal2
          go_wp2_with fail
          go_roundw
          case rel => exact ⟨k + 1, by omega, by go_num, HE7⟩
          case measure => simp [intOf]; omega
    · obtain rfl : k = s.rs.length := by omega
      have HE1 : Hid (EN w ok m s b q r u3 (shp (shp [] s.rs false) (s.ss.take 0) true) wr) := by
        have h9 := hE.out
        rw [List.take_of_length_le (Nat.le_refl _)] at h9
        exact h9
      clear hE
      go_wp2_with fail
      go_loopw [3, 5] (fun v i wr => ∃ k : Nat, k ≤ s.ss.length ∧ i = .int .i64 k ∧ Hid (EN w ok m s b q r v (shp (shp [] s.rs false) (s.ss.take k) true) wr)) (fun _ i _ => s.ss.length - (intOf i).toNat)
      case atStart => exact ⟨0, by omega, rfl, HE1⟩
      case round =>
        clear HE1
        obtain ⟨k, hk, rfl, hE⟩ := hrel
        have c6 := hE.out.mx.c5
        by_cases hlt : k < s.ss.length
        · have k1 : (k : Int) < (s.ss.length : Int) := by omega
          have k2 : 0 ≤ (k : Int) := by omega
          have hxk : s.ss[k]? = some (s.ss[k]'hlt) := List.getElem?_eq_getElem hlt
          have HT : Hid (s.ss.take (k + 1) = s.ss.take k ++ [s.ss[k]'hlt]) := List.take_succ_eq_append_getElem hlt
          obtain ⟨bk, off, e6, hbl, hc⟩ := Rd.at wV_len hE.out.mx.rq.rd (by omega)
          have d0 := hc k _ hxk 0 (by omega) _ rfl
          have d1 := hc k _ hxk 1 (by omega) _ rfl
          simp only [Nat.add_zero] at d0
          rw [e6] at c6
          generalize s.ss[k]'hlt = x at *
          have hal : Hid ((shp (shp [] s.rs false) (s.ss.take k) true).length ≤ 2000) := by have h9 := shp_len (s.ss.take k) (shp [] s.rs false) true; rw [List.length_take] at h9; have h8 := shp_len s.rs [] false; simp only [List.length_nil] at h8; show _ ≤ _; omega
          have HT2 : Hid (shp (shp [] s.rs false) (s.ss.take (k + 1)) true = one (shp (shp [] s.rs false) (s.ss.take k) true) x true) := by show _ = _; rw [HT.out, shp_snoc]
          generalize shp (shp [] s.rs false) (s.ss.take k) true = acc at *
          clear hc hxk HT e6
          go_wp2_with fail
          obtain ⟨A, cap, hv, hrd⟩ := hE.out.rd
          subst hv
          refine (met_any x.t hrd (by have := hal.out; omega)).mono ?_
          rintro e w' ⟨rfl, rfl⟩
          by_cases d : x.t ∈ acc.map (·.t)
          · rw [decide_eq_true d]
            have HE2 : Hid (EN w ok m s b q r (.slice A acc.length cap) (shp (shp [] s.rs false) (s.ss.take (k + 1)) true) wr) := by
              have e9 := HT2.out
              unfold one at e9
              rw [if_pos d] at e9
              show EN _ _ _ _ _ _ _ _ _ _
              rw [e9]; exact hE.out
            clear hE d0 d1 d hrd HT2
            go_wp2_with fail
            go_roundw
            case rel => exact ⟨k + 1, by omega, by go_num, HE2⟩
            case measure => simp [intOf]; omega
          · rw [decide_eq_false d]
            have HT3 : Hid (shp (shp [] s.rs false) (s.ss.take (k + 1)) true = acc ++ [⟨x.t, x.c, 0, false, true⟩]) := by
              have e9 := HT2.out
              unfold one at e9
              rw [if_neg d] at e9
              exact e9
            have hWs := hE.out.bel.size
            have hal2 := hal.out
            clear d hrd HT2
            go_wp2_with fail
            go_region_law (go_loud (refine step_app rfl (.tmp 66) (.tmp 84) 47 rfl w.heap.size 75 5 32 i0 (.agg #[.int .i64 0, .int .i64 0, .int .i64 0, .bool false, .bool false]) Try.underlying47 hi hz0 hz1 hz2 rfl (by decide) (.slice A acc.length cap) acc.length (flK acc) rfl (hE.out.later (by repeat' (first | exact Below.refl _ _ | refine Below.drew ?_ | refine Below.alloc ?_ (by first | omega | (simp <;> omega)) _))).row _ (some ⟨wr.heap.size, 0, none⟩) 1 1 (flK [⟨x.t, x.c, 0, false, true⟩]) rfl (by exact Rd.new wr (kA ⟨x.t, x.c, 0, false, true⟩) 1 5 75 rfl) (flK_one _) (by unfold maxLen; omega) (by omega) (by simp <;> omega) ?_; intro v7 w7 ho7 hg7; have HE7 : Hid (EN w ok m s b q r v7 (shp (shp [] s.rs false) (s.ss.take (k + 1)) true) w7) := (by show EN _ _ _ _ _ _ _ _ _ _; rw [HT3.out]; exact EN.grow (hE.out.later (by repeat' (first | exact Below.refl _ _ | refine Below.drew ?_ | refine Below.alloc ?_ (by first | omega | (simp <;> omega)) _))) hml HX.out hg7 (by rw [List.length_append, flK_app]; exact ho7)); clear ho7 hg7))
            all_goals
              clear hE d0 d1 HT3 hal2
              go_wp2_with fail
              go_roundw
              case rel => exact ⟨k + 1, by omega, by go_num, HE7⟩
              case measure => simp [intOf]; omega
        · obtain rfl : k = s.ss.length := by omega
          have hX := hE.out.mx
          have f6 := hX.fz 6
          have f5 := hX.fz 5
          have f3 := hX.fz 3
          have c3 := hX.c3
          have c5 := hX.c5
          have c6' := hX.c6
          have hl3 := hX.lt
          have hno := hX.no
          have HF : Hid (∃ A cap, u3 = .slice A (tot s).length cap ∧ RdK (((wr.setCell ⟨m, 6, none⟩ (.slice none 0 0)).setCell ⟨m, 5, none⟩ (.slice none 0 0)).setCell ⟨m, 3, none⟩ (.bool true)) A (tot s).length (tot s) ∧ Mo ok m (done s) w (((wr.setCell ⟨m, 6, none⟩ (.slice none 0 0)).setCell ⟨m, 5, none⟩ (.slice none 0 0)).setCell ⟨m, 3, none⟩ (.bool true))) := by
            have h9 := hE.out
            rw [List.take_of_length_le (Nat.le_refl _)] at h9
            obtain ⟨A, cap, hv, hrd⟩ := h9.rd
            refine ⟨A, cap, hv, ?_, ⟨⟨b, (none, 0), (none, 0), ?_⟩, ?_⟩⟩
            · refine hrd.keep fun bb cs hb => ?_
              have hne : bb ≠ m := tag_ne hb h9.mx.hb (by decide)
              exact (Below.heap_setCell _ _ _ _ hne).trans ((Below.heap_setCell _ _ _ _ hne).trans (Below.heap_setCell _ _ _ _ hne))
            · have y1 := h9.mx.setR (l := []) (r' := (none, 0)) (Ro.nil _ _ _ _ _ (by omega))
              have y2 := y1.setQ (l := []) (q' := (none, 0)) (Ro.nil _ _ _ _ _ (by omega))
              exact (y2.setC).mono (fun b _ ho => .inl ho) (okN_no' hno hml)
            · exact ((((Tn.of_below (F := fun k => k = m) h9.bel).set (.inl rfl) _).set (.inl rfl) _).set (.inl rfl) _)
          obtain ⟨A, cap, hv, h1, h2⟩ := HF.out
          subst hv
          have HF1 := Lib.hid h1
          have HF2 := Lib.hid h2
          clear hE hX hno HX HF h1 h2
          go_wp2_with fail
          go_ret
          exact ⟨A, cap, rfl, HF1.out, HF2.out⟩
/-! Close, End. -/
theorem mclose_kind (h : MD w ok m s) (hk : s.kd ≠ 0) (hk2 : s.kd ≤ 2) : Calls Try.prog 34 #[.pointer (some ⟨m, 0, none⟩)] w fun e w' => e = .returned (.tuple #[.slice none 0 0, .int .i64 7]) ∧ w = w' := by
  obtain ⟨b, q, r, hx⟩ := h
  by_cases h1 : s.kd = 1
  · have c1 : w.cell? ⟨m, 1, none⟩ = some (.bool true) := hx.k1 h1
    clear hx hk hk2
    go_enter Try.func34, Try.ntmps34
    go_wp2
    go_ret2
    exact ⟨rfl, rfl⟩
  · have h2 : s.kd = 2 := by omega
    have c1 : w.cell? ⟨m, 1, none⟩ = some (.bool false) := hx.k1 h2
    have c2 : w.cell? ⟨m, 2, none⟩ = some (.bool true) := hx.k2 h2
    clear hx hk hk2 h1
    go_enter Try.func34, Try.ntmps34
    go_wp2
    go_ret2
    exact ⟨rfl, rfl⟩
theorem mclose_closed (h : MD w ok m s) (hk : s.kd = 0) (hc : s.cl = true) : Calls Try.prog 34 #[.pointer (some ⟨m, 0, none⟩)] w fun e w' => e = .returned (.tuple #[.slice none 0 0, .int .i64 5]) ∧ w = w' := by
  obtain ⟨b, q, r, hx⟩ := h
  have c1 : w.cell? ⟨m, 1, none⟩ = some (.bool false) := hx.k1 hk
  have c2 : w.cell? ⟨m, 2, none⟩ = some (.bool false) := hx.k2 hk
  have c3 := hx.k3 hc
  clear hx
  go_enter Try.func34, Try.ntmps34
  go_wp2
  go_ret2
  exact ⟨rfl, rfl⟩
theorem mclose_go (h : MD w ok m s) (hk : s.kd = 0) (hc : s.cl = false) (hs : s.ss.length ≤ 1000) (hr : s.rs.length ≤ 1000) : Calls Try.prog 34 #[.pointer (some ⟨m, 0, none⟩)] w fun e w' => ∃ A cap, e = .returned (.tuple #[.slice A (tot s).length cap, .int .i64 0]) ∧ RdK w' A (tot s).length (tot s) ∧ Mo ok m (done s) w w' := by
  have HC := Lib.hid (mend_any h hs hr)
  obtain ⟨b, q, r, hx⟩ := h
  have c1 : w.cell? ⟨m, 1, none⟩ = some (.bool false) := hx.k1 hk
  have c2 : w.cell? ⟨m, 2, none⟩ = some (.bool false) := hx.k2 hk
  have c3 := hx.k3 hc
  clear hx hs hr
  go_enter Try.func34, Try.ntmps34
  go_wp2_with fail
  refine HC.out.mono ?_
  rintro e w' ⟨A, cap, rfl, hK, hG⟩
  have HP : Hid (RdK w' A (tot s).length (tot s) ∧ Mo ok m (done s) w w') := ⟨hK, hG⟩
  clear hK hG HC
  go_wp2
  go_ret2
  exact ⟨A, cap, rfl, HP.out.1, HP.out.2⟩
theorem mclose_nil (w : World) : Calls Try.prog 34 #[.pointer none] w fun e w' => e = .returned (.tuple #[.slice none 0 0, .int .i64 6]) ∧ w = w' := by
  go_enter Try.func34, Try.ntmps34
  go_wp2
  go_ret2
  exact ⟨rfl, rfl⟩
theorem mEnd_not (h : MD w ok m s) (hk : s.kd ≠ 2 ∨ s.cl = true) : Calls Try.prog 44 #[.pointer (some ⟨m, 0, none⟩)] w fun e w' => e = .returned (.slice none 0 0) ∧ w = w' := by
  obtain ⟨b, q, r, hx⟩ := h
  have c2 := hx.c2
  have c3 := hx.c3
  clear hx
  by_cases h2 : s.kd = 2
  · have hc : s.cl = true := by rcases hk with hk | hk; exact absurd h2 hk; exact hk
    rw [h2] at c2
    rw [hc] at c3
    have c2' : w.cell? ⟨m, 2, none⟩ = some (.bool true) := c2
    clear hk c2
    go_enter Try.func44, Try.ntmps44
    go_wp2
    go_ret
    exact ⟨rfl, rfl⟩
  · have c2' : w.cell? ⟨m, 2, none⟩ = some (.bool false) := by rw [show (s.kd == 2) = false by simpa using h2] at c2; exact c2
    clear hk c2 h2
    go_enter Try.func44, Try.ntmps44
    go_wp2
    go_ret
    exact ⟨rfl, rfl⟩
theorem mEnd_go (h : MD w ok m s) (hk : s.kd = 2) (hc : s.cl = false) (hs : s.ss.length ≤ 1000) (hr : s.rs.length ≤ 1000) : Calls Try.prog 44 #[.pointer (some ⟨m, 0, none⟩)] w fun e w' => ∃ A cap, e = .returned (.slice A (tot s).length cap) ∧ RdK w' A (tot s).length (tot s) ∧ Mo ok m (done s) w w' := by
  have HC := Lib.hid (mend_any h hs hr)
  obtain ⟨b, q, r, hx⟩ := h
  have c2 : w.cell? ⟨m, 2, none⟩ = some (.bool true) := hx.k2 hk
  have c3 := hx.k3 hc
  clear hx hs hr
  go_enter Try.func44, Try.ntmps44
  go_wp2_with fail
  refine HC.out.mono ?_
  rintro e w' ⟨A, cap, rfl, hK, hG⟩
  have HP : Hid (RdK w' A (tot s).length (tot s) ∧ Mo ok m (done s) w w') := ⟨hK, hG⟩
  clear hK hG HC
  go_wp2
  go_ret
  exact ⟨A, cap, rfl, HP.out.1, HP.out.2⟩
theorem mEnd_nil (w : World) : Calls Try.prog 44 #[.pointer none] w fun e w' => e = .returned (.slice none 0 0) ∧ w = w' := by
  go_enter Try.func44, Try.ntmps44
  go_wp2
  go_ret
  exact ⟨rfl, rfl⟩
/-! Drop. -/
theorem mDrop_not (h : MD w ok m s) (hk : s.kd ≠ 1 ∨ s.l = []) : Calls Try.prog 42 #[.pointer (some ⟨m, 0, none⟩)] w fun e w' => e = .returned (.bool false) ∧ w = w' := by
  obtain ⟨b, q, r, hx⟩ := h
  have c1 := hx.c1
  have c4 := hx.c4
  clear hx
  by_cases h2 : s.kd = 1
  · have hc : s.l = [] := by rcases hk with hk | hk; exact absurd h2 hk; exact hk
    rw [h2] at c1
    rw [hc] at c4
    have c1' : w.cell? ⟨m, 1, none⟩ = some (.bool true) := c1
    simp only [List.length_nil] at c4
    clear hk c1
    go_enter Try.func42, Try.ntmps42
    go_wp2
    go_ret
    exact ⟨rfl, rfl⟩
  · have c1' : w.cell? ⟨m, 1, none⟩ = some (.bool false) := by rw [show (s.kd == 1) = false by simpa using h2] at c1; exact c1
    clear hk c1 h2
    go_enter Try.func42, Try.ntmps42
    go_wp2
    go_ret
    exact ⟨rfl, rfl⟩
theorem mDrop_go (h : MD w ok m s) (hk : s.kd = 1) (hl : s.l ≠ []) : Calls Try.prog 42 #[.pointer (some ⟨m, 0, none⟩)] w fun e w' => e = .returned (.bool true) ∧ Mo ok m { s with l := [] } w w' := by
  obtain ⟨b, q, r, hx⟩ := h
  have c1 : w.cell? ⟨m, 1, none⟩ = some (.bool true) := hx.k1 hk
  have c4 := hx.c4
  have f4 := hx.fz 4
  have hml := hx.lt
  have hp : 0 < s.l.length := List.length_pos_iff.2 hl
  have p1 : ((s.l.length : Int) == 0) = false := by rw [beq_eq_false_iff_ne]; omega
  have p2 : ¬ (s.l.length : Int) = 0 := by omega
  have p3 : ¬ s.l.length = 0 := by omega
  have HT : Hid (Mo ok m { s with l := [] } w (w.setCell ⟨m, 4, none⟩ (.slice none 0 0))) :=
    ⟨⟨(none, 0), q, r, (hx.setB (l := []) (b' := (none, 0)) (Ro.nil _ _ _ _ _ (by omega))).mono (fun b _ ho => .inl ho) (okN_no' hx.no hml)⟩, (Tn.refl (fun k => k = m) w).set (.inl rfl) _⟩
  clear hx hl hp
  go_enter Try.func42, Try.ntmps42
  go_wp2_with fail
  go_ret
  exact ⟨rfl, HT.out⟩
theorem mDrop_nil (w : World) : Calls Try.prog 42 #[.pointer none] w fun e w' => e = .returned (.bool false) ∧ w = w' := by
  go_enter Try.func42, Try.ntmps42
  go_wp2
  go_ret
  exact ⟨rfl, rfl⟩
end
end Go.Proofs.Ytmcacmbllpphiaa
