/- The walk of the law on what an error says. Conditions: the variable errors.errorType, and the table that strconv reads, read as their programs lay them. -/
import Derived.Test.YtbdicgnmaonjgaaDoorCds
import Derived.Deep.RegionLaw
namespace Go.Proofs.YtbdicgnmaonjgaaDoor
open Go.RowKit Go.Extern.Stop Go.Stop Go.Extern
set_option linter.unusedVariables false

theorem dw_growD {wr w1 : World} {G n : Nat} {kv : Value} {xs : List Value} {ob : Obj} (hg : (wr.alloc ob).drew.grownBy w1 kv.ownBlock) (hown : wr.ownsRow (G + 1) 27 3 kv n xs) (hG : G < wr.heap.size) : w1.heap[G]? = wr.heap[G]? := by
  rw [hg.block G (by show G < (wr.alloc ob).heap.size; simp; omega) (fun h => by have := (hown.lt G h.symm).1; omega)]
  exact Below.heap_alloc _ _ _ hG
theorem dw_belowD {wr w1 : World} {B n : Nat} {kv : Value} {xs : List Value} {ob : Obj} {W : World} (hB : Below B W wr) (hBs : B ≤ wr.heap.size) (hg : (wr.alloc ob).drew.grownBy w1 kv.ownBlock) (hown : wr.ownsRow (B + 1) 27 3 kv n xs) : Below B W w1 :=
  ((hB.trans ((below_al wr ob).mono hBs)).drew).grown hg (by show B ≤ (wr.alloc ob).heap.size; simp; omega) (fun k hk => by have := (hown.lt k hk).1; omega)

theorem EIs.group {w : World} {S : Nat → Prop} {o : ByteArray} {ks : Fo} {v : Value} (ho : o.size ≠ 0) (h : EIs w S 0 o ks v) : ∃ g, v = .iface 63 (.pointer (some ⟨g, 0, none⟩)) := by
  rcases h with ⟨h, _⟩ | ⟨_, g, h, _⟩ | ⟨_, h, _⟩
  · omega
  · exact ⟨g, h⟩
  · exact absurd h ho
theorem owns_below {w w' : World} {base : Nat} {e : TypeId} {size n : Nat} {v : Value} {xs : List Value} (h : w.ownsRow base e size v n xs) (hb : Below w.heap.size w w') : w'.ownsRow base e size v n xs :=
  h.kept (row := none) ⟨hb.os, hb.tape, hb.output, hb.size, fun k hk _ => hb.block k hk⟩ (by cases v.ownBlock <;> simp)
theorem txt_step {w1 w2 : World} {F n gg gc : Nat} {op : ByteArray} {xs : List Value} {v : Value} (hO : Own w1 F 3) (r0 : w1.cell? ⟨F, 0, none⟩ = some (.int .i64 0)) (r1 : w1.cell? ⟨F, 1, none⟩ = some (.string op)) (hW : w1.ownsRow (F + 1) 27 3 v n xs)
    (hb : Below (w1.setCell ⟨F, 2, none⟩ v).heap.size (w1.setCell ⟨F, 2, none⟩ v) w2) :
    Own w2 F 3 ∧ w2.cell? ⟨F, 0, none⟩ = some (.int .i64 0) ∧ w2.cell? ⟨F, 1, none⟩ = some (.string op) ∧ w2.cell? ⟨F, 2, none⟩ = some v ∧ w2.ownsRow (F + 1) 27 3 v n xs ∧ F < w2.heap.size := by
  have hs := hO.lt
  have hF : F < (w1.setCell ⟨F, 2, none⟩ v).heap.size := by rw [size_set]; exact hs
  refine ⟨(hO.set 2 v).below hb, ?_, ?_, ?_, owns_below (ownsRow_setCell_below hW (by show F < _; omega) v) hb, Nat.lt_of_lt_of_le hF hb.size⟩
  · rw [cell_blk (hb.block F hF), cell_set_other (.inr (by omega))]; exact r0
  · rw [cell_blk (hb.block F hF), cell_set_other (.inr (by omega))]; exact r1
  · rw [cell_blk (hb.block F hF)]; exact cell_set_same hO (by omega)

set_option maxRecDepth 100000 in
set_option maxHeartbeats 1000000 in
theorem txt_in (op : ByteArray) (ys : List Int) (W : World) (b off n cap : Nat) (hys : Hid (ys.length = n)) (hn : 1 ≤ n) (hn2 : n ≤ 20) (hcap : n ≤ cap) (ho : op.size ≠ 0) (ho2 : op.size ≤ 50) (hb : b < W.heap.size)
    (hc : Hid (∀ i z, ys[i]? = some z → W.cell? ⟨b, off + i, none⟩ = some (.int .i64 z))) (hr : Hid (∀ z ∈ ys, -9223372036854775808 ≤ z ∧ z ≤ 9223372036854775807)) (hE : Hid (ETy W)) (hT : Hid (TabW W)) (h1 : 1 < W.heap.size) :
    Calls Tryd.prog 5 #[.string op, .slice (some ⟨b, off, none⟩) n cap] W (BoolPost true W) := by
  have g1 := str_full ho
  have g2 : op.toList.isEmpty = false := by cases h : op.toList with | nil => exact absurd h g1 | cons a l => rfl
  obtain ⟨i0, hi, hz0, hz1, hz2⟩ := info_parts Tryd.info27
  clear g1
  go_enter Tryd.func5, Tryd.ntmps5
  go_wp2_with fail
  go_loopw [6, 7] (fun s i wr => ∃ (k : Nat) (st : ByteArray) (kv : Value), k ≤ n ∧ s = .string st ∧ i = .int .i64 k ∧ Hid (st = ⟨(gT op (ys.take k)).toArray⟩) ∧ st.size ≤ 52 + k * 28 ∧ Hid (∀ z ∈ ys.take k, 0 < z) ∧ Hid (Below W.heap.size W wr) ∧ Hid (Own wr W.heap.size 3) ∧ wr.cell? ⟨W.heap.size, 0, none⟩ = some (.int .i64 0) ∧ wr.cell? ⟨W.heap.size, 1, none⟩ = some (.string op) ∧ wr.cell? ⟨W.heap.size, 2, none⟩ = some kv ∧ wr.ownsRow (W.heap.size + 1) 27 3 kv k (cL (ys.take k)) ∧ W.heap.size < wr.heap.size) (fun _ i _ => n - (intOf i).toNat)
  case atStart =>
    refine ⟨0, _, .slice none 0 0, by omega, rfl, rfl, ?_, ?_, ?_, below_al _ _, ⟨_, _, heap_alloc_new W _, by simp⟩, by simp, by simp, by simp, World.ownsRow_nil _ _ _ _, by simp⟩
    · show _ = _
      rw [List.take_zero, gT_nil]; apply ByteArray.ext; simp
    · rw [ByteArray.size_append]; show op.size + 2 ≤ _; omega
    · intro z hz; simp at hz
  case round =>
    obtain ⟨k, st, kv, hk, rfl, rfl, hst, hss, hpos, hB, hO, c0, c1, c2, hown, hG⟩ := hrel
    by_cases hlt : k < n
    · have hky : k < ys.length := by rw [hys.out]; exact hlt
      have hcell := hc.out k (ys[k]'hky) (List.getElem?_eq_getElem hky)
      have hcw : wr.cell? ⟨b, off + k, none⟩ = some (.int .i64 (ys[k]'hky)) := (cell_blk (hB.out.block b hb) _).trans hcell
      have htk : ys.take (k + 1) = ys.take k ++ [ys[k]'hky] := List.take_succ_eq_append_getElem hky
      have hrz := hr.out _ (List.getElem_mem hky)
      have hyk : Hid (ys[k]? = some (ys[k]'hky)) := List.getElem?_eq_getElem hky
      generalize ys[k]'hky = z at *
      have HTK := Lib.hid htk
      clear htk hcell hky
      by_cases hz : z < 1
      · have HC := Lib.hid (awake_any wr (hE.out.below hB.out))
        clear hown c0 c1 c2
        go_wp2_with fail
        refine HC.out.mono ?_
        rintro e w1 ⟨rfl, hb1⟩
        have HB1 := Lib.hid (hB.out.trans (hb1.mono hB.out.size))
        clear hb1
        go_wp2_with fail
        go_ret
        exact ⟨rfl, HB1.out⟩
      · obtain ⟨kp, kc, rfl, hkc, kb, hkb, hcc⟩ := own_slice3 hown
        have hfr := hO.out.frz 2
        have hkb2 := Lib.hid hkb
        have hcc2 := Lib.hid hcc
        have hbF : ¬ b = W.heap.size := by omega
        clear hkb hcc
        have hIt : Hid (ItOk W z) := .inr ⟨hT.out, h1, hrz.1, hrz.2⟩
        have hcl : Hid ((codeT z).length ≤ 26) := by have h9 := hIt.out.len; show (codeT z).length ≤ 26; simp [codeT]; omega
        by_cases hk0 : k ≤ 0
        · have htk0 : Hid (ys.take k = []) := by (show _ = _; rw [show k = 0 by omega]; rfl)
          go_wp2_with fail
          go_region_law (refine step_append_lies _ (by rfl) _ _ _ (by rfl) (W.heap.size + 1) 27 i0 (.agg #[.int .i64 0, .string ⟨#[]⟩, .slice none 0 0]) 3 48 Tryd.underlying25 hi hz0 hz1 hz2 rfl (by omega) (.slice kp k kc) k (cL (ys.take k)) (by rfl) ((hown.alloc _).drew) ⟨wr.heap.size, 0, none⟩ 1 1 [.int .i64 z, .string ⟨#[]⟩, .slice none 0 0] (by rfl) (by rfl) (World.news_of_block (cs := #[.int .i64 z, .string ⟨#[]⟩, .slice none 0 0]) (t := 27) (fr := (0, 0)) (heap_alloc_new wr _)) (by intro u hu; simp at hu; rcases hu with rfl | rfl | rfl <;> rfl) (by omega) (by unfold maxLen; omega) (by omega) (by simp; omega) (wr.heap.size + 1) (by simp) ?_; intro gg gc w1 hown1 hgrow1 _ _; have eG := dw_growD (kv := .slice kp k kc) hgrow1 hown hG; have r0 := (cell_blk eG 0).trans c0; have r1 := (cell_blk eG 1).trans c1; have r2 := (cell_blk eG 2).trans c2; have hO3 := hO.out.eq eG; have rz := hO3.frz 2; have HO3 := Lib.hid hO3; have HB3 := Lib.hid (dw_belowD (kv := .slice kp k kc) hB.out (Nat.le_of_lt hG) hgrow1 hown); have rl := (cell_blk (HB3.out.block b hb) (off + k)).trans (hc.out k z hyk.out); have hG3 := hO3.lt; have HW := Lib.hid hown1; clear hown1 hgrow1 eG hO3)
          all_goals
            go_wp2_with fail
            have HBc : Hid (Below W.heap.size W (w1.setCell ⟨W.heap.size, 2, none⟩ (.slice (some ⟨gg, 0, none⟩) (k + 1) gc))) := HB3.out.setCell (Nat.le_refl _) _
            refine (code_err z _ ((hIt.out).below HBc.out)).mono ?_
            rintro e w2 ⟨rfl, hb2⟩
            obtain ⟨s1, s2, s3, s4, s5, s6⟩ := txt_step (gg := gg) (gc := gc) HO3.out r0 r1 HW.out hb2
            have S1 := Lib.hid s1
            have S5 := Lib.hid s5
            have HB4 := Lib.hid (HBc.out.trans (hb2.mono HBc.out.size))
            clear s1 s5 hb2 r0 r1 r2 rl
            have hcl2 : (codeT z).length ≤ 26 := hcl.out
            go_wp2_with fail
            go_roundw
            case rel =>
              refine ⟨k + 1, _, .slice (some ⟨gg, 0, none⟩) (k + 1) gc, by omega, rfl, by go_num, (by rw [HTK.out, htk0.out, List.nil_append, gT_one]; have h9 := hst.out; rw [htk0.out] at h9; rw [h9]; exact str_app _ _), (by rw [ByteArray.size_append]; have h9 := hcl.out; show st.size + (codeT z).toArray.size ≤ _; rw [List.size_toArray]; omega), ?_, HB4.out, S1.out, s2, s3, s4, ?_, s6⟩
              · rw [HTK.out]; intro y hy; rcases List.mem_append.1 hy with h | h
                · exact hpos.out y h
                · have h7 : y = z := by simpa using h
                  omega
              · rw [HTK.out, cL_app]; exact S5.out
            case measure => simp [intOf]; omega
        · have htk1 : Hid (ys.take k ≠ []) := fun h => by have h8 := congrArg List.length h; rw [List.length_take, hys.out] at h8; simp at h8; omega
          go_wp2_with fail
          go_region_law (refine step_append_lies _ (by rfl) _ _ _ (by rfl) (W.heap.size + 1) 27 i0 (.agg #[.int .i64 0, .string ⟨#[]⟩, .slice none 0 0]) 3 48 Tryd.underlying25 hi hz0 hz1 hz2 rfl (by omega) (.slice kp k kc) k (cL (ys.take k)) (by rfl) ((hown.alloc _).drew) ⟨wr.heap.size, 0, none⟩ 1 1 [.int .i64 z, .string ⟨#[]⟩, .slice none 0 0] (by rfl) (by rfl) (World.news_of_block (cs := #[.int .i64 z, .string ⟨#[]⟩, .slice none 0 0]) (t := 27) (fr := (0, 0)) (heap_alloc_new wr _)) (by intro u hu; simp at hu; rcases hu with rfl | rfl | rfl <;> rfl) (by omega) (by unfold maxLen; omega) (by omega) (by simp; omega) (wr.heap.size + 1) (by simp) ?_; intro gg gc w1 hown1 hgrow1 _ _; have eG := dw_growD (kv := .slice kp k kc) hgrow1 hown hG; have r0 := (cell_blk eG 0).trans c0; have r1 := (cell_blk eG 1).trans c1; have r2 := (cell_blk eG 2).trans c2; have hO3 := hO.out.eq eG; have rz := hO3.frz 2; have HO3 := Lib.hid hO3; have HB3 := Lib.hid (dw_belowD (kv := .slice kp k kc) hB.out (Nat.le_of_lt hG) hgrow1 hown); have rl := (cell_blk (HB3.out.block b hb) (off + k)).trans (hc.out k z hyk.out); have hG3 := hO3.lt; have HW := Lib.hid hown1; clear hown1 hgrow1 eG hO3)
          all_goals
            go_wp2_with fail
            have HBc : Hid (Below W.heap.size W (w1.setCell ⟨W.heap.size, 2, none⟩ (.slice (some ⟨gg, 0, none⟩) (k + 1) gc))) := HB3.out.setCell (Nat.le_refl _) _
            refine (code_err z _ ((hIt.out).below HBc.out)).mono ?_
            rintro e w2 ⟨rfl, hb2⟩
            obtain ⟨s1, s2, s3, s4, s5, s6⟩ := txt_step (gg := gg) (gc := gc) HO3.out r0 r1 HW.out hb2
            have S1 := Lib.hid s1
            have S5 := Lib.hid s5
            have HB4 := Lib.hid (HBc.out.trans (hb2.mono HBc.out.size))
            clear s1 s5 hb2 r0 r1 r2 rl
            have hcl2 : (codeT z).length ≤ 26 := hcl.out
            go_wp2_with fail
            go_roundw
            case rel =>
              refine ⟨k + 1, _, .slice (some ⟨gg, 0, none⟩) (k + 1) gc, by omega, rfl, by go_num, (by rw [HTK.out, gT_snoc op _ _ htk1.out]; have h9 := hst.out; rw [h9, show (⟨#[59, 32]⟩ : ByteArray) = ⟨([59, 32] : List UInt8).toArray⟩ from rfl, str_app, str_app]; show _ = _; rfl), (by rw [ByteArray.size_append, ByteArray.size_append]; have h9 := hcl.out; show st.size + 2 + (codeT z).toArray.size ≤ _; rw [List.size_toArray]; omega), ?_, HB4.out, S1.out, s2, s3, s4, ?_, s6⟩
              · rw [HTK.out]; intro y hy; rcases List.mem_append.1 hy with h | h
                · exact hpos.out y h
                · have h7 : y = z := by simpa using h
                  omega
              · rw [HTK.out, cL_app]; exact S5.out
            case measure => simp [intOf]; omega
    · obtain rfl : k = n := by omega
      obtain ⟨kp, kc, rfl, hkc, kb, hkb, hcc⟩ := own_slice3 hown
      obtain ⟨hkb1, hkb2, hkb3⟩ := hkb (by omega)
      subst hkb1
      have htk : ys.take k = ys := by rw [← hys.out, List.take_length]
      rw [htk] at hcc hpos hst
      have hyne : ys ≠ [] := fun h => by have h8 := hys.out; rw [h] at h8; simp at h8; omega
      have hM : mayB 0 op (cF ys) = true := may_c op ys ho hyne hpos.out (by have := hys.out; omega)
      have hlen : (cF ys).len = k := by rw [cF_len]; exact hys.out
      have hV : VarF wr (Lt wr.heap.size) W.heap.size 0 op (cF ys) (some ⟨kb, 0, none⟩) kc := ⟨c0, c1, by rw [hlen]; exact c2, rfl, by rw [hlen]; exact hkc, by rw [hlen]; omega, kb, 0, fun _ => rfl, fun _ => hkb2, crow ys 0 hcc⟩
      have hmk := mk_any hV wr (Below.refl _ _)
      rw [hlen, hM] at hmk
      have HMK := Lib.hid hmk
      have HM := Lib.hid hM
      have hsay : sayT 0 op (cF ys) = gT op ys := by show (if (0 : Int) < 0 then _ else _) = _; rw [if_neg (by omega), say_c ys hpos.out]; rfl
      have HSAY := Lib.hid hsay
      have hSh : shortT (.cons 0 op (cF ys) .nil) := short_c op ys (by omega) (by have := hys.out; omega) hpos.out (fun z hz => hr.out z hz)
      have HSH := Lib.hid hSh
      clear hown hcc hkb hkb3 hV hmk hM hlen hsay hSh htk
      have q63 := Tryd.mErr63
      go_wp2_with fail
      refine HMK.out.mono ?_
      rintro e w2 ⟨hb2, v, rfl, hv⟩
      have EV : Hid (EIs w2 (Lt w2.heap.size) 0 op (cF ys) v) := by
        rcases hv with ⟨_, _, h2⟩ | ⟨h1, _⟩
        · exact h2
        · cases h1
      obtain ⟨g, rfl⟩ := EIs.group ho EV.out
      have HB2 := Lib.hid (hB.out.trans (hb2.mono hB.out.size))
      have hI : ItF w2 (.cons 0 op (cF ys) .nil) := ⟨fun h => absurd h (by omega), itF_c ys (fun z hz => (show ItOk W z from .inr ⟨hT.out, h1, (hr.out z hz).1, (hr.out z hz).2⟩).below HB2.out), trivial⟩
      have hER := err_any op (cF ys) HM.out HSH.out w2 g EV.out hI
      have hs2 : StrPost (sayT 0 op (cF ys)) w2 = fun e w => e = .returned (.string st) ∧ Below w2.heap.size w2 w := by
        rw [HSAY.out, hst.out]; rfl
      rw [hs2] at hER
      have HER := Lib.hid hER
      clear hER hI hb2 hv hs2
      go_wp2_with fail
      refine HER.out.mono ?_
      rintro e w3 ⟨rfl, hb3⟩
      have HB3 := Lib.hid (HB2.out.trans (hb3.mono HB2.out.size))
      clear hb3
      go_wp2_with fail
      refine (awake_any w3 (hE.out.below HB3.out)).mono ?_
      rintro e w4 ⟨rfl, hb4⟩
      have HB4 := Lib.hid (HB3.out.trans (hb4.mono HB3.out.size))
      clear hb4
      go_wp2_with fail
      go_ret
      exact ⟨rfl, HB4.out⟩
#print axioms txt_in
end Go.Proofs.YtbdicgnmaonjgaaDoor
