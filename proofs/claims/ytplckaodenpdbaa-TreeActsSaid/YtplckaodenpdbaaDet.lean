/- What Detach does to a tree in memory. Conditions: each theorem's own premises. -/
import Derived.Test.YtplckaodenpdbaaWlk
import Derived.Lib.OwnBridge
namespace Go.Proofs.Ytplckaodenpdbaa
open Go.RowKit Go.Sort Go.Lib
set_option linter.unusedVariables false
set_option maxRecDepth 100000

/-- The closure: is it the one that the box holds. -/
theorem is_it (k x : Int) (b : Nat) (W : World) (hc : W.cell? ⟨b, 0, none⟩ = some (.int .i64 k)) : FnGives Try.prog 25 #[.pointer (some ⟨b, 0, none⟩)] #[.int .i64 x] (.bool (x == k)) W := by
  show Calls Try.prog 25 #[.int .i64 x, .pointer (some ⟨b, 0, none⟩)] W _
  go_enter Try.func25, Try.ntmps25
  go_wp2
  go_ret
  exact ⟨rfl, 0, rfl⟩
theorem is_at (k : Int) (b : Nat) (w : World) (hb : b < w.heap.size) (hc : w.cell? ⟨b, 0, none⟩ = some (.int .i64 k)) : PredAt Try.prog 25 #[.pointer (some ⟨b, 0, none⟩)] (Value.int .i64) (fun x => x == k) w :=
  fun W x hB => is_it k x b W ((hB.cell (p := ⟨b, 0, none⟩) hb).trans hc)
theorem is_over (k : Int) (b blk off size : Nat) (w : World) (hb : b < w.heap.size) (hne : b ≠ blk) (hc : w.cell? ⟨b, 0, none⟩ = some (.int .i64 k)) : PredOver Try.prog 25 #[.pointer (some ⟨b, 0, none⟩)] (Value.int .i64) (fun x => x == k) blk off size w :=
  fun n os dk x _ => is_it k x b _ (by
    unfold sortWorld
    rw [cell?_grow _ _ _ (by show b < (putRow _ _ _ _ _).heap.size; rw [size_putRow]; exact hb), cell?_putRow_other _ _ blk off _ _ (Or.inl hne)]
    exact hc)
theorem tn_putRow {enc : Int → Value} {w : World} {g q : Nat} {d : Array Int} : Tn (fun k => some g = some k) w (putRow enc (Sort.ahead w q) g 0 d) :=
  ⟨rfl, rfl, rfl, by simp [putRow, mapBlock, Sort.ahead], fun k hk hn => by
    have : g ≠ k := fun e => hn (by rw [e])
    simp [putRow, mapBlock, Sort.ahead, Array.getElem?_modify, this]⟩
/-- slices.DeleteFunc at a row of one's own. -/
def DelR (P : Option Addr) (c : Nat) (l : List Int) (w : World) (e : Ending) (w' : World) : Prop := ∃ n, Hid (n = l.length) ∧ e = .returned (.slice P n c) ∧ Hid (Rw 0 w' P c l) ∧ Hid (Tn (fun k => blk P = some k) w w')
theorem del_call {w : World} {P : Option Addr} {c b : Nat} {l : List Int} (k : Int) (h : Rw 0 w P c l) (hne : l ≠ []) (hb : b < w.heap.size) (hbP : blk P ≠ some b) (hc : w.cell? ⟨b, 0, none⟩ = some (.int .i64 k)) :
    Calls Try.prog 24 #[.slice P l.length c, .func (.func 25) #[] #[.pointer (some ⟨b, 0, none⟩)]] w (DelR P c (l.filter fun x => !(x == k)) w) := by
  obtain ⟨g, rfl, hlc⟩ := row_form h (by cases l with | nil => exact absurd rfl hne | cons => simp)
  have hcap := row_cap h
  obtain ⟨g', cap', e1, _, hg, _, _, _, hH⟩ := Lib.holds_of_ownsRow (enc := Value.int .i64) h (by intro e; cases e)
  injection e1 with e1 e2 e3
  injection e1 with e1
  injection e1 with e1
  subst e1
  have eg : ∀ args w, (callFunc 25 args).run Try.prog w = .ok (.enter 25 args) w := enters_of Try.func25 (by kernel_rfl) rfl
  have hk : (l.filter fun x => !(x == k)).length ≤ l.length := List.length_filter_le _ _
  refine (AnyE.slices_DeleteFunc Try.deleteIt (Value.int .i64) (fun _ => rfl) (fun x => x == k) 25 #[.pointer (some ⟨b, 0, none⟩)] eg 0 Try.zeroValue3 g 0 c l.toArray w (is_at k b w hb hc) (is_over k b g 0 _ w hb (fun e => hbP (by rw [e]; rfl)) hc) hH (by simp; omega) (by simpa using hlc)).mono ?_
  rintro e w' ⟨rfl, q, rfl⟩
  refine ⟨_, rfl, rfl, ?_, ?_⟩
  · have := Lib.ownsRow_putRow (q := q) (k := (l.filter fun x => !(x == k)).length) (ys := (l.filter fun x => !(x == k)) ++ List.replicate (l.length - (l.filter fun x => !(x == k)).length) 0) h (by rw [List.length_append, List.length_replicate]; omega) hk
    rw [List.take_left] at this
    show Rw _ _ _ _ _
    unfold Rw iV
    simpa using this
  · exact tn_putRow
theorem below_ad (w : World) (o : Obj) (n : Nat) : Below w.heap.size w ((w.alloc o).drewN n) := (below_al w o).trans ((below_drewN _ n).mono (by simp))
section
variable {F : Nat → Prop} {t : Nat} {S : TS}
theorem detach_no (w : World) (h : TR F 0 S w t) (i : Int) (hi : i < 0 ∨ (S.length : Int) ≤ i) : Calls Try.prog 12 #[.pointer (some ⟨t, 0, none⟩), .int .i64 i] w (BoolR false w) := by
  have H0 := Lib.hid fun n => has_no _ (h.later (below_ad w (.cells #[.int .i64 i] 3) n)) i hi
  clear h hi
  go_enter Try.func12, Try.ntmps12
  go_wp2_with fail
  go_quiet (exact Calls.quiet_of_same ((H0.out _).mono fun _ _ h => ⟨h.1, h.2.symm⟩))
  go_wp2_with fail
  go_ret
  exact ⟨rfl, (below_al w _).trans ((below_drewN _ _).mono (by simp))⟩
theorem detach_off (w : World) (h : TR F 0 S w t) (i : Nat) {p : Int} (hs : S[i]? = some (p, false)) : Calls Try.prog 12 #[.pointer (some ⟨t, 0, none⟩), .int .i64 (i : Int)] w (BoolR false w) := by
  have hi := (List.getElem?_eq_some_iff.1 hs).1
  have b1 : (i : Int) < (S.length : Int) := by omega
  have b2 : (0 : Int) ≤ (i : Int) := by omega
  have hT := h.later (below_al w (.cells #[.int .i64 (i : Int)] 3))
  obtain ⟨P, c, D, d, q, x, hP, hDl, hd, hks, hr, hsd, h0, e1, e2, e3, hf⟩ := hT.row i hi
  have e : d.lk = false := by rw [hs] at hsd; simp at hsd; exact hsd.2
  rw [e] at e2
  have H0 := Lib.hid fun n => has_yes _ (h.later (below_ad w (.cells #[.int .i64 (i : Int)] 3) n)) i hi
  clear hs hT x hP hDl hd hks hr hsd e1 e3 hf e h
  go_enter Try.func12, Try.ntmps12
  go_wp2_with fail
  go_quiet (exact Calls.quiet_of_same ((H0.out _).mono fun _ _ h => ⟨h.1, h.2.symm⟩))
  go_wp2_with fail
  go_ret
  exact ⟨rfl, (below_al w _).trans ((below_drewN _ _).mono (by simp))⟩
/-- On the way of a Detach: D is what the nodes are, the box b holds k. -/
structure DS (F : Nat → Prop) (t : Nat) (W : World) (P : Option Addr) (c : Nat) (D : List Nd) (b : Nat) (k : Int) (w : World) : Prop where
  tx : TX F 0 w t P c D
  tn : Tn F W w
  box : w.cell? ⟨b, 0, none⟩ = some (.int .i64 k)
  bl : b < w.heap.size
  bn : ¬ F b
theorem DS.later {W w w' : World} {P : Option Addr} {c b : Nat} {D : List Nd} {k : Int} (h : DS F t W P c D b k w) (hb : Below w.heap.size w w') : DS F t W P c D b k w' :=
  ⟨h.tx.later hb, h.tn.later hb, (hb.cell (p := ⟨b, 0, none⟩) h.bl).trans h.box, Nat.lt_of_lt_of_le h.bl hb.size, h.bn⟩
theorem DS.off {W w : World} {P : Option Addr} {c b i q : Nat} {D : List Nd} {d : Nd} {k : Int} (h : DS F t W P c D b k w) (hd : D[i]? = some d) (hP : P = some ⟨q, 0, none⟩) (x : Bool) : DS F t W P c (D.set i { d with lk := x }) b k (w.setCell ⟨q, i * 3 + 1, none⟩ (.bool x)) := by
  obtain ⟨h1, h2⟩ := h.tx.lkTo hd hP x
  have hq : q ≠ b := fun e => h.bn (by rw [← e]; exact h.tx.fP q (by rw [hP]; rfl))
  refine ⟨h1, h.tn.trans h2, ?_, by rw [size_set]; exact h.bl, h.bn⟩
  rw [cell_blk (Below.heap_setCell w ⟨q, i * 3 + 1, none⟩ (.bool x) b (fun e => hq e.symm)) 0]
  exact h.box
theorem detach_yes (w : World) (h : TR F 0 S w t) (hF : ∀ k, F k → k < w.heap.size) (i : Nat) {p : Nat} (hs : S[i]? = some ((p : Int), true)) : Calls Try.prog 12 #[.pointer (some ⟨t, 0, none⟩), .int .i64 (i : Int)] w fun e w' => e = .returned (.bool true) ∧ Go F 0 t (cut S i) w w' := by
  have hi := (List.getElem?_eq_some_iff.1 hs).1
  have hpi := (h.wf i _ _ hs).2.1
  have hp : p < S.length := by omega
  have b1 : (i : Int) < (S.length : Int) := by omega
  have b2 : (0 : Int) ≤ (i : Int) := by omega
  have b3 : (p : Int) < (S.length : Int) := by omega
  have b4 : (0 : Int) ≤ (p : Int) := by omega
  have hT := h.later (below_al w (.cells #[.int .i64 (i : Int)] 3))
  obtain ⟨P, c, D, x, o⟩ := hT.ex
  obtain ⟨d, hd, hsd, hks⟩ := o.one hi
  obtain ⟨dp, hdp, hsp, hkp⟩ := o.one hp
  obtain ⟨q, rfl, hqc⟩ := x.form hd
  have hpar : d.par = (p : Int) ∧ d.lk = true := by rw [hs] at hsd; simp at hsd; exact ⟨hsd.1.symm, hsd.2⟩
  have h0 := x.c0
  rw [o.1] at h0
  obtain ⟨e1, e2, e3⟩ := x.cells rfl hd
  rw [hpar.2] at e2
  have S1 : DS F t w (some ⟨q, 0, none⟩) c D w.heap.size (i : Int) (w.alloc (.cells #[.int .i64 (i : Int)] 3)) := ⟨x, .of_below (below_al w _), by simp, by simp, fun hf => by have := hF _ hf; omega⟩
  have HS1 := Lib.hid S1
  have H0 := Lib.hid fun n => has_yes _ (h.later (below_ad w (.cells #[.int .i64 (i : Int)] 3) n)) i hi
  clear x hT S1 hF
  go_enter Try.func12, Try.ntmps12
  go_wp2_with fail
  go_quiet (exact Calls.quiet_of_same ((H0.out _).mono fun _ _ h => ⟨h.1, h.2.symm⟩))
  go_wp2_with fail
  have hne : i ≠ p := by omega
  obtain ⟨w1, hw1⟩ : ∃ w1, (w.alloc (.cells #[.int .i64 (i : Int)] 3)).drewN nq = w1 := ⟨_, rfl⟩
  have D1 : Hid (DS F t w (some ⟨q, 0, none⟩) c D w.heap.size (i : Int) w1) := by rw [← hw1]; exact HS1.out.later (below_drewN _ _)
  rw [hw1]
  clear hw1 h0 e1 e2 e3 H0 HS1
  have HD := Lib.hid hd
  have HDP := Lib.hid hdp
  have HO := Lib.hid o
  have HT := Lib.hid h
  have HSS := Lib.hid hs
  have HPAR := Lib.hid hpar
  have hDl := o.1
  have HKP : Hid (dp.ks ≠ []) := by
    show dp.ks ≠ []
    rw [hkp]
    intro e
    have hm := mem_kids.2 ⟨hs, (by omega : p < i)⟩
    have e2 : (kids S p).length = 0 := by rw [← nz_len, e]; rfl
    rw [List.length_eq_zero_iff.1 e2] at hm
    cases hm
  clear hd hdp o h hs hpar hks hkp hsd hsp
  have h0 := D1.out.tx.c0
  rw [hDl] at h0
  have h1 := D1.out.box
  go_quiet (fail)
  obtain ⟨w2, hw2⟩ : ∃ w2, w1.drewN nq = w2 := ⟨_, rfl⟩
  have D2 : Hid (DS F t w (some ⟨q, 0, none⟩) c D w.heap.size (i : Int) w2) := by rw [← hw2]; exact D1.out.later (below_drewN _ _)
  rw [hw2]
  clear hw2 h0 h1 D1
  have h0 := (D2.out.tx.cells rfl HD.out).2.1
  have h1 := D2.out.tx.fz rfl (i * 3 + 1)
  go_wp2_with fail
  have D3 : Hid (DS F t w (some ⟨q, 0, none⟩) c (D.set i { d with lk := false }) w.heap.size (i : Int) (w2.setCell ⟨q, i * 3 + 1, none⟩ (.bool false))) := D2.out.off HD.out rfl false
  obtain ⟨w3, hw3⟩ : ∃ w3, w2.setCell ⟨q, i * 3 + 1, none⟩ (.bool false) = w3 := ⟨_, rfl⟩
  rw [hw3] at D3 ⊢
  clear hw3 h0 h1 D2
  have HDI : Hid ((D.set i { d with lk := false })[i]? = some { d with lk := false }) := by
    show _ = _
    rw [List.getElem?_set, if_pos rfl, if_pos (List.getElem?_eq_some_iff.1 HD.out).1]
  have HDP2 : Hid ((D.set i { d with lk := false })[p]? = some dp) := by
    show _ = _
    rw [List.getElem?_set, if_neg hne]; exact HDP.out
  have h0 := D3.out.tx.c0
  rw [List.length_set, hDl] at h0
  have h1 : w3.cell? ⟨q, i * 3, none⟩ = some (.int .i64 (p : Int)) := by
    have := (D3.out.tx.cells rfl HDI.out).1
    rw [this]; show some (Value.int .i64 d.par) = _; rw [HPAR.out.1]
  go_quiet (fail)
  obtain ⟨w4, hw4⟩ : ∃ w4, w3.drewN nq = w4 := ⟨_, rfl⟩
  have D4 : Hid (DS F t w (some ⟨q, 0, none⟩) c (D.set i { d with lk := false }) w.heap.size (i : Int) w4) := by rw [← hw4]; exact D3.out.later (below_drewN _ _)
  rw [hw4]
  clear hw4 h0 h1 D3
  have h0 := (D4.out.tx.cells rfl HDP2.out).2.2
  have HC := Lib.hid (del_call (i : Int) (D4.out.tx.kid p dp HDP2.out) HKP.out D4.out.bl (fun e => D4.out.bn (D4.out.tx.fk p dp _ HDP2.out e)) D4.out.box)
  obtain ⟨g, hg, _⟩ := row_form (D4.out.tx.kid p dp HDP2.out) (by have := HKP.out; cases hk : dp.ks with | nil => exact absurd hk this | cons => simp)
  have HG := Lib.hid hg
  clear hg
  go_wp2_with (go_at_call 24; (with_reducible refine HC.out.mono ?_); rintro e w5 ⟨n, hn, rfl, hr, ht⟩; have e5 := ht.out.block q (row_lt D4.out.tx.own rfl).2 (fun e => D4.out.tx.nePK HDP2.out (k := q) rfl e); have h5 : w5.cell? ⟨q, p * 3 + 2, none⟩ = some (.slice dp.P dp.ks.length dp.c) := (cell_blk e5 _).trans h0; have h6 : w5.frozen? ⟨q, p * 3 + 2, none⟩ = false := (World.frozen?_of_block (a := ⟨q, p * 3 + 2, none⟩) e5).trans (D4.out.tx.fz rfl _); clear e5 h0)
  go_ret
  have hr2 := hr.out
  rw [HG.out] at hr2
  have K := D4.out.tx.kidTo HDP2.out rfl ht.out hr2 (.inl (by rw [HG.out]; rfl))
  rw [hn.out, HG.out]
  refine ⟨rfl, ⟨HT.out.wf.cut i, by rw [cut_len]; exact HT.out.le, _, _, _, K.1.mono ?_, HO.out.cut HT.out.wf HD.out HDP.out HPAR.out.1 HPAR.out.2 _ _⟩, ?_⟩
  · rintro k _ (hk | hk)
    · exact .inl hk
    · exact .inr (Nat.le_trans D4.out.tn.size hk)
  · exact D4.out.tn.trans K.2
end
end Go.Proofs.Ytplckaodenpdbaa
