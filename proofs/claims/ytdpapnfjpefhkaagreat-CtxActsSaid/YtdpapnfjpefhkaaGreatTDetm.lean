/- What Detach does to a tree in memory. Conditions: each theorem's own premises.
The document's own tree in memory: what each of its calls tells, and leaves. Conditions: each theorem's own premises. -/
import Derived.Test.YtdpapnfjpefhkaaGreatTWlk
import Derived.Lib.OwnBridge
namespace Go.Proofs.YtdpapnfjpefhkaaGreat.Tr
open Go.RowKit Go.Sort Go.Lib
set_option linter.unusedVariables false
set_option maxRecDepth 100000
theorem is_it (k x : Int) (b : Nat) (W : World) (hc : W.cell? ⟨b, 0, none⟩ = some (.int .i64 k)) : FnGives Tryz.prog 81 #[.pointer (some ⟨b, 0, none⟩)] #[.int .i64 x] (.bool (x == k)) W := by
 show Calls Tryz.prog 81 #[.int .i64 x, .pointer (some ⟨b, 0, none⟩)] W _
 go_enter Tryz.func81, Tryz.ntmps81
 go_wp2
 go_ret
 exact ⟨rfl, 0, rfl⟩
theorem is_at (k : Int) (b : Nat) (w : World) (hb : b < w.heap.size) (hc : w.cell? ⟨b, 0, none⟩ = some (.int .i64 k)) : PredAt Tryz.prog 81 #[.pointer (some ⟨b, 0, none⟩)] (Value.int .i64) (fun x => x == k) w :=
 fun W x hB => is_it k x b W ((hB.cell (p := ⟨b, 0, none⟩) hb).trans hc)
theorem is_over (k : Int) (b blk off size : Nat) (w : World) (hb : b < w.heap.size) (hne : b ≠ blk) (hc : w.cell? ⟨b, 0, none⟩ = some (.int .i64 k)) : PredOver Tryz.prog 81 #[.pointer (some ⟨b, 0, none⟩)] (Value.int .i64) (fun x => x == k) blk off size w :=
 fun n os dk x _ => is_it k x b _ (by
  unfold sortWorld
  rw [cell?_grow _ _ _ (by show b < (putRow _ _ _ _ _).heap.size; rw [size_putRow]; exact hb), cell?_putRow_other _ _ blk off _ _ (Or.inl hne)]
  exact hc)
theorem tn_putRow {enc : Int → Value} {w : World} {g q : Nat} {d : Array Int} : Tn (fun k => some g = some k) w (putRow enc (Sort.ahead w q) g 0 d) :=
 ⟨rfl, rfl, rfl, by simp [putRow, mapBlock, Sort.ahead], fun k hk hn => by
  have : g ≠ k := fun e => hn (by rw [e])
  simp [putRow, mapBlock, Sort.ahead, Array.getElem?_modify, this]⟩
def DelR (P : Option Addr) (c : Nat) (l : List Int) (w : World) (e : Ending) (w' : World) : Prop := ∃ n, Hid (n = l.length) ∧ e = .returned (.slice P n c) ∧ Hid (Rw 0 w' P c l) ∧ Hid (Tn (fun k => blk P = some k) w w')
theorem del_call {w : World} {P : Option Addr} {c b : Nat} {l : List Int} (k : Int) (h : Rw 0 w P c l) (hne : l ≠ []) (hb : b < w.heap.size) (hbP : blk P ≠ some b) (hc : w.cell? ⟨b, 0, none⟩ = some (.int .i64 k)) :
  Calls Tryz.prog 80 #[.slice P l.length c, .func (.func 81) #[] #[.pointer (some ⟨b, 0, none⟩)]] w (DelR P c (l.filter fun x => !(x == k)) w) := by
 obtain ⟨g, rfl, hlc⟩ := row_form h (by cases l with | nil => exact absurd rfl hne | cons => simp)
 have hcap := row_cap h
 obtain ⟨g', cap', e1, _, hg, _, _, _, hH⟩ := Lib.holds_of_ownsRow (enc := Value.int .i64) h (by intro e; cases e)
 injection e1 with e1 e2 e3
 injection e1 with e1
 injection e1 with e1
 subst e1
 have eg : ∀ args w, (callFunc 81 args).run Tryz.prog w = .ok (.enter 81 args) w := enters_of Tryz.func81 (by kernel_rfl) rfl
 have hk : (l.filter fun x => !(x == k)).length ≤ l.length := List.length_filter_le _ _
 refine (AnyE.slices_DeleteFunc Tryz.deleteIt (Value.int .i64) (fun _ => rfl) (fun x => x == k) 81 #[.pointer (some ⟨b, 0, none⟩)] eg 0 Tryz.zeroValue3 g 0 c l.toArray w (is_at k b w hb hc) (is_over k b g 0 _ w hb (fun e => hbP (by rw [e]; rfl)) hc) hH (by simp; omega) (by simpa using hlc)).mono ?_
 rintro e w' ⟨rfl, q, rfl⟩
 refine ⟨_, rfl, rfl, ?_, ?_⟩
 · have := Lib.ownsRow_putRow (q := q) (k := (l.filter fun x => !(x == k)).length) (ys := (l.filter fun x => !(x == k)) ++ List.replicate (l.length - (l.filter fun x => !(x == k)).length) 0) h (by rw [List.length_append, List.length_replicate]; omega) hk
   rw [List.take_left] at this
   show Rw _ _ _ _ _
   unfold Rw iV
   simpa using this
 · exact tn_putRow
theorem below_ad (w : World) (o : Obj) (n : Nat) : Below w.heap.size w ((w.alloc o).drewN n) := (below_al w o).trans ((below_drewN _ n).mono (by simp))
section
variable {V : Nat → Value} {F : Nat → Prop} {t : Nat} {S : TS}
theorem detach_off (w : World) (h : TR F 0 V S w t) (i : Nat) {p : Int} (hs : S[i]? = some (p, false)) : Calls Tryz.prog 53 #[.pointer (some ⟨t, 1, none⟩), .int .i64 (i : Int)] w (BoolR false w) := by
 have hi := (List.getElem?_eq_some_iff.1 hs).1
 have b1 : (i : Int) < (S.length : Int) := by omega
 have b2 : (0 : Int) ≤ (i : Int) := by omega
 have hT := h.later (below_al w (.cells #[.int .i64 (i : Int)] 3))
 obtain ⟨P, c, D, d, q, x, hP, hDl, hd, hks, hr, hsd, h0, e1, e2, e3, hf⟩ := hT.row i hi
 have e : d.lk = false := by rw [hs] at hsd; simp at hsd; exact hsd.2
 rw [e] at e2
 have H0 := Lib.hid fun n => has_yes _ (h.later (below_ad w (.cells #[.int .i64 (i : Int)] 3) n)) i hi
 clear hs hT x hP hDl hd hks hr hsd e1 e3 hf e h
 go_enter Tryz.func53, Tryz.ntmps53
 go_wp2_with fail
 go_quiet (exact Calls.quiet_of_same ((H0.out _).mono fun _ _ h => ⟨h.1, h.2.symm⟩))
 go_wp2_with fail
 go_ret
 exact ⟨rfl, (below_al w _).trans ((below_drewN _ _).mono (by simp))⟩
structure DS (F : Nat → Prop) (V : Nat → Value) (t : Nat) (W : World) (P : Option Addr) (c : Nat) (D : List Nd) (b : Nat) (k : Int) (w : World) : Prop where
 tx : TX F 0 V w t P c D
 tn : Tn F W w
 box : w.cell? ⟨b, 0, none⟩ = some (.int .i64 k)
 bl : b < w.heap.size
 bn : ¬ F b
theorem DS.later {W w w' : World} {P : Option Addr} {c b : Nat} {D : List Nd} {k : Int} (h : DS F V t W P c D b k w) (hb : Below w.heap.size w w') : DS F V t W P c D b k w' :=
 ⟨h.tx.later hb, h.tn.later hb, (hb.cell (p := ⟨b, 0, none⟩) h.bl).trans h.box, Nat.lt_of_lt_of_le h.bl hb.size, h.bn⟩
theorem DS.off {W w : World} {P : Option Addr} {c b i q : Nat} {D : List Nd} {d : Nd} {k : Int} (h : DS F V t W P c D b k w) (hd : D[i]? = some d) (hP : P = some ⟨q, 0, none⟩) (x : Bool) : DS F V t W P c (D.set i { d with lk := x }) b k (w.setCell ⟨q, i * 3 + 1, none⟩ (.bool x)) := by
 obtain ⟨h1, h2⟩ := h.tx.lkTo hd hP x
 have hq : q ≠ b := fun e => h.bn (by rw [← e]; exact h.tx.fP q (by rw [hP]; rfl))
 refine ⟨h1, h.tn.trans h2, ?_, by rw [size_set]; exact h.bl, h.bn⟩
 rw [cell_blk (Below.heap_setCell w ⟨q, i * 3 + 1, none⟩ (.bool x) b (fun e => hq e.symm)) 0]
 exact h.box
theorem detach_yes (w : World) (h : TR F 0 V S w t) (hF : ∀ k, F k → k < w.heap.size) (i : Nat) {p : Nat} (hs : S[i]? = some ((p : Int), true)) : Calls Tryz.prog 53 #[.pointer (some ⟨t, 1, none⟩), .int .i64 (i : Int)] w fun e w' => e = .returned (.bool true) ∧ Go F 0 V t (cut S i) w w' := by
 have hi := (List.getElem?_eq_some_iff.1 hs).1
 have hpi := (h.wf i _ _ hs).2.1
 have hp : p < S.length := by omega
 have b1 : (i : Int) < (S.length : Int) := by omega
 have b2 : (0 : Int) ≤ (i : Int) := by omega
 have b3 : (p : Int) < (S.length : Int) := by omega
 have b4 : (0 : Int) ≤ (p : Int) := by omega
 have hT := h.later (below_al w (.cells #[.int .i64 (i : Int)] 3))
 obtain ⟨P, c, D, x, o⟩ := hT.ex
 obtain ⟨d, hd, hsd, hks⟩ := o.one hi
 obtain ⟨dp, hdp, hsp, hkp⟩ := o.one hp
 obtain ⟨q, rfl, hqc⟩ := x.form hd
 have hpar : d.par = (p : Int) ∧ d.lk = true := by rw [hs] at hsd; simp at hsd; exact ⟨hsd.1.symm, hsd.2⟩
 have h0 := x.c0
 rw [o.1] at h0
 obtain ⟨e1, e2, e3⟩ := x.cells rfl hd
 rw [hpar.2] at e2
 have S1 : DS F V t w (some ⟨q, 0, none⟩) c D w.heap.size (i : Int) (w.alloc (.cells #[.int .i64 (i : Int)] 3)) := ⟨x, .of_below (below_al w _), by simp, by simp, fun hf => by have := hF _ hf; omega⟩
 have HS1 := Lib.hid S1
 have H0 := Lib.hid fun n => has_yes _ (h.later (below_ad w (.cells #[.int .i64 (i : Int)] 3) n)) i hi
 clear x hT S1 hF
 go_enter Tryz.func53, Tryz.ntmps53
 go_wp2_with fail
 go_quiet (exact Calls.quiet_of_same ((H0.out _).mono fun _ _ h => ⟨h.1, h.2.symm⟩))
 go_wp2_with fail
 have hne : i ≠ p := by omega
 obtain ⟨w1, hw1⟩ : ∃ w1, (w.alloc (.cells #[.int .i64 (i : Int)] 3)).drewN nq = w1 := ⟨_, rfl⟩
 have D1 : Hid (DS F V t w (some ⟨q, 0, none⟩) c D w.heap.size (i : Int) w1) := by rw [← hw1]; exact HS1.out.later (below_drewN _ _)
 rw [hw1]
 clear hw1 h0 e1 e2 e3 H0 HS1
 have HD := Lib.hid hd
 have HDP := Lib.hid hdp
 have HO := Lib.hid o
 have HT := Lib.hid h
 have HSS := Lib.hid hs
 have HPAR := Lib.hid hpar
 have hDl := o.1
 have HKP : Hid (dp.ks ≠ []) := by
  show dp.ks ≠ []
  rw [hkp]
  intro e
  have hm := mem_kids.2 ⟨hs, (by omega : p < i)⟩
  have e2 : (kids S p).length = 0 := by rw [← nz_len, e]; rfl
  rw [List.length_eq_zero_iff.1 e2] at hm
  cases hm
 clear hd hdp o h hs hpar hks hkp hsd hsp
 have h0 := D1.out.tx.c0
 rw [hDl] at h0
 have h1 := D1.out.box
 go_quiet (fail)
 obtain ⟨w2, hw2⟩ : ∃ w2, w1.drewN nq = w2 := ⟨_, rfl⟩
 have D2 : Hid (DS F V t w (some ⟨q, 0, none⟩) c D w.heap.size (i : Int) w2) := by rw [← hw2]; exact D1.out.later (below_drewN _ _)
 rw [hw2]
 clear hw2 h0 h1 D1
 have h0 := (D2.out.tx.cells rfl HD.out).2.1
 have h1 := D2.out.tx.fz rfl (i * 3 + 1)
 go_wp2_with fail
 have D3 : Hid (DS F V t w (some ⟨q, 0, none⟩) c (D.set i { d with lk := false }) w.heap.size (i : Int) (w2.setCell ⟨q, i * 3 + 1, none⟩ (.bool false))) := D2.out.off HD.out rfl false
 obtain ⟨w3, hw3⟩ : ∃ w3, w2.setCell ⟨q, i * 3 + 1, none⟩ (.bool false) = w3 := ⟨_, rfl⟩
 rw [hw3] at D3 ⊢
 clear hw3 h0 h1 D2
 have HDI : Hid ((D.set i { d with lk := false })[i]? = some { d with lk := false }) := by
  show _ = _
  rw [List.getElem?_set, if_pos rfl, if_pos (List.getElem?_eq_some_iff.1 HD.out).1]
 have HDP2 : Hid ((D.set i { d with lk := false })[p]? = some dp) := by
  show _ = _
  rw [List.getElem?_set, if_neg hne]; exact HDP.out
 have h0 := D3.out.tx.c0
 rw [List.length_set, hDl] at h0
 have h1 : w3.cell? ⟨q, i * 3, none⟩ = some (.int .i64 (p : Int)) := by
  have := (D3.out.tx.cells rfl HDI.out).1
  rw [this]; show some (Value.int .i64 d.par) = _; rw [HPAR.out.1]
 go_quiet (fail)
 obtain ⟨w4, hw4⟩ : ∃ w4, w3.drewN nq = w4 := ⟨_, rfl⟩
 have D4 : Hid (DS F V t w (some ⟨q, 0, none⟩) c (D.set i { d with lk := false }) w.heap.size (i : Int) w4) := by rw [← hw4]; exact D3.out.later (below_drewN _ _)
 rw [hw4]
 clear hw4 h0 h1 D3
 have h0 := (D4.out.tx.cells rfl HDP2.out).2.2
 have HC := Lib.hid (del_call (i : Int) (D4.out.tx.kid p dp HDP2.out) HKP.out D4.out.bl (fun e => D4.out.bn (D4.out.tx.fk p dp _ HDP2.out e)) D4.out.box)
 obtain ⟨g, hg, _⟩ := row_form (D4.out.tx.kid p dp HDP2.out) (by have := HKP.out; cases hk : dp.ks with | nil => exact absurd hk this | cons => simp)
 have HG := Lib.hid hg
 clear hg
 go_wp2_with (go_at_call 80; (with_reducible refine HC.out.mono ?_); rintro e w5 ⟨n, hn, rfl, hr, ht⟩; have e5 := ht.out.block q (row_lt D4.out.tx.own rfl).2 (fun e => D4.out.tx.nePK HDP2.out (k := q) rfl e); have h5 : w5.cell? ⟨q, p * 3 + 2, none⟩ = some (.slice dp.P dp.ks.length dp.c) := (cell_blk e5 _).trans h0; have h6 : w5.frozen? ⟨q, p * 3 + 2, none⟩ = false := (World.frozen?_of_block (a := ⟨q, p * 3 + 2, none⟩) e5).trans (D4.out.tx.fz rfl _); clear e5 h0)
 go_ret
 have hr2 := hr.out
 rw [HG.out] at hr2
 have K := D4.out.tx.kidTo HDP2.out rfl ht.out hr2 (.inl (by rw [HG.out]; rfl))
 rw [hn.out, HG.out]
 refine ⟨rfl, ⟨HT.out.wf.cut i, by rw [cut_len]; exact HT.out.le, _, _, _, K.1.mono ?_, HO.out.cut HT.out.wf HD.out HDP.out HPAR.out.1 HPAR.out.2 _ _⟩, ?_⟩
 · rintro k _ (hk | hk)
   · exact .inl hk
   · exact .inr (Nat.le_trans D4.out.tn.size hk)
 · exact D4.out.tn.trans K.2
end
end Go.Proofs.YtdpapnfjpefhkaaGreat.Tr
namespace Go.Proofs.YtdpapnfjpefhkaaGreat.Tr
open Go.RowKit
set_option linter.unusedVariables false
set_option maxRecDepth 100000
def sV (x : Int × Bool) : List Value := [.int .i64 x.1, .bool x.2]
theorem sV_len (x : Int × Bool) : (sV x).length = 2 := rfl
theorem inf44 : (Tryz.prog.info? 212).map (fun i => (i.zero, i.size, i.bytes)) = some (some (.agg #[.int .i64 0, .bool false]), 2, 16) := by kernel_rfl
theorem sd_cell (p : Int) (l : Bool) : ∀ u ∈ ([.int .i64 p, .bool l] : List Value), u.oneCell' = true := by intro u hu; simp at hu; rcases hu with rfl | rfl <;> rfl
structure MX (V : Nat → Value) (w : World) (m : Nat) (Q : Option Addr) (c : Nat) (S : TS) : Prop where
 hm : w.heap[m]? = some (.cells #[V 0, .slice Q S.length c, V 2, V 3, V 4] 152 (0, 0))
 own : w.ownsRow 0 212 2 (.slice Q S.length c) S.length (S.flatMap sV)
section
variable {V : Nat → Value} {w w' : World} {m c : Nat} {Q : Option Addr} {S : TS}
theorem MX.lt (h : MX V w m Q c S) : m < w.heap.size := lt_of_blk h.hm
theorem MX.c0 (h : MX V w m Q c S) : w.cell? ⟨m, 1, none⟩ = some (.slice Q S.length c) := by rw [cell_of_row w m 1 _ _ _ h.hm]; rfl
theorem MX.f0 (h : MX V w m Q c S) (i : Nat) : w.frozen? ⟨m, i, none⟩ = false := frozen_of_row w m i _ _ h.hm
theorem MX.ne (h : MX V w m Q c S) : blk Q ≠ some m := by
 intro e
 obtain ⟨cs, fr, h1⟩ := row_tag h.own e
 have := h1.symm.trans h.hm
 simp at this
theorem MX.keep (h : MX V w m Q c S) (h1 : w'.heap[m]? = w.heap[m]?) (h2 : ∀ k, blk Q = some k → w'.heap[k]? = w.heap[k]?) : MX V w' m Q c S := ⟨h1.trans h.hm, row_keep h.own h2⟩
theorem MX.later (h : MX V w m Q c S) (hb : Below w.heap.size w w') : MX V w' m Q c S := h.keep (hb.block _ h.lt) fun k hk => hb.block _ (row_lt h.own hk).2
theorem MX.form (h : MX V w m Q c S) {i : Nat} {x : Int × Bool} (hx : S[i]? = some x) : ∃ q, Q = some ⟨q, 0, none⟩ ∧ q < w.heap.size ∧ w.cell? ⟨q, i * 2, none⟩ = some (.int .i64 x.1) ∧ w.cell? ⟨q, i * 2 + 1, none⟩ = some (.bool x.2) := by
 have hl := (List.getElem?_eq_some_iff.1 hx).1
 obtain ⟨q, rfl, _⟩ := row_form h.own (by omega)
 refine ⟨q, rfl, (row_lt h.own (k := q) rfl).2, ?_, ?_⟩
 · rw [h.own.cellAt (i * 2) (by omega)]; exact flat_at sV 2 sV_len S i x hx 0 (by omega)
 · rw [h.own.cellAt (i * 2 + 1) (by omega)]; exact flat_at sV 2 sV_len S i x hx 1 (by omega)
def MGo (V : Nat → Value) (m : Nat) (Q : Option Addr) (S' : TS) (w w' : World) : Prop := ∃ Q' c', MX V w' m Q' c' S' ∧ Tn (fun k => k = m ∨ blk Q = some k) w w' ∧ ∀ k, blk Q' = some k → blk Q = some k ∨ w.heap.size ≤ k
theorem MX.push {wx w1 : World} {g cap : Nat} (h : MX V w m Q c S) (p : Int) (l : Bool) (hx : Below w.heap.size w wx)
  (ho : w1.ownsRow 0 212 2 (.slice (some ⟨g, 0, none⟩) (S.length + 1) cap) (S.length + 1) (S.flatMap sV ++ [.int .i64 p, .bool l])) (hg : wx.grownBy w1 (Value.slice Q S.length c).ownBlock) (hat : (Value.slice Q S.length c).ownBlock = some g ∨ w.heap.size ≤ g) :
  MGo V m Q (S ++ [(p, l)]) w (w1.setCell ⟨m, 1, none⟩ (.slice (some ⟨g, 0, none⟩) (S.length + 1) cap)) := by
 rw [own_blk] at hg hat
 have T1 := Tn.grown hx hg
 have hlt := h.lt
 have hgm : g ≠ m := by
  intro e; subst e
  rcases hat with h1 | h1
  · exact h.ne h1
  · omega
 refine ⟨some ⟨g, 0, none⟩, cap, ⟨?_, ?_⟩, (T1.mono fun b hb => .inl (.inr hb)).set (.inl (.inl rfl)) _, fun k hk => ?_⟩
 · rw [heap_setCell_same _ m 1 _ _ _ ((T1.block m hlt h.ne).trans h.hm)]
   simp
 · rw [List.flatMap_append, show ([(p, l)] : TS).flatMap sV = [.int .i64 p, .bool l] from rfl, show (S ++ ([(p, l)] : TS)).length = S.length + 1 from by simp]
   exact row_keep ho fun k hk => by cases hk; exact Below.heap_setCell _ _ _ _ hgm
 · have hk : g = k := by simpa [blk] using hk
   subst hk; exact hat
theorem MX.pushed {wx w1 : World} (h : MX V w m Q c S) (hx : Below w.heap.size w wx) (hg : wx.grownBy w1 (Value.slice Q S.length c).ownBlock) : w1.cell? ⟨m, 1, none⟩ = some (.slice Q S.length c) ∧ w1.frozen? ⟨m, 1, none⟩ = false := by
 have e := (Tn.grown hx hg).block m h.lt (by rw [own_blk]; exact h.ne)
 exact ⟨(cell_blk e 1).trans h.c0, (World.frozen?_of_block (a := ⟨m, 1, none⟩) e).trans (h.f0 1)⟩
theorem MX.cut {i q : Nat} {p : Int} {l : Bool} (h : MX V w m Q c S) (hs : S[i]? = some (p, l)) (hQ : Q = some ⟨q, 0, none⟩) : MGo V m Q (cut S i) w (w.setCell ⟨q, i * 2 + 1, none⟩ (.bool false)) := by
 subst hQ
 have hmq : m ≠ q := fun e => h.ne (by rw [e]; rfl)
 refine ⟨some ⟨q, 0, none⟩, c, ⟨?_, ?_⟩, (Tn.refl _ w).set (.inl (.inr rfl)) _, fun k hk => .inl hk⟩
 · rw [Below.heap_setCell _ _ _ _ hmq, h.hm, cut_len]
 · have := (h.own.stored (i * 2 + 1) (.bool false)).1
   rw [flat_set sV 2 sV_len _ (p, false) S i (p, l) hs 1 (by omega) rfl] at this
   rw [cut_len, cut_some hs]; exact this
theorem madd_in (h : MX V w m Q c S) (hn : S.length < 1000) (p : Int) (l l2 : Bool) (hp : -1 ≤ p ∧ p < (S.length : Int)) (hl : l2 = (l && decide (0 ≤ p))) : Calls Tryz.prog 62 #[.pointer (some ⟨m, 1, none⟩), .int .i64 p, .bool l] w fun e w' => e = .returned (.tuple #[.int .i64 (S.length : Int), .int .i64 0]) ∧ Hid (MGo V m Q (S ++ [(p, l2)]) w w') := by
 obtain ⟨i0, hi, hz0, hz1, hz2⟩ := info_parts inf44
 have h0 := h.c0
 have hfa := h.f0 1
 have HX := Lib.hid h
 have b1 : ¬ p < -1 := by omega
 have b2 : ¬ (S.length : Int) ≤ p := by omega
 have b3 : ¬ (1000 : Int) ≤ (S.length : Int) := by omega
 have b4 : (S.length : Int) ≤ 1000 := by omega
 have HB := Lib.hid (below_al w (.cells #[.int .i64 p, .bool l2] 212))
 have hq : ∀ (g cap : Nat) (w1 : World), (w.alloc (.cells #[.int .i64 p, .bool l2] 212)).grownBy w1 (Value.slice Q S.length c).ownBlock → w1.ownsRow 0 212 2 (.slice (some ⟨g, 0, none⟩) (S.length + 1) cap) (S.length + 1) (S.flatMap sV ++ [.int .i64 p, .bool l2]) → ((Value.slice Q S.length c).ownBlock = some g ∨ g = w.heap.size + 1) →
   MGo V m Q (S ++ [(p, l2)]) w (w1.setCell ⟨m, 1, none⟩ (.slice (some ⟨g, 0, none⟩) (S.length + 1) cap)) := fun g cap w1 hg ho hat => HX.out.push p l2 HB.out ho hg (hat.imp id (by omega))
 have KEY := Lib.hid hq
 clear hq hp h
 cases l with
 | false =>
  obtain rfl : l2 = false := hl
  go_enter Tryz.func62, Tryz.ntmps62
  go_wp2_with (at_builtin; go_loud (refine wpList_append_lies _ rfl (.tmp 29) (.tmp 37) 147 rfl 0 212 i0 _ 2 16 Tryz.underlying147 hi hz0 hz1 hz2 rfl (by omega) (.slice Q S.length c) S.length (S.flatMap sV) rfl (row_later HX.out.own HB.out) ⟨w.heap.size, 0, none⟩ 1 1 [.int .i64 p, .bool false] rfl rfl (World.news_of_block (cs := #[.int .i64 p, .bool false]) (heap_alloc_new w _)) (sd_cell _ _) (by omega) (by unfold maxLen; omega) (by omega) (by omega) (w.heap.size + 1) (by first | (simp; done) | (simp; rfl)) ?_; intro g cap w1 hown hgrow hat hlt1; have HE := Lib.hid (KEY.out g cap w1 hgrow hown hat); have hc1 := (HX.out.pushed HB.out hgrow).1; have hf1 := (HX.out.pushed HB.out hgrow).2; clear hown hgrow hat hlt1 h0 hfa))
  go_ret2
  exact ⟨rfl, HE⟩
 | true =>
  by_cases c1 : 0 ≤ p
  · obtain rfl : l2 = true := by rw [hl]; simp [c1]
    clear hl
    go_enter Tryz.func62, Tryz.ntmps62
    go_wp2_with (at_builtin; go_loud (refine wpList_append_lies _ rfl (.tmp 29) (.tmp 37) 147 rfl 0 212 i0 _ 2 16 Tryz.underlying147 hi hz0 hz1 hz2 rfl (by omega) (.slice Q S.length c) S.length (S.flatMap sV) rfl (row_later HX.out.own HB.out) ⟨w.heap.size, 0, none⟩ 1 1 [.int .i64 p, .bool true] rfl rfl (World.news_of_block (cs := #[.int .i64 p, .bool true]) (heap_alloc_new w _)) (sd_cell _ _) (by omega) (by unfold maxLen; omega) (by omega) (by omega) (w.heap.size + 1) (by first | (simp; done) | (simp; rfl)) ?_; intro g cap w1 hown hgrow hat hlt1; have HE := Lib.hid (KEY.out g cap w1 hgrow hown hat); have hc1 := (HX.out.pushed HB.out hgrow).1; have hf1 := (HX.out.pushed HB.out hgrow).2; clear hown hgrow hat hlt1 h0 hfa))
    go_ret2
    exact ⟨rfl, HE⟩
  · obtain rfl : l2 = false := by rw [hl]; simp [c1]
    clear hl
    go_enter Tryz.func62, Tryz.ntmps62
    go_wp2_with (at_builtin; go_loud (refine wpList_append_lies _ rfl (.tmp 29) (.tmp 37) 147 rfl 0 212 i0 _ 2 16 Tryz.underlying147 hi hz0 hz1 hz2 rfl (by omega) (.slice Q S.length c) S.length (S.flatMap sV) rfl (row_later HX.out.own HB.out) ⟨w.heap.size, 0, none⟩ 1 1 [.int .i64 p, .bool false] rfl rfl (World.news_of_block (cs := #[.int .i64 p, .bool false]) (heap_alloc_new w _)) (sd_cell _ _) (by omega) (by unfold maxLen; omega) (by omega) (by omega) (w.heap.size + 1) (by first | (simp; done) | (simp; rfl)) ?_; intro g cap w1 hown hgrow hat hlt1; have HE := Lib.hid (KEY.out g cap w1 hgrow hown hat); have hc1 := (HX.out.pushed HB.out hgrow).1; have hf1 := (HX.out.pushed HB.out hgrow).2; clear hown hgrow hat hlt1 h0 hfa))
    go_ret2
    exact ⟨rfl, HE⟩
theorem mdet_off (h : MX V w m Q c S) (i : Nat) {p : Int} (hs : S[i]? = some (p, false)) : Calls Tryz.prog 63 #[.pointer (some ⟨m, 1, none⟩), .int .i64 (i : Int)] w fun e w' => e = .returned (.bool false) ∧ w = w' := by
 have hi := (List.getElem?_eq_some_iff.1 hs).1
 have h0 := h.c0
 obtain ⟨q, rfl, _, e1, e2⟩ := h.form hs
 have b1 : ¬ (i : Int) < 0 := by omega
 have b2 : ¬ (S.length : Int) ≤ (i : Int) := by omega
 have b3 : (i : Int) < (S.length : Int) := by omega
 have b4 : (0 : Int) ≤ (i : Int) := by omega
 clear h hs e1
 go_enter Tryz.func63, Tryz.ntmps63
 go_wp2_with fail
 go_ret
 exact ⟨rfl, rfl⟩
theorem mdet_yes (h : MX V w m Q c S) (i : Nat) {p : Int} (hs : S[i]? = some (p, true)) : Calls Tryz.prog 63 #[.pointer (some ⟨m, 1, none⟩), .int .i64 (i : Int)] w fun e w' => e = .returned (.bool true) ∧ Hid (MGo V m Q (cut S i) w w') := by
 have hi := (List.getElem?_eq_some_iff.1 hs).1
 have h0 := h.c0
 obtain ⟨q, rfl, _, e1, e2⟩ := h.form hs
 have HE : Hid (MGo V m (some ⟨q, 0, none⟩) (cut S i) w (w.setCell ⟨q, i * 2 + 1, none⟩ (.bool false))) := h.cut hs rfl
 have hfz := h.own.frozenAt (i * 2 + 1)
 have b1 : ¬ (i : Int) < 0 := by omega
 have b2 : ¬ (S.length : Int) ≤ (i : Int) := by omega
 have b3 : (i : Int) < (S.length : Int) := by omega
 have b4 : (0 : Int) ≤ (i : Int) := by omega
 clear h hs e1
 go_enter Tryz.func63, Tryz.ntmps63
 go_wp2_with fail
 go_ret
 exact ⟨rfl, HE⟩
end
def mk (S : TS) (x : Int) (k : Nat) : List Nat := (List.range k).filter fun j => match S[j]? with
 | some (p, l) => l && p == x
 | none => false
theorem mk_in {S : TS} {x : Int} {k : Nat} (h : S[k]? = some (x, true)) : mk S x (k + 1) = mk S x k ++ [k] := by
 unfold mk; rw [List.range_succ, List.filter_append, List.filter_cons, h]; simp
theorem mk_out {S : TS} {x p : Int} {l : Bool} {k : Nat} (h : S[k]? = some (p, l)) (hn : (l && p == x) = false) : mk S x (k + 1) = mk S x k := by
 unfold mk; rw [List.range_succ, List.filter_append, List.filter_cons, h]; simp only [hn]; simp
theorem mk_kids {S : TS} (h : WF S) (i : Nat) : mk S (i : Int) S.length = kids S i := by
 unfold mk kids
 apply filter_same
 intro j hj
 unfold kidOf
 cases e : S[j]? with
 | none => rfl
 | some y =>
  obtain ⟨p, l⟩ := y
  have hw := h j p l e
  show (l && p == (i : Int)) = (l && p == (i : Int) && decide (i < j))
  by_cases c : p = (i : Int)
  · rw [decide_eq_true (show i < j by omega), Bool.and_true]
  · rw [beq_eq_false_iff_ne.2 c]; simp
section
variable {V : Nat → Value} {w : World} {m c : Nat} {Q : Option Addr} {S : TS}
theorem mkids (h : MX V w m Q c S) (hS : S.length ≤ 1000) (x : Int) : Calls Tryz.prog 85 #[.pointer (some ⟨m, 1, none⟩), .int .i64 x] w (RowR (nz (mk S x S.length)) w) := by
 obtain ⟨i3, hi3, hy0, hy1, hy2⟩ := info_parts inf3
 have HX := Lib.hid h
 have h1 : (S.length : Int) ≤ 1000 := by omega
 clear h
 go_enter Tryz.func85, Tryz.ntmps85
 go_wp2_with fail
 go_loopw [5, 6] (fun s5 s6 wr => ∃ (k c n : Nat) (P : Option Addr), k ≤ S.length ∧ s6 = .int .i64 k ∧ s5 = .slice P n c ∧ n ≤ k ∧ Hid (n = (nz (mk S x k)).length) ∧ Hid (Rw w.heap.size wr P c (nz (mk S x k))) ∧ Hid (Below w.heap.size w wr)) (fun _ s6 _ => S.length - (intOf s6).toNat)
 case atStart => exact ⟨0, 0, 0, none, by omega, rfl, rfl, by omega, rfl, World.ownsRow_nil _ _ _ _, Below.refl _ _⟩
 case round =>
  obtain ⟨k, c, n, P, hk, rfl, rfl, hnk, hn, hR, hB⟩ := hrel
  have h0 := (HX.out.later hB.out).c0
  by_cases hlt : k < S.length
  · obtain ⟨⟨p, l⟩, hs⟩ : ∃ y, S[k]? = some y := ⟨_, List.getElem?_eq_getElem hlt⟩
    obtain ⟨q, hq, _, e1, e2⟩ := (HX.out.later hB.out).form hs
    have b1 : (k : Int) < (S.length : Int) := by omega
    have b2 : (0 : Int) ≤ (k : Int) := by omega
    have HS := Lib.hid hs
    subst hq
    clear hs
    cases l with
    | false =>
     have HK : Hid (mk S x (k + 1) = mk S x k) := mk_out HS.out rfl
     go_wp2_with fail
     go_roundw
     case rel => exact ⟨k + 1, c, n, P, by omega, by go_num, rfl, by omega, by rw [HK.out]; exact hn, by rw [HK.out]; exact hR, hB⟩
     case measure => simp [intOf]; omega
    | true =>
     by_cases e : p = x
     · subst e
       have HK : Hid (mk S p (k + 1) = mk S p k ++ [k]) := mk_in HS.out
       go_wp2_with (at_builtin; go_loud (refine wpList_append_lies _ rfl (.tmp 36) (.tmp 38) 111 rfl w.heap.size 3 i3 _ 1 8 Tryz.underlying111 hi3 hy0 hy1 hy2 rfl (by omega) (.slice P n c) n (iV (nz (mk S p k))) rfl (by have hR2 := row_later (w' := wr.alloc (.cells #[.int .i64 (k : Int)] 3)) hR.out (below_al _ _); rw [← hn.out] at hR2; exact hR2) ⟨wr.heap.size, 0, none⟩ 1 1 [.int .i64 (k : Int)] rfl rfl (World.news_of_block (cs := #[.int .i64 (k : Int)]) (heap_alloc_new wr _)) (int_cell _) (by omega) (by unfold maxLen; omega) (by omega) (by have := hB.out.size; simp; omega) (wr.heap.size + 1) (by first | (simp; done) | (simp; rfl)) ?_; intro g cap w1 hown hgrow hat hlt1; have HR2 : Hid (Rw w.heap.size w1 (some ⟨g, 0, none⟩) cap (nz (mk S p (k + 1)))) := (by rw [HK.out, nz_app]; show w1.ownsRow _ _ _ _ _ _; rw [show (nz (mk S p k) ++ nz [k]).length = n + 1 from (by rw [List.length_append, ← hn.out]; rfl), iV_app]; exact hown); have HB2 : Hid (Below w.heap.size w w1) := (by refine (hB.out.trans ((below_al wr _).mono hB.out.size)).grown hgrow (by have := hB.out.size; simp; omega) ?_; intro j hj; rw [own_blk] at hj; exact (row_lt hR.out hj).1); clear hown hgrow hat hlt1))
       go_roundw
       case rel => exact ⟨k + 1, cap, n + 1, _, by omega, by go_num, rfl, by omega, by rw [HK.out, nz_app]; show _ = _; rw [List.length_append, ← hn.out]; rfl, HR2, HB2⟩
       case measure => simp [intOf]; omega
     · have e9 : (p == x) = false := beq_eq_false_iff_ne.2 e
       have HK : Hid (mk S x (k + 1) = mk S x k) := mk_out HS.out (by rw [e9]; rfl)
       clear e
       go_wp2_with fail
       go_roundw
       case rel => exact ⟨k + 1, c, n, P, by omega, by go_num, rfl, by omega, by rw [HK.out]; exact hn, by rw [HK.out]; exact hR, hB⟩
       case measure => simp [intOf]; omega
  · have hk' : k = S.length := by omega
    have HK := Lib.hid hk'
    have b1 : ¬ (k : Int) < (S.length : Int) := by omega
    clear hk'
    go_wp2_with fail
    go_ret
    rw [HK.out] at hn hR
    exact ⟨P, c, n, hn, rfl, hR, hB⟩
end
end Go.Proofs.YtdpapnfjpefhkaaGreat.Tr
