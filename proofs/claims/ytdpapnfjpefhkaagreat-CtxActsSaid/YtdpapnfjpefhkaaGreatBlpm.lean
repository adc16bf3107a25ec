/- Two rows of who was cancelled, and of what was started, alike. Conditions: each theorem's own premises.
Each call of the program's contexts and of the document's own: the same answer. No condition but those that each names.
Each call of the program's contexts and of the document's own: the same answer; deadlines, cancellations, afters. No condition but those that each names.
Fire of the program's timers and of the document's: the same answer; a wait on both sides. No condition but those that each names.
A wait at a context's channel, on both sides; what the program's contexts answer. No condition but those that each names.
One act on both sides: the same. Conditions: each theorem's own premises. -/
import Derived.Test.YtdpapnfjpefhkaaGreatBed
import Derived.Test.YtdpapnfjpefhkaaGreatCMt
import Derived.Test.YtdpapnfjpefhkaaGreatTkem
namespace Go.Proofs.YtdpapnfjpefhkaaGreat
open Go.RowKit Tr
set_option linter.unusedVariables false
set_option maxRecDepth 100000
def RdS (w : World) (P : Option Addr) (n : Nat) (er cs : Int) (l : List Lap) : Prop := ∀ (k : Nat) (y : Lap), l[k]? = some y → ∃ q A m c, P = some ⟨q, 0, none⟩ ∧ w.cell? ⟨q, k * 4, none⟩ = some (.int .i64 y.1) ∧ w.cell? ⟨q, k * 4 + 1, none⟩ = some (.int .i64 er) ∧ w.cell? ⟨q, k * 4 + 2, none⟩ = some (.int .i64 cs) ∧ w.cell? ⟨q, k * 4 + 3, none⟩ = some (.slice A m c) ∧ m = y.2.length ∧ Ch.RdK w A m y.2
def RdM (w : World) (P : Option Addr) (l : List Mp) : Prop := ∀ (k : Nat) (y : Mp), l[k]? = some y → ∃ q, P = some ⟨q, 0, none⟩ ∧ w.cell? ⟨q, k * 2, none⟩ = some (.int .i64 y.id) ∧ w.cell? ⟨q, k * 2 + 1, none⟩ = some (.int .i64 y.pg)
section
variable {w w' : World} {B ty n c c' : Nat} {P P' : Option Addr} {er cs : Int} {l : List Lap} {st : List Mp}
theorem LRt.rds (h : LRt ty B w P c er cs l) : RdS w P l.length er cs l := by
 obtain ⟨L, h1, h2, h3⟩ := h
 subst h1
 intro k y hy
 rw [List.getElem?_map] at hy
 cases hx : L[k]? with
 | none => rw [hx] at hy; cases hy
 | some x =>
  rw [hx] at hy; cases hy
  have hj := (List.getElem?_eq_some_iff.1 hx).1
  obtain ⟨q, hP, _⟩ := row_form h3 (by omega)
  subst hP
  have hc : ∀ j, j < 4 → w.cell? ⟨q, k * 4 + j, none⟩ = (lE x)[j]? := fun j hj4 => by
   rw [h3.cellAt (k * 4 + j) (by omega)]
   exact flat_at lE 4 lE_len L k x hx j hj4
  obtain ⟨e1, e2, e3, e4⟩ := h2 x (List.mem_of_getElem? hx)
  refine ⟨q, x.A, x.n, x.c, rfl, hc 0 (by omega), ?_, ?_, hc 3 (by omega), e3, e4⟩
  · rw [hc 1 (by omega), ← e1]; rfl
  · rw [hc 2 (by omega), ← e2]; rfl
theorem SRt.rdm (h : SRt ty B w P c st) : RdM w P st := by
 intro k x hx
 have hj := (List.getElem?_eq_some_iff.1 hx).1
 obtain ⟨q, hP, _⟩ := row_form h (by omega)
 subst hP
 have hc : ∀ j, j < 2 → w.cell? ⟨q, k * 2 + j, none⟩ = (mE x)[j]? := fun j hj4 => by
  have h9 : w.ownsRow B ty 2 (.slice (some ⟨q, 0, none⟩) st.length c) st.length (st.flatMap mE) := h
  rw [h9.cellAt (k * 2 + j) (by omega)]
  exact flat_at mE 2 mE_len st k x hx j hj4
 exact ⟨q, rfl, hc 0 (by omega), hc 1 (by omega)⟩
theorem RdK.drewN' {A : Option Addr} {m : Nat} {k : List Ch.Wk} (h : Ch.RdK w A m k) (nq : Nat) : Ch.RdK (w.drewN nq) A m k := h.keep fun b cs e => (below_drewN w nq).block b (lt_of_blk e)
set_option maxHeartbeats 16000000 in
theorem lapsed_yes (h : RdS w P l.length er cs l) (h' : RdS w P' l.length er cs l) (h1 : n = l.length) (hn : n ≤ 1000) (hw : ∀ y ∈ l, y.2.length ≤ 1000000) :
  Calls Tryz.prog 22 #[.slice P n c, .slice P' n c'] w fun e w' => e = .returned (.bool true) ∧ ∃ m, w' = w.drewN m := by
 replace h := Lib.hid h
 replace h' := Lib.hid h'
 have HW := Lib.hid hw
 clear hw
 have b1 : (n : Int) ≤ 1000 := by omega
 go_enter Tryz.func22, Tryz.ntmps22
 go_wp2_with fail
 go_loopw [5] (fun i wr => ∃ k : Nat, k ≤ n ∧ i = .int .i64 k ∧ ∃ m, wr = w.drewN m) (fun i _ => n - (intOf i).toNat)
 case atStart => exact ⟨0, by omega, rfl, 0, rfl⟩
 case round =>
  obtain ⟨k, hk, rfl, m, rfl⟩ := hrel
  by_cases hlt : k < n
  · have hky : k < l.length := by omega
    obtain ⟨q, A, u, v, rfl, c0, c1, c2, c3, e1, hK⟩ := h.out k (l[k]'hky) (List.getElem?_eq_getElem hky)
    obtain ⟨q', A', u', v', rfl, d0, d1, d2, d3, e2, hK'⟩ := h'.out k (l[k]'hky) (List.getElem?_eq_getElem hky)
    have hwl := HW.out _ (List.getElem_mem hky)
    generalize l[k]'hky = x at *
    obtain ⟨xi, xk⟩ := x
    simp only at c0 c1 c2 c3 d0 d1 d2 d3 e1 e2 hwl
    obtain rfl : u = u' := e1.trans e2.symm
    have q1 : (k : Int) < (n : Int) := by omega
    have q2 : 0 ≤ (k : Int) := by omega
    have HK : Hid (∀ z, Calls Tryz.prog 59 #[.slice A u v, .slice A' u v'] (w.drewN (m + z)) fun e w' => e = .returned (.bool true) ∧ ∃ z, w' = w.drewN (m + z)) := fun z => (Ch.wakes_yes A A' u v v' xk (w.drewN (m + z)) (RdK.drewN' hK _) (RdK.drewN' hK' _) (by rw [e1]; exact hwl)).mono fun e w' h9 => ⟨h9.1, by
     obtain ⟨z2, rfl⟩ := h9.2
     exact ⟨z + z2, by rw [World.drewN_drewN, Nat.add_assoc]⟩⟩
    clear hky hK hK' e1 e2 hwl
    have g1 : (xi != xi) = false := by simp
    have g2 : (er != er) = false := by simp
    have g3 : (cs != cs) = false := by simp
    go_wp2_with fail
    go_quiet (first | exact HK.out _)
    go_wp2_with fail
    go_roundw
    case rel => exact ⟨k + 1, by omega, by go_num, _, rfl⟩
    case measure => simp [intOf]; omega
  · obtain rfl : k = n := by omega
    go_wp2_with fail
    go_ret
    exact ⟨rfl, _, rfl⟩
set_option maxHeartbeats 16000000 in
theorem starts_yes (h : RdM w P st) (h' : RdM w P' st) (h1 : n = st.length) (hn : n ≤ 1000) :
  Calls Tryz.prog 26 #[.slice P n c, .slice P' n c'] w fun e w' => e = .returned (.bool true) ∧ ∃ m, w' = w.drewN m := by
 replace h := Lib.hid h
 replace h' := Lib.hid h'
 have b1 : (n : Int) ≤ 1000 := by omega
 go_enter Tryz.func26, Tryz.ntmps26
 go_wp2_with fail
 go_loopw [5] (fun i wr => ∃ k : Nat, k ≤ n ∧ i = .int .i64 k ∧ ∃ m, wr = w.drewN m) (fun i _ => n - (intOf i).toNat)
 case atStart => exact ⟨0, by omega, rfl, 0, rfl⟩
 case round =>
  obtain ⟨k, hk, rfl, m, rfl⟩ := hrel
  by_cases hlt : k < n
  · have hky : k < st.length := by omega
    obtain ⟨q, rfl, c0, c1⟩ := h.out k (st[k]'hky) (List.getElem?_eq_getElem hky)
    obtain ⟨q', rfl, d0, d1⟩ := h'.out k (st[k]'hky) (List.getElem?_eq_getElem hky)
    generalize st[k]'hky = x at *
    obtain ⟨xi, xk⟩ := x
    simp only at c0 c1 d0 d1
    have q1 : (k : Int) < (n : Int) := by omega
    have q2 : 0 ≤ (k : Int) := by omega
    clear hky
    go_wp2_with fail
    go_quiet (fail)
    go_wp2_with fail
    go_roundw
    case rel => exact ⟨k + 1, by omega, by go_num, _, rfl⟩
    case measure => simp [intOf]; omega
  · obtain rfl : k = n := by omega
    go_wp2_with fail
    go_ret
    exact ⟨rfl, _, rfl⟩
end
end Go.Proofs.YtdpapnfjpefhkaaGreat
namespace Go.Proofs.YtdpapnfjpefhkaaGreat
open Go.RowKit Tr
set_option linter.unusedVariables false
set_option maxRecDepth 100000
structure MO where
 v : Int
 er : Int
 cs : Int
 l : List Lap
 r : Int
 d : St
def Po3 (ty : TypeId) (o : MO) (w : World) (e : Ending) (w' : World) : Prop := ∃ P1 n1 c1, Hid (n1 = o.l.length) ∧ e = .returned (.tuple #[.int .i64 o.v, .slice P1 n1 c1, .int .i64 o.r]) ∧ Hid (LRt ty w.heap.size w' P1 c1 o.er o.cs o.l)
structure CO where
 er : Int
 cs : Int
 l : List Lap
 st : List Mp
 r : Int
 d : St
def PoC (t1 t2 : TypeId) (o : CO) (w : World) (e : Ending) (w' : World) : Prop := ∃ P1 n1 c1 P2 n2 c2, Hid (n1 = o.l.length ∧ n2 = o.st.length) ∧ e = .returned (.tuple #[.slice P1 n1 c1, .slice P2 n2 c2, .int .i64 o.r]) ∧ Hid (LRt t1 w.heap.size w' P1 c1 o.er o.cs o.l) ∧ Hid (SRt t2 w.heap.size w' P2 c2 o.st)
structure AO where
 v : Int
 st : List Mp
 r : Int
 d : St
def PoA (t2 : TypeId) (o : AO) (w : World) (e : Ending) (w' : World) : Prop := ∃ P2 n2 c2, Hid (n2 = o.st.length) ∧ e = .returned (.tuple #[.int .i64 o.v, .slice P2 n2 c2, .int .i64 o.r]) ∧ Hid (SRt t2 w.heap.size w' P2 c2 o.st)
def Sm (l : List Lap) (st : List Mp) : Prop := l.length ≤ 1000 ∧ st.length ≤ 1000 ∧ ∀ y ∈ l, y.2.length ≤ 1000000
section
variable {W w w' w'' w1 : World} {t ts m mo b i j R R1 R2 : Nat} {s s2 s' : St} {d d1 d2 d' : St} {now k r : Int} {x y : Cx}
theorem eS_rfs (s : St) (k : Int) : rfs (eS s) k = rfs s k := by unfold rfs; rw [eS_len]
theorem eS_sub (h : (eS s).C[i]? = some y) : ∃ x, s.C[i]? = some x ∧ y = er0 x := by
 obtain ⟨x, h1, h2⟩ := eS_back h
 exact ⟨x, h1, h2.symm⟩
theorem KP.of_below (h : Below w.heap.size w w') : KP w w' := ⟨h.size, fun k cs ty fr e _ _ => (h.block k (lt_of_blk e)).trans e⟩
theorem KD.of_below (h : Below w.heap.size w w') : KD w w' := ⟨h.size, fun k cs ty fr e _ _ => (h.block k (lt_of_blk e)).trans e⟩
theorem same_below (h : w = w') : Below w.heap.size w w' := by subst h; exact Below.refl _ _
theorem mkL_sm (s : St) (y : Cx) : Sm (mkL s y) [] := by
 unfold mkL Sm
 split
 · exact ⟨by simp, by simp, fun y hy => by cases hy⟩
 · exact ⟨by simp, by simp, fun y hy => by simp at hy; subst hy; simp⟩
theorem nil_sm (st : List Mp) (h : st.length ≤ 1000) : Sm [] st := ⟨by simp, h, fun y hy => by cases hy⟩
theorem deadline_no {p : Option Nat} {O : Nat → Prop} (wh now : Int) (h : FS W t p s O w) (hr : rfs s k = r) (h0 : r ≠ 0) : Calls Tryz.prog 9 #[pS t, .int .i64 k, .int .i64 wh, .int .i64 now] w fun e w' => e = .returned (.tuple #[.int .i64 0, .slice none 0 0, .int .i64 r]) ∧ w = w' := by
 have HR := Lib.hid (refusal_any k h)
 rw [hr] at HR
 have b1 : (r != 0) = true := bne_iff_ne.2 h0
 clear h hr h0
 go_enter Tryz.func9, Tryz.ntmps9
 go_wp2_with fail
 refine HR.out.mono ?_
 rintro e w' ⟨rfl, rfl⟩
 go_wp2_with fail
 go_ret3
 exact ⟨rfl, rfl⟩
theorem rfs_cases (d : St) (k : Int) : (rfs d k = 4 ∧ (k < 0 ∨ (d.C.length : Int) ≤ k)) ∨ (rfs d k = 3 ∧ ∃ i : Nat, k = (i : Int) ∧ i < d.C.length ∧ d.C.length = 64) ∨ (rfs d k = 0 ∧ ∃ (i : Nat) (y : Cx), k = (i : Int) ∧ d.C[i]? = some y ∧ d.C.length ≠ 64) := by
 by_cases h0 : k < 0 ∨ (d.C.length : Int) ≤ k
 · exact .inl ⟨rfs_none h0, h0⟩
 · obtain ⟨i, rfl⟩ := Int.eq_ofNat_of_zero_le (show 0 ≤ k by omega)
   by_cases h1 : d.C.length = 64
   · exact .inr (.inl ⟨rfs_full (by omega) h1, i, rfl, by omega, h1⟩)
   · refine .inr (.inr ⟨?_, i, d.C[i]'(by omega), rfl, List.getElem?_eq_getElem (by omega), h1⟩)
     unfold rfs; rw [if_neg h0, if_neg h1]
abbrev PP (f : Nat) (a : Nat → Array Value) (R : Nat) (d d' : St) (Q : World → Ending → World → Prop) : Prop := ∀ {W w : World} {b ts t mo m R2 : Nat} {now : Int} {d2 : St}, BM W b ts t mo m now R R2 d d2 w → Calls Tryz.prog f (a t) w fun e w' => Q w e w' ∧ BM W b ts t mo m now R R2 d' d2 w' ∧ KP w w'
abbrev DD (f : Nat) (a : Nat → Array Value) (R : Nat) (d d' : St) (Q : World → Ending → World → Prop) : Prop := ∀ {W w : World} {b ts t mo m R1 : Nat} {now : Int} {d1 : St}, BM W b ts t mo m now R1 R d1 d w → Calls Tryz.prog f (a m) w fun e w' => Q w e w' ∧ BM W b ts t mo m now R1 R d1 d' w' ∧ KD w w'
theorem PP.no {f : Nat} {a : Nat → Array Value} {v : Value} {Q : World → Ending → World → Prop} (hc : ∀ {W w : World} {t ts : Nat} {s : St} {O : Nat → Prop}, FS W t (some ts) s O w → eS s = d → Calls Tryz.prog f (a t) w fun e w' => e = .returned v ∧ Below w.heap.size w w') (hQ : ∀ w w', Q w (.returned v) w') : PP f a R d d Q := fun h => by
 obtain ⟨s, s2, O, O2, fs, rc, e1, e2, i1, i2, dis⟩ := h.ex
 refine (hc fs e1).mono ?_
 rintro e w' ⟨rfl, hb⟩
 exact ⟨hQ _ _, h.later hb, KP.of_below hb⟩
theorem DD.no {f : Nat} {a : Nat → Array Value} {v : Value} {Q : World → Ending → World → Prop} (hc : ∀ {W w : World} {m mo : Nat} {s : St} {O : Nat → Prop}, RC W m mo s O w → eS s = d → Calls Tryz.prog f (a m) w fun e w' => e = .returned v ∧ Below w.heap.size w w') (hQ : ∀ w w', Q w (.returned v) w') : DD f a R d d Q := fun h => by
 obtain ⟨s, s2, O, O2, fs, rc, e1, e2, i1, i2, dis⟩ := h.ex
 refine (hc rc e2).mono ?_
 rintro e w' ⟨rfl, hb⟩
 exact ⟨hQ _ _, h.later hb, KD.of_below hb⟩
theorem po3_no (ty : TypeId) (r : Int) (d : St) (w w' : World) : Po3 ty ⟨0, 0, 0, [], r, d⟩ w (.returned (mk3 r)) w' := ⟨none, 0, 0, rfl, rfl, LRt.nil _ _ _ _ _⟩
theorem poC_no (t1 t2 : TypeId) (r : Int) (d : St) (w w' : World) : PoC t1 t2 ⟨0, 0, [], [], r, d⟩ w (.returned (cn3 r)) w' := ⟨none, 0, 0, none, 0, 0, ⟨rfl, rfl⟩, rfl, LRt.nil _ _ _ _ _, SRt.nil _ _ _⟩
theorem poA_no (t2 : TypeId) (r : Int) (d : St) (w w' : World) : PoA t2 ⟨0, [], r, d⟩ w (.returned (af3 r)) w' := ⟨none, 0, 0, rfl, rfl, SRt.nil _ _ _⟩
theorem PP.mk {f : Nat} {a : Nat → Array Value} {o : MO} (hr : o.r = 0) (hc : ∀ {W w : World} {t ts : Nat} {s : St} {O : Nat → Prop}, FS W t (some ts) s O w → IX R s → eS s = d → ∃ (s' : Nat → St) (n : Nat), (n : Int) = o.v ∧ (∀ c, IX R (s' c) ∧ eS (s' c) = o.d) ∧ Calls Tryz.prog f (a t) w (MkR W t (some ts) s' O n o.er o.cs o.l w)) : PP f a R d o.d (Po3 57 o) := fun h => h.prog fun s O fs ix es => by
 obtain ⟨s', n, e1, h1, h2⟩ := hc fs ix es
 refine h2.mono ?_
 rintro e w' ⟨P1, n1, c1, c, hn, rfl, hg, hl⟩
 exact ⟨⟨P1, n1, c1, hn, by rw [← e1, hr], hl.out⟩, s' c, hg.out, h1 c⟩
theorem DD.mk {f : Nat} {a : Nat → Array Value} {o : MO} (hr : o.r = 0) (hc : ∀ {W w : World} {m mo : Nat} {s : St} {O : Nat → Prop}, RC W m mo s O w → IX R s → eS s = d → ∃ (s' : Nat → St) (n : Nat), (n : Int) = o.v ∧ (∀ c, IX R (s' c) ∧ eS (s' c) = o.d) ∧ Calls Tryz.prog f (a m) w (RMk W m mo s' O n o.er o.cs o.l w)) : DD f a R d o.d (Po3 160 o) := fun h => h.doc fun s O fs ix es => by
 obtain ⟨s', n, e1, h1, h2⟩ := hc fs ix es
 refine h2.mono ?_
 rintro e w' ⟨P1, n1, c1, c, hn, rfl, hg, hl⟩
 exact ⟨⟨P1, n1, c1, hn, by rw [← e1, hr], hl.out⟩, s' c, hg.out, h1 c⟩
theorem ref3 {fP fD : Nat} {aP aD : Nat → Array Value} (r : Int) (hP : ∀ {W w : World} {t ts : Nat} {s : St} {O : Nat → Prop}, FS W t (some ts) s O w → eS s = d → Calls Tryz.prog fP (aP t) w fun e w' => e = .returned (mk3 r) ∧ Below w.heap.size w w') (hD : ∀ {W w : World} {m mo : Nat} {s : St} {O : Nat → Prop}, RC W m mo s O w → eS s = d → Calls Tryz.prog fD (aD m) w fun e w' => e = .returned (mk3 r) ∧ Below w.heap.size w w') :
  ∃ o : MO, Sm o.l [] ∧ PP fP aP R d o.d (Po3 57 o) ∧ DD fD aD R d o.d (Po3 160 o) :=
 ⟨⟨0, 0, 0, [], r, d⟩, nil_sm [] (by simp), PP.no (d := d) (R := R) (f := fP) (a := aP) (v := mk3 r) (Q := Po3 57 ⟨0, 0, 0, [], r, d⟩) hP fun w w' => po3_no 57 r d w w', DD.no (d := d) (R := R) (f := fD) (a := aD) (v := mk3 r) (Q := Po3 160 ⟨0, 0, 0, [], r, d⟩) hD fun w w' => po3_no 160 r d w w'⟩
theorem ok3 {fP fD : Nat} {aP aD : Nat → Array Value} (o : MO) (hr : o.r = 0) (hs : Sm o.l []) (hP : ∀ {W w : World} {t ts : Nat} {s : St} {O : Nat → Prop}, FS W t (some ts) s O w → IX R s → eS s = d → ∃ (s' : Nat → St) (n : Nat), (n : Int) = o.v ∧ (∀ c, IX R (s' c) ∧ eS (s' c) = o.d) ∧ Calls Tryz.prog fP (aP t) w (MkR W t (some ts) s' O n o.er o.cs o.l w)) (hD : ∀ {W w : World} {m mo : Nat} {s : St} {O : Nat → Prop}, RC W m mo s O w → IX R s → eS s = d → ∃ (s' : Nat → St) (n : Nat), (n : Int) = o.v ∧ (∀ c, IX R (s' c) ∧ eS (s' c) = o.d) ∧ Calls Tryz.prog fD (aD m) w (RMk W m mo s' O n o.er o.cs o.l w)) :
  ∃ o : MO, Sm o.l [] ∧ PP fP aP R d o.d (Po3 57 o) ∧ DD fD aD R d o.d (Po3 160 o) := ⟨o, hs, PP.mk (o := o) (f := fP) (a := aP) hr hP, DD.mk (o := o) (f := fD) (a := aD) hr hD⟩
theorem pair_cancels (k : Int) (R : Nat) (d : St) : ∃ o : MO, Sm o.l [] ∧ PP 8 (fun t => #[pS t, .int .i64 k]) R d o.d (Po3 57 o) ∧ DD 21 (fun m => #[pM' m, .int .i64 k]) R d o.d (Po3 160 o) := by
 rcases rfs_cases d k with ⟨hr, hk⟩ | ⟨hr, i, rfl, hi, hC⟩ | ⟨hr, i, y, rfl, hy, hC⟩
 · refine ref3 4 (fun {W w t ts s O} fs es => ?_) (fun {W w m mo s O} rc es => ?_)
   · subst es
     exact (cancels_no fs ((eS_rfs _ _).symm.trans hr) (by decide)).mono fun e w' h => ⟨h.1, same_below h.2⟩
   · subst es
     rw [eS_len] at hk
     exact (rcancels_none rc hk).mono fun e w' h => ⟨h.1, same_below h.2⟩
 · refine ref3 3 (fun {W w t ts s O} fs es => ?_) (fun {W w m mo s O} rc es => ?_)
   · subst es
     exact (cancels_no fs ((eS_rfs _ _).symm.trans hr) (by decide)).mono fun e w' h => ⟨h.1, same_below h.2⟩
   · subst es
     rw [eS_len] at hi hC
     exact (rcancels_full rc hi hC).mono fun e w' h => ⟨h.1, same_below h.2⟩
 · refine ok3 ⟨d.C.length, y.er, y.cs, mkL d y, 0, mkC d (nx0 0 y.wh y.has false) y⟩ rfl (mkL_sm d y) (fun {W w t ts s O} fs ix es => ?_) (fun {W w m mo s O} rc ix es => ?_)
   · subst es
     obtain ⟨x, hx, rfl⟩ := eS_sub hy
     rw [eS_len] at hC
     have hl := ix.iw.v.cl
     have := cancels_ok fs ix.iw.v hx (by omega)
     refine ⟨_, _, by rw [eS_len], fun c => ⟨ix.mkn hx (by omega) c x.wh x.has false, eS_mkC _ _ _⟩, ?_⟩
     show Calls _ _ _ _ (MkR W t (some ts) _ O _ x.er x.cs (mkL (eS s) (er0 x)) w)
     rw [eS_mkL]; exact this
   · subst es
     obtain ⟨x, hx, rfl⟩ := eS_sub hy
     rw [eS_len] at hC
     have hl := ix.iw.v.cl
     have := rcancels_ok rc ix.iw hx (by omega)
     refine ⟨_, _, by rw [eS_len], fun c => ⟨ix.mkn hx (by omega) c x.wh x.has false, eS_mkC _ _ _⟩, ?_⟩
     show Calls _ _ _ _ (RMk W m mo _ O _ x.er x.cs (mkL (eS s) (er0 x)) w)
     rw [eS_mkL]; exact this
end
end Go.Proofs.YtdpapnfjpefhkaaGreat
namespace Go.Proofs.YtdpapnfjpefhkaaGreat
open Go.RowKit Tr
set_option linter.unusedVariables false
set_option maxRecDepth 100000
section
variable {W w w' w'' w1 : World} {t ts m mo b i j R R1 R2 c : Nat} {s s2 s' : St} {d d1 d2 d' : St} {now k r z er cs : Int} {x y : Cx}
theorem IX.addS (h : IX R s) (hy : s.C[i]? = some y) (hC : s.C.length < 64) (c : Nat) (wh : Int) (a b : Bool) : IX R (addS s (nx0 c wh a b) (y.nd : Int) true) :=
 ⟨h.iw.add hy hC true ⟨rfl, rfl, rfl⟩ fun e => ⟨c, rfl⟩, h.ft, fun j x hx ho => by
  rcases app_at (l := s.C) hx with h1 | ⟨rfl, rfl⟩
  · exact h.ow j x h1 ho
  · exact ⟨c, rfl⟩⟩
theorem IX.addD (h : IX R s) (hy : s.C[i]? = some y) (hC : s.C.length < 64) (c : Nat) (wh : Int) (a b : Bool) (he : er ≠ 0) : IX R (addD s (nx0 c wh a b) (y.nd : Int) er cs) := by
 have h1 := (h.addS hy hC c wh a b).cn (er := er) (cs := cs) (addS_new (s := s) (x := nx0 c wh a b)) ⟨c, rfl⟩ he
 unfold cnS at h1
 rw [if_neg (show ¬ (nw (nx0 c wh a b) s.T.length).er ≠ 0 from fun h => h rfl), fold_new h.iw.v (nx0 c wh a b) (y.nd : Int) ⟨rfl, rfl⟩] at h1
 exact h1
theorem pair_deadline (k wh now : Int) (R : Nat) (d : St) : ∃ o : MO, Sm o.l [] ∧ PP 9 (fun t => #[pS t, .int .i64 k, .int .i64 wh, .int .i64 now]) R d o.d (Po3 57 o) ∧ DD 23 (fun m => #[pM' m, .int .i64 k, .int .i64 wh, .int .i64 now]) R d o.d (Po3 160 o) := by
 rcases rfs_cases d k with ⟨hr, hk⟩ | ⟨hr, i, rfl, hi, hC⟩ | ⟨hr, i, y, rfl, hy, hC⟩
 · refine ref3 4 (fun {W w t ts s O} fs es => ?_) (fun {W w m mo s O} rc es => ?_)
   · subst es
     exact (deadline_no wh now fs ((eS_rfs _ _).symm.trans hr) (by decide)).mono fun e w' h => ⟨h.1, same_below h.2⟩
   · subst es
     rw [eS_len] at hk
     exact (rdeadline_none wh now rc hk).mono fun e w' h => ⟨h.1, same_below h.2⟩
 · refine ref3 3 (fun {W w t ts s O} fs es => ?_) (fun {W w m mo s O} rc es => ?_)
   · subst es
     exact (deadline_no wh now fs ((eS_rfs _ _).symm.trans hr) (by decide)).mono fun e w' h => ⟨h.1, same_below h.2⟩
   · subst es
     rw [eS_len] at hi hC
     exact (rdeadline_full wh now rc (List.getElem?_eq_getElem hi) hC).mono fun e w' h => ⟨h.1, h.2.out⟩
 · by_cases has : y.has = true ∧ y.wh ≤ hz wh
   · refine ok3 ⟨d.C.length, y.er, y.cs, mkL d y, 0, mkC d (nx0 0 y.wh y.has false) y⟩ rfl (mkL_sm d y) (fun {W w t ts s O} fs ix es => ?_) (fun {W w m mo s O} rc ix es => ?_)
     · subst es
       obtain ⟨x, hx, rfl⟩ := eS_sub hy
       rw [eS_len] at hC
       have hl := ix.iw.v.cl
       have := deadline_as wh now fs ix.iw.v hx (by omega) has.1 has.2
       refine ⟨_, _, by rw [eS_len], fun c => ⟨ix.mkn hx (by omega) c x.wh x.has false, eS_mkC _ _ _⟩, ?_⟩
       show Calls _ _ _ _ (MkR W t (some ts) _ O _ x.er x.cs (mkL (eS s) (er0 x)) w)
       rw [eS_mkL]; exact this
     · subst es
       obtain ⟨x, hx, rfl⟩ := eS_sub hy
       rw [eS_len] at hC
       have hl := ix.iw.v.cl
       have := rdeadline_as wh now rc ix.iw hx (by omega) has.1 has.2
       refine ⟨_, _, by rw [eS_len], fun c => ⟨ix.mkn hx (by omega) c x.wh x.has false, eS_mkC _ _ _⟩, ?_⟩
       show Calls _ _ _ _ (RMk W m mo _ O _ x.er x.cs (mkL (eS s) (er0 x)) w)
       rw [eS_mkL]; exact this
   · by_cases he : y.er = 0
     · by_cases hn : hz wh ≤ now
       · refine ok3 ⟨d.C.length, 2, 2, [(d.C.length, [])], 0, addD d (nx0 0 (hz wh) true true) (y.nd : Int) 2 2⟩ rfl ⟨by simp, by simp, fun y hy => by simp at hy; subst hy; simp⟩ (fun {W w t ts s O} fs ix es => ?_) (fun {W w m mo s O} rc ix es => ?_)
         · subst es
           obtain ⟨x, hx, rfl⟩ := eS_sub hy
           rw [eS_len] at hC
           have hl := ix.iw.v.cl
           have := deadline_now wh now fs ix.iw.v hx (by omega) has he hn
           refine ⟨_, _, by rw [eS_len], fun c => ⟨ix.addD hx (by omega) c (hz wh) true true (by decide), eS_addD _ _ _ _ _⟩, ?_⟩
           show Calls _ _ _ _ (MkR W t (some ts) _ O _ 2 2 [((eS s).C.length, [])] w)
           rw [eS_len]; exact this
         · subst es
           obtain ⟨x, hx, rfl⟩ := eS_sub hy
           rw [eS_len] at hC
           have hl := ix.iw.v.cl
           have := rdeadline_now wh now rc ix.iw hx (by omega) has he hn
           refine ⟨_, _, by rw [eS_len], fun c => ⟨ix.addD hx (by omega) c (hz wh) true true (by decide), eS_addD _ _ _ _ _⟩, ?_⟩
           show Calls _ _ _ _ (RMk W m mo _ O _ 2 2 [((eS s).C.length, [])] w)
           rw [eS_len]; exact this
       · refine ok3 ⟨d.C.length, y.er, y.cs, mkL d y, 0, dlS (some 0) d (nx0 0 (hz wh) true true) (y.nd : Int) (hz wh)⟩ rfl (mkL_sm d y) (fun {W w t ts s O} fs ix es => ?_) (fun {W w m mo s O} rc ix es => ?_)
         · subst es
           obtain ⟨x, hx, rfl⟩ := eS_sub hy
           rw [eS_len] at hC
           have hl := ix.iw.v.cl
           have := deadline_set wh now fs ix.iw.v hx (by omega) has he hn
           refine ⟨_, _, by rw [eS_len], fun c => ⟨ix.dl hx (by omega) c ts (hz_fit wh), eS_dlS _ _ _ _ _⟩, ?_⟩
           show Calls _ _ _ _ (MkR W t (some ts) _ O _ x.er x.cs (mkL (eS s) (er0 x)) w)
           rw [eS_mkL]; exact this
         · subst es
           obtain ⟨x, hx, rfl⟩ := eS_sub hy
           rw [eS_len] at hC
           have hl := ix.iw.v.cl
           have := rdeadline_set wh now rc ix.iw hx (by omega) has he hn
           refine ⟨_, _, by rw [eS_len], fun c => ⟨ix.dl hx (by omega) c 0 (hz_fit wh), eS_dlS _ _ _ _ _⟩, ?_⟩
           show Calls _ _ _ _ (RMk W m mo _ O _ x.er x.cs (mkL (eS s) (er0 x)) w)
           rw [eS_mkL]; exact this
     · refine ok3 ⟨d.C.length, y.er, y.cs, mkL d y, 0, mkC d (nx0 0 (hz wh) true true) y⟩ rfl (mkL_sm d y) (fun {W w t ts s O} fs ix es => ?_) (fun {W w m mo s O} rc ix es => ?_)
       · subst es
         obtain ⟨x, hx, rfl⟩ := eS_sub hy
         rw [eS_len] at hC
         have hl := ix.iw.v.cl
         have := deadline_over wh now fs ix.iw.v hx (by omega) has he
         refine ⟨_, _, by rw [eS_len], fun c => ⟨ix.mkn hx (by omega) c (hz wh) true true, eS_mkC _ _ _⟩, ?_⟩
         show Calls _ _ _ _ (MkR W t (some ts) _ O _ x.er x.cs (mkL (eS s) (er0 x)) w)
         rw [eS_mkL]; exact this
       · subst es
         obtain ⟨x, hx, rfl⟩ := eS_sub hy
         rw [eS_len] at hC
         have hl := ix.iw.v.cl
         have := rdeadline_over wh now rc ix.iw hx (by omega) has he
         refine ⟨_, _, by rw [eS_len], fun c => ⟨ix.mkn hx (by omega) c (hz wh) true true, eS_mkC _ _ _⟩, ?_⟩
         show Calls _ _ _ _ (RMk W m mo _ O _ x.er x.cs (mkL (eS s) (er0 x)) w)
         rw [eS_mkL]; exact this
def Pov (v : Value) (_ : World) (e : Ending) (_ : World) : Prop := e = .returned v
theorem refv {fP fD : Nat} {aP aD : Nat → Array Value} (v : Value) (hP : ∀ {W w : World} {t ts : Nat} {s : St} {O : Nat → Prop}, FS W t (some ts) s O w → eS s = d → Calls Tryz.prog fP (aP t) w fun e w' => e = .returned v ∧ Below w.heap.size w w') (hD : ∀ {W w : World} {m mo : Nat} {s : St} {O : Nat → Prop}, RC W m mo s O w → eS s = d → Calls Tryz.prog fD (aD m) w fun e w' => e = .returned v ∧ Below w.heap.size w w') :
  PP fP aP R d d (Pov v) ∧ DD fD aD R d d (Pov v) :=
 ⟨PP.no (d := d) (R := R) (f := fP) (a := aP) (v := v) (Q := Pov v) hP fun w w' => rfl, DD.no (d := d) (R := R) (f := fD) (a := aD) (v := v) (Q := Pov v) hD fun w w' => rfl⟩
theorem okv {fP fD : Nat} {aP aD : Nat → Array Value} (v : Value) (hP : ∀ {W w : World} {t ts : Nat} {s : St} {O : Nat → Prop}, FS W t (some ts) s O w → IX R s → eS s = d → ∃ s', IX R s' ∧ eS s' = d' ∧ Calls Tryz.prog fP (aP t) w fun e w' => e = .returned v ∧ Hid (GS W t (some ts) s' O w w')) (hD : ∀ {W w : World} {m mo : Nat} {s : St} {O : Nat → Prop}, RC W m mo s O w → IX R s → eS s = d → ∃ s', IX R s' ∧ eS s' = d' ∧ Calls Tryz.prog fD (aD m) w fun e w' => e = .returned v ∧ Hid (RG W m mo s' O w w')) :
  PP fP aP R d d' (Pov v) ∧ DD fD aD R d d' (Pov v) := by
 refine ⟨fun h => h.prog fun s O fs ix es => ?_, fun h => h.doc fun s O rc ix es => ?_⟩
 · obtain ⟨s', h1, h2, h3⟩ := hP fs ix es
   exact h3.mono fun e w' h => ⟨h.1, s', h.2.out, h1, h2⟩
 · obtain ⟨s', h1, h2, h3⟩ := hD rc ix es
   exact h3.mono fun e w' h => ⟨h.1, s', h.2.out, h1, h2⟩
theorem pair_without (k : Int) (R : Nat) (d : St) : ∃ (v r : Int) (d' : St), PP 10 (fun t => #[pS t, .int .i64 k]) R d d' (Pov (.tuple #[.int .i64 v, .int .i64 r])) ∧ DD 24 (fun m => #[pM' m, .int .i64 k]) R d d' (Pov (.tuple #[.int .i64 v, .int .i64 r])) := by
 rcases rfs_cases d k with ⟨hr, hk⟩ | ⟨hr, i, rfl, hi, hC⟩ | ⟨hr, i, y, rfl, hy, hC⟩
 · refine ⟨0, 4, d, refv _ (fun {W w t ts s O} fs es => ?_) (fun {W w m mo s O} rc es => ?_)⟩
   · subst es
     exact (without_no fs ((eS_rfs _ _).symm.trans hr) (by decide)).mono fun e w' h => ⟨h.1, same_below h.2⟩
   · subst es
     rw [eS_len] at hk
     exact (rwithout_none rc hk).mono fun e w' h => ⟨h.1, same_below h.2⟩
 · refine ⟨0, 3, d, refv _ (fun {W w t ts s O} fs es => ?_) (fun {W w m mo s O} rc es => ?_)⟩
   · subst es
     exact (without_no fs ((eS_rfs _ _).symm.trans hr) (by decide)).mono fun e w' h => ⟨h.1, same_below h.2⟩
   · subst es
     rw [eS_len] at hi hC
     exact (rwithout_full rc hi hC).mono fun e w' h => ⟨h.1, same_below h.2⟩
 · refine ⟨d.C.length, 0, addS d nxW (y.nd : Int) false, okv _ (fun {W w t ts s O} fs ix es => ?_) (fun {W w m mo s O} rc ix es => ?_)⟩
   · subst es
     obtain ⟨x, hx, rfl⟩ := eS_sub hy
     rw [eS_len] at hC ⊢
     have hl := ix.iw.v.cl
     exact ⟨_, ix.wo hx (by omega), eS_addS _ _ _ _, without_ok fs ix.iw.v hx (by omega)⟩
   · subst es
     obtain ⟨x, hx, rfl⟩ := eS_sub hy
     rw [eS_len] at hC ⊢
     have hl := ix.iw.v.cl
     exact ⟨_, ix.wo hx (by omega), eS_addS _ _ _ _, rwithout_ok rc ix.iw hx (by omega)⟩
theorem pair_unafter (k : Int) (R : Nat) (d : St) : ∃ (v : Bool) (r : Int) (d' : St), PP 16 (fun t => #[pS t, .int .i64 k]) R d d' (Pov (un2 v r)) ∧ DD 28 (fun m => #[pM' m, .int .i64 k]) R d d' (Pov (un2 v r)) := by
 by_cases hk : k < 0 ∨ (d.A.length : Int) ≤ k
 · refine ⟨false, 4, d, refv _ (fun {W w t ts s O} fs es => ?_) (fun {W w m mo s O} rc es => ?_)⟩
   · subst es
     exact (unafter_none fs hk).mono fun e w' h => ⟨h.1, same_below h.2⟩
   · subst es
     exact (runafter_none rc hk).mono fun e w' h => ⟨h.1, same_below h.2⟩
 · obtain ⟨i, rfl⟩ := Int.eq_ofNat_of_zero_le (show 0 ≤ k by omega)
   obtain ⟨a, ha⟩ : ∃ a, d.A[i]? = some a := ⟨_, List.getElem?_eq_getElem (by omega)⟩
   refine ⟨lkd d a.nd, 0, { d with T := Tr.cut d.T a.nd }, okv _ (fun {W w t ts s O} fs ix es => ?_) (fun {W w m mo s O} rc ix es => ?_)⟩
   · subst es
     exact ⟨_, ix.un a.nd, rfl, unafter_ok fs ix.iw.v ha⟩
   · subst es
     exact ⟨_, ix.un a.nd, rfl, runafter_ok rc ix.iw ha⟩
theorem refC {fP fD : Nat} {aP aD : Nat → Array Value} (r : Int) (hP : ∀ {W w : World} {t ts : Nat} {s : St} {O : Nat → Prop}, FS W t (some ts) s O w → eS s = d → Calls Tryz.prog fP (aP t) w fun e w' => e = .returned (cn3 r) ∧ Below w.heap.size w w') (hD : ∀ {W w : World} {m mo : Nat} {s : St} {O : Nat → Prop}, RC W m mo s O w → eS s = d → Calls Tryz.prog fD (aD m) w fun e w' => e = .returned (cn3 r) ∧ Below w.heap.size w w') :
  ∃ o : CO, Sm o.l o.st ∧ PP fP aP R d o.d (PoC 57 59 o) ∧ DD fD aD R d o.d (PoC 160 164 o) :=
 ⟨⟨0, 0, [], [], r, d⟩, nil_sm [] (by simp), PP.no (d := d) (R := R) (f := fP) (a := aP) (v := cn3 r) (Q := PoC 57 59 ⟨0, 0, [], [], r, d⟩) hP fun w w' => poC_no 57 59 r d w w', DD.no (d := d) (R := R) (f := fD) (a := aD) (v := cn3 r) (Q := PoC 160 164 ⟨0, 0, [], [], r, d⟩) hD fun w w' => poC_no 160 164 r d w w'⟩
theorem okC {fP fD : Nat} {aP aD : Nat → Array Value} (o : CO) (hr : o.r = 0) (hs : Sm o.l o.st) (hP : ∀ {W w : World} {t ts : Nat} {s : St} {O : Nat → Prop}, FS W t (some ts) s O w → IX R s → eS s = d → ∃ s', IX R s' ∧ eS s' = o.d ∧ Calls Tryz.prog fP (aP t) w (CnR W t (some ts) s' O o.er o.cs o.l o.st w)) (hD : ∀ {W w : World} {m mo : Nat} {s : St} {O : Nat → Prop}, RC W m mo s O w → IX R s → eS s = d → ∃ s', IX R s' ∧ eS s' = o.d ∧ Calls Tryz.prog fD (aD m) w (RCn W m mo s' O o.er o.cs o.l o.st w)) :
  ∃ o : CO, Sm o.l o.st ∧ PP fP aP R d o.d (PoC 57 59 o) ∧ DD fD aD R d o.d (PoC 160 164 o) := by
 refine ⟨o, hs, fun h => h.prog fun s O fs ix es => ?_, fun h => h.doc fun s O rc ix es => ?_⟩
 · obtain ⟨s', h1, h2, h3⟩ := hP fs ix es
   refine h3.mono ?_
   rintro e w' ⟨P1, n1, c1, P2, n2, c2, hn, hn2, rfl, hg, hl, hm⟩
   exact ⟨⟨P1, n1, c1, P2, n2, c2, ⟨hn.out, hn2.out⟩, by rw [hr], hl.out, hm.out⟩, s', hg.out, h1, h2⟩
 · obtain ⟨s', h1, h2, h3⟩ := hD rc ix es
   refine h3.mono ?_
   rintro e w' ⟨P1, n1, c1, P2, n2, c2, hn, rfl, hg, hl, hm⟩
   exact ⟨⟨P1, n1, c1, P2, n2, c2, hn, by rw [hr], hl.out, hm.out⟩, s', hg.out, h1, h2⟩
theorem shp_len : ∀ (l : List Ch.Wt) (acc : List Ch.Wk) (b : Bool), (Ch.shp acc l b).length ≤ acc.length + l.length
 | [], acc, b => Nat.le_refl _
 | x :: r, acc, b => by
  have h := shp_len r (Ch.one acc x b) b
  have h1 : (Ch.one acc x b).length ≤ acc.length + 1 := by unfold Ch.one; split <;> simp
  show (Ch.shp (Ch.one acc x b) r b).length ≤ _
  rw [List.length_cons]; omega
theorem wks_len (x : Cx) : (wks x).length ≤ x.rs.length := by
 have h := shp_len x.rs [] false
 show (Ch.shp (Ch.shp [] x.rs false) [] true).length ≤ _
 have h2 := shp_len [] (Ch.shp [] x.rs false) true
 simp at h h2; omega
theorem fold_wk (er cs : Int) : ∀ (ws : List Nat) (s : St), (∀ (i : Nat) (x : Cx), s.C[i]? = some x → x.rs.length ≤ R) → ∀ y ∈ (cfold er cs ws s).2.1, y.2.length ≤ R
 | [], s, h, y, hy => by cases hy
 | k :: r, s, h, y, hy => by
  rcases List.mem_append.1 (show y ∈ clp s k ++ (cfold er cs r (cst er cs s k)).2.1 from hy) with h1 | h1
  · unfold clp at h1
    split at h1
    · split at h1
      · rename_i j _ x hx
        simp at h1; subst h1
        exact Nat.le_trans (wks_len x) (h _ x hx)
      · cases h1
    · cases h1
  · refine fold_wk er cs r (cst er cs s k) (fun i x hx => ?_) y h1
    unfold cst at hx
    split at hx
    · split at hx
      · rename_i j _ z hz
        rcases set_at hx with ⟨_, rfl⟩ | ⟨_, h2⟩
        · exact Nat.zero_le _
        · exact h i x h2
      · exact h i x hx
    · exact h i x hx
theorem IX.sm (ix : IX R s) (hx : s.C[i]? = some x) (er cs : Int) : Sm (cnS s x er cs).2.1 (cnS s x er cs).2.2 := by
 unfold cnS
 split
 · exact nil_sm [] (by simp)
 · have hn := ix.iw.v.ndlt hx
   have h1 := walk_len ix.iw.v.wf hn
   have h2 := cfold_tells er cs (Tr.walk s.T x.nd) s
   have h3 := ix.iw.r.tl
   exact ⟨by omega, by omega, fun y hy => by
    have := fold_wk er cs (Tr.walk s.T x.nd) s ix.iw.rs y hy
    have := ix.iw.hR
    omega⟩
theorem cn_ok {fP fD : Nat} {aP aD : Nat → Array Value} (hd : ∃ s, IX R s ∧ eS s = d) (hy : d.C[i]? = some y) (hc : ∃ c, y.ch = some c) (er cs : Int) (he : er ≠ 0)
  (hP : ∀ {W w : World} {t ts : Nat} {s : St} {O : Nat → Prop} {x : Cx}, FS W t (some ts) s O w → IX R s → eS s = d → s.C[i]? = some x → er0 x = y → Calls Tryz.prog fP (aP t) w (CnR W t (some ts) (cnS s x er cs).1 O er cs (cnS s x er cs).2.1 (cnS s x er cs).2.2 w))
  (hD : ∀ {W w : World} {m mo : Nat} {s : St} {O : Nat → Prop} {x : Cx}, RC W m mo s O w → IX R s → eS s = d → s.C[i]? = some x → er0 x = y → Calls Tryz.prog fD (aD m) w (RCn W m mo (cnS s x er cs).1 O er cs (cnS s x er cs).2.1 (cnS s x er cs).2.2 w)) :
  ∃ o : CO, Sm o.l o.st ∧ PP fP aP R d o.d (PoC 57 59 o) ∧ DD fD aD R d o.d (PoC 160 164 o) := by
 refine okC ⟨er, cs, (cnS d y er cs).2.1, (cnS d y er cs).2.2, 0, (cnS d y er cs).1⟩ rfl ?_ (fun {W w t ts s O} fs ix es => ?_) (fun {W w m mo s O} rc ix es => ?_)
 · obtain ⟨s, ix, rfl⟩ := hd
   obtain ⟨x, hx, rfl⟩ := eS_sub hy
   have := ix.sm hx er cs
   rw [← (eS_cn s x er cs).2] at this
   exact this
 · subst es
   obtain ⟨x, hx, rfl⟩ := eS_sub hy
   have h1 := hP fs ix rfl hx rfl
   obtain ⟨e1, e2⟩ := eS_cn s x er cs
   refine ⟨_, ix.cn (er := er) (cs := cs) hx ((er0_live x).1 hc) he, e1, ?_⟩
   show Calls _ _ _ _ (CnR W t (some ts) _ O er cs (cnS (eS s) (er0 x) er cs).2.1 (cnS (eS s) (er0 x) er cs).2.2 w)
   rw [e2]; exact h1
 · subst es
   obtain ⟨x, hx, rfl⟩ := eS_sub hy
   have h1 := hD rc ix rfl hx rfl
   obtain ⟨e1, e2⟩ := eS_cn s x er cs
   refine ⟨_, ix.cn (er := er) (cs := cs) hx ((er0_live x).1 hc) he, e1, ?_⟩
   show Calls _ _ _ _ (RCn W m mo _ O er cs (cnS (eS s) (er0 x) er cs).2.1 (cnS (eS s) (er0 x) er cs).2.2 w)
   rw [e2]; exact h1
theorem cA_out (d : St) (k : Int) : (k < 0 ∨ (d.C.length : Int) ≤ k) ∨ ∃ (i : Nat) (y : Cx), k = (i : Int) ∧ d.C[i]? = some y := by
 by_cases h : k < 0 ∨ (d.C.length : Int) ≤ k
 · exact .inl h
 · obtain ⟨i, rfl⟩ := Int.eq_ofNat_of_zero_le (show 0 ≤ k by omega)
   exact .inr ⟨i, _, rfl, List.getElem?_eq_getElem (by omega)⟩
theorem er0_none {x : Cx} (h : (er0 x).ch = none) : x.ch = none := by
 unfold er0 at h
 cases hx : x.ch with
 | none => rfl
 | some c => rw [hx] at h; cases h
theorem pair_cancel (k c : Int) (R : Nat) (d : St) (hd : ∃ s, IX R s ∧ eS s = d) : ∃ o : CO, Sm o.l o.st ∧ PP 13 (fun t => #[pS t, .int .i64 k, .int .i64 c]) R d o.d (PoC 57 59 o) ∧ DD 25 (fun m => #[pM' m, .int .i64 k, .int .i64 c]) R d o.d (PoC 160 164 o) := by
 rcases cA_out d k with hk | ⟨i, y, rfl, hy⟩
 · refine refC 4 (fun {W w t ts s O} fs es => ?_) (fun {W w m mo s O} rc es => ?_)
   · subst es
     rw [eS_len] at hk
     exact (cancel_none fs hk).mono fun e w' h => ⟨h.1, same_below h.2⟩
   · subst es
     rw [eS_len] at hk
     exact (rcancel_none rc hk).mono fun e w' h => ⟨h.1, same_below h.2⟩
 · cases hch : y.ch with
   | none =>
    refine refC 1 (fun {W w t ts s O} fs es => ?_) (fun {W w m mo s O} rc es => ?_)
    · subst es
      obtain ⟨x, hx, rfl⟩ := eS_sub hy
      exact (cancel_plain fs hx (er0_none hch)).mono fun e w' h => ⟨h.1, same_below h.2⟩
    · subst es
      obtain ⟨x, hx, rfl⟩ := eS_sub hy
      refine (rcancel_plain rc hx (er0_none hch)).mono ?_
      rintro e w' ⟨rfl, nq, rfl⟩
      exact ⟨rfl, below_drewN _ _⟩
   | some cc =>
    refine cn_ok hd hy ⟨cc, hch⟩ 1 (if c < 1 then 1 else c) (by decide) (fun {W w t ts s O x} fs ix es hx hxy => ?_) (fun {W w m mo s O x} rc ix es hx hxy => ?_)
    · subst hxy
      exact cancel_call fs ix.iw.v hx ((er0_live x).1 ⟨cc, hch⟩) c _ rfl
    · subst hxy
      exact rcancel_call rc ix.iw hx ((er0_live x).1 ⟨cc, hch⟩) c _ rfl
theorem pair_lapse (k : Int) (R : Nat) (d : St) (hd : ∃ s, IX R s ∧ eS s = d) : ∃ o : CO, Sm o.l o.st ∧ PP 32 (fun t => #[pS t, .int .i64 k]) R d o.d (PoC 57 59 o) ∧ DD 33 (fun m => #[pM' m, .int .i64 k]) R d o.d (PoC 160 164 o) := by
 rcases cA_out d k with hk | ⟨i, y, rfl, hy⟩
 · refine refC 4 (fun {W w t ts s O} fs es => ?_) (fun {W w m mo s O} rc es => ?_)
   · subst es
     rw [eS_len] at hk
     exact (lapse_none fs hk).mono fun e w' h => ⟨h.1, same_below h.2⟩
   · subst es
     rw [eS_len] at hk
     exact (rlapse_none rc hk).mono fun e w' h => ⟨h.1, same_below h.2⟩
 · cases how : y.own with
   | false =>
    refine refC 1 (fun {W w t ts s O} fs es => ?_) (fun {W w m mo s O} rc es => ?_)
    · subst es
      obtain ⟨x, hx, rfl⟩ := eS_sub hy
      exact (lapse_plain fs hx how).mono fun e w' h => ⟨h.1, same_below h.2⟩
    · subst es
      obtain ⟨x, hx, rfl⟩ := eS_sub hy
      refine (rlapse_plain rc hx how).mono ?_
      rintro e w' ⟨rfl, nq, rfl⟩
      exact ⟨rfl, below_drewN _ _⟩
   | true =>
    have hc : ∃ c, y.ch = some c := by
     obtain ⟨s, ix, rfl⟩ := hd
     obtain ⟨x, hx, rfl⟩ := eS_sub hy
     exact (er0_live x).2 (ix.ow _ x hx how)
    refine cn_ok hd hy hc 2 2 (by decide) (fun {W w t ts s O x} fs ix es hx hxy => ?_) (fun {W w m mo s O x} rc ix es hx hxy => ?_)
    · subst hxy
      exact lapse_call fs ix.iw.v hx ((er0_live x).1 hc) how
    · subst hxy
      exact rlapse_call rc ix.iw hx ((er0_live x).1 hc) how
theorem refA {fP fD : Nat} {aP aD : Nat → Array Value} (r : Int) (hP : ∀ {W w : World} {t ts : Nat} {s : St} {O : Nat → Prop}, FS W t (some ts) s O w → eS s = d → Calls Tryz.prog fP (aP t) w fun e w' => e = .returned (af3 r) ∧ Below w.heap.size w w') (hD : ∀ {W w : World} {m mo : Nat} {s : St} {O : Nat → Prop}, RC W m mo s O w → eS s = d → Calls Tryz.prog fD (aD m) w fun e w' => e = .returned (af3 r) ∧ Below w.heap.size w w') :
  ∃ o : AO, Sm [] o.st ∧ PP fP aP R d o.d (PoA 59 o) ∧ DD fD aD R d o.d (PoA 164 o) :=
 ⟨⟨0, [], r, d⟩, nil_sm [] (by simp), PP.no (d := d) (R := R) (f := fP) (a := aP) (v := af3 r) (Q := PoA 59 ⟨0, [], r, d⟩) hP fun w w' => poA_no 59 r d w w', DD.no (d := d) (R := R) (f := fD) (a := aD) (v := af3 r) (Q := PoA 164 ⟨0, [], r, d⟩) hD fun w w' => poA_no 164 r d w w'⟩
theorem okA {fP fD : Nat} {aP aD : Nat → Array Value} (o : AO) (hr : o.r = 0) (hs : Sm [] o.st) (hP : ∀ {W w : World} {t ts : Nat} {s : St} {O : Nat → Prop}, FS W t (some ts) s O w → IX R s → eS s = d → ∃ (s' : St) (n : Nat), (n : Int) = o.v ∧ IX R s' ∧ eS s' = o.d ∧ Calls Tryz.prog fP (aP t) w (AfR W t (some ts) s' O n o.st w)) (hD : ∀ {W w : World} {m mo : Nat} {s : St} {O : Nat → Prop}, RC W m mo s O w → IX R s → eS s = d → ∃ (s' : St) (n : Nat), (n : Int) = o.v ∧ IX R s' ∧ eS s' = o.d ∧ Calls Tryz.prog fD (aD m) w (RAf W m mo s' O n o.st w)) :
  ∃ o : AO, Sm [] o.st ∧ PP fP aP R d o.d (PoA 59 o) ∧ DD fD aD R d o.d (PoA 164 o) := by
 refine ⟨o, hs, fun h => h.prog fun s O fs ix es => ?_, fun h => h.doc fun s O rc ix es => ?_⟩
 · obtain ⟨s', n, e0, h1, h2, h3⟩ := hP fs ix es
   refine h3.mono ?_
   rintro e w' ⟨P2, n2, c2, hn2, rfl, hg, hm⟩
   exact ⟨⟨P2, n2, c2, hn2, by rw [hr, e0], hm.out⟩, s', hg.out, h1, h2⟩
 · obtain ⟨s', n, e0, h1, h2, h3⟩ := hD rc ix es
   refine h3.mono ?_
   rintro e w' ⟨P2, n2, c2, hn2, rfl, hg, hm⟩
   exact ⟨⟨P2, n2, c2, hn2, by rw [hr, e0], hm.out⟩, s', hg.out, h1, h2⟩
theorem afM_sm (s : St) (y : Cx) (pg : Int) : Sm [] (afM s y pg) := nil_sm _ (by unfold afM; split <;> simp)
theorem pair_after (k pg : Int) (R : Nat) (d : St) (hd : ∃ s, IX R s ∧ eS s = d) : ∃ o : AO, Sm [] o.st ∧ PP 11 (fun t => #[pS t, .int .i64 k, .int .i64 pg]) R d o.d (PoA 59 o) ∧ DD 27 (fun m => #[pM' m, .int .i64 k, .int .i64 pg]) R d o.d (PoA 164 o) := by
 rcases cA_out d k with hk | ⟨i, y, rfl, hy⟩
 · refine refA 4 (fun {W w t ts s O} fs es => ?_) (fun {W w m mo s O} rc es => ?_)
   · subst es
     rw [eS_len] at hk
     exact (after_none fs hk).mono fun e w' h => ⟨h.1, same_below h.2⟩
   · subst es
     rw [eS_len] at hk
     exact (rafter_none rc hk).mono fun e w' h => ⟨h.1, same_below h.2⟩
 · have hi := (List.getElem?_eq_some_iff.1 hy).1
   by_cases hp : pg < 0
   · refine refA 1 (fun {W w t ts s O} fs es => ?_) (fun {W w m mo s O} rc es => ?_)
     · subst es
       rw [eS_len] at hi
       exact (after_arg fs hi hp).mono fun e w' h => ⟨h.1, same_below h.2⟩
     · subst es
       rw [eS_len] at hi
       exact (rafter_arg rc hi hp).mono fun e w' h => ⟨h.1, same_below h.2⟩
   · by_cases hA : d.A.length = 64
     · refine refA 3 (fun {W w t ts s O} fs es => ?_) (fun {W w m mo s O} rc es => ?_)
       · subst es
         rw [eS_len] at hi
         exact (after_full fs hi (by omega) hA).mono fun e w' h => ⟨h.1, same_below h.2⟩
       · subst es
         rw [eS_len] at hi
         exact (rafter_full rc hi (by omega) hA).mono fun e w' h => ⟨h.1, same_below h.2⟩
     · refine okA ⟨d.A.length, afM d y pg, 0, afS d y pg⟩ rfl (afM_sm d y pg) (fun {W w t ts s O} fs ix es => ?_) (fun {W w m mo s O} rc ix es => ?_)
       · subst es
         obtain ⟨x, hx, rfl⟩ := eS_sub hy
         have hl := ix.iw.v.al
         have hA : s.A.length ≠ 64 := hA
         have hp : 0 ≤ pg := by omega
         exact ⟨afS s x pg, s.A.length, rfl, ix.af hx (by omega) pg, eS_afS _ _ _, after_ok pg fs ix.iw.v hx hp (by omega)⟩
       · subst es
         obtain ⟨x, hx, rfl⟩ := eS_sub hy
         have hl := ix.iw.v.al
         have hA : s.A.length ≠ 64 := hA
         have hp : 0 ≤ pg := by omega
         exact ⟨afS s x pg, s.A.length, rfl, ix.af hx (by omega) pg, eS_afS _ _ _, rafter_ok rc ix.iw hx hp (by omega)⟩
end
end Go.Proofs.YtdpapnfjpefhkaaGreat
namespace Go.Proofs.YtdpapnfjpefhkaaGreat
open Go.RowKit Tr
set_option linter.unusedVariables false
set_option maxRecDepth 100000
def PoF (f0 f1 f2 f3 f4 : Int) (ok : Bool) (_ : World) (e : Ending) (_ : World) : Prop := ∃ A n k b, e = .returned (.tuple #[vF f0 f1 f2 f3 f4 A n k b, .bool ok])
section
variable {W w w' w'' w1 : World} {t ts m mo b i j R R1 R2 c : Nat} {s s2 s' : St} {d d1 d2 d' : St} {now k r z er cs : Int} {x y : Cx} {O : Nat → Prop} {q : It} {l : List It}
theorem gon_no' (x now : Int) : ¬ Gon x 0 now := by
 rintro ⟨h, _⟩
 have := nxB_all h
 omega
theorem tk_none (n : Nat) (S : List It) (now : Int) (h : ∀ x r, S = x :: r → now < x.w) : tk now n S z0 = (none, n, S, z0) := by
 unfold tk
 cases e : S with
 | nil => rfl
 | cons x r => simp only [if_pos (h x r e)]
theorem tk_due (n : Nat) (x : It) (r : List It) (now : Int) (h : x.w ≤ now) : tk now n (x :: r) z0 = (some x, n, r, z0) := by
 unfold tk
 have g1 : ¬ now < x.w := by omega
 have g2 : ¬ Gon x.w (z0 x.id) now := gon_no' x.w now
 simp only [if_neg g1, if_neg g2, fput_z0]
theorem z0_fit (ix : IX R s) : ∀ x ∈ s.S, Fit x.w ∧ Fit (z0 x.id) := fun x hx => ⟨ix.ft x hx, by unfold z0 Fit; omega⟩
theorem BM.fireN (h : BM W b ts t mo m now R1 R2 d1 d2 w) (hn : ∀ x r, d1.S = x :: r → z < x.w) : Calls Tryz.prog 30 #[pS ts, .int .i64 z] w fun e w' => PoF 0 0 0 0 0 false w e w' ∧ BM W b ts t mo m now R1 R2 d1 d2 w' ∧ KP w w' :=
 h.prog fun s O f ix es => by
  subst es
  have hle := ix.iw.v.el; have hls := ix.iw.v.sl; have hcl := ix.iw.v.cl; have hnl := ix.iw.v.nl
  obtain ⟨h1, h2, h3⟩ := f.2
  refine (fire_no h1 (tk_none s.n s.S z hn) (by omega) (by omega)).mono ?_
  rintro e w' ⟨rfl, h4, h5⟩
  exact ⟨⟨_, _, _, _, rfl⟩, s, f.tms ⟨h4, h2, h3⟩ h4.bel h5, ix, rfl⟩
theorem BM.rfireN (h : BM W b ts t mo m now R1 R2 d1 d2 w) (hn : ∀ x r, d2.S = x :: r → z < x.w) : Calls Tryz.prog 31 #[.pointer (some ⟨mo, 0, none⟩), .int .i64 z] w fun e w' => PoF 0 0 0 0 0 false w e w' ∧ BM W b ts t mo m now R1 R2 d1 d2 w' ∧ KD w w' :=
 h.doc fun s O f ix es => by
  subst es
  have hle := ix.iw.v.el; have hls := ix.iw.v.sl; have hcl := ix.iw.v.cl; have hnl := ix.iw.v.nl
  refine (rfire_no f.2 (tk_none s.n s.S z hn) ix.iw.r.ok (z0_fit ix) (by omega) (by omega)).mono ?_
  intro e w' hr
  obtain ⟨r1, r2⟩ := f.tmr hr
  exact ⟨⟨_, _, _, _, hr.1⟩, s, ⟨O, r1, fun k hk => .inl hk, r2⟩, ix, rfl⟩
theorem BM.fireD (h : BM W b ts t mo m now R1 R2 d1 d2 w) (e : d1.S = q :: l) (hq : q.w ≤ z) : ∃ n : Int, (∃ (i : Nat) (y : On), q.id = (i : Int) ∧ d1.E[i]? = some y ∧ n = y.dt) ∧ Calls Tryz.prog 30 #[pS ts, .int .i64 z] w fun e w' => PoF q.id 4 q.w z n true w e w' ∧ BM W b ts t mo m now R1 R2 { d1 with S := l } d2 w' ∧ KP w w' := by
 obtain ⟨s0, s2, O0, O2, fs, rc, e1, e2, i1, i2, dis⟩ := h.ex
 have hs := i1.iw.r.sp q (by subst e1; show q ∈ (eS s0).S; rw [e]; simp)
 obtain ⟨i, hxi⟩ := Int.eq_ofNat_of_zero_le hs.1
 obtain ⟨y, hy⟩ : ∃ y, s0.E[i]? = some y := ⟨_, List.getElem?_eq_getElem (by omega)⟩
 have hyd : d1.E[i]? = some y := by subst e1; exact hy
 refine ⟨y.dt, ⟨i, y, hxi, hyd, rfl⟩, h.prog fun s O f ix es => ?_⟩
 subst es
 have hle := ix.iw.v.el; have hls := ix.iw.v.sl; have hcl := ix.iw.v.cl; have hnl := ix.iw.v.nl
 have e : s.S = q :: l := e
 have hyd : s.E[i]? = some y := hyd
 obtain ⟨h1, h2, h3⟩ := f.2
 have hyE := h3 y (List.mem_of_getElem? hyd)
 have hT := tk_due s.n q l z hq
 rw [← e] at hT
 obtain ⟨qi, qw, qs⟩ := q
 have hxi : qi = (i : Int) := hxi
 subst hxi
 refine (fire_some h1 hT hyd (Pt.none hyE.1) (by omega) (by omega) (by omega)).mono ?_
 rintro e' w' ⟨A, k, rfl, _, h4, h5⟩
 exact ⟨⟨A, _, k, _, by rw [hyE.2]⟩, _, f.tms ⟨h4, fun z hz => h2 z (by rw [e]; exact List.mem_cons_of_mem _ hz), h3⟩ h4.bel h5, ix.fire e, rfl⟩
theorem BM.rfireD (h : BM W b ts t mo m now R1 R2 d1 d2 w) (e : d2.S = q :: l) (hq : q.w ≤ z) {y : On} (hi : q.id = (i : Int)) (hy : d2.E[i]? = some y) : Calls Tryz.prog 31 #[.pointer (some ⟨mo, 0, none⟩), .int .i64 z] w fun e w' => PoF q.id 4 q.w z y.dt true w e w' ∧ BM W b ts t mo m now R1 R2 d1 { d2 with S := l } w' ∧ KD w w' :=
 h.doc fun s O f ix es => by
  subst es
  have hle := ix.iw.v.el; have hls := ix.iw.v.sl; have hcl := ix.iw.v.cl; have hnl := ix.iw.v.nl
  have e : s.S = q :: l := e
  have hy : s.E[i]? = some y := hy
  have hyE := ix.iw.r.en y (List.mem_of_getElem? hy)
  have hT := tk_due s.n q l z hq
  rw [← e] at hT
  obtain ⟨qi, qw, qs⟩ := q
  have hi : qi = (i : Int) := hi
  subst hi
  refine (rfire_nil f.2 hT hy hyE.1 ix.iw.r.ok (z0_fit ix) (by omega) (by omega)).mono ?_
  intro e' w' hr
  have he := hr.1
  obtain ⟨r1, r2⟩ := f.tmr hr
  exact ⟨⟨_, _, _, _, by rw [he, hyE.2]⟩, _, ⟨O, r1, fun k hk => .inl hk, r2⟩, ix.fire e, rfl⟩
end
end Go.Proofs.YtdpapnfjpefhkaaGreat
namespace Go.Proofs.YtdpapnfjpefhkaaGreat
open Go.RowKit Tr
set_option linter.unusedVariables false
set_option maxRecDepth 100000
def wtx (x : Cx) (a : Ch.Wt) : Cx := { x with rs := (Ch.wt (chS x) a false).1.rs }
def wtr (x : Cx) (a : Ch.Wt) : Int := (Ch.wt (chS x) a false).2
section
variable {W w w' w'' w1 : World} {t ts m mo b i j R R1 R2 c : Nat} {p : Option Nat} {s s2 s' : St} {d d1 d2 d' : St} {now k : Int} {x y : Cx} {O : Nat → Prop} {a : Ch.Wt}
theorem wt_chS (x : Cx) (a : Ch.Wt) : (Ch.wt (chS x) a false).1 = chS (wtx x a) ∧ (wtx x a).rs.length ≤ x.rs.length + 1 := by
 unfold wtx
 have h : (Ch.wt (chS x) a false).1 = chS x ∨ (Ch.wt (chS x) a false).1 = { chS x with rs := x.rs ++ [a] } := by
  unfold Ch.wt
  split
  · exact .inl rfl
  · split
    · exact .inl rfl
    · split
      · exact .inl rfl
      · exact .inr rfl
 rcases h with h | h
 · rw [h]; exact ⟨rfl, Nat.le_succ _⟩
 · rw [h]; exact ⟨rfl, by simp⟩
theorem er0_wtr (x : Cx) (a : Ch.Wt) : wtr (er0 x) a = wtr x a := rfl
theorem FS.wait (h : FS W t p s O w) (hx : s.C[i]? = some x) (hc : x.ch = some c) (ha : Wf a.t) (hr : x.rs.length ≤ 1000000) : Calls Tryz.prog 36 #[.pointer (some ⟨c, 0, none⟩), Ch.wG a, .bool false] w fun e w' => e = .returned (.int .i64 (wtr x a)) ∧ GS W t p { s with C := s.C.set i (wtx x a) } O w w' := by
 obtain ⟨⟨F, G, o, y, e⟩, m⟩ := h
 refine (Ch.wait_any a false ha (y.ch i x c hx hc) fun b => by cases b <;> simp [chS, Ch.CS.q]; exact hr).mono ?_
 rintro e' w' ⟨rfl, g⟩
 refine ⟨rfl, ?_⟩
 rw [(wt_chS x a).1] at g
 obtain ⟨G', y', hs, tn⟩ := y.chan (y := wtx x a) hx hc rfl rfl g
 refine FS.ctx y e m y' (fun k hk => ?_) (tn.mono fun b hb => .inl ((e b).2 hb))
 rcases hk with hk | hk | hk | hk | ⟨j, hk⟩
 · exact .inl ((e k).2 (.f hk))
 · exact .inl ((e k).2 (.k hk))
 · exact .inl ((e k).2 (.c hk))
 · exact .inl ((e k).2 (.a hk))
 · rcases hs j k hk with h3 | h3
   · exact .inl ((e k).2 (.g h3))
   · exact .inr h3
theorem RC.wait (h : RC W m mo s O w) (v : IX R s) (hx : s.C[i]? = some x) (hc : x.ch = some c) (hr : x.rs.length ≤ 1000) : Calls Tryz.prog 37 #[.pointer (some ⟨c, 0, none⟩), Ch.wG a, .bool false] w fun e w' => e = .returned (.int .i64 (wtr x a)) ∧ RG W m mo { s with C := s.C.set i (wtx x a) } O w w' := by
 obtain ⟨⟨N, o, hm, r, e⟩, t⟩ := h
 have hch := (hm.ch i x c hx hc).2
 refine (Ch.mwait_any a false hch.2.2 (by show (2 : Nat) ≤ 2; omega) (by show (0 : Nat) ≤ 1000; omega) hr (by show (0 : Nat) ≤ 1000; omega)).mono ?_
 rintro e' w' ⟨rfl, hmo⟩
 rw [(wt_chS x a).1] at hmo
 have hRH : RH w' c (chS (wtx x a)) := RH.of_mo hmo rfl rfl
 obtain ⟨r1, r2, r3⟩ := hm.chan (y := wtx x a) hx hc ⟨rfl, rfl⟩ (tn_ch hmo.2) hRH
 have hN : N.set x.nd (ndC i (wtx x a)) = N := by
  have h1 := r.c i x hx
  apply List.ext_getElem?
  intro j
  rw [List.getElem?_set]
  by_cases e2 : x.nd = j
  · subst e2; rw [if_pos rfl, if_pos (List.getElem?_eq_some_iff.1 h1).1, h1]; rfl
  · rw [if_neg e2]
 have hNR := r.setC v.iw.r.ck v.iw.r.ak hx (y := wtx x a) rfl
 rw [hN] at hNR
 exact ⟨rfl, O, ⟨⟨N, o, r1, hNR, fun k => (e k).trans (r2 k).symm⟩, RS.tn t (fun k hk => hm.tag hk) r3⟩, fun k hk => .inl hk, Rm.of_tn (r3.mono fun k hk => .inl ((e k).2 hk))⟩
theorem eS_wait (s : St) (i : Nat) (x : Cx) (a : Ch.Wt) : eS { s with C := s.C.set i (wtx x a) } = { eS s with C := (eS s).C.set i (wtx (er0 x) a) } := eS_set s i (wtx x a)
end
end Go.Proofs.YtdpapnfjpefhkaaGreat
namespace Go.Proofs.YtdpapnfjpefhkaaGreat
open Go.RowKit Tr
set_option linter.unusedVariables false
set_option maxRecDepth 100000
abbrev aB (k a c : Int) : Array Value := #[.int .i64 k, .int .i64 a, .int .i64 c]
section
variable {W w w' w'' w1 : World} {t ts m mo b i j q R R1 R2 : Nat} {d d1 d2 d' : St} {now k a c : Int}
theorem aB_cells (h : w.heap[q]? = some (.cells (aB k a c) 29 (0, 0))) : w.cell? ⟨q, 0, none⟩ = some (.int .i64 k) ∧ w.cell? ⟨q, 1, none⟩ = some (.int .i64 a) ∧ w.cell? ⟨q, 2, none⟩ = some (.int .i64 c) := by
 refine ⟨?_, ?_, ?_⟩
 · rw [cell_of_row w q 0 _ _ _ h]; rfl
 · rw [cell_of_row w q 1 _ _ _ h]; rfl
 · rw [cell_of_row w q 2 _ _ _ h]; rfl
theorem KB.box (h : KB w w') (e : w.heap[q]? = some (.cells (aB k a c) 29 (0, 0))) : w'.heap[q]? = some (.cells (aB k a c) 29 (0, 0)) := h.2 q _ 29 _ e (by decide)
theorem KB.lrt {ty : TypeId} {B n1 : Nat} {P1 : Option Addr} {er cs : Int} {l : List Lap} (h : KB w w') (ht : TgB ty) (hl : LRt ty B w P1 n1 er cs l) : LRt ty B w' P1 n1 er cs l := hl.keep fun k hk => h.at (hk.imp fun t e => by rcases e with rfl | rfl; exact ht; decide)
theorem KB.srt {ty : TypeId} {B n1 : Nat} {P1 : Option Addr} {l : List Mp} (h : KB w w') (ht : TgB ty) (hl : SRt ty B w P1 n1 l) : SRt ty B w' P1 n1 l := row_keep hl fun k hk => h.at ((tag_row hl hk).imp fun t e => by subst e; exact ht)
theorem BM.hd (h : BM W b ts t mo m now R R d d w) : ∃ s, IX R s ∧ eS s = d := by
 obtain ⟨s, s2, O, O2, fs, rc, e1, e2, i1, i2, dis⟩ := h.ex
 exact ⟨s, i1, e1⟩
def DoR (W : World) (b ts t mo m R : Nat) (e : Ending) (w' : World) : Prop := e = .returned (.bool true) ∧ Hid (∃ now' d' R', R' ≤ R + 1 ∧ BM W b ts t mo m now' R' R' d' d' w')
theorem ck_of (h : BM W b ts t mo m now R1 R2 d1 d2 w) (hx : w.heap[q]? = some (.cells (aB k a c) 29 (0, 0))) : w.cell? ⟨b, 0, none⟩ = some (.pointer (some ⟨ts, 0, none⟩)) ∧ w.cell? ⟨b, 1, none⟩ = some (.pointer (some ⟨t, 0, none⟩)) ∧ w.cell? ⟨b, 2, none⟩ = some (.pointer (some ⟨mo, 0, none⟩)) ∧ w.cell? ⟨b, 3, none⟩ = some (.pointer (some ⟨m, 0, none⟩)) ∧ w.cell? ⟨b, 4, none⟩ = some (.int .i64 now) ∧ w.cell? ⟨q, 1, none⟩ = some (.int .i64 a) ∧ w.cell? ⟨q, 2, none⟩ = some (.int .i64 c) :=
 ⟨h.cells.1.1, h.cells.1.2.1, h.cells.1.2.2.1, h.cells.1.2.2.2.1, h.cells.1.2.2.2.2, (aB_cells hx).2.1, (aB_cells hx).2.2⟩
end
end Go.Proofs.YtdpapnfjpefhkaaGreat
