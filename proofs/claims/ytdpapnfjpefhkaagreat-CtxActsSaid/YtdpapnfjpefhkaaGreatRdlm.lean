/- What Deadline of the document's contexts does. Conditions: each theorem's own premises.
What holds of a bed's contexts at all times: each act keeps it. Plain mathematics. No condition but those that each names.
The document's contexts, made anew. Conditions: each theorem's own premises.
The same contexts, whatever their channels are called. No condition. -/
import Derived.Test.YtdpapnfjpefhkaaGreatRmc
import Derived.Test.YtdpapnfjpefhkaaGreatCdlm
import Derived.Test.YtdpapnfjpefhkaaGreatRfam
namespace Go.Proofs.YtdpapnfjpefhkaaGreat
open Go.RowKit Tr
set_option linter.unusedVariables false
set_option maxRecDepth 100000
section
variable {R : Nat} {z : Int} {has own : Bool} {W w w' w'' w0 w1 : World} {m mo B i j k q nl cl c n : Nat} {O O' O0 : Nat → Prop} {s s' : St} {N : List Nd} {er cs : Int} {l : List Lap} {mm : List Mp} {P1 P2 : Option Addr} {n1 c1 n2 c2 : Nat} {x y : Cx} {o : Lr} {u v : Value} {E : List On} {S : List It} {e : Ending}
theorem LRt.low {ty : TypeId} (h : LRt ty B w P1 c1 er cs l) {B' : Nat} (hB : B' ≤ B) : LRt ty B' w P1 c1 er cs l := by
 obtain ⟨L, h1, h2, h3⟩ := h
 exact ⟨L, h1, h2, row_low h3 hB⟩
theorem LRt.tn (h : LRt 160 B w P1 c1 er cs l) (f : Tn O w w') (hO : ∀ k, O k → Tg TgR w k) : LRt 160 B w' P1 c1 er cs l :=
 h.keep fun b hb => f.block b hb.lt fun hk => hb.two (hO b hk) (by rintro ty (rfl | rfl) <;> simp [TgR])
theorem RMk.from {s' : Nat → St} (b : Below w.heap.size w w1) (h : RMk W m mo s' O n er cs l w1 e w') : RMk W m mo s' O n er cs l w e w' := by
 obtain ⟨P1, n1, c1, c, h1, h2, h3, h4⟩ := h
 exact ⟨P1, n1, c1, c, h1, h2, RG.from b h3.out, h4.out.low b.size⟩
theorem RC.putq (h : RC W m mo s O w) (hx : s.C[i]? = some x) (hc : x.ch = some c) (hq : w.cell? ⟨m, 2, none⟩ = some (.slice (some ⟨q, 0, none⟩) nl cl)) (hj : j < 12) (hy : y.nd = x.nd ∧ y.ch = x.ch ∧ chS y = chS x) (he : (nE (ndC i x)).set j u = nE (ndC i y))
  (ck : ∀ (i : Nat) (x : Cx), s.C[i]? = some x → s.K[x.nd]? = some ⟨false, i⟩) (ak : ∀ (i : Nat) (a : Af), s.A[i]? = some a → s.K[a.nd]? = some ⟨true, i⟩) :
  RC W m mo { s with C := s.C.set i y } O (w.setCell ⟨q, x.nd * 12 + j, none⟩ u) ∧ Tn O w (w.setCell ⟨q, x.nd * 12 + j, none⟩ u) ∧ (w.setCell ⟨q, x.nd * 12 + j, none⟩ u).cell? ⟨m, 2, none⟩ = some (.slice (some ⟨q, 0, none⟩) nl cl) := by
 obtain ⟨⟨N, o, hr, r, e⟩, t⟩ := h
 obtain ⟨⟨-, -, t2, -, -⟩, -⟩ := hr.top
 have h2 := hq
 rw [t2] at h2
 injection h2 with h2; injection h2 with h2 h3 h4
 have hN := r.c i x hx
 obtain ⟨r1, r2⟩ := hr.node (n' := ndC i y) hN h2 hj he
 obtain ⟨r3, r4, -⟩ := r1.chan (y := y) hx hc ⟨hy.1, hy.2.1⟩ (Tn.refl _ _) (by rw [hy.2.2]; exact (r1.ch i x c hx hc).2)
 have f : Tn O w (w.setCell ⟨q, x.nd * 12 + j, none⟩ u) := r2.mono fun k hk => .inl ((e k).2 hk)
 refine ⟨⟨⟨_, o, r3, r.setC ck ak hx hy.1, fun k => (e k).trans (r4 k).symm⟩, RS.tn t (fun k hk => hr.tag hk) r2⟩, f, ?_⟩
 have hm : m ≠ q := by
  rintro rfl
  exact (hr.tn' (k := m) (by rw [h2]; rfl)).two hr.tm (by rintro ty rfl; decide)
 rw [World.cell?_setCell_other _ _ _ _ (by simp)]
 exact hq
theorem RC.cel (h : RC W m mo s O w) (hx : s.C[i]? = some x) (hq : w.cell? ⟨m, 2, none⟩ = some (.slice (some ⟨q, 0, none⟩) nl cl)) : (w.cell? ⟨q, x.nd * 12 + 5, none⟩ = some (.int .i64 x.er) ∧ w.cell? ⟨q, x.nd * 12 + 7, none⟩ = some (.int .i64 x.wh) ∧ w.cell? ⟨q, x.nd * 12 + 8, none⟩ = some (.bool x.has) ∧ w.cell? ⟨q, x.nd * 12 + 9, none⟩ = some (.bool x.own) ∧ w.cell? ⟨q, x.nd * 12 + 10, none⟩ = some (.int .i64 x.lp)) ∧ (∀ j, w.frozen? ⟨q, j, none⟩ = false) ∧ w.cell? ⟨m, 0, none⟩ = some (.pointer (some ⟨mo, 0, none⟩)) ∧ m ≠ q := by
 obtain ⟨⟨N, o, hr, r, e⟩, t⟩ := h
 obtain ⟨⟨t0, -, t2, -, -⟩, -⟩ := hr.top
 rw [t2] at hq
 injection hq with hq; injection hq with h2 _ _
 obtain ⟨q', hP, -, hc, hf⟩ := hr.nd (r.c i x hx)
 rw [h2] at hP; injection hP with hP; injection hP with hP; subst hP
 refine ⟨⟨hc 5 (by decide), hc 7 (by decide), hc 8 (by decide), hc 9 (by decide), hc 10 (by decide)⟩, hf, t0, ?_⟩
 rintro rfl
 exact (hr.tn' (k := m) (by rw [h2]; rfl)).two hr.tm (by rintro ty rfl; decide)
theorem RC.atw (h : RC W m mo s O w) (hx : s.C[i]? = some x) : Calls Tryz.prog 57 #[pM' m, .int .i64 (i : Int)] w fun e w1 => ∃ q nl cl, e = .returned (.pointer (some ⟨q, x.nd * 12, none⟩)) ∧ Hid (Below w.heap.size w w1 ∧ RC W m mo s O w1 ∧ w1.cell? ⟨m, 2, none⟩ = some (.slice (some ⟨q, 0, none⟩) nl cl)) := by
 have h0 := h
 obtain ⟨⟨N, o, hr, r, e⟩, t⟩ := h
 have hN := r.c i x hx
 obtain ⟨q, hP, -, -, -⟩ := hr.nd hN
 refine (rat_at hr hx (List.getElem?_eq_some_iff.1 hN).1 hP).mono ?_
 rintro e w1 ⟨rfl, nq, rfl⟩
 have hb := below_drewN w nq
 obtain ⟨⟨-, -, t2, -, -⟩, -⟩ := (hr.later hb).top
 rw [hP] at t2
 exact ⟨q, _, _, rfl, hb, h0.later hb, t2⟩
def tld (x : Cx) (z : Int) : Cx := { x with wh := z, has := true, own := true }
theorem RC.put3 (h : RC W m mo s O w) (hx : s.C[i]? = some x) (hc : x.ch = some c) (hq : w.cell? ⟨m, 2, none⟩ = some (.slice (some ⟨q, 0, none⟩) nl cl)) (z : Int)
  (ck : ∀ (i : Nat) (x : Cx), s.C[i]? = some x → s.K[x.nd]? = some ⟨false, i⟩) (ak : ∀ (i : Nat) (a : Af), s.A[i]? = some a → s.K[a.nd]? = some ⟨true, i⟩) {w3 : World} (h3 : ((w.setCell ⟨q, x.nd * 12 + 7, none⟩ (.int .i64 z)).setCell ⟨q, x.nd * 12 + 8, none⟩ (.bool true)).setCell ⟨q, x.nd * 12 + 9, none⟩ (.bool true) = w3) :
  RC W m mo { s with C := s.C.set i (tld x z) } O w3 ∧ Tn O w w3 ∧ w3.cell? ⟨m, 2, none⟩ = some (.slice (some ⟨q, 0, none⟩) nl cl) := by
 subst h3
 have hi := (List.getElem?_eq_some_iff.1 hx).1
 have key : ∀ (y : Cx), y.nd = x.nd → (s.C.set i y)[i]? = some y := fun y _ => by rw [List.getElem?_set_self hi]
 have ckk : ∀ (y : Cx), y.nd = x.nd → ∀ (j : Nat) (z : Cx), (s.C.set i y)[j]? = some z → s.K[z.nd]? = some ⟨false, j⟩ := fun y hy j z hz => by
  rcases set_at hz with ⟨rfl, rfl⟩ | ⟨_, hz⟩
  · rw [hy]; exact ck _ x hx
  · exact ck j z hz
 obtain ⟨a1, a2, a3⟩ := h.putq (j := 7) (u := .int .i64 z) (y := { x with wh := z }) hx hc hq (by decide) ⟨rfl, rfl, rfl⟩ rfl ck ak
 obtain ⟨b1, b2, b3⟩ := a1.putq (i := i) (x := { x with wh := z }) (j := 8) (u := .bool true) (y := { x with wh := z, has := true }) (key _ rfl) hc a3 (by decide) ⟨rfl, rfl, rfl⟩ rfl (ckk _ rfl) ak
 rw [show ({ ({ s with C := s.C.set i { x with wh := z } } : St) with C := (s.C.set i { x with wh := z }).set i { x with wh := z, has := true } } : St) = { s with C := s.C.set i { x with wh := z, has := true } } from by rw [List.set_set]] at b1
 obtain ⟨d1, d2, d3⟩ := b1.putq (i := i) (x := { x with wh := z, has := true }) (j := 9) (u := .bool true) (y := tld x z) (key _ rfl) hc b3 (by decide) ⟨rfl, rfl, rfl⟩ rfl (ckk _ rfl) ak
 rw [show ({ ({ s with C := s.C.set i { x with wh := z, has := true } } : St) with C := (s.C.set i { x with wh := z, has := true }).set i (tld x z) } : St) = { s with C := s.C.set i (tld x z) } from by rw [List.set_set]] at d1
 exact ⟨d1, (a2.trans b2).trans d2, d3⟩
theorem tld_S (s : St) (c : Nat) (wh : Int) (has : Bool) (ab z : Int) : ({ addS s (nx0 c wh has false) ab true with C := (addS s (nx0 c wh has false) ab true).C.set s.C.length (tld (nw (nx0 c wh has false) s.T.length) z) } : St) = addS s (nx0 c z true true) ab true := by
 unfold addS tld nw nx0
 simp
theorem tld_D (s : St) (c : Nat) (wh : Int) (has : Bool) (ab z er cs : Int) : ({ addD s (nx0 c wh has false) ab er cs with C := (addD s (nx0 c wh has false) ab er cs).C.set s.C.length (tld (ended (nw (nx0 c wh has false) s.T.length) er cs) z) } : St) = addD s (nx0 c z true true) ab er cs := by
 unfold addD tld nw nx0 ended
 simp
theorem RC.tmr {E' : List On} {n' : Nat} {S' : List It} (h : RC W m mo s O w) (r : RZ W mo E' 0 n' S' z0 v w e w') : RC W m mo { s with E := E', n := n', S := S' } O w' ∧ Rm O w w' := by
 obtain ⟨⟨N, o, hr, r9, e9⟩, t⟩ := h
 obtain ⟨r1, r2, r3, r4⟩ := r
 exact ⟨⟨⟨N, o, hr.byX r3 (hr.bel.trans r4), r9, e9⟩, r2⟩, Rm.of_rx r3⟩
theorem RC.lps {w2 : World} (h : RC W m mo (addS s (nx0 c z true true) (y.nd : Int) true) O w) (v : IW R s) (hy : s.C[i]? = some y) (hC : s.C.length < 64) (hb : Below w.heap.size w w2) (hz0 : hz z = z) :
  Calls Tryz.prog 61 #[.pointer (some ⟨mo, 0, none⟩), .int .i64 z, .int .i64 (s.C.length : Int)] w2 fun e w' => e = .returned (.tuple #[.int .i64 (s.E.length : Int), .int .i64 0]) ∧ Hid (RC W m mo { addS s (nx0 c z true true) (y.nd : Int) true with E := s.E ++ [⟨4, s.C.length, none, 1⟩], n := s.n + 1, S := ins ⟨(s.E.length : Int), z, (s.n : Int) + 1⟩ s.S } O w' ∧ Rm O w w' ∧ w'.cell? ⟨m, 2, none⟩ = w.cell? ⟨m, 2, none⟩) := by
 have h1 := h.later hb
 have ht := h1.2
 have hm : ∃ cs, w2.heap[m]? = some (.cells cs 152 (0, 0)) ∧ w2.heap[m]? = w.heap[m]? := by
  obtain ⟨⟨N, o, hr, r9, e9⟩, t⟩ := h
  have := hb.block m (hr.lt (.inl rfl))
  exact ⟨_, this.trans hr.tr.hm, this⟩
 have hn := v.v.nl; have hel := v.v.el; have hcl := v.v.cl
 refine (rlapse_ok (wh := z) (p := (s.C.length : Int)) (show RS W mo s.E 0 s.n s.S z0 w2 from ht) (by omega) v.r.ok (by omega) (by omega) v.r.sl).mono ?_
 intro e w' hr
 unfold RkF at hr
 rw [fput_z0, del_out v.r.sp (.inr (Int.le_refl _)), hz0] at hr
 have he := hr.1
 obtain ⟨r1, r2⟩ := h1.tmr hr
 obtain ⟨csm, e1, e2⟩ := hm
 exact ⟨he, r1, (Rm.of_below (O := O) hb).comp r2 fun k hk => .inl hk, cell_blk (((hr.2.2.1.at e1 (by decide)).trans e1.symm).trans e2) 2⟩
theorem dl_pack {wc wd w3 : World} {O4 : Nat → Prop} {s4 s5 : St} (r4 : RC W m mo s4 O4 wc) (hs4 : ∀ k, O4 k → O k ∨ w.heap.size ≤ k) (fm : Rm O w wc) (hb : Below wc.heap.size wc wd) (a1 : RC W m mo s5 O4 w3) (f : Tn O4 wd w3) (h6 : LRt 160 w.heap.size wc P1 c1 er cs l) : RG W m mo s5 O w w3 ∧ LRt 160 w.heap.size w3 P1 c1 er cs l ∧ Rm O w w3 := by
 have h1 : Rm O w w3 := (fm.comp (Rm.of_below (O := O) hb) fun k hk => .inl hk).comp (Rm.of_tn f) hs4
 exact ⟨⟨O4, a1, hs4, h1⟩, (h6.later hb).tn f fun k hk => (r4.later hb).tag hk, h1⟩
theorem lps_S (s : St) (c t0 : Nat) (ab z : Int) : ({ ({ addS s (nx0 c z true true) ab true with E := s.E ++ [⟨4, s.C.length, none, 1⟩], n := s.n + 1, S := ins ⟨(s.E.length : Int), z, (s.n : Int) + 1⟩ s.S } : St) with C := (addS s (nx0 c z true true) ab true).C.set s.C.length { nw (nx0 c z true true) s.T.length with lp := (s.E.length : Int) } } : St) = dlS (some t0) s (nx0 c z true true) ab z := by
 unfold dlS addS lpV lpE lpN lpS
 simp
theorem addD_new {ab : Int} : (addD s x ab er cs).C[s.C.length]? = some (ended (nw x s.T.length) er cs) := by show (s.C ++ _)[_]? = _; simp
theorem RC.newat2 {x : Cx} {ab : Int} {l : Bool} {O' : Nat → Prop} (h : RC W m mo (addS s x ab l) O' w) (hq : w.cell? ⟨m, 2, none⟩ = some (.slice (some ⟨q, 0, none⟩) nl cl)) : ∃ q4 cX, w.cell? ⟨m, 3, none⟩ = some (.slice (some ⟨q4, 0, none⟩) (s.C.length + 1) cX) ∧ w.cell? ⟨q4, s.C.length, none⟩ = some (.int .i64 (s.T.length : Int)) ∧ q4 ≠ q := by
 obtain ⟨⟨N, o, hr, r, e⟩, t⟩ := h
 obtain ⟨⟨-, -, t2, t3, -⟩, -⟩ := hr.top
 obtain ⟨q2, hX, d0⟩ := hr.cx (i := s.C.length) (x := nw x s.T.length) addS_new
 rw [hX] at t3
 have el : (addS s x ab l).C.length = s.C.length + 1 := by show (s.C ++ [nw x s.T.length]).length = _; simp
 rw [el] at t3
 refine ⟨q2, o.cX, t3, d0, ?_⟩
 rw [t2] at hq
 injection hq with hq; injection hq with h2 _ _
 rintro rfl
 exact (hr.tx (k := q2) (by rw [hX]; rfl)).two (hr.tn' (k := q2) (by rw [h2]; rfl)) (by rintro ty rfl; decide)
theorem IW.mkn (v : IW R s) (hy : s.C[i]? = some y) (hC : s.C.length < 64) (c : Nat) (wh : Int) (a b : Bool) : IW R (mkC s (nx0 c wh a b) y) := by
 have v2 := v.add (x := nx0 c wh a b) hy hC true ⟨rfl, rfl, rfl⟩ fun _ => ⟨c, rfl⟩
 unfold mkC
 by_cases he : y.er = 0
 · rw [if_pos he]; exact v2
 · rw [if_neg he]
   refine ⟨v.v.addD hy hC ⟨rfl, rfl, rfl⟩ ⟨c, rfl⟩ he, ?_, fun j z hz => ?_, v.hR⟩
   · have := v2.r.fold (er := y.er) (cs := y.cs) (Tr.walk (addS s (nx0 c wh a b) (y.nd : Int) true).T (nw (nx0 c wh a b) s.T.length).nd)
     rw [fold_new v.v (nx0 c wh a b) (y.nd : Int) ⟨rfl, rfl⟩] at this
     exact this
   · have hz : (s.C ++ [ended (nw (nx0 c wh a b) s.T.length) y.er y.cs])[j]? = some z := hz
     rcases Nat.lt_or_ge j s.C.length with c | c
     · rw [List.getElem?_append_left c] at hz; exact v.rs j z hz
     · rw [List.getElem?_append_right c] at hz
       have hj := (List.getElem?_eq_some_iff.1 hz).1
       have hj : j - s.C.length < 1 := hj
       obtain rfl : j = s.C.length := by omega
       rw [Nat.sub_self] at hz; cases hz
       exact Nat.zero_le _
set_option maxHeartbeats 16000000 in
theorem rdeadline_as (wh now : Int) (h : RC W m mo s O w) (v : IW R s) (hy : s.C[i]? = some y) (hC : s.C.length < 64) (hh : y.has = true) (h2 : y.wh ≤ hz wh) : Calls Tryz.prog 23 #[pM' m, .int .i64 (i : Int), .int .i64 wh, .int .i64 now] w (RMk W m mo (fun c => mkC s (nx0 c y.wh y.has false) y) O s.C.length y.er y.cs (mkL s y) w) := by
 have hi := (List.getElem?_eq_some_iff.1 hy).1
 have HW := h.bel.size
 have F60 := fun w => rlate_any wh w
 have HH := Lib.hid h
 have HV := Lib.hid v
 have HY := Lib.hid hy
 have HI : Hid (∀ w1, Below w.heap.size w w1 → Calls Tryz.prog 56 #[pM' m, .int .i64 (i : Int)] w1 fun e w' => e = .returned (.bool true) ∧ w1 = w') := fun w1 hb => by
  obtain ⟨⟨N, o, hr, r, e⟩, t⟩ := h.later hb
  have := rcin_any hr (i : Int)
  rw [decide_eq_true (by omega)] at this
  exact this
 have HA : Hid (∀ w1, Below w.heap.size w w1 → Calls Tryz.prog 57 #[pM' m, .int .i64 (i : Int)] w1 fun e w2 => ∃ q, e = .returned (.pointer (some ⟨q, y.nd * 12, none⟩)) ∧ Hid (Below w.heap.size w w2) ∧ w2.cell? ⟨q, y.nd * 12 + 7, none⟩ = some (.int .i64 y.wh) ∧ w2.cell? ⟨q, y.nd * 12 + 8, none⟩ = some (.bool y.has)) := fun w1 hb => by
  refine ((h.later hb).at12 hy).mono ?_
  rintro e w2 ⟨q, q2, cX, rfl, h1, ⟨x0, x1, x2, x3, x4, x5, x6, x7, x8, x9, x10, x11⟩, -, -⟩
  exact ⟨q, rfl, hb.trans (h1.out.mono hb.size), x7, x8⟩
 obtain ⟨z, hzz⟩ : ∃ z, hz wh = z := ⟨_, rfl⟩
 have hzi : hz z = z := by rw [← hzz, hz_hz]
 rw [hzz] at F60
 rw [hzz] at h2
 have HC : Hid (∀ w1, Below w.heap.size w w1 → Calls Tryz.prog 21 #[pM' m, .int .i64 (i : Int)] w1 (RMk W m mo (fun c => mkC s (nx0 c y.wh y.has false) y) O s.C.length y.er y.cs (mkL s y) w)) := fun w1 hb => (rcancels_ok (h.later hb) v hy hC).mono fun e w' h => h.from hb
 clear h v hy hC
 go_enter Tryz.func23, Tryz.ntmps23
 go_wp2_with fail
 refine (F60 w).mono ?_
 rintro e w' ⟨rfl, rfl⟩
 go_wp2_with fail
 refine (HI.out _ (Below.refl _ _)).mono ?_
 rintro e w' ⟨rfl, rfl⟩
 go_wp2_with fail
 refine (HA.out _ (Below.refl _ _)).mono ?_
 rintro e wa ⟨qa, rfl, hba, xa7, xa8⟩
 rw [hh] at xa8
 go_wp2_with fail
 refine (HA.out _ hba.out).mono ?_
 rintro e wb ⟨qb, rfl, hbb, xb7, xb8⟩
 go_wp2_with fail
 refine (HC.out _ hbb.out).mono ?_
 rintro e wc ⟨P1, n1, c1, c, h4, rfl, h5, h6⟩
 go_wp2_with fail
 go_ret3
 exact ⟨P1, n1, c1, c, h4, rfl, h5, h6⟩
set_option maxHeartbeats 16000000 in
theorem rdeadline_over (wh now : Int) (h : RC W m mo s O w) (v : IW R s) (hy : s.C[i]? = some y) (hC : s.C.length < 64) (hn : ¬ (y.has = true ∧ y.wh ≤ hz wh)) (he : y.er ≠ 0) : Calls Tryz.prog 23 #[pM' m, .int .i64 (i : Int), .int .i64 wh, .int .i64 now] w (RMk W m mo (fun c => mkC s (nx0 c (hz wh) true true) y) O s.C.length y.er y.cs (mkL s y) w) := by
 have hi := (List.getElem?_eq_some_iff.1 hy).1
 have HW := h.bel.size
 have F60 := fun w => rlate_any wh w
 have HH := Lib.hid h
 have HV := Lib.hid v
 have HY := Lib.hid hy
 have HI : Hid (∀ w1, Below w.heap.size w w1 → Calls Tryz.prog 56 #[pM' m, .int .i64 (i : Int)] w1 fun e w' => e = .returned (.bool true) ∧ w1 = w') := fun w1 hb => by
  obtain ⟨⟨N, o, hr, r, e⟩, t⟩ := h.later hb
  have := rcin_any hr (i : Int)
  rw [decide_eq_true (by omega)] at this
  exact this
 have HA : Hid (∀ w1, Below w.heap.size w w1 → Calls Tryz.prog 57 #[pM' m, .int .i64 (i : Int)] w1 fun e w2 => ∃ q, e = .returned (.pointer (some ⟨q, y.nd * 12, none⟩)) ∧ Hid (Below w.heap.size w w2) ∧ w2.cell? ⟨q, y.nd * 12 + 7, none⟩ = some (.int .i64 y.wh) ∧ w2.cell? ⟨q, y.nd * 12 + 8, none⟩ = some (.bool y.has)) := fun w1 hb => by
  refine ((h.later hb).at12 hy).mono ?_
  rintro e w2 ⟨q, q2, cX, rfl, h1, ⟨x0, x1, x2, x3, x4, x5, x6, x7, x8, x9, x10, x11⟩, -, -⟩
  exact ⟨q, rfl, hb.trans (h1.out.mono hb.size), x7, x8⟩
 obtain ⟨z, hzz⟩ : ∃ z, hz wh = z := ⟨_, rfl⟩
 have hzi : hz z = z := by rw [← hzz, hz_hz]
 rw [hzz] at F60
 rw [hzz] at hn ⊢
 have HMM : Hid (mkL s y = [(s.C.length, [])] ∧ ∀ c {a b d}, mkC s (nx0 c a b d) y = addD s (nx0 c a b d) (y.nd : Int) y.er y.cs) := ⟨by unfold mkL; rw [if_neg he], fun c {a b d} => by unfold mkC; rw [if_neg he]⟩
 have HC : Hid (∀ w1, Below w.heap.size w w1 → Calls Tryz.prog 21 #[pM' m, .int .i64 (i : Int)] w1 (RMk W m mo (fun c => mkC s (nx0 c y.wh y.has false) y) O s.C.length y.er y.cs (mkL s y) w)) := fun w1 hb => (rcancels_ok (h.later hb) v hy hC).mono fun e w' h => h.from hb
 have HCL := Lib.hid hC
 clear h v hy hC
 cases hh : y.has with
 | false =>
  go_enter Tryz.func23, Tryz.ntmps23
  go_wp2_with fail
  refine (F60 w).mono ?_
  rintro e w' ⟨rfl, rfl⟩
  go_wp2_with fail
  refine (HI.out _ (Below.refl _ _)).mono ?_
  rintro e w' ⟨rfl, rfl⟩
  go_wp2_with fail
  refine (HA.out _ (Below.refl _ _)).mono ?_
  rintro e wa ⟨qa, rfl, hba, xa7, xa8⟩
  rw [hh] at xa8
  go_wp2_with fail
  refine (HC.out _ hba.out).mono ?_
  rintro e wc ⟨P1, n1, c1, c, h4, rfl, h5, h6⟩
  obtain ⟨O4, r4, hs4, fm4⟩ := h5.out
  have v4 : IW R (addD s (nx0 c y.wh y.has false) (y.nd : Int) y.er y.cs) := by rw [← HMM.out.2 c]; exact HV.out.mkn HY.out HCL.out c _ _ _
  have r4 : RC W m mo (addD s (nx0 c y.wh y.has false) (y.nd : Int) y.er y.cs) O4 wc := by rw [← HMM.out.2 c]; exact r4
  have hx4 : (addD s (nx0 c y.wh y.has false) (y.nd : Int) y.er y.cs).C[s.C.length]? = some (ended (nw (nx0 c y.wh y.has false) s.T.length) y.er y.cs) := addD_new
  have HAT : Hid (Calls Tryz.prog 57 #[pM' m, .int .i64 (s.C.length : Int)] wc fun e w1 => ∃ q nl cl, e = .returned (.pointer (some ⟨q, s.T.length * 12, none⟩)) ∧ Hid (Below wc.heap.size wc w1 ∧ RC W m mo (addD s (nx0 c y.wh y.has false) (y.nd : Int) y.er y.cs) O4 w1 ∧ w1.cell? ⟨m, 2, none⟩ = some (.slice (some ⟨q, 0, none⟩) nl cl))) := r4.atw hx4
  have H4 := Lib.hid (And.intro r4 (And.intro hs4 fm4))
  clear r4 hs4 fm4 h5
  go_wp2_with fail
  refine HAT.out.mono ?_
  rintro e wd ⟨q, nl, cl, rfl, hd⟩
  clear HAT
  have hcel := hd.out.2.1.cel hx4 hd.out.2.2
  obtain ⟨⟨x5, x7, x8, x9, x10⟩, xf, k0, hmq⟩ := hcel
  change wd.cell? ⟨q, s.T.length * 12 + 5, none⟩ = some (.int .i64 y.er) at x5
  change wd.cell? ⟨q, s.T.length * 12 + 7, none⟩ = _ at x7
  change wd.cell? ⟨q, s.T.length * 12 + 8, none⟩ = _ at x8
  change wd.cell? ⟨q, s.T.length * 12 + 9, none⟩ = _ at x9
  have f7 := xf (s.T.length * 12 + 7)
  have f8 := xf (s.T.length * 12 + 8)
  have f9 := xf (s.T.length * 12 + 9)
  have HP : Hid (∀ w3, ((wd.setCell ⟨q, s.T.length * 12 + 7, none⟩ (.int .i64 z)).setCell ⟨q, s.T.length * 12 + 8, none⟩ (.bool true)).setCell ⟨q, s.T.length * 12 + 9, none⟩ (.bool true) = w3 → RC W m mo (addD s (nx0 c z true true) (y.nd : Int) y.er y.cs) O4 w3 ∧ Tn O4 wd w3 ∧ w3.cell? ⟨m, 2, none⟩ = some (.slice (some ⟨q, 0, none⟩) nl cl)) := fun w3 e3 => by
   have := hd.out.2.1.put3 (c := c) hx4 rfl hd.out.2.2 z v4.r.ck v4.r.ak e3
   rw [tld_D] at this
   exact this
  go_wp2_with fail
  go_ret3
  obtain ⟨p1, p2, -⟩ := HP.out _ rfl
  obtain ⟨g1, g2, -⟩ := dl_pack H4.out.1 H4.out.2.1 H4.out.2.2 hd.out.1 p1 p2 h6.out
  exact ⟨P1, n1, c1, c, h4, rfl, by show RG W m mo (mkC s (nx0 c z true true) y) O w _; rw [HMM.out.2]; exact g1, g2⟩
 | true =>
  have hcmp : ¬ y.wh ≤ z := fun h9 => hn ⟨hh, h9⟩
  go_enter Tryz.func23, Tryz.ntmps23
  go_wp2_with fail
  refine (F60 w).mono ?_
  rintro e w' ⟨rfl, rfl⟩
  go_wp2_with fail
  refine (HI.out _ (Below.refl _ _)).mono ?_
  rintro e w' ⟨rfl, rfl⟩
  go_wp2_with fail
  refine (HA.out _ (Below.refl _ _)).mono ?_
  rintro e wa ⟨qa, rfl, hba, xa7, xa8⟩
  rw [hh] at xa8
  go_wp2_with fail
  refine (HA.out _ hba.out).mono ?_
  rintro e wb ⟨qb, rfl, hbb, xb7, xb8⟩
  go_wp2_with fail
  refine (HC.out _ hbb.out).mono ?_
  rintro e wc ⟨P1, n1, c1, c, h4, rfl, h5, h6⟩
  obtain ⟨O4, r4, hs4, fm4⟩ := h5.out
  have v4 : IW R (addD s (nx0 c y.wh y.has false) (y.nd : Int) y.er y.cs) := by rw [← HMM.out.2 c]; exact HV.out.mkn HY.out HCL.out c _ _ _
  have r4 : RC W m mo (addD s (nx0 c y.wh y.has false) (y.nd : Int) y.er y.cs) O4 wc := by rw [← HMM.out.2 c]; exact r4
  have hx4 : (addD s (nx0 c y.wh y.has false) (y.nd : Int) y.er y.cs).C[s.C.length]? = some (ended (nw (nx0 c y.wh y.has false) s.T.length) y.er y.cs) := addD_new
  have HAT : Hid (Calls Tryz.prog 57 #[pM' m, .int .i64 (s.C.length : Int)] wc fun e w1 => ∃ q nl cl, e = .returned (.pointer (some ⟨q, s.T.length * 12, none⟩)) ∧ Hid (Below wc.heap.size wc w1 ∧ RC W m mo (addD s (nx0 c y.wh y.has false) (y.nd : Int) y.er y.cs) O4 w1 ∧ w1.cell? ⟨m, 2, none⟩ = some (.slice (some ⟨q, 0, none⟩) nl cl))) := r4.atw hx4
  have H4 := Lib.hid (And.intro r4 (And.intro hs4 fm4))
  clear r4 hs4 fm4 h5
  go_wp2_with fail
  refine HAT.out.mono ?_
  rintro e wd ⟨q, nl, cl, rfl, hd⟩
  clear HAT
  have hcel := hd.out.2.1.cel hx4 hd.out.2.2
  obtain ⟨⟨x5, x7, x8, x9, x10⟩, xf, k0, hmq⟩ := hcel
  change wd.cell? ⟨q, s.T.length * 12 + 5, none⟩ = some (.int .i64 y.er) at x5
  change wd.cell? ⟨q, s.T.length * 12 + 7, none⟩ = _ at x7
  change wd.cell? ⟨q, s.T.length * 12 + 8, none⟩ = _ at x8
  change wd.cell? ⟨q, s.T.length * 12 + 9, none⟩ = _ at x9
  have f7 := xf (s.T.length * 12 + 7)
  have f8 := xf (s.T.length * 12 + 8)
  have f9 := xf (s.T.length * 12 + 9)
  have HP : Hid (∀ w3, ((wd.setCell ⟨q, s.T.length * 12 + 7, none⟩ (.int .i64 z)).setCell ⟨q, s.T.length * 12 + 8, none⟩ (.bool true)).setCell ⟨q, s.T.length * 12 + 9, none⟩ (.bool true) = w3 → RC W m mo (addD s (nx0 c z true true) (y.nd : Int) y.er y.cs) O4 w3 ∧ Tn O4 wd w3 ∧ w3.cell? ⟨m, 2, none⟩ = some (.slice (some ⟨q, 0, none⟩) nl cl)) := fun w3 e3 => by
   have := hd.out.2.1.put3 (c := c) hx4 rfl hd.out.2.2 z v4.r.ck v4.r.ak e3
   rw [tld_D] at this
   exact this
  go_wp2_with fail
  go_ret3
  obtain ⟨p1, p2, -⟩ := HP.out _ rfl
  obtain ⟨g1, g2, -⟩ := dl_pack H4.out.1 H4.out.2.1 H4.out.2.2 hd.out.1 p1 p2 h6.out
  exact ⟨P1, n1, c1, c, h4, rfl, by show RG W m mo (mkC s (nx0 c z true true) y) O w _; rw [HMM.out.2]; exact g1, g2⟩
set_option maxHeartbeats 16000000 in
theorem rdeadline_now (wh now : Int) (h : RC W m mo s O w) (v : IW R s) (hy : s.C[i]? = some y) (hC : s.C.length < 64) (hn : ¬ (y.has = true ∧ y.wh ≤ hz wh)) (he : y.er = 0) (hnow : hz wh ≤ now) : Calls Tryz.prog 23 #[pM' m, .int .i64 (i : Int), .int .i64 wh, .int .i64 now] w (RMk W m mo (fun c => addD s (nx0 c (hz wh) true true) (y.nd : Int) 2 2) O s.C.length 2 2 [(s.C.length, [])] w) := by
 have hi := (List.getElem?_eq_some_iff.1 hy).1
 have HW := h.bel.size
 have F60 := fun w => rlate_any wh w
 have HH := Lib.hid h
 have HV := Lib.hid v
 have HY := Lib.hid hy
 have HI : Hid (∀ w1, Below w.heap.size w w1 → Calls Tryz.prog 56 #[pM' m, .int .i64 (i : Int)] w1 fun e w' => e = .returned (.bool true) ∧ w1 = w') := fun w1 hb => by
  obtain ⟨⟨N, o, hr, r, e⟩, t⟩ := h.later hb
  have := rcin_any hr (i : Int)
  rw [decide_eq_true (by omega)] at this
  exact this
 have HA : Hid (∀ w1, Below w.heap.size w w1 → Calls Tryz.prog 57 #[pM' m, .int .i64 (i : Int)] w1 fun e w2 => ∃ q, e = .returned (.pointer (some ⟨q, y.nd * 12, none⟩)) ∧ Hid (Below w.heap.size w w2) ∧ w2.cell? ⟨q, y.nd * 12 + 7, none⟩ = some (.int .i64 y.wh) ∧ w2.cell? ⟨q, y.nd * 12 + 8, none⟩ = some (.bool y.has)) := fun w1 hb => by
  refine ((h.later hb).at12 hy).mono ?_
  rintro e w2 ⟨q, q2, cX, rfl, h1, ⟨x0, x1, x2, x3, x4, x5, x6, x7, x8, x9, x10, x11⟩, -, -⟩
  exact ⟨q, rfl, hb.trans (h1.out.mono hb.size), x7, x8⟩
 obtain ⟨z, hzz⟩ : ∃ z, hz wh = z := ⟨_, rfl⟩
 have hzi : hz z = z := by rw [← hzz, hz_hz]
 rw [hzz] at F60
 rw [hzz] at hn hnow ⊢
 have HMM : Hid (mkL s y = [] ∧ ∀ c {a b d}, mkC s (nx0 c a b d) y = addS s (nx0 c a b d) (y.nd : Int) true) := ⟨by unfold mkL; rw [if_pos he], fun c {a b d} => by unfold mkC; rw [if_pos he]⟩
 have HC : Hid (∀ w1, Below w.heap.size w w1 → Calls Tryz.prog 21 #[pM' m, .int .i64 (i : Int)] w1 (RMk W m mo (fun c => mkC s (nx0 c y.wh y.has false) y) O s.C.length y.er y.cs (mkL s y) w)) := fun w1 hb => (rcancels_ok (h.later hb) v hy hC).mono fun e w' h => h.from hb
 have HCL := Lib.hid hC
 clear h v hy hC
 cases hh : y.has with
 | false =>
  go_enter Tryz.func23, Tryz.ntmps23
  go_wp2_with fail
  refine (F60 w).mono ?_
  rintro e w' ⟨rfl, rfl⟩
  go_wp2_with fail
  refine (HI.out _ (Below.refl _ _)).mono ?_
  rintro e w' ⟨rfl, rfl⟩
  go_wp2_with fail
  refine (HA.out _ (Below.refl _ _)).mono ?_
  rintro e wa ⟨qa, rfl, hba, xa7, xa8⟩
  rw [hh] at xa8
  go_wp2_with fail
  refine (HC.out _ hba.out).mono ?_
  rintro e wc ⟨P1, n1, c1, c, h4, rfl, h5, h6⟩
  obtain ⟨O4, r4, hs4, fm4⟩ := h5.out
  have v4 : IW R (addS s (nx0 c y.wh y.has false) (y.nd : Int) true) := by rw [← HMM.out.2 c]; exact HV.out.mkn HY.out HCL.out c _ _ _
  have r4 : RC W m mo (addS s (nx0 c y.wh y.has false) (y.nd : Int) true) O4 wc := by rw [← HMM.out.2 c]; exact r4
  have hx4 : (addS s (nx0 c y.wh y.has false) (y.nd : Int) true).C[s.C.length]? = some (nw (nx0 c y.wh y.has false) s.T.length) := addS_new
  have HAT : Hid (Calls Tryz.prog 57 #[pM' m, .int .i64 (s.C.length : Int)] wc fun e w1 => ∃ q nl cl, e = .returned (.pointer (some ⟨q, s.T.length * 12, none⟩)) ∧ Hid (Below wc.heap.size wc w1 ∧ RC W m mo (addS s (nx0 c y.wh y.has false) (y.nd : Int) true) O4 w1 ∧ w1.cell? ⟨m, 2, none⟩ = some (.slice (some ⟨q, 0, none⟩) nl cl))) := r4.atw hx4
  have H4 := Lib.hid (And.intro r4 (And.intro hs4 fm4))
  clear r4 hs4 fm4 h5
  go_wp2_with fail
  refine HAT.out.mono ?_
  rintro e wd ⟨q, nl, cl, rfl, hd⟩
  clear HAT
  have hcel := hd.out.2.1.cel hx4 hd.out.2.2
  obtain ⟨⟨x5, x7, x8, x9, x10⟩, xf, k0, hmq⟩ := hcel
  change wd.cell? ⟨q, s.T.length * 12 + 5, none⟩ = some (.int .i64 0) at x5
  change wd.cell? ⟨q, s.T.length * 12 + 7, none⟩ = _ at x7
  change wd.cell? ⟨q, s.T.length * 12 + 8, none⟩ = _ at x8
  change wd.cell? ⟨q, s.T.length * 12 + 9, none⟩ = _ at x9
  have f7 := xf (s.T.length * 12 + 7)
  have f8 := xf (s.T.length * 12 + 8)
  have f9 := xf (s.T.length * 12 + 9)
  obtain ⟨q4, cX4, z3, z4, hq4⟩ := hd.out.2.1.newat2 hd.out.2.2
  have HP : Hid (∀ w3, ((wd.setCell ⟨q, s.T.length * 12 + 7, none⟩ (.int .i64 z)).setCell ⟨q, s.T.length * 12 + 8, none⟩ (.bool true)).setCell ⟨q, s.T.length * 12 + 9, none⟩ (.bool true) = w3 → RC W m mo (addS s (nx0 c z true true) (y.nd : Int) true) O4 w3 ∧ Tn O4 wd w3 ∧ w3.cell? ⟨m, 2, none⟩ = some (.slice (some ⟨q, 0, none⟩) nl cl)) := fun w3 e3 => by
   have := hd.out.2.1.put3 (c := c) hx4 rfl hd.out.2.2 z v4.r.ck v4.r.ak e3
   rw [tld_S] at this
   exact this
  have HFA : Hid (∀ w3, ((wd.setCell ⟨q, s.T.length * 12 + 7, none⟩ (.int .i64 z)).setCell ⟨q, s.T.length * 12 + 8, none⟩ (.bool true)).setCell ⟨q, s.T.length * 12 + 9, none⟩ (.bool true) = w3 → Calls Tryz.prog 58 #[pM' m, .int .i64 (s.T.length : Int), .int .i64 2, .int .i64 2, .slice none 0 0, .slice none 0 0] w3 (RFa W m mo (addD s (nx0 c z true true) (y.nd : Int) 2 2) O 2 2 [(s.C.length, [])] [] w)) := fun w3 e3 => by
   obtain ⟨p1, p2, -⟩ := HP.out _ e3
   obtain ⟨-, -, g3⟩ := dl_pack H4.out.1 H4.out.2.1 H4.out.2.2 hd.out.1 p1 p2 h6.out
   exact p1.falln HV.out HY.out HCL.out g3 H4.out.2.1 HW 2 2 (Below.refl _ _)
  have b9 : (s.C.length : Int) < (s.C.length : Int) + 1 := by omega
  go_wp2_with fail
  refine (HFA.out _ rfl).mono ?_
  rintro e w5 ⟨P3, n3, c3, P4, n5, c5, hn5, rfl, hg, hl, hs⟩
  go_wp2_with fail
  go_ret3
  exact ⟨P3, n3, c3, c, hn5.out.1, rfl, hg, hl⟩
 | true =>
  have hcmp : ¬ y.wh ≤ z := fun h9 => hn ⟨hh, h9⟩
  go_enter Tryz.func23, Tryz.ntmps23
  go_wp2_with fail
  refine (F60 w).mono ?_
  rintro e w' ⟨rfl, rfl⟩
  go_wp2_with fail
  refine (HI.out _ (Below.refl _ _)).mono ?_
  rintro e w' ⟨rfl, rfl⟩
  go_wp2_with fail
  refine (HA.out _ (Below.refl _ _)).mono ?_
  rintro e wa ⟨qa, rfl, hba, xa7, xa8⟩
  rw [hh] at xa8
  go_wp2_with fail
  refine (HA.out _ hba.out).mono ?_
  rintro e wb ⟨qb, rfl, hbb, xb7, xb8⟩
  go_wp2_with fail
  refine (HC.out _ hbb.out).mono ?_
  rintro e wc ⟨P1, n1, c1, c, h4, rfl, h5, h6⟩
  obtain ⟨O4, r4, hs4, fm4⟩ := h5.out
  have v4 : IW R (addS s (nx0 c y.wh y.has false) (y.nd : Int) true) := by rw [← HMM.out.2 c]; exact HV.out.mkn HY.out HCL.out c _ _ _
  have r4 : RC W m mo (addS s (nx0 c y.wh y.has false) (y.nd : Int) true) O4 wc := by rw [← HMM.out.2 c]; exact r4
  have hx4 : (addS s (nx0 c y.wh y.has false) (y.nd : Int) true).C[s.C.length]? = some (nw (nx0 c y.wh y.has false) s.T.length) := addS_new
  have HAT : Hid (Calls Tryz.prog 57 #[pM' m, .int .i64 (s.C.length : Int)] wc fun e w1 => ∃ q nl cl, e = .returned (.pointer (some ⟨q, s.T.length * 12, none⟩)) ∧ Hid (Below wc.heap.size wc w1 ∧ RC W m mo (addS s (nx0 c y.wh y.has false) (y.nd : Int) true) O4 w1 ∧ w1.cell? ⟨m, 2, none⟩ = some (.slice (some ⟨q, 0, none⟩) nl cl))) := r4.atw hx4
  have H4 := Lib.hid (And.intro r4 (And.intro hs4 fm4))
  clear r4 hs4 fm4 h5
  go_wp2_with fail
  refine HAT.out.mono ?_
  rintro e wd ⟨q, nl, cl, rfl, hd⟩
  clear HAT
  have hcel := hd.out.2.1.cel hx4 hd.out.2.2
  obtain ⟨⟨x5, x7, x8, x9, x10⟩, xf, k0, hmq⟩ := hcel
  change wd.cell? ⟨q, s.T.length * 12 + 5, none⟩ = some (.int .i64 0) at x5
  change wd.cell? ⟨q, s.T.length * 12 + 7, none⟩ = _ at x7
  change wd.cell? ⟨q, s.T.length * 12 + 8, none⟩ = _ at x8
  change wd.cell? ⟨q, s.T.length * 12 + 9, none⟩ = _ at x9
  have f7 := xf (s.T.length * 12 + 7)
  have f8 := xf (s.T.length * 12 + 8)
  have f9 := xf (s.T.length * 12 + 9)
  obtain ⟨q4, cX4, z3, z4, hq4⟩ := hd.out.2.1.newat2 hd.out.2.2
  have HP : Hid (∀ w3, ((wd.setCell ⟨q, s.T.length * 12 + 7, none⟩ (.int .i64 z)).setCell ⟨q, s.T.length * 12 + 8, none⟩ (.bool true)).setCell ⟨q, s.T.length * 12 + 9, none⟩ (.bool true) = w3 → RC W m mo (addS s (nx0 c z true true) (y.nd : Int) true) O4 w3 ∧ Tn O4 wd w3 ∧ w3.cell? ⟨m, 2, none⟩ = some (.slice (some ⟨q, 0, none⟩) nl cl)) := fun w3 e3 => by
   have := hd.out.2.1.put3 (c := c) hx4 rfl hd.out.2.2 z v4.r.ck v4.r.ak e3
   rw [tld_S] at this
   exact this
  have HFA : Hid (∀ w3, ((wd.setCell ⟨q, s.T.length * 12 + 7, none⟩ (.int .i64 z)).setCell ⟨q, s.T.length * 12 + 8, none⟩ (.bool true)).setCell ⟨q, s.T.length * 12 + 9, none⟩ (.bool true) = w3 → Calls Tryz.prog 58 #[pM' m, .int .i64 (s.T.length : Int), .int .i64 2, .int .i64 2, .slice none 0 0, .slice none 0 0] w3 (RFa W m mo (addD s (nx0 c z true true) (y.nd : Int) 2 2) O 2 2 [(s.C.length, [])] [] w)) := fun w3 e3 => by
   obtain ⟨p1, p2, -⟩ := HP.out _ e3
   obtain ⟨-, -, g3⟩ := dl_pack H4.out.1 H4.out.2.1 H4.out.2.2 hd.out.1 p1 p2 h6.out
   exact p1.falln HV.out HY.out HCL.out g3 H4.out.2.1 HW 2 2 (Below.refl _ _)
  have b9 : (s.C.length : Int) < (s.C.length : Int) + 1 := by omega
  go_wp2_with fail
  refine (HFA.out _ rfl).mono ?_
  rintro e w5 ⟨P3, n3, c3, P4, n5, c5, hn5, rfl, hg, hl, hs⟩
  go_wp2_with fail
  go_ret3
  exact ⟨P3, n3, c3, c, hn5.out.1, rfl, hg, hl⟩
set_option maxHeartbeats 16000000 in
theorem rdeadline_set (wh now : Int) (h : RC W m mo s O w) (v : IW R s) (hy : s.C[i]? = some y) (hC : s.C.length < 64) (hn : ¬ (y.has = true ∧ y.wh ≤ hz wh)) (he : y.er = 0) (hset : ¬ hz wh ≤ now) : Calls Tryz.prog 23 #[pM' m, .int .i64 (i : Int), .int .i64 wh, .int .i64 now] w (RMk W m mo (fun c => dlS (some 0) s (nx0 c (hz wh) true true) (y.nd : Int) (hz wh)) O s.C.length y.er y.cs (mkL s y) w) := by
 have hi := (List.getElem?_eq_some_iff.1 hy).1
 have HW := h.bel.size
 have F60 := fun w => rlate_any wh w
 have HH := Lib.hid h
 have HV := Lib.hid v
 have HY := Lib.hid hy
 have HI : Hid (∀ w1, Below w.heap.size w w1 → Calls Tryz.prog 56 #[pM' m, .int .i64 (i : Int)] w1 fun e w' => e = .returned (.bool true) ∧ w1 = w') := fun w1 hb => by
  obtain ⟨⟨N, o, hr, r, e⟩, t⟩ := h.later hb
  have := rcin_any hr (i : Int)
  rw [decide_eq_true (by omega)] at this
  exact this
 have HA : Hid (∀ w1, Below w.heap.size w w1 → Calls Tryz.prog 57 #[pM' m, .int .i64 (i : Int)] w1 fun e w2 => ∃ q, e = .returned (.pointer (some ⟨q, y.nd * 12, none⟩)) ∧ Hid (Below w.heap.size w w2) ∧ w2.cell? ⟨q, y.nd * 12 + 7, none⟩ = some (.int .i64 y.wh) ∧ w2.cell? ⟨q, y.nd * 12 + 8, none⟩ = some (.bool y.has)) := fun w1 hb => by
  refine ((h.later hb).at12 hy).mono ?_
  rintro e w2 ⟨q, q2, cX, rfl, h1, ⟨x0, x1, x2, x3, x4, x5, x6, x7, x8, x9, x10, x11⟩, -, -⟩
  exact ⟨q, rfl, hb.trans (h1.out.mono hb.size), x7, x8⟩
 obtain ⟨z, hzz⟩ : ∃ z, hz wh = z := ⟨_, rfl⟩
 have hzi : hz z = z := by rw [← hzz, hz_hz]
 rw [hzz] at F60
 rw [hzz] at hn hset ⊢
 have HMM : Hid (mkL s y = [] ∧ ∀ c {a b d}, mkC s (nx0 c a b d) y = addS s (nx0 c a b d) (y.nd : Int) true) := ⟨by unfold mkL; rw [if_pos he], fun c {a b d} => by unfold mkC; rw [if_pos he]⟩
 have HC : Hid (∀ w1, Below w.heap.size w w1 → Calls Tryz.prog 21 #[pM' m, .int .i64 (i : Int)] w1 (RMk W m mo (fun c => mkC s (nx0 c y.wh y.has false) y) O s.C.length y.er y.cs (mkL s y) w)) := fun w1 hb => (rcancels_ok (h.later hb) v hy hC).mono fun e w' h => h.from hb
 have HCL := Lib.hid hC
 clear h v hy hC
 cases hh : y.has with
 | false =>
  go_enter Tryz.func23, Tryz.ntmps23
  go_wp2_with fail
  refine (F60 w).mono ?_
  rintro e w' ⟨rfl, rfl⟩
  go_wp2_with fail
  refine (HI.out _ (Below.refl _ _)).mono ?_
  rintro e w' ⟨rfl, rfl⟩
  go_wp2_with fail
  refine (HA.out _ (Below.refl _ _)).mono ?_
  rintro e wa ⟨qa, rfl, hba, xa7, xa8⟩
  rw [hh] at xa8
  go_wp2_with fail
  refine (HC.out _ hba.out).mono ?_
  rintro e wc ⟨P1, n1, c1, c, h4, rfl, h5, h6⟩
  obtain ⟨O4, r4, hs4, fm4⟩ := h5.out
  have v4 : IW R (addS s (nx0 c y.wh y.has false) (y.nd : Int) true) := by rw [← HMM.out.2 c]; exact HV.out.mkn HY.out HCL.out c _ _ _
  have r4 : RC W m mo (addS s (nx0 c y.wh y.has false) (y.nd : Int) true) O4 wc := by rw [← HMM.out.2 c]; exact r4
  have hx4 : (addS s (nx0 c y.wh y.has false) (y.nd : Int) true).C[s.C.length]? = some (nw (nx0 c y.wh y.has false) s.T.length) := addS_new
  have HAT : Hid (Calls Tryz.prog 57 #[pM' m, .int .i64 (s.C.length : Int)] wc fun e w1 => ∃ q nl cl, e = .returned (.pointer (some ⟨q, s.T.length * 12, none⟩)) ∧ Hid (Below wc.heap.size wc w1 ∧ RC W m mo (addS s (nx0 c y.wh y.has false) (y.nd : Int) true) O4 w1 ∧ w1.cell? ⟨m, 2, none⟩ = some (.slice (some ⟨q, 0, none⟩) nl cl))) := r4.atw hx4
  have H4 := Lib.hid (And.intro r4 (And.intro hs4 fm4))
  clear r4 hs4 fm4 h5
  go_wp2_with fail
  refine HAT.out.mono ?_
  rintro e wd ⟨q, nl, cl, rfl, hd⟩
  clear HAT
  have hcel := hd.out.2.1.cel hx4 hd.out.2.2
  obtain ⟨⟨x5, x7, x8, x9, x10⟩, xf, k0, hmq⟩ := hcel
  change wd.cell? ⟨q, s.T.length * 12 + 5, none⟩ = some (.int .i64 0) at x5
  change wd.cell? ⟨q, s.T.length * 12 + 7, none⟩ = _ at x7
  change wd.cell? ⟨q, s.T.length * 12 + 8, none⟩ = _ at x8
  change wd.cell? ⟨q, s.T.length * 12 + 9, none⟩ = _ at x9
  have f7 := xf (s.T.length * 12 + 7)
  have f8 := xf (s.T.length * 12 + 8)
  have f9 := xf (s.T.length * 12 + 9)
  have HP : Hid (∀ w3, ((wd.setCell ⟨q, s.T.length * 12 + 7, none⟩ (.int .i64 z)).setCell ⟨q, s.T.length * 12 + 8, none⟩ (.bool true)).setCell ⟨q, s.T.length * 12 + 9, none⟩ (.bool true) = w3 → RC W m mo (addS s (nx0 c z true true) (y.nd : Int) true) O4 w3 ∧ Tn O4 wd w3 ∧ w3.cell? ⟨m, 2, none⟩ = some (.slice (some ⟨q, 0, none⟩) nl cl)) := fun w3 e3 => by
   have := hd.out.2.1.put3 (c := c) hx4 rfl hd.out.2.2 z v4.r.ck v4.r.ak e3
   rw [tld_S] at this
   exact this
  have HFA : Hid (∀ w3, ((wd.setCell ⟨q, s.T.length * 12 + 7, none⟩ (.int .i64 z)).setCell ⟨q, s.T.length * 12 + 8, none⟩ (.bool true)).setCell ⟨q, s.T.length * 12 + 9, none⟩ (.bool true) = w3 → Calls Tryz.prog 61 #[.pointer (some ⟨mo, 0, none⟩), .int .i64 z, .int .i64 (s.C.length : Int)] w3 fun e w5 => e = .returned (.tuple #[.int .i64 (s.E.length : Int), .int .i64 0]) ∧ w5.cell? ⟨q, s.T.length * 12 + 10, none⟩ = some (.int .i64 (-1)) ∧ w5.frozen? ⟨q, s.T.length * 12 + 10, none⟩ = false ∧ Hid (RG W m mo (dlS (some 0) s (nx0 c z true true) (y.nd : Int) z) O w (w5.setCell ⟨q, s.T.length * 12 + 10, none⟩ (.int .i64 (s.E.length : Int))))) := fun w3 e3 => by
   obtain ⟨p1, p2, p3⟩ := HP.out _ e3
   obtain ⟨-, -, g3⟩ := dl_pack H4.out.1 H4.out.2.1 H4.out.2.2 hd.out.1 p1 p2 h6.out
   refine (p1.lps HV.out HY.out HCL.out (Below.refl _ _) hzi).mono ?_
   rintro e w5 ⟨rfl, hh5⟩
   obtain ⟨t1, t2, t3⟩ := hh5.out
   have hq5 := t3.trans p3
   have v5 := HV.out.add (x := nx0 c z true true) HY.out HCL.out true ⟨rfl, rfl, rfl⟩ fun _ => ⟨c, rfl⟩
   have hx5 : (addS s (nx0 c z true true) (y.nd : Int) true).C[s.C.length]? = some (nw (nx0 c z true true) s.T.length) := addS_new
   obtain ⟨⟨-, -, -, -, y10⟩, yf, -, -⟩ := t1.cel hx5 hq5
   obtain ⟨d1, d2, -⟩ := t1.putq (c := c) (j := 10) (u := .int .i64 (s.E.length : Int)) (y := { nw (nx0 c z true true) s.T.length with lp := (s.E.length : Int) }) hx5 rfl hq5 (by decide) ⟨rfl, rfl, rfl⟩ rfl v5.r.ck v5.r.ak
   rw [lps_S s c 0] at d1
   exact ⟨rfl, y10, yf _, ⟨O4, d1, H4.out.2.1, (g3.comp t2 H4.out.2.1).comp (Rm.of_tn d2) H4.out.2.1⟩⟩
  go_wp2_with fail
  refine (HFA.out _ rfl).mono ?_
  rintro e w5 ⟨rfl, y10, yf, hg⟩
  go_wp2_with fail
  go_ret3
  exact ⟨none, 0, 0, c, by rw [HMM.out.1]; rfl, rfl, hg, by rw [HMM.out.1]; exact LRt.nil _ _ _ _ _⟩
 | true =>
  have hcmp : ¬ y.wh ≤ z := fun h9 => hn ⟨hh, h9⟩
  go_enter Tryz.func23, Tryz.ntmps23
  go_wp2_with fail
  refine (F60 w).mono ?_
  rintro e w' ⟨rfl, rfl⟩
  go_wp2_with fail
  refine (HI.out _ (Below.refl _ _)).mono ?_
  rintro e w' ⟨rfl, rfl⟩
  go_wp2_with fail
  refine (HA.out _ (Below.refl _ _)).mono ?_
  rintro e wa ⟨qa, rfl, hba, xa7, xa8⟩
  rw [hh] at xa8
  go_wp2_with fail
  refine (HA.out _ hba.out).mono ?_
  rintro e wb ⟨qb, rfl, hbb, xb7, xb8⟩
  go_wp2_with fail
  refine (HC.out _ hbb.out).mono ?_
  rintro e wc ⟨P1, n1, c1, c, h4, rfl, h5, h6⟩
  obtain ⟨O4, r4, hs4, fm4⟩ := h5.out
  have v4 : IW R (addS s (nx0 c y.wh y.has false) (y.nd : Int) true) := by rw [← HMM.out.2 c]; exact HV.out.mkn HY.out HCL.out c _ _ _
  have r4 : RC W m mo (addS s (nx0 c y.wh y.has false) (y.nd : Int) true) O4 wc := by rw [← HMM.out.2 c]; exact r4
  have hx4 : (addS s (nx0 c y.wh y.has false) (y.nd : Int) true).C[s.C.length]? = some (nw (nx0 c y.wh y.has false) s.T.length) := addS_new
  have HAT : Hid (Calls Tryz.prog 57 #[pM' m, .int .i64 (s.C.length : Int)] wc fun e w1 => ∃ q nl cl, e = .returned (.pointer (some ⟨q, s.T.length * 12, none⟩)) ∧ Hid (Below wc.heap.size wc w1 ∧ RC W m mo (addS s (nx0 c y.wh y.has false) (y.nd : Int) true) O4 w1 ∧ w1.cell? ⟨m, 2, none⟩ = some (.slice (some ⟨q, 0, none⟩) nl cl))) := r4.atw hx4
  have H4 := Lib.hid (And.intro r4 (And.intro hs4 fm4))
  clear r4 hs4 fm4 h5
  go_wp2_with fail
  refine HAT.out.mono ?_
  rintro e wd ⟨q, nl, cl, rfl, hd⟩
  clear HAT
  have hcel := hd.out.2.1.cel hx4 hd.out.2.2
  obtain ⟨⟨x5, x7, x8, x9, x10⟩, xf, k0, hmq⟩ := hcel
  change wd.cell? ⟨q, s.T.length * 12 + 5, none⟩ = some (.int .i64 0) at x5
  change wd.cell? ⟨q, s.T.length * 12 + 7, none⟩ = _ at x7
  change wd.cell? ⟨q, s.T.length * 12 + 8, none⟩ = _ at x8
  change wd.cell? ⟨q, s.T.length * 12 + 9, none⟩ = _ at x9
  have f7 := xf (s.T.length * 12 + 7)
  have f8 := xf (s.T.length * 12 + 8)
  have f9 := xf (s.T.length * 12 + 9)
  have HP : Hid (∀ w3, ((wd.setCell ⟨q, s.T.length * 12 + 7, none⟩ (.int .i64 z)).setCell ⟨q, s.T.length * 12 + 8, none⟩ (.bool true)).setCell ⟨q, s.T.length * 12 + 9, none⟩ (.bool true) = w3 → RC W m mo (addS s (nx0 c z true true) (y.nd : Int) true) O4 w3 ∧ Tn O4 wd w3 ∧ w3.cell? ⟨m, 2, none⟩ = some (.slice (some ⟨q, 0, none⟩) nl cl)) := fun w3 e3 => by
   have := hd.out.2.1.put3 (c := c) hx4 rfl hd.out.2.2 z v4.r.ck v4.r.ak e3
   rw [tld_S] at this
   exact this
  have HFA : Hid (∀ w3, ((wd.setCell ⟨q, s.T.length * 12 + 7, none⟩ (.int .i64 z)).setCell ⟨q, s.T.length * 12 + 8, none⟩ (.bool true)).setCell ⟨q, s.T.length * 12 + 9, none⟩ (.bool true) = w3 → Calls Tryz.prog 61 #[.pointer (some ⟨mo, 0, none⟩), .int .i64 z, .int .i64 (s.C.length : Int)] w3 fun e w5 => e = .returned (.tuple #[.int .i64 (s.E.length : Int), .int .i64 0]) ∧ w5.cell? ⟨q, s.T.length * 12 + 10, none⟩ = some (.int .i64 (-1)) ∧ w5.frozen? ⟨q, s.T.length * 12 + 10, none⟩ = false ∧ Hid (RG W m mo (dlS (some 0) s (nx0 c z true true) (y.nd : Int) z) O w (w5.setCell ⟨q, s.T.length * 12 + 10, none⟩ (.int .i64 (s.E.length : Int))))) := fun w3 e3 => by
   obtain ⟨p1, p2, p3⟩ := HP.out _ e3
   obtain ⟨-, -, g3⟩ := dl_pack H4.out.1 H4.out.2.1 H4.out.2.2 hd.out.1 p1 p2 h6.out
   refine (p1.lps HV.out HY.out HCL.out (Below.refl _ _) hzi).mono ?_
   rintro e w5 ⟨rfl, hh5⟩
   obtain ⟨t1, t2, t3⟩ := hh5.out
   have hq5 := t3.trans p3
   have v5 := HV.out.add (x := nx0 c z true true) HY.out HCL.out true ⟨rfl, rfl, rfl⟩ fun _ => ⟨c, rfl⟩
   have hx5 : (addS s (nx0 c z true true) (y.nd : Int) true).C[s.C.length]? = some (nw (nx0 c z true true) s.T.length) := addS_new
   obtain ⟨⟨-, -, -, -, y10⟩, yf, -, -⟩ := t1.cel hx5 hq5
   obtain ⟨d1, d2, -⟩ := t1.putq (c := c) (j := 10) (u := .int .i64 (s.E.length : Int)) (y := { nw (nx0 c z true true) s.T.length with lp := (s.E.length : Int) }) hx5 rfl hq5 (by decide) ⟨rfl, rfl, rfl⟩ rfl v5.r.ck v5.r.ak
   rw [lps_S s c 0] at d1
   exact ⟨rfl, y10, yf _, ⟨O4, d1, H4.out.2.1, (g3.comp t2 H4.out.2.1).comp (Rm.of_tn d2) H4.out.2.1⟩⟩
  go_wp2_with fail
  refine (HFA.out _ rfl).mono ?_
  rintro e w5 ⟨rfl, y10, yf, hg⟩
  go_wp2_with fail
  go_ret3
  exact ⟨none, 0, 0, c, by rw [HMM.out.1]; rfl, rfl, hg, by rw [HMM.out.1]; exact LRt.nil _ _ _ _ _⟩
set_option maxHeartbeats 16000000 in
theorem rdeadline_none {k : Int} (wh now : Int) (h : RC W m mo s O w) (hk : k < 0 ∨ (s.C.length : Int) ≤ k) : Calls Tryz.prog 23 #[pM' m, .int .i64 k, .int .i64 wh, .int .i64 now] w fun e w' => e = .returned (mk3 4) ∧ w = w' := by
 have F60 := fun w => rlate_any wh w
 have HC := Lib.hid (rcancels_none h hk)
 have HI : Hid (Calls Tryz.prog 56 #[pM' m, .int .i64 k] w fun e w' => e = .returned (.bool false) ∧ w = w') := by
  obtain ⟨⟨N, o, hr, r, e⟩, t⟩ := h
  have := rcin_any hr k
  rw [decide_eq_false (by omega)] at this
  exact this
 clear h hk
 go_enter Tryz.func23, Tryz.ntmps23
 go_wp2_with fail
 refine (F60 w).mono ?_
 rintro e w' ⟨rfl, rfl⟩
 go_wp2_with fail
 refine HI.out.mono ?_
 rintro e w' ⟨rfl, rfl⟩
 go_wp2_with fail
 refine HC.out.mono ?_
 rintro e w' ⟨rfl, rfl⟩
 go_wp2_with fail
 go_ret3
 exact ⟨rfl, rfl⟩
set_option maxHeartbeats 16000000 in
theorem rdeadline_full (wh now : Int) (h : RC W m mo s O w) (hy : s.C[i]? = some y) (hC : s.C.length = 64) : Calls Tryz.prog 23 #[pM' m, .int .i64 (i : Int), .int .i64 wh, .int .i64 now] w fun e w' => e = .returned (mk3 3) ∧ Hid (Below w.heap.size w w') := by
 have v : True := trivial
 have hi := (List.getElem?_eq_some_iff.1 hy).1
 have HW := h.bel.size
 have F60 := fun w => rlate_any wh w
 have HH := Lib.hid h
 have HY := Lib.hid hy
 have HI : Hid (∀ w1, Below w.heap.size w w1 → Calls Tryz.prog 56 #[pM' m, .int .i64 (i : Int)] w1 fun e w' => e = .returned (.bool true) ∧ w1 = w') := fun w1 hb => by
  obtain ⟨⟨N, o, hr, r, e⟩, t⟩ := h.later hb
  have := rcin_any hr (i : Int)
  rw [decide_eq_true (by omega)] at this
  exact this
 have HA : Hid (∀ w1, Below w.heap.size w w1 → Calls Tryz.prog 57 #[pM' m, .int .i64 (i : Int)] w1 fun e w2 => ∃ q, e = .returned (.pointer (some ⟨q, y.nd * 12, none⟩)) ∧ Hid (Below w.heap.size w w2) ∧ w2.cell? ⟨q, y.nd * 12 + 7, none⟩ = some (.int .i64 y.wh) ∧ w2.cell? ⟨q, y.nd * 12 + 8, none⟩ = some (.bool y.has)) := fun w1 hb => by
  refine ((h.later hb).at12 hy).mono ?_
  rintro e w2 ⟨q, q2, cX, rfl, h1, ⟨x0, x1, x2, x3, x4, x5, x6, x7, x8, x9, x10, x11⟩, -, -⟩
  exact ⟨q, rfl, hb.trans (h1.out.mono hb.size), x7, x8⟩
 obtain ⟨z, hzz⟩ : ∃ z, hz wh = z := ⟨_, rfl⟩
 have hzi : hz z = z := by rw [← hzz, hz_hz]
 rw [hzz] at F60
 have HC : Hid (∀ w1, Below w.heap.size w w1 → Calls Tryz.prog 21 #[pM' m, .int .i64 (i : Int)] w1 fun e w' => e = .returned (mk3 3) ∧ w1 = w') := fun w1 hb => rcancels_full (h.later hb) hi hC
 clear h hy hC
 by_cases hn : y.has = true ∧ y.wh ≤ z
 · obtain ⟨hh, h2⟩ := hn
   go_enter Tryz.func23, Tryz.ntmps23
   go_wp2_with fail
   refine (F60 w).mono ?_
   rintro e w' ⟨rfl, rfl⟩
   go_wp2_with fail
   refine (HI.out _ (Below.refl _ _)).mono ?_
   rintro e w' ⟨rfl, rfl⟩
   go_wp2_with fail
   refine (HA.out _ (Below.refl _ _)).mono ?_
   rintro e wa ⟨qa, rfl, hba, xa7, xa8⟩
   rw [hh] at xa8
   go_wp2_with fail
   refine (HA.out _ hba.out).mono ?_
   rintro e wb ⟨qb, rfl, hbb, xb7, xb8⟩
   go_wp2_with fail
   refine (HC.out _ hbb.out).mono ?_
   rintro e wc ⟨rfl, rfl⟩
   go_wp2_with fail
   go_ret3
   exact ⟨rfl, hbb⟩
 · have hn : ¬ (y.has = true ∧ y.wh ≤ z) := hn
   cases hh : y.has with
   | false =>
    go_enter Tryz.func23, Tryz.ntmps23
    go_wp2_with fail
    refine (F60 w).mono ?_
    rintro e w' ⟨rfl, rfl⟩
    go_wp2_with fail
    refine (HI.out _ (Below.refl _ _)).mono ?_
    rintro e w' ⟨rfl, rfl⟩
    go_wp2_with fail
    refine (HA.out _ (Below.refl _ _)).mono ?_
    rintro e wa ⟨qa, rfl, hba, xa7, xa8⟩
    rw [hh] at xa8
    go_wp2_with fail
    refine (HC.out _ hba.out).mono ?_
    rintro e wc ⟨rfl, rfl⟩
    go_wp2_with fail
    go_ret3
    exact ⟨rfl, hba⟩
   | true =>
    have hcmp : ¬ y.wh ≤ z := fun h9 => hn ⟨hh, h9⟩
    go_enter Tryz.func23, Tryz.ntmps23
    go_wp2_with fail
    refine (F60 w).mono ?_
    rintro e w' ⟨rfl, rfl⟩
    go_wp2_with fail
    refine (HI.out _ (Below.refl _ _)).mono ?_
    rintro e w' ⟨rfl, rfl⟩
    go_wp2_with fail
    refine (HA.out _ (Below.refl _ _)).mono ?_
    rintro e wa ⟨qa, rfl, hba, xa7, xa8⟩
    rw [hh] at xa8
    go_wp2_with fail
    refine (HA.out _ hba.out).mono ?_
    rintro e wb ⟨qb, rfl, hbb, xb7, xb8⟩
    go_wp2_with fail
    refine (HC.out _ hbb.out).mono ?_
    rintro e wc ⟨rfl, rfl⟩
    go_wp2_with fail
    go_ret3
    exact ⟨rfl, hbb⟩
end
end Go.Proofs.YtdpapnfjpefhkaaGreat
namespace Go.Proofs.YtdpapnfjpefhkaaGreat
open Go.RowKit Tr
set_option linter.unusedVariables false
set_option maxRecDepth 100000
structure IX (R : Nat) (s : St) : Prop where
 iw : IW R s
 ft : ∀ x ∈ s.S, Fit x.w
 ow : ∀ (i : Nat) (x : Cx), s.C[i]? = some x → x.own = true → ∃ c, x.ch = some c
section
variable {R R' : Nat} {s : St} {x y : Cx} {i j k c : Nat} {er cs pg z : Int}
theorem app_at {α : Type} {l : List α} {a b : α} {j : Nat} (h : (l ++ [a])[j]? = some b) : l[j]? = some b ∨ (j = l.length ∧ b = a) := by
 rcases Nat.lt_or_ge j l.length with c | c
 · rw [List.getElem?_append_left c] at h; exact .inl h
 · rw [List.getElem?_append_right c] at h
   have hj := (List.getElem?_eq_some_iff.1 h).1
   have hj : j - l.length < 1 := hj
   obtain rfl : j = l.length := by omega
   rw [Nat.sub_self] at h; cases h
   exact .inr ⟨rfl, rfl⟩
theorem IW.up (h : IW R s) (h1 : R ≤ R') (h2 : R' ≤ 1000) : IW R' s := ⟨h.v, h.r, fun i x hx => Nat.le_trans (h.rs i x hx) h1, h2⟩
theorem IX.up (h : IX R s) (h1 : R ≤ R') (h2 : R' ≤ 1000) : IX R' s := ⟨h.iw.up h1 h2, h.ft, h.ow⟩
theorem IX.wo (h : IX R s) (hy : s.C[i]? = some y) (hC : s.C.length < 64) : IX R (addS s nxW (y.nd : Int) false) :=
 ⟨h.iw.add hy hC false ⟨rfl, rfl, rfl⟩ fun e => (by cases e), h.ft, fun j x hx ho => by
  rcases app_at (l := s.C) hx with h1 | ⟨rfl, rfl⟩
  · exact h.ow j x h1 ho
  · cases ho⟩
theorem IX.mkn (h : IX R s) (hy : s.C[i]? = some y) (hC : s.C.length < 64) (c : Nat) (wh : Int) (a b : Bool) : IX R (mkC s (nx0 c wh a b) y) := by
 refine ⟨h.iw.mkn hy hC c wh a b, fun x hx => h.ft x ?_, fun j x hx ho => ?_⟩
 · unfold mkC at hx
   split at hx <;> exact hx
 · unfold mkC at hx
   split at hx
   · rcases app_at (l := s.C) hx with h1 | ⟨rfl, rfl⟩
     · exact h.ow j x h1 ho
     · exact ⟨c, rfl⟩
   · rcases app_at (l := s.C) hx with h1 | ⟨rfl, rfl⟩
     · exact h.ow j x h1 ho
     · exact ⟨c, rfl⟩
theorem fold_C {P : Cx → Prop} (hP : ∀ x, P x → P (ended x er cs)) : ∀ (ws : List Nat) (s : St), (∀ (i : Nat) (x : Cx), s.C[i]? = some x → P x) → ∀ (i : Nat) (x : Cx), (cfold er cs ws s).1.C[i]? = some x → P x
 | [], s, h => h
 | k :: r, s, h => fold_C hP r (cst er cs s k) (by
  intro i x hx
  unfold cst at hx
  split at hx
  · split at hx
    · rename_i j h1 y hy
      rcases set_at hx with ⟨_, rfl⟩ | ⟨_, h2⟩
      · exact hP _ (h _ y hy)
      · exact h i x h2
    · exact h i x hx
  · exact h i x hx)
theorem fold_S : ∀ (ws : List Nat) (s : St) (z : It), z ∈ (cfold er cs ws s).1.S → z ∈ s.S
 | [], s, z, h => h
 | k :: r, s, z, h => by
  have h1 := fold_S r (cst er cs s k) z h
  unfold cst at h1
  split at h1
  · split at h1
    · exact (List.mem_filter.1 h1).1
    · exact h1
  · exact h1
theorem IX.cn (h : IX R s) (hx : s.C[i]? = some x) (hc : ∃ c, x.ch = some c) (he : er ≠ 0) : IX R (cnS s x er cs).1 := by
 have v := h.iw.v.cn (cs := cs) hx hc he
 unfold cnS at v ⊢
 by_cases h0 : x.er ≠ 0
 · rw [if_pos h0]; exact h
 · rw [if_neg h0] at v ⊢
   have key := fold_C (er := er) (cs := cs) (P := fun x => x.rs.length ≤ R ∧ (x.own = true → ∃ c, x.ch = some c)) (fun x hx => ⟨Nat.zero_le _, hx.2⟩) (Tr.walk s.T x.nd) s fun i x hx => ⟨h.iw.rs i x hx, h.ow i x hx⟩
   exact ⟨⟨v, h.iw.r.fold _, fun j y hy => (key j y hy).1, h.iw.hR⟩, fun z hz => h.ft z (fold_S _ _ z hz), fun j y hy => (key j y hy).2⟩
theorem RI.af (h : RI s) (v : Inv s) (hy : s.C[i]? = some y) (pg : Int) : RI (afS s y pg) := by
 have hK := v.kl
 have hn := v.ndlt hy
 have hT : s.T.length ≤ 128 := by have := v.tl; have := v.cl; have := v.al; omega
 refine ⟨h.wf.push (by omega) (by omega) (by omega), by show (s.T ++ _).length ≤ 1000; simp; omega, fun j z hz => ?_, fun j a ha => ?_, h.ok, h.sl, h.el, h.sp, h.en, fun j q hj => ?_⟩
 · show (s.K ++ _)[z.nd]? = _
   rw [List.getElem?_append_left (by rw [hK]; exact v.ndlt hz)]; exact v.ck j z hz
 · show (s.K ++ _)[a.nd]? = _
   rcases app_at (l := s.A) ha with h1 | ⟨rfl, rfl⟩
   · have h2 := v.ak j a h1
     rw [List.getElem?_append_left (List.getElem?_eq_some_iff.1 h2).1]; exact h2
   · show (s.K ++ _)[s.T.length]? = _
     rw [← hK]; simp
 · show ∃ i, (s.K ++ _)[q]? = some ⟨false, i⟩
   rcases app_at (l := s.T) hj with h1 | ⟨rfl, h1⟩
   · obtain ⟨a, h2⟩ := h.pk j q h1
     exact ⟨a, by rw [List.getElem?_append_left (List.getElem?_eq_some_iff.1 h2).1]; exact h2⟩
   · injection h1 with h1 _
     obtain rfl : q = y.nd := by omega
     have h2 := v.ck i y hy
     exact ⟨i, by rw [List.getElem?_append_left (List.getElem?_eq_some_iff.1 h2).1]; exact h2⟩
theorem IX.af (h : IX R s) (hy : s.C[i]? = some y) (hA : s.A.length < 64) (pg : Int) : IX R (afS s y pg) := ⟨⟨h.iw.v.af hy hA pg, h.iw.r.af h.iw.v hy pg, h.iw.rs, h.iw.hR⟩, h.ft, h.ow⟩
theorem IX.un (h : IX R s) (k : Nat) : IX R { s with T := Tr.cut s.T k } := ⟨⟨h.iw.v.un k, h.iw.r.ct k, h.iw.rs, h.iw.hR⟩, h.ft, h.ow⟩
theorem IX.dl (h : IX R s) (hy : s.C[i]? = some y) (hC : s.C.length < 64) (c t0 : Nat) (hz : Fit z) : IX R (dlS (some t0) s (nx0 c z true true) (y.nd : Int) z) := by
 have v := h.iw.v
 have r1 := h.iw.r.addS v hy true (nx0 c z true true)
 have hids : (s.E.length : Int) ∉ ids s.S := fun hm => by
  obtain ⟨q, h1, h2⟩ := List.mem_map.1 hm
  have := (h.iw.r.sp q h1).2; omega
 have hs : (lpS (some t0) s.E s.n s.S z) = ins ⟨(s.E.length : Int), z, (s.n : Int) + 1⟩ s.S := rfl
 have hl := v.sl; have hl2 := v.el; have hl3 := v.cl
 refine ⟨⟨v.dl hy hC c z, ⟨r1.wf, r1.tl, fun j q hq => ?_, r1.ak, h.iw.r.ok.ins _ _ hids, ?_, ?_, fun q hq => ?_, fun q hq => ?_, r1.pk⟩, fun j q hq => ?_, h.iw.hR⟩, fun q hq => ?_, fun j q hq ho => ?_⟩
 · rcases app_at (l := s.C) hq with h1 | ⟨rfl, rfl⟩
   · exact r1.ck j q (by show (s.C ++ _)[j]? = _; rw [List.getElem?_append_left (List.getElem?_eq_some_iff.1 h1).1]; exact h1)
   · exact r1.ck s.C.length (nw (nx0 c z true true) s.T.length) (by show (s.C ++ _)[_]? = _; simp)
 · show (ins _ s.S).length ≤ 999
   rw [ins_len]; omega
 · show (s.E ++ _).length ≤ 1000
   simp; omega
 · have el : (dlS (some t0) s (nx0 c z true true) (y.nd : Int) z).E.length = s.E.length + 1 := by show (s.E ++ _).length = _; simp
   rw [el]
   rcases ins_mem.1 (show q ∈ ins _ s.S from hq) with rfl | h1
   · exact ⟨by show (0 : Int) ≤ (s.E.length : Int); omega, by show (s.E.length : Int) < _; omega⟩
   · have := h.iw.r.sp q h1; omega
 · rcases List.mem_append.1 (show q ∈ s.E ++ [(⟨4, s.C.length, none, 1⟩ : On)] from hq) with h1 | h1
   · exact h.iw.r.en q h1
   · simp at h1; subst h1; exact ⟨rfl, rfl⟩
 · rcases app_at (l := s.C) hq with h1 | ⟨rfl, rfl⟩
   · exact h.iw.rs j q h1
   · exact Nat.zero_le _
 · rcases ins_mem.1 (show q ∈ ins _ s.S from hq) with rfl | h1
   · exact hz
   · exact h.ft q h1
 · rcases app_at (l := s.C) hq with h1 | ⟨rfl, rfl⟩
   · exact h.ow j q h1 ho
   · exact ⟨c, rfl⟩
theorem IX.fire {q : It} {r : List It} (h : IX R s) (hS : s.S = q :: r) : IX R { s with S := r } := by
 have v := h.iw.v
 have hsub : ∀ a ∈ r, a ∈ s.S := fun a ha => by rw [hS]; simp [ha]
 have hl : r.length ≤ s.S.length := by rw [hS]; simp
 have ok := h.iw.r.ok
 rw [hS] at ok
 refine ⟨⟨⟨v.wf, v.kl, v.tl, v.cl, v.al, v.el, Nat.le_trans hl v.sl, v.nl, fun a ha => v.sp a (hsub a ha), v.kc, v.ka, v.ck, v.ak, v.lv, v.cx⟩, ⟨h.iw.r.wf, h.iw.r.tl, h.iw.r.ck, h.iw.r.ak, ok.tail.2, Nat.le_trans hl h.iw.r.sl, h.iw.r.el, fun a ha => h.iw.r.sp a (hsub a ha), h.iw.r.en, h.iw.r.pk⟩, h.iw.rs, h.iw.hR⟩, fun a ha => h.ft a (hsub a ha), h.ow⟩
theorem IX.wait (h : IX R s) (hx : s.C[i]? = some x) (hy : y = { x with rs := y.rs }) (hR : y.rs.length ≤ R + 1) (h1 : R + 1 ≤ 1000) : IX (R + 1) { s with C := s.C.set i y } := by
 have v := h.iw.v
 have hnd : y.nd = x.nd := by rw [hy]
 have hch : y.ch = x.ch := by rw [hy]
 have her : y.er = x.er := by rw [hy]
 have hcl : y.cl = x.cl := by rw [hy]
 have how : y.own = x.own := by rw [hy]
 have hi := (List.getElem?_eq_some_iff.1 hx).1
 have up : ∀ (j : Nat) (a : Cx), s.C[j]? = some a → ∃ a', (s.C.set i y)[j]? = some a' ∧ a'.nd = a.nd := fun j a ha => by
  by_cases e : i = j
  · subst e; rw [hx] at ha; cases ha
    exact ⟨y, by rw [List.getElem?_set_self hi], hnd⟩
  · exact ⟨a, by rw [List.getElem?_set_ne e]; exact ha, rfl⟩
 have ck : ∀ (j : Nat) (a : Cx), (s.C.set i y)[j]? = some a → s.K[a.nd]? = some (⟨false, j⟩ : Kd) := fun j a ha => by
  rcases set_at ha with ⟨rfl, rfl⟩ | ⟨_, ha⟩
  · rw [hnd]; exact v.ck _ x hx
  · exact v.ck j a ha
 refine ⟨⟨⟨v.wf, v.kl, by show s.T.length = (s.C.set i y).length + _; rw [List.length_set]; exact v.tl, by show (s.C.set i y).length ≤ 64; rw [List.length_set]; exact v.cl, v.al, by show _ ≤ (s.C.set i y).length; rw [List.length_set]; exact v.el, v.sl, v.nl, v.sp, fun k j hk => ?_, v.ka, ck, v.ak, fun j a q ha hq => ?_, fun j a ha => ?_⟩, ⟨h.iw.r.wf, h.iw.r.tl, ck, h.iw.r.ak, h.iw.r.ok, h.iw.r.sl, h.iw.r.el, h.iw.r.sp, h.iw.r.en, h.iw.r.pk⟩, fun j a ha => ?_, h1⟩, h.ft, fun j a ha ho => ?_⟩
 · obtain ⟨a, a1, a2⟩ := v.kc k j hk
   obtain ⟨a', a3, a4⟩ := up j a a1
   exact ⟨a', a3, a4.trans a2⟩
 · rcases set_at ha with ⟨rfl, rfl⟩ | ⟨_, ha⟩
   · rw [hch, her]; exact v.lv _ x q hx (by rw [← hnd]; exact hq)
   · exact v.lv j a q ha hq
 · rcases set_at ha with ⟨rfl, rfl⟩ | ⟨_, ha⟩
   · have := v.cx _ x hx
     rw [hcl, her, hch]
     exact ⟨this.1, this.2.1, by omega⟩
   · exact v.cx j a ha
 · rcases set_at ha with ⟨rfl, rfl⟩ | ⟨_, ha⟩
   · exact hR
   · exact Nat.le_succ_of_le (h.iw.rs j a ha)
 · rcases set_at ha with ⟨rfl, rfl⟩ | ⟨_, ha⟩
   · rw [hch]; exact h.ow _ x hx (by rw [← how]; exact ho)
   · exact h.ow j a ha ho
theorem IX.start : IX 0 (s0 [] 0 []) := by
 have key : ∀ (i : Nat) (x : Cx), ([bg] : List Cx)[i]? = some x → i = 0 ∧ x = bg := fun i x hx => by
  have := (List.getElem?_eq_some_iff.1 hx).1
  have : i < 1 := this
  obtain rfl : i = 0 := by omega
  cases hx; exact ⟨rfl, rfl⟩
 refine ⟨⟨Inv.s0 (by simp) (by simp) (by simp) (fun z hz => by cases hz), ⟨WF.push WF.nil (by omega) (by simp) (by simp), by show (1 : Nat) ≤ 1000; omega, fun i x hx => ?_, fun i a ha => by simp [s0] at ha, Ok.nil 0, by show (0 : Nat) ≤ 999; omega, by show (0 : Nat) ≤ 1000; omega, fun z hz => (by cases hz), fun z hz => (by cases hz), fun j q hj => ?_⟩, fun i x hx => ?_, by omega⟩, fun z hz => (by cases hz), fun i x hx ho => ?_⟩
 · obtain ⟨rfl, rfl⟩ := key i x hx
   rfl
 · have hj : ([(-1, false)] : TS)[j]? = some ((q : Int), true) := hj
   have := (List.getElem?_eq_some_iff.1 hj).1
   have : j < 1 := this
   obtain rfl : j = 0 := by omega
   simp at hj
 · obtain ⟨rfl, rfl⟩ := key i x hx
   exact Nat.le_refl _
 · obtain ⟨rfl, rfl⟩ := key i x hx
   cases ho
end
end Go.Proofs.YtdpapnfjpefhkaaGreat
namespace Go.Proofs.YtdpapnfjpefhkaaGreat
open Go.RowKit Tr
set_option linter.unusedVariables false
set_option maxRecDepth 100000
section
variable {W w w' : World} {m mo : Nat}
theorem MT.start {rA rN : Value} (w : World) {B : Nat} (h : B ≤ w.heap.size) : MT B w.heap.size rA rN none 0 [] (fun _ => 0) (w.alloc (.cells #[.slice none 0 0, .int .i64 0, .slice none 0 0, rA, rN] 68)) :=
 ⟨none, 0, none, 0, [], rfl, ⟨⟨heap_alloc_new w _, Wn.nil _ _ _ _ (by omega), h, .inl ⟨rfl, rfl⟩, by decide, by decide, by decide⟩, World.ownsRow_nil _ _ _ _, fun h0 => absurd h0 (by simp)⟩, List.nodup_nil, fun k => Iff.rfl, fun x h => (by cases h)⟩
theorem RS.start {W : World} (w : World) (h : W.heap.size ≤ w.heap.size) : RS W w.heap.size [] 0 0 [] z0 (w.alloc (.cells #[.slice none 0 0, .int .i64 0, .slice none 0 0, .slice none 0 0, .int .i64 0] 68)) :=
 ⟨none, none, 0, MT.start w h, World.ownsRow_nil _ _ _ _⟩
abbrev nC (mo : Nat) : Obj := .cells #[.pointer (some ⟨mo, 0, none⟩), .slice none 0 0, .slice none 0 0, .slice none 0 0, .slice none 0 0] 152
theorem RM.start (hb : Below W.heap.size W w) : RM W w.heap.size mo [] [] [] [] ⟨none, 0, none, 0, none, 0, none, 0⟩ (w.alloc (nC mo)) :=
 ⟨hb.trans ((below_al w _).mono hb.size), ⟨heap_alloc_new w _, World.ownsRow_nil _ _ _ _⟩, World.ownsRow_nil _ _ _ _, World.ownsRow_nil _ _ _ _, World.ownsRow_nil _ _ _ _, hb.size, fun k hk => by (rcases hk with hk | hk | hk | hk <;> cases hk), fun k hk => (by cases hk), fun i x c h => (by simp at h), fun i j x y c h => (by simp at h)⟩
theorem NR.start : NR [(-1, false)] [bg] [] [ndC 0 bg] := ⟨rfl, fun i x h => by
 have := (List.getElem?_eq_some_iff.1 h).1
 have : i < 1 := this
 obtain rfl : i = 0 := by omega
 cases h; rfl, fun j a h => by simp at h⟩
theorem rnewctx (t : RS W mo [] 0 0 [] z0 w) (hb : Below W.heap.size W w) : Calls Tryz.prog 20 #[.pointer (some ⟨mo, 0, none⟩)] w fun e w' => e = .returned (pM' w.heap.size) ∧ Hid (∃ O, RC W w.heap.size mo (s0 [] 0 []) O w' ∧ (∀ k, O k → w.heap.size ≤ k) ∧ Below w.heap.size w w') := by
 have h0 := RM.start (mo := mo) hb
 have HC : Hid (Calls Tryz.prog 55 #[pM' w.heap.size, .int .i64 (-1), .bool false, .agg nB] (w.alloc (nC mo)) fun e w' => e = .returned (.int .i64 0) ∧ Hid (∃ O, RC W w.heap.size mo (s0 [] 0 []) O w' ∧ (∀ k, O k → w.heap.size ≤ k) ∧ Below w.heap.size w w')) := by
  refine (radd_any' (x := bg) (pr := -1) (l := false) (l2 := false) h0 rfl ⟨by omega, by simp⟩ rfl (by simp) (by simp) (by simp) (NX.none rfl)).mono ?_
  rintro e w' ⟨rfl, hR⟩
  obtain ⟨o', r1, r2, r3⟩ := hR.out
  have low : ∀ k, oR w.heap.size ⟨none, 0, none, 0, none, 0, none, 0⟩ [] k → k = w.heap.size := fun k hk => by
   rcases hk with hk | hk | hk | hk | hk | ⟨i, x, hk, _⟩
   · exact hk
   · cases hk
   · cases hk
   · cases hk
   · cases hk
   · simp at hk
  refine ⟨rfl, oR w.heap.size o' [bg], ⟨⟨_, o', r1, NR.start, fun k => Iff.rfl⟩, ?_⟩, fun k hk => ?_, ?_⟩
  · exact RS.tn (t.later (below_al w _)) (fun k hk => h0.tag hk) r2
  · rcases r3 k hk with h1 | h1 | h1
    · rw [low k h1]; exact Nat.le_refl _
    · rw [World.size_alloc] at h1; omega
    · cases h1
  · exact (below_al w _).trans (r2.below (by simp) fun k hk => by rw [low k hk]; exact Nat.le_refl _)
 clear h0 t
 go_enter Tryz.func20, Tryz.ntmps20
 go_wp2_with fail
 refine HC.out.mono ?_
 rintro e w2 ⟨rfl, hR⟩
 go_wp2_with fail
 go_ret
 exact ⟨rfl, hR⟩
end
end Go.Proofs.YtdpapnfjpefhkaaGreat
namespace Go.Proofs.YtdpapnfjpefhkaaGreat
open Go.RowKit Tr
set_option linter.unusedVariables false
set_option maxRecDepth 100000
def er0 (x : Cx) : Cx := { x with ch := x.ch.map fun _ => 0 }
def eS (s : St) : St := { s with C := s.C.map er0 }
section
variable {s s2 d : St} {x y : Cx} {i : Nat} {er cs : Int}
theorem eS_len (s : St) : (eS s).C.length = s.C.length := by simp [eS]
theorem eS_at (h : s.C[i]? = some x) : (eS s).C[i]? = some (er0 x) := by simp [eS, h]
theorem eS_back (h : (eS s).C[i]? = some y) : ∃ x, s.C[i]? = some x ∧ er0 x = y := by simpa [eS] using h
theorem er0_ended (x : Cx) (er cs : Int) : er0 (ended x er cs) = ended (er0 x) er cs := rfl
theorem er0_nw (x : Cx) (n : Nat) : er0 (nw x n) = nw (er0 x) n := rfl
theorem er0_live (x : Cx) : (∃ c, (er0 x).ch = some c) ↔ ∃ c, x.ch = some c := by
 unfold er0
 cases x.ch <;> simp
theorem eS_addS (s : St) (x : Cx) (ab : Int) (l : Bool) : eS (addS s x ab l) = addS (eS s) (er0 x) ab l := by
 unfold addS eS
 simp [er0_nw]
theorem eS_addD (s : St) (x : Cx) (ab er cs : Int) : eS (addD s x ab er cs) = addD (eS s) (er0 x) ab er cs := by
 unfold addD eS
 simp [er0_ended]
 try rfl
theorem eS_mkC (s : St) (x y : Cx) : eS (mkC s x y) = mkC (eS s) (er0 x) (er0 y) := by
 unfold mkC
 show eS (if y.er = 0 then _ else _) = if y.er = 0 then _ else _
 split
 · exact eS_addS _ _ _ _
 · exact eS_addD _ _ _ _ _
theorem eS_mkL (s : St) (y : Cx) : mkL (eS s) (er0 y) = mkL s y := by
 unfold mkL
 rw [eS_len]; rfl
theorem eS_dlS (p : Option Nat) (s : St) (x : Cx) (ab z : Int) : eS (dlS p s x ab z) = dlS p (eS s) (er0 x) ab z := by
 unfold dlS addS eS
 simp
 rfl
theorem eS_afS (s : St) (x : Cx) (pg : Int) : eS (afS s x pg) = afS (eS s) (er0 x) pg := rfl
theorem eS_set (s : St) (i : Nat) (x : Cx) : eS { s with C := s.C.set i x } = { eS s with C := (eS s).C.set i (er0 x) } := by
 unfold eS
 simp [List.map_set]
theorem eS_cst (er cs : Int) (s : St) (k : Nat) : eS (cst er cs s k) = cst er cs (eS s) k := by
 cases hz : s.K[k]? with
 | none => unfold cst; rw [show (eS s).K[k]? = none from hz, hz]; rfl
 | some z =>
  obtain ⟨af, j⟩ := z
  cases af with
  | true => rw [cst_af hz, cst_af (s := eS s) hz]; rfl
  | false =>
   cases hx : s.C[j]? with
   | some x =>
    rw [cst_cx hz hx, cst_cx (s := eS s) hz (eS_at hx)]
    unfold eS
    simp [List.map_set, er0_ended]
    rfl
   | none =>
    unfold cst
    rw [show (eS s).K[k]? = _ from hz, hz]
    simp only [hx, show (eS s).C[j]? = none from by simp [eS, hx]]
    rfl
theorem eS_clp (s : St) (k : Nat) : clp (eS s) k = clp s k := by
 cases hz : s.K[k]? with
 | none => unfold clp; rw [show (eS s).K[k]? = none from hz, hz]
 | some z =>
  obtain ⟨af, j⟩ := z
  cases af with
  | true => rw [clp_af hz, clp_af (s := eS s) hz]
  | false =>
   cases hx : s.C[j]? with
   | some x => rw [clp_cx hz hx, clp_cx (s := eS s) hz (eS_at hx)]; rfl
   | none =>
    unfold clp
    rw [show (eS s).K[k]? = _ from hz, hz]
    simp only [hx, show (eS s).C[j]? = none from by simp [eS, hx]]
theorem eS_cmp (s : St) (k : Nat) : cmp (eS s) k = cmp s k := rfl
theorem eS_fold (er cs : Int) : ∀ (ws : List Nat) (s : St), eS (cfold er cs ws s).1 = (cfold er cs ws (eS s)).1 ∧ (cfold er cs ws (eS s)).2 = (cfold er cs ws s).2
 | [], s => ⟨rfl, rfl⟩
 | k :: r, s => by
  obtain ⟨h1, h2⟩ := eS_fold er cs r (cst er cs s k)
  rw [eS_cst] at h1 h2
  refine ⟨h1, ?_⟩
  show (clp (eS s) k ++ (cfold er cs r (cst er cs (eS s) k)).2.1, cmp (eS s) k ++ (cfold er cs r (cst er cs (eS s) k)).2.2) = (clp s k ++ (cfold er cs r (cst er cs s k)).2.1, cmp s k ++ (cfold er cs r (cst er cs s k)).2.2)
  rw [h2, eS_clp, eS_cmp]
theorem eS_cn (s : St) (x : Cx) (er cs : Int) : eS (cnS s x er cs).1 = (cnS (eS s) (er0 x) er cs).1 ∧ (cnS (eS s) (er0 x) er cs).2 = (cnS s x er cs).2 := by
 unfold cnS
 show eS (if x.er ≠ 0 then _ else _ : St × List Lap × List Mp).1 = (if x.er ≠ 0 then _ else _ : St × List Lap × List Mp).1 ∧ (if x.er ≠ 0 then _ else _ : St × List Lap × List Mp).2 = (if x.er ≠ 0 then _ else _ : St × List Lap × List Mp).2
 split
 · exact ⟨rfl, rfl⟩
 · exact eS_fold er cs _ s
theorem eS_cA (s : St) (k : Int) : (cA (eS s) k).2 = (cA s k).2 ∧ (cA (eS s) k).1 = er0 (cA s k).1 := by
 unfold cA
 split
 · exact ⟨rfl, rfl⟩
 · cases hx : s.C[k.toNat]? with
   | some x => rw [eS_at hx]; exact ⟨rfl, rfl⟩
   | none => rw [show (eS s).C[k.toNat]? = none from by simp [eS, hx]]; exact ⟨rfl, rfl⟩
end
end Go.Proofs.YtdpapnfjpefhkaaGreat
