/- What Deadline of package ctx does. Conditions: each theorem's own premises.
What a law knows: contexts of its own and rows of its own, apart; what each call makes of them. No condition.
What holds at all times holds behind each call: plain mathematics. No condition but those that each names.
The document's own contexts, made anew: nothing that was there turns. No condition.
A bed of contexts, timers, and the document's own, made anew. Conditions: each theorem's own premises.
The states that awake comes through. No condition. -/
import Derived.Test.YtdpapnfjpefhkaaGreatCinm
import Derived.Test.YtdpapnfjpefhkaaGreatRemm
import Derived.Test.YtdpapnfjpefhkaaGreatCaem
namespace Go.Proofs.YtdpapnfjpefhkaaGreat
open Go.RowKit Tr
set_option linter.unusedVariables false
set_option maxRecDepth 100000
section
variable {W w w' w'' wx w1 w2 : World} {t i n c : Nat} {p : Option Nat} {O : Nat → Prop} {s s' : St} {x y : Cx} {er cs : Int} {l : List Lap} {m : List Mp}
theorem MkR.from {s' : Nat → St} (b : Below w.heap.size w w1) {e : Ending} (h : MkR W t p s' O n er cs l w1 e w') : MkR W t p s' O n er cs l w e w' := by
 obtain ⟨P1, n1, c1, c, h1, h2, h3, h4⟩ := h
 exact ⟨P1, n1, c1, c, h1, h2, GS.from b h3.out, h4.out.low b.size⟩
def lpE (p : Option Nat) (E : List On) (k : Nat) : List On := match p with
 | none => E
 | some _ => E ++ [⟨4, k, none, 1⟩]
def lpN (p : Option Nat) (n : Nat) : Nat := match p with
 | none => n
 | some _ => n + 1
def lpS (p : Option Nat) (E : List On) (n : Nat) (S : List It) (z : Int) : List It := match p with
 | none => S
 | some _ => ins ⟨(E.length : Int), z, (n : Int) + 1⟩ S
def lpV (p : Option Nat) (E : List On) : Int := match p with
 | none => 0
 | some _ => (E.length : Int)
theorem hz_hz (x : Int) : hz (hz x) = hz x := by unfold hz; omega
theorem tlapse_nil (z : Int) (k : Nat) (w : World) : Calls Tryz.prog 49 #[.pointer none, .int .i64 z, .int .i64 (k : Int)] w fun e w' => e = .returned (.tuple #[.int .i64 0, .int .i64 3]) ∧ w = w' := by
 have b0 : ¬ (k : Int) < 0 := by omega
 go_enter Tryz.func49, Tryz.ntmps49
 go_wp2_with fail
 go_ret2
 exact ⟨rfl, rfl⟩
theorem tlapse_any {E : List On} {S : List It} (z : Int) (k : Nat) (m : TMs W p E n S w) (hb : Below W.heap.size W w) (hE : E.length ≤ 1000) (hn : n ≤ 1000) (hl : S.length < 1000) :
  Calls Tryz.prog 49 #[.pointer (cp p), .int .i64 z, .int .i64 (k : Int)] w fun e w' => ∃ r, e = .returned (.tuple #[.int .i64 (lpV p E), .int .i64 r]) ∧ TmR W p (lpE p E k) (lpN p n) (lpS p E n S (hz z)) w w' := by
 cases p with
 | none =>
  refine (tlapse_nil z k w).mono ?_
  rintro e w' ⟨rfl, rfl⟩
  exact ⟨_, rfl, m, hb, OZ.refl _, Nat.le_refl _⟩
 | some ts =>
  obtain ⟨h, h1, h2⟩ := m
  refine (lapse_ok (wh := z) h (by omega) (by omega) (by omega) hl).mono ?_
  rintro e w' ⟨rfl, h3, h4⟩
  rw [fput_z0, del_out h1 (.inr (Int.le_refl _))] at h3
  refine ⟨_, rfl, ⟨h3, fun x hx => ?_, fun x hx => ?_⟩, h3.bel, h4, h4.1⟩
  · rw [show (lpE (some ts) E k).length = E.length + 1 from by simp [lpE]]
    have hx : x ∈ ins ⟨(E.length : Int), hz z, (n : Int) + 1⟩ S := hx
    rcases List.mem_cons.1 ((ins_perm _ S).mem_iff.1 hx) with rfl | hx
    · exact ⟨by show (0 : Int) ≤ (E.length : Int); omega, by show (E.length : Int) < _; omega⟩
    · have := h1 x hx; omega
  · have hx : x ∈ E ++ [(⟨4, k, none, 1⟩ : On)] := hx
    rcases List.mem_append.1 hx with hx | hx
    · exact h2 x hx
    · simp at hx; subst hx; exact ⟨rfl, rfl⟩
theorem FS.lps (h : FS W t p s O w) (hx : s.C[i]? = some x) {q k cC : Nat} (hc : w.cell? ⟨t, 3, none⟩ = some (.slice (some ⟨q, 0, none⟩) k cC)) : w.cell? ⟨q, i * 8 + 7, none⟩ = some (.int .i64 x.lp) ∧ w.frozen? ⟨q, i * 8 + 7, none⟩ = false ∧ q ≠ t ∧
  ∀ v, GS W t p { s with C := s.C.set i { x with lp := v } } O w (w.setCell ⟨q, i * 8 + 7, none⟩ (.int .i64 v)) := by
 obtain ⟨⟨F, G, o, y, e⟩, m⟩ := h
 obtain ⟨q', hP, hq, ⟨-, -, -, -, -, -, -, x7⟩, hf⟩ := y.cx hx
 have h3 := y.cells.2.2.1
 rw [hc] at h3
 injection h3 with h3; injection h3 with h3 _ _
 rw [hP] at h3
 injection h3 with h3; injection h3 with h3; subst h3
 refine ⟨x7, hf _, ?_, fun v => ?_⟩
 · rintro rfl
   obtain ⟨P9, c9, hb9⟩ := y.tr.blk
   exact (tag_row y.rc (by rw [hP]; rfl)).not hb9 (by decide)
 obtain ⟨y1, t1⟩ := y.setx (y := { x with lp := v }) hx hP 7 (by omega) (.int .i64 v) rfl rfl rfl
 exact FS.ctx y e m y1 (fun k hk => .inl ((e k).2 hk)) (t1.mono fun b hb => .inl ((e b).2 hb))
def dlS (p : Option Nat) (s : St) (x : Cx) (ab z : Int) : St := { addS s x ab true with C := s.C ++ [{ nw x s.T.length with lp := lpV p s.E }], E := lpE p s.E s.C.length, n := lpN p s.n, S := lpS p s.E s.n s.S z }
set_option maxHeartbeats 8000000 in
theorem deadline_as (wh now : Int) (h : FS W t p s O w) (v : Inv s) (hy : s.C[i]? = some y) (hC : s.C.length < 64) (h1 : y.has = true) (h2 : y.wh ≤ hz wh) : Calls Tryz.prog 9 #[pS t, .int .i64 (i : Int), .int .i64 wh, .int .i64 now] w (MkR W t p (fun c => mkC s (nx0 c y.wh y.has false) y) O s.C.length y.er y.cs (mkL s y) w) := by
 have hi := (List.getElem?_eq_some_iff.1 hy).1
 have b1 : (i : Int) < (s.C.length : Int) := by omega
 have b2 : (0 : Int) ≤ (i : Int) := by omega
 have HR := Lib.hid (refusal_any (i : Int) h)
 rw [rfs_ok hi hC] at HR
 obtain ⟨PC, cC, h3, hr⟩ := h.c3
 obtain ⟨q, rfl, hq, x0, x1, x2, x3, x4, x5, x6, x7⟩ := hr i y hy
 have ht := h.tlt
 rw [h1] at x5
 obtain ⟨a, hmin⟩ : ∃ a, min wh 4611686018427387904 = a := ⟨_, rfl⟩
 obtain ⟨z, hmax⟩ : ∃ z, max 0 a = z := ⟨_, rfl⟩
 have hzz : hz wh = z := by unfold hz; rw [hmin, hmax]
 rw [hzz] at h2
 have HC : Hid (∀ w', Below w.heap.size w w' → Calls Tryz.prog 8 #[pS t, .int .i64 (i : Int)] w' (MkR W t p (fun c => mkC s (nx0 c y.wh y.has false) y) O s.C.length y.er y.cs (mkL s y) w)) := fun w' hb => (cancels_ok (h.later hb) v hy hC).mono fun e w' h => h.from hb
 clear hr hy h hC hi v h1 hzz
 go_enter Tryz.func9, Tryz.ntmps9
 go_wp2_with fail
 refine HR.out.mono ?_
 rintro e w' ⟨rfl, rfl⟩
 clear HR
 go_wp2_with fail
 refine (HC.out _ (below_al w _)).mono ?_
 rintro e w2 ⟨P1, n1, c1, c, h4, rfl, h5, h6⟩
 go_wp2_with fail
 go_ret3
 exact ⟨P1, n1, c1, c, h4, rfl, h5, h6⟩
set_option maxHeartbeats 16000000 in
theorem deadline_over (wh now : Int) (h : FS W t p s O w) (v : Inv s) (hy : s.C[i]? = some y) (hC : s.C.length < 64) (hn : ¬ (y.has = true ∧ y.wh ≤ hz wh)) (he : y.er ≠ 0) : Calls Tryz.prog 9 #[pS t, .int .i64 (i : Int), .int .i64 wh, .int .i64 now] w (MkR W t p (fun c => mkC s (nx0 c (hz wh) true true) y) O s.C.length y.er y.cs (mkL s y) w) := by
 obtain ⟨a, hmin⟩ : ∃ a, min wh 4611686018427387904 = a := ⟨_, rfl⟩
 obtain ⟨z, hmax⟩ : ∃ z, max 0 a = z := ⟨_, rfl⟩
 have hzz : hz wh = z := by unfold hz; rw [hmin, hmax]
 have hzi : hz z = z := by rw [← hzz, hz_hz]
 rw [hzz] at hn
 try rw [hzz] at hnow
 try rw [hzz]
 clear hzz
 obtain ⟨hv, hhv⟩ : ∃ hv, y.has = hv := ⟨_, rfl⟩
 have hn : hv = true → ¬ y.wh ≤ z := fun e h => hn ⟨hhv.trans e, h⟩
 have hi := (List.getElem?_eq_some_iff.1 hy).1
 have b1 : (i : Int) < (s.C.length : Int) := by omega
 have b2 : (0 : Int) ≤ (i : Int) := by omega
 have HR := Lib.hid (refusal_any (i : Int) h)
 rw [rfs_ok hi hC] at HR
 obtain ⟨PC, cC, h3, hr⟩ := h.c3
 obtain ⟨q, rfl, hq, x0, x1, x2, x3, x4, x5, x6, x7⟩ := hr i y hy
 have ht := h.tlt
 rw [hhv] at x5
 have HSG : Hid (∀ w', Below (w.alloc (.cells #[.int .i64 y.nd, .pointer (cp y.ch), .int .i64 y.er, .int .i64 y.cs, .int .i64 y.wh, .bool hv, .bool y.own, .int .i64 y.lp] 117)).heap.size (w.alloc (.cells #[.int .i64 y.nd, .pointer (cp y.ch), .int .i64 y.er, .int .i64 y.cs, .int .i64 y.wh, .bool hv, .bool y.own, .int .i64 y.lp] 117)) w' → Calls Tryz.prog 45 #[] w' fun e w4 => ∃ c, e = .returned (.pointer (some ⟨c, 0, none⟩)) ∧ Hid (∀ w4', Below w4.heap.size w4 w4' → Calls Tryz.prog 44 #[pS t, .int .i64 (i : Int), .bool true, cG (nx0 c z true true)] w4' fun e w5 => e = .returned (.int .i64 (s.C.length : Int)) ∧ Hid (Calls Tryz.prog 46 #[pS t, .int .i64 (s.C.length : Int), .int .i64 (i : Int)] w5 (FoR W t p (mkC s (nx0 c z true true) y) O y.er y.cs (mkL s y) w)))) := by
  intro w' hb
  have hw' : Below w.heap.size w w' := (below_al w _).trans (hb.mono (by simp))
  have f' := h.later hw'
  refine (Ch.signal_any w').mono ?_
  rintro e w4 ⟨c, rfl, mk⟩
  refine ⟨c, rfl, fun w4' hb' => ?_⟩
  obtain ⟨Gc, nc, hg⟩ := NC.of_mk f' z true true mk
  have nc' : NC W O Gc w4' (nx0 c z true true) := nc.keep fun k hk => hb'.block k (nc.lt hk)
  refine (f'.add v hy (mk.bel.trans (hb'.mono mk.bel.size)) nc' hg true).mono ?_
  rintro e w5 ⟨rfl, gs⟩
  obtain ⟨O5, f5, hs5, fm5⟩ := gs
  refine ⟨rfl, ?_⟩
  refine (follow_new f5 v hC hy ⟨rfl, rfl, rfl⟩ ⟨c, rfl⟩).mono ?_
  rintro e w6 ⟨P1, n1, c1, h1, h2, h3, h4⟩
  exact ⟨P1, n1, c1, h1, h2, GS.from hw' (GS.comp hs5 fm5 h3.out), h4.out.low (Nat.le_trans hw'.size fm5.1)⟩
 have HV := Lib.hid v
 have HCL := Lib.hid hC
 have HER := Lib.hid he
 clear hr hy h hC hi v hhv he hzi
 cases hv
 all_goals
  first | (have b9 := hn rfl; clear hn) | clear hn
  go_enter Tryz.func9, Tryz.ntmps9
  go_wp2_with fail
  refine HR.out.mono ?_
  rintro e w' ⟨rfl, rfl⟩
  clear HR
  go_wp2_with fail
  refine (HSG.out _ (Below.refl _ _)).mono ?_
  rintro e w4 ⟨c, rfl, h4⟩
  clear HSG
  go_wp2_with fail
  refine (h4.out _ (Below.refl _ _)).mono ?_
  rintro e w5 ⟨rfl, h5⟩
  clear h4
  go_wp2_with fail
  refine h5.out.mono ?_
  rintro e w6 ⟨P1, n1, c1, h6, rfl, h7, h8⟩
  clear h5 x0 x1 x2 x3 x4 x5 x6 x7 h3 b1 b2 hq ht
  try clear b9
  clear hmin hmax
  have h7' := h7
  unfold mkC at h7'
  rw [if_neg HER.out] at h7'
  obtain ⟨O6, f6, hs6, fm6⟩ := h7'.out
  have HO := Lib.hid (over_any (i := s.C.length) f6 (x := ended (nw (nx0 c z true true) s.T.length) y.er y.cs) (by show (s.C ++ _)[_]? = _; simp))
  have e9 : ((ended (nw (nx0 c z true true) s.T.length) y.er y.cs).er != 0) = true := bne_iff_ne.2 HER.out
  rw [e9] at HO
  clear e9 f6 hs6 fm6 h7'
  go_wp2_with fail
  refine HO.out.mono ?_
  rintro e w7 ⟨rfl, rfl⟩
  go_wp2_with fail
  go_ret3
  exact ⟨P1, n1, c1, c, h6, rfl, h7, h8⟩
set_option maxHeartbeats 16000000 in
theorem deadline_now (wh now : Int) (h : FS W t p s O w) (v : Inv s) (hy : s.C[i]? = some y) (hC : s.C.length < 64) (hn : ¬ (y.has = true ∧ y.wh ≤ hz wh)) (he : y.er = 0) (hnow : hz wh ≤ now) : Calls Tryz.prog 9 #[pS t, .int .i64 (i : Int), .int .i64 wh, .int .i64 now] w (MkR W t p (fun c => addD s (nx0 c (hz wh) true true) (y.nd : Int) 2 2) O s.C.length 2 2 [(s.C.length, [])] w) := by
 obtain ⟨a, hmin⟩ : ∃ a, min wh 4611686018427387904 = a := ⟨_, rfl⟩
 obtain ⟨z, hmax⟩ : ∃ z, max 0 a = z := ⟨_, rfl⟩
 have hzz : hz wh = z := by unfold hz; rw [hmin, hmax]
 have hzi : hz z = z := by rw [← hzz, hz_hz]
 rw [hzz] at hn
 try rw [hzz] at hnow
 try rw [hzz]
 clear hzz
 obtain ⟨hv, hhv⟩ : ∃ hv, y.has = hv := ⟨_, rfl⟩
 have hn : hv = true → ¬ y.wh ≤ z := fun e h => hn ⟨hhv.trans e, h⟩
 have hi := (List.getElem?_eq_some_iff.1 hy).1
 have b1 : (i : Int) < (s.C.length : Int) := by omega
 have b2 : (0 : Int) ≤ (i : Int) := by omega
 have HR := Lib.hid (refusal_any (i : Int) h)
 rw [rfs_ok hi hC] at HR
 obtain ⟨PC, cC, h3, hr⟩ := h.c3
 obtain ⟨q, rfl, hq, x0, x1, x2, x3, x4, x5, x6, x7⟩ := hr i y hy
 have ht := h.tlt
 rw [hhv] at x5
 have HSG : Hid (∀ w', Below (w.alloc (.cells #[.int .i64 y.nd, .pointer (cp y.ch), .int .i64 y.er, .int .i64 y.cs, .int .i64 y.wh, .bool hv, .bool y.own, .int .i64 y.lp] 117)).heap.size (w.alloc (.cells #[.int .i64 y.nd, .pointer (cp y.ch), .int .i64 y.er, .int .i64 y.cs, .int .i64 y.wh, .bool hv, .bool y.own, .int .i64 y.lp] 117)) w' → Calls Tryz.prog 45 #[] w' fun e w4 => ∃ c, e = .returned (.pointer (some ⟨c, 0, none⟩)) ∧ Hid (∀ w4', Below w4.heap.size w4 w4' → Calls Tryz.prog 44 #[pS t, .int .i64 (i : Int), .bool true, cG (nx0 c z true true)] w4' fun e w5 => e = .returned (.int .i64 (s.C.length : Int)) ∧ Hid (Calls Tryz.prog 46 #[pS t, .int .i64 (s.C.length : Int), .int .i64 (i : Int)] w5 (FoR W t p (mkC s (nx0 c z true true) y) O y.er y.cs (mkL s y) w)))) := by
  intro w' hb
  have hw' : Below w.heap.size w w' := (below_al w _).trans (hb.mono (by simp))
  have f' := h.later hw'
  refine (Ch.signal_any w').mono ?_
  rintro e w4 ⟨c, rfl, mk⟩
  refine ⟨c, rfl, fun w4' hb' => ?_⟩
  obtain ⟨Gc, nc, hg⟩ := NC.of_mk f' z true true mk
  have nc' : NC W O Gc w4' (nx0 c z true true) := nc.keep fun k hk => hb'.block k (nc.lt hk)
  refine (f'.add v hy (mk.bel.trans (hb'.mono mk.bel.size)) nc' hg true).mono ?_
  rintro e w5 ⟨rfl, gs⟩
  obtain ⟨O5, f5, hs5, fm5⟩ := gs
  refine ⟨rfl, ?_⟩
  refine (follow_new f5 v hC hy ⟨rfl, rfl, rfl⟩ ⟨c, rfl⟩).mono ?_
  rintro e w6 ⟨P1, n1, c1, h1, h2, h3, h4⟩
  exact ⟨P1, n1, c1, h1, h2, GS.from hw' (GS.comp hs5 fm5 h3.out), h4.out.low (Nat.le_trans hw'.size fm5.1)⟩
 have HV := Lib.hid v
 have HYY := Lib.hid hy
 have HCL := Lib.hid hC
 have HER := Lib.hid he
 clear hr hy h hC hi v hhv he hzi
 cases hv
 all_goals
  first | (have b9 := hn rfl; clear hn) | clear hn
  go_enter Tryz.func9, Tryz.ntmps9
  go_wp2_with fail
  refine HR.out.mono ?_
  rintro e w' ⟨rfl, rfl⟩
  clear HR
  go_wp2_with fail
  refine (HSG.out _ (Below.refl _ _)).mono ?_
  rintro e w4 ⟨c, rfl, h4⟩
  clear HSG
  go_wp2_with fail
  refine (h4.out _ (Below.refl _ _)).mono ?_
  rintro e w5 ⟨rfl, h5⟩
  clear h4
  go_wp2_with fail
  refine h5.out.mono ?_
  rintro e w6 ⟨P1, n1, c1, h6, rfl, h7, h8⟩
  clear h5 x0 x1 x2 x3 x4 x5 x6 x7 h3 b1 b2 hq ht
  try clear b9
  clear hmin hmax
  have hmk : mkC s (nx0 c z true true) y = addS s (nx0 c z true true) (y.nd : Int) true := by unfold mkC; rw [if_pos HER.out]
  have h7' := h7
  rw [hmk] at h7'
  obtain ⟨O6, f6, hs6, fm6⟩ := h7'.out
  have HX6 : Hid ((addS s (nx0 c z true true) (y.nd : Int) true).C[s.C.length]? = some (nw (nx0 c z true true) s.T.length)) := addS_new
  have HO := Lib.hid (over_any (i := s.C.length) f6 HX6.out)
  have e9 : ((nw (nx0 c z true true) s.T.length).er != 0) = false := rfl
  rw [e9] at HO
  obtain ⟨y0, hy0⟩ : ∃ y0, s.C[i]? = some y0 := ⟨_, HYY.out⟩
  have HCN : Hid (Calls Tryz.prog 48 #[pS t, .int .i64 (s.C.length : Int), .int .i64 2, .int .i64 2] w6 (CaR W t p (addD s (nx0 c z true true) (y.nd : Int) 2 2) O 2 2 [(s.C.length, [])] [] w)) := by
   have v2 := HV.out.add (x := nx0 c z true true) HYY.out HCL.out true ⟨rfl, rfl, rfl⟩ fun _ => ⟨c, rfl⟩
   have := cancel_go (er := 2) (cs := 2) f6 HX6.out rfl (v2.ndlt HX6.out) (v2.good HX6.out ⟨c, rfl⟩ rfl) (by have := v2.el; have := v2.cl; omega) (by have := v2.sl; have := v2.el; have := v2.cl; omega) (by have := v2.cl; omega) (by have := v2.al; omega) (by have := v2.kl; have := v2.tl; have := v2.cl; have := v2.al; omega)
   rw [fold_new HV.out _ _ ⟨rfl, rfl⟩] at this
   refine this.mono ?_
   rintro e w7 ⟨P1, n1, c1, P2, n2, c2, g1, g2, rfl, g3, g4, g5⟩
   exact ⟨P1, n1, c1, P2, n2, c2, g1, g2, rfl, GS.comp hs6 fm6 g3.out, g4.out.low fm6.1, row_low g5.out fm6.1⟩
  clear e9 f6 hs6 fm6 h7' hmk h7 h8 h6 hy0
  go_wp2_with fail
  refine HO.out.mono ?_
  rintro e w7 ⟨rfl, rfl⟩
  go_wp2_with fail
  refine HCN.out.mono ?_
  rintro e w7 ⟨P1, n1, c1, P2, n2, c2, g1, g2, rfl, g3, g4, g5⟩
  go_wp2_with fail
  go_ret3
  exact ⟨P1, n1, c1, c, g1, rfl, g3, g4⟩
set_option maxHeartbeats 16000000 in
theorem deadline_set (wh now : Int) (h : FS W t p s O w) (v : Inv s) (hy : s.C[i]? = some y) (hC : s.C.length < 64) (hn : ¬ (y.has = true ∧ y.wh ≤ hz wh)) (he : y.er = 0) (hset : ¬ hz wh ≤ now) : Calls Tryz.prog 9 #[pS t, .int .i64 (i : Int), .int .i64 wh, .int .i64 now] w (MkR W t p (fun c => dlS p s (nx0 c (hz wh) true true) (y.nd : Int) (hz wh)) O s.C.length y.er y.cs (mkL s y) w) := by
 obtain ⟨a, hmin⟩ : ∃ a, min wh 4611686018427387904 = a := ⟨_, rfl⟩
 obtain ⟨z, hmax⟩ : ∃ z, max 0 a = z := ⟨_, rfl⟩
 have hzz : hz wh = z := by unfold hz; rw [hmin, hmax]
 have hzi : hz z = z := by rw [← hzz, hz_hz]
 rw [hzz] at hn
 try rw [hzz] at hset
 try rw [hzz]
 clear hzz
 obtain ⟨hv, hhv⟩ : ∃ hv, y.has = hv := ⟨_, rfl⟩
 have hn : hv = true → ¬ y.wh ≤ z := fun e h => hn ⟨hhv.trans e, h⟩
 have hi := (List.getElem?_eq_some_iff.1 hy).1
 have b1 : (i : Int) < (s.C.length : Int) := by omega
 have b2 : (0 : Int) ≤ (i : Int) := by omega
 have HR := Lib.hid (refusal_any (i : Int) h)
 rw [rfs_ok hi hC] at HR
 obtain ⟨PC, cC, h3, hr⟩ := h.c3
 obtain ⟨q, rfl, hq, x0, x1, x2, x3, x4, x5, x6, x7⟩ := hr i y hy
 have ht := h.tlt
 rw [hhv] at x5
 have HSG : Hid (∀ w', Below (w.alloc (.cells #[.int .i64 y.nd, .pointer (cp y.ch), .int .i64 y.er, .int .i64 y.cs, .int .i64 y.wh, .bool hv, .bool y.own, .int .i64 y.lp] 117)).heap.size (w.alloc (.cells #[.int .i64 y.nd, .pointer (cp y.ch), .int .i64 y.er, .int .i64 y.cs, .int .i64 y.wh, .bool hv, .bool y.own, .int .i64 y.lp] 117)) w' → Calls Tryz.prog 45 #[] w' fun e w4 => ∃ c, e = .returned (.pointer (some ⟨c, 0, none⟩)) ∧ Hid (∀ w4', Below w4.heap.size w4 w4' → Calls Tryz.prog 44 #[pS t, .int .i64 (i : Int), .bool true, cG (nx0 c z true true)] w4' fun e w5 => e = .returned (.int .i64 (s.C.length : Int)) ∧ Hid (Calls Tryz.prog 46 #[pS t, .int .i64 (s.C.length : Int), .int .i64 (i : Int)] w5 (FoR W t p (mkC s (nx0 c z true true) y) O y.er y.cs (mkL s y) w)))) := by
  intro w' hb
  have hw' : Below w.heap.size w w' := (below_al w _).trans (hb.mono (by simp))
  have f' := h.later hw'
  refine (Ch.signal_any w').mono ?_
  rintro e w4 ⟨c, rfl, mk⟩
  refine ⟨c, rfl, fun w4' hb' => ?_⟩
  obtain ⟨Gc, nc, hg⟩ := NC.of_mk f' z true true mk
  have nc' : NC W O Gc w4' (nx0 c z true true) := nc.keep fun k hk => hb'.block k (nc.lt hk)
  refine (f'.add v hy (mk.bel.trans (hb'.mono mk.bel.size)) nc' hg true).mono ?_
  rintro e w5 ⟨rfl, gs⟩
  obtain ⟨O5, f5, hs5, fm5⟩ := gs
  refine ⟨rfl, ?_⟩
  refine (follow_new f5 v hC hy ⟨rfl, rfl, rfl⟩ ⟨c, rfl⟩).mono ?_
  rintro e w6 ⟨P1, n1, c1, h1, h2, h3, h4⟩
  exact ⟨P1, n1, c1, h1, h2, GS.from hw' (GS.comp hs5 fm5 h3.out), h4.out.low (Nat.le_trans hw'.size fm5.1)⟩
 have HV := Lib.hid v
 have HCL := Lib.hid hC
 have HER := Lib.hid he
 clear hr hy h hC hi v hhv he
 cases hv
 all_goals
  first | (have b9 := hn rfl; clear hn) | clear hn
  go_enter Tryz.func9, Tryz.ntmps9
  go_wp2_with fail
  refine HR.out.mono ?_
  rintro e w' ⟨rfl, rfl⟩
  clear HR
  go_wp2_with fail
  refine (HSG.out _ (Below.refl _ _)).mono ?_
  rintro e w4 ⟨c, rfl, h4⟩
  clear HSG
  go_wp2_with fail
  refine (h4.out _ (Below.refl _ _)).mono ?_
  rintro e w5 ⟨rfl, h5⟩
  clear h4
  go_wp2_with fail
  refine h5.out.mono ?_
  rintro e w6 ⟨P1, n1, c1, h6, rfl, h7, h8⟩
  clear h5 x0 x1 x2 x3 x4 x5 x6 x7 h3 b1 b2 hq ht
  try clear b9
  clear hmin hmax
  have hmk : mkC s (nx0 c z true true) y = addS s (nx0 c z true true) (y.nd : Int) true := by unfold mkC; rw [if_pos HER.out]
  have h7' := h7
  rw [hmk] at h7'
  obtain ⟨O6, f6, hs6, fm6⟩ := h7'.out
  have HX6 : Hid ((addS s (nx0 c z true true) (y.nd : Int) true).C[s.C.length]? = some (nw (nx0 c z true true) s.T.length)) := addS_new
  have HO := Lib.hid (over_any (i := s.C.length) f6 HX6.out)
  have e9 : ((nw (nx0 c z true true) s.T.length).er != 0) = false := rfl
  rw [e9] at HO
  obtain ⟨PC6, cC6, d3, dr⟩ := f6.c3
  obtain ⟨q6, rfl, hq6, -⟩ := dr s.C.length _ HX6.out
  obtain ⟨N1, hN1⟩ : ∃ N1, (addS s (nx0 c z true true) (y.nd : Int) true).C.length = N1 := ⟨_, rfl⟩
  rw [hN1] at d3
  have d0 : w6.cell? ⟨t, 0, none⟩ = some (.pointer (cp p)) := by obtain ⟨⟨F, G, o, yy, e⟩, m⟩ := f6; exact yy.cells.1
  have ht6 := f6.tlt
  have b7 : (s.C.length : Int) < (N1 : Int) := by
   have h1 : (addS s (nx0 c z true true) (y.nd : Int) true).C.length = s.C.length + 1 := by simp [addS]
   omega
  have b8 : (0 : Int) ≤ (s.C.length : Int) := by omega
  have KP : Hid (∀ w', Below w6.heap.size w6 w' → w'.cell? ⟨t, 3, none⟩ = some (.slice (some ⟨q6, 0, none⟩) N1 cC6) ∧ w'.cell? ⟨t, 0, none⟩ = some (.pointer (cp p))) := fun w' hb => ⟨(hb.cell (p := ⟨t, 3, none⟩) ht6).trans d3, (hb.cell (p := ⟨t, 0, none⟩) ht6).trans d0⟩
  have HLP : Hid (∀ w', Below w6.heap.size w6 w' → Calls Tryz.prog 49 #[.pointer (cp p), .int .i64 z, .int .i64 (s.C.length : Int)] w' fun e w8 => ∃ r, e = .returned (.tuple #[.int .i64 (lpV p s.E), .int .i64 r]) ∧ Hid ((w8.cell? ⟨t, 3, none⟩ = some (.slice (some ⟨q6, 0, none⟩) N1 cC6) ∧ w8.cell? ⟨t, 0, none⟩ = some (.pointer (cp p))) ∧ w8.cell? ⟨q6, s.C.length * 8 + 7, none⟩ = some (.int .i64 (-1)) ∧ w8.frozen? ⟨q6, s.C.length * 8 + 7, none⟩ = false ∧
    GS W t p (dlS p s (nx0 c z true true) (y.nd : Int) z) O w (w8.setCell ⟨q6, s.C.length * 8 + 7, none⟩ (.int .i64 (lpV p s.E))) ∧ LR w.heap.size (w8.setCell ⟨q6, s.C.length * 8 + 7, none⟩ (.int .i64 (lpV p s.E))) P1 c1 y.er y.cs (mkL s y) ∧ ((w8.setCell ⟨q6, s.C.length * 8 + 7, none⟩ (.int .i64 (lpV p s.E))).cell? ⟨t, 3, none⟩ = some (.slice (some ⟨q6, 0, none⟩) N1 cC6) ∧ (w8.setCell ⟨q6, s.C.length * 8 + 7, none⟩ (.int .i64 (lpV p s.E))).cell? ⟨t, 0, none⟩ = some (.pointer (cp p))))) := by
   intro w' hb
   have f7 := f6.later hb
   have v2 := HV.out
   refine (tlapse_any z s.C.length f7.2 f7.bel (by have := v2.el; have := v2.cl; show s.E.length ≤ 1000; omega) (by have := v2.nl; have := v2.el; have := v2.cl; show s.n ≤ 1000; omega) (by have := v2.sl; have := v2.el; have := v2.cl; show s.S.length < 1000; omega)).mono ?_
   rintro e w8 ⟨r, rfl, g1, g2, g3, g4⟩
   have et : w8.heap[t]? = w'.heap[t]? := by
    obtain ⟨⟨F, G, o, yy, ee⟩, m⟩ := f7
    obtain ⟨P9, c9, hb9⟩ := yy.tr.blk
    rw [hb9]; exact g3.2 _ _ _ _ hb9 (by decide)
   have k := KP.out w' hb
   have k3 := (cell_blk et 3).trans k.1
   have k0 := (cell_blk et 0).trans k.2
   rw [hzi] at g1
   obtain ⟨O8, f8, hs8, fm8⟩ := f7.tms g1 g2 g3
   have hx8 : (addS s (nx0 c z true true) (y.nd : Int) true).C[s.C.length]? = some (nw (nx0 c z true true) s.T.length) := addS_new
   obtain ⟨l1, l2, ln, l3⟩ := f8.lps (x := nw (nx0 c z true true) s.T.length) hx8 k3
   refine ⟨r, rfl, ⟨k3, k0⟩, l1, l2, ?_⟩
   have gs6 := GS.from hb (GS.comp hs8 fm8 (l3 (lpV p s.E)))
   have := GS.comp hs6 fm6 gs6
   have ec : (addS s (nx0 c z true true) (y.nd : Int) true).C.set s.C.length { nw (nx0 c z true true) s.T.length with lp := lpV p s.E } = s.C ++ [{ nw (nx0 c z true true) s.T.length with lp := lpV p s.E }] := by
    show (s.C ++ [nw (nx0 c z true true) s.T.length]).set s.C.length _ = _
    simp
   have e2 : ({ addS s (nx0 c z true true) (y.nd : Int) true with C := (addS s (nx0 c z true true) (y.nd : Int) true).C.set s.C.length { nw (nx0 c z true true) s.T.length with lp := lpV p s.E }, E := lpE p s.E s.C.length, n := lpN p s.n, S := lpS p s.E s.n s.S z } : St) = dlS p s (nx0 c z true true) (y.nd : Int) z := by
    rw [ec]; rfl
   rw [← e2]
   refine ⟨this, ?_, (World.cell?_setCell_other _ _ _ _ (by simp)).trans k3, (World.cell?_setCell_other _ _ _ _ (by simp)).trans k0⟩
   obtain ⟨O9, f9, hs9, fm9⟩ := gs6
   exact h8.out.keep fun b hb => fm9.tg hb (fun ty e => by rcases e with rfl | rfl <;> decide) (f6.nott hb fun ty e => by rcases e with rfl | rfl <;> simp [TgO])
  have HN6 := h6
  clear e9 f6 hs6 fm6 h7' hmk h7 h8 hN1 d0 dr d3
  go_wp2_with fail
  refine HO.out.mono ?_
  rintro e w7 ⟨rfl, rfl⟩
  clear HO
  go_wp2_with fail
  refine but_start 1000 (fun w' => w'.cell? ⟨t, 3, none⟩ = some (.slice (some ⟨q6, 0, none⟩) N1 cC6) ∧ w'.cell? ⟨t, 0, none⟩ = some (.pointer (cp p))) (by kernel_rfl) ?_
  have hHeld := KP.out w6.drew (Below.refl _ _).drew
  change AnyBut _ _ _ _ _ _ 18 _ _ _
  refine tkT 0 rfl hHeld ?_
  refine tkT 1 rfl hHeld ?_
  refine tkT 2 rfl hHeld ?_
  refine tkT 3 rfl hHeld ?_
  refine tkT 4 rfl hHeld ?_
  refine tkT 5 rfl hHeld ?_
  refine tkT 6 rfl hHeld ?_
  refine tkT 7 rfl hHeld ?_
  refine tkT 8 rfl hHeld ?_
  refine tkT 9 rfl hHeld ?_
  refine tkT 10 rfl hHeld ?_
  try simp only [l1, l2, l3, Act.put, l4, l5, l6]
  refine but_one (i := 11) (by kernel_rfl) rfl ?_
  intro K hK
  go_simp
  go_at_call 49
  refine (HLP.out _ (by first | exact Below.refl _ _ | exact (Below.refl _ _).drew | (repeat' (first | exact Below.refl _ _ | (with_reducible assumption) | refine Below.drew ?_ | refine Below.alloc ?_ (by first | omega | (simp <;> omega)) _)))).mono ?_
  rintro e w8 ⟨r8, rfl, h9⟩
  have k8 := h9.out.1
  have k83 := k8.1
  obtain ⟨k87, f87, -⟩ := h9.out.2
  have hHeld2 := k8
  refine hK _ _ (fun _ => hHeld2) ?_
  clear hK K hHeld
  have hHeld := hHeld2
  clear hHeld2
  refine tkT 12 rfl hHeld ?_
  refine tkT 13 rfl hHeld ?_
  refine tkT 14 rfl hHeld ?_
  refine tkT 15 rfl hHeld ?_
  refine tkT 16 rfl hHeld ?_
  try simp only [l1, l2, l3, Act.put, l4, l5, l6]
  refine but_one (i := 17) (by kernel_rfl) rfl ?_
  intro K hK
  go_simp
  have hHeld2 := h9.out.2.2.2.2.2
  refine hK _ _ (fun _ => hHeld2) ?_
  clear hK K hHeld
  have hHeld := hHeld2
  clear hHeld2
  try simp only [l1, l2, l3, Act.put, l4, l5, l6]
  refine but_done (by kernel_rfl) ?_
  try clear hHeld
  clear KP HLP k83 k87 f87 b7 b8 ht6 hq6
  go_wp2_with fail
  go_ret3
  exact ⟨P1, n1, c1, c, HN6.out, rfl, h9.out.2.2.2.1, h9.out.2.2.2.2.1⟩
end
end Go.Proofs.YtdpapnfjpefhkaaGreat
namespace Go.Proofs.YtdpapnfjpefhkaaGreat
open Go.RowKit Tr
set_option linter.unusedVariables false
set_option maxRecDepth 100000
structure Rr where
 P : Option Addr
 e : Nat
 z : Nat
 c : Nat
 n : Nat
 xs : List Value
def Rr.own (w : World) (r : Rr) : Prop := w.ownsRow 0 r.e r.z (.slice r.P r.n r.c) r.n r.xs
def Rr.apart (a b : Rr) : Prop := ∀ k, blk a.P = some k → blk b.P ≠ some k
structure LQ (W : World) (t : Nat) (p : Option Nat) (s : St) (rs : List Rr) (w : World) : Prop where
 ex : ∃ O : Nat → Prop, FS W t p s O w ∧ ∀ r ∈ rs, ∀ k, blk r.P = some k → ¬ O k
 rows : ∀ r ∈ rs, r.own w ∧ OthZ r.e ∧ ∀ k, blk r.P = some k → W.heap.size ≤ k
 ap : rs.Pairwise Rr.apart
 iv : Inv s
section
variable {W w w' : World} {t : Nat} {p : Option Nat} {s s' : St} {rs : List Rr} {O : Nat → Prop}
theorem LQ.bel (h : LQ W t p s rs w) : Below W.heap.size W w := by obtain ⟨O, f, _⟩ := h.ex; exact f.bel
theorem LQ.rlt (h : LQ W t p s rs w) {r : Rr} (hr : r ∈ rs) {k : Nat} (hk : blk r.P = some k) : k < w.heap.size := (row_lt (h.rows r hr).1 hk).2
theorem LQ.later (h : LQ W t p s rs w) (b : Below w.heap.size w w') : LQ W t p s rs w' := by
 obtain ⟨O, f, ho⟩ := h.ex
 exact ⟨⟨O, f.later b, ho⟩, fun r hr => ⟨row_later (h.rows r hr).1 b, (h.rows r hr).2⟩, h.ap, h.iv⟩
theorem LQ.drewN (h : LQ W t p s rs w) (q : Nat) : LQ W t p s rs (w.drewN q) := h.later (below_drewN w q)
theorem LQ.alloc (h : LQ W t p s rs w) (o : Obj) : LQ W t p s rs (w.alloc o) := h.later (below_al w o)
theorem LQ.sub (h : LQ W t p s rs w) {rs' : List Rr} (hs : rs'.Sublist rs) : LQ W t p s rs' w := by
 obtain ⟨O, f, ho⟩ := h.ex
 exact ⟨⟨O, f, fun r hr => ho r (hs.subset hr)⟩, fun r hr => h.rows r (hs.subset hr), h.ap.sublist hs, h.iv⟩
theorem LQ.own (h : LQ W t p s rs w) {i : Nat} {r : Rr} (hr : rs[i]? = some r) : r.own w := (h.rows r (List.mem_of_getElem? hr)).1
theorem LQ.go (h : LQ W t p s rs w) (ho : ∀ r ∈ rs, ∀ k, blk r.P = some k → ¬ O k) (hi : Inv s') (g : GS W t p s' O w w') : LQ W t p s' rs w' := by
 obtain ⟨O', f, hs, fm⟩ := g
 refine ⟨⟨O', f, fun r hr k hk hO => ?_⟩, fun r hr => ⟨row_keep (h.rows r hr).1 fun k hk => ?_, (h.rows r hr).2⟩, h.ap, hi⟩
 · rcases hs k hO with h1 | h1
   · exact ho r hr k hk h1
   · have := h.rlt hr hk; omega
 · exact fm.tg (tag_row (h.rows r hr).1 hk) (fun ty e => by subst e; exact (h.rows r hr).2.1) (ho r hr k hk)
theorem LQ.row (h : LQ W t p s rs w') {r : Rr} {B : Nat} (hB : W.heap.size ≤ B) (hr : w'.ownsRow B r.e r.z (.slice r.P r.n r.c) r.n r.xs) (ho : OthZ r.e) (hn : ∀ O, FS W t p s O w' → ∀ k, blk r.P = some k → ¬ O k) (hl : ∀ q ∈ rs, ∀ k, blk q.P = some k → k < B) : LQ W t p s (r :: rs) w' := by
 obtain ⟨O, f, h3⟩ := h.ex
 refine ⟨⟨O, f, fun q hq => ?_⟩, fun q hq => ?_, List.pairwise_cons.2 ⟨fun q hq k hk e => ?_, h.ap⟩, h.iv⟩
 · rcases List.mem_cons.1 hq with rfl | hq
   · exact hn O f
   · exact h3 q hq
 · rcases List.mem_cons.1 hq with rfl | hq
   · exact ⟨row_low hr (Nat.zero_le _), ho, fun k hk => Nat.le_trans hB (row_lt hr hk).1⟩
   · exact h.rows q hq
 · have := (row_lt hr hk).1; have := hl q hq k e; omega
theorem LQ.call (h : LQ W t p s rs w) {f : Nat} {a : Array Value} {Q : Ending → World → Prop} (hi : Inv s') (hc : ∀ O, FS W t p s O w → Calls Tryz.prog f a w fun e w' => Q e w' ∧ GS W t p s' O w w') : Calls Tryz.prog f a w fun e w' => Q e w' ∧ LQ W t p s' rs w' := by
 obtain ⟨O, f, ho⟩ := h.ex
 exact (hc O f).mono fun e w' ⟨h1, h2⟩ => ⟨h1, h.go ho hi h2⟩
def rwL (P : Option Addr) (c n : Nat) (L : List Lp) : Rr := ⟨P, 57, 4, c, n, L.flatMap lE⟩
def rwM (P : Option Addr) (c n : Nat) (m : List Mp) : Rr := ⟨P, 59, 2, c, n, m.flatMap mE⟩
def RdL (w : World) (er cs : Int) (l : List Lap) (L : List Lp) : Prop := L.map (fun x => (x.id, x.wk)) = l ∧ ∀ x ∈ L, x.er = er ∧ x.cs = cs ∧ x.n = x.wk.length ∧ Ch.RdK w x.A x.n x.wk
def MkQ (W : World) (t : Nat) (p : Option Nat) (s' : Nat → St) (rs : List Rr) (n : Nat) (er cs : Int) (l : List Lap) (e : Ending) (w' : World) : Prop :=
 ∃ P1 n1 c1 c L, Hid (n1 = l.length) ∧ e = .returned (.tuple #[.int .i64 (n : Int), .slice P1 n1 c1, .int .i64 0]) ∧ Hid (LQ W t p (s' c) (rwL P1 c1 n1 L :: rs) w') ∧ Hid (RdL w' er cs l L)
theorem LQ.made (h : LQ W t p s rs w) {f n : Nat} {a : Array Value} {s' : Nat → St} {er cs : Int} {l : List Lap} (hi : ∀ c, Inv (s' c)) (hc : ∀ O, FS W t p s O w → Calls Tryz.prog f a w (MkR W t p s' O n er cs l w)) : Calls Tryz.prog f a w fun e w' => MkQ W t p s' rs n er cs l e w' := by
 obtain ⟨O, f, ho⟩ := h.ex
 refine (hc O f).mono ?_
 rintro e w' ⟨P1, n1, c1, c, h1, rfl, h2, L, h3, h4, h5⟩
 have hLn : L.length = n1 := by rw [h1.out, ← h3, List.length_map]
 rw [hLn] at h5
 refine ⟨P1, n1, c1, c, L, h1, rfl, (h.go ho (hi c) h2.out).row (r := rwL P1 c1 n1 L) h.bel.size h5 (by show OthZ 57; decide) (fun O' f' k hk => f'.nott (tag_row h5 hk) fun ty e => by subst e; simp [TgO]) fun q hq k hk => h.rlt hq hk, h3, h4⟩
def CnQ (W : World) (t : Nat) (p : Option Nat) (s' : St) (rs : List Rr) (er cs : Int) (l : List Lap) (m : List Mp) (e : Ending) (w' : World) : Prop :=
 ∃ P1 n1 c1 L P2 n2 c2, Hid (n1 = l.length) ∧ Hid (n2 = m.length) ∧ e = .returned (.tuple #[.slice P1 n1 c1, .slice P2 n2 c2, .int .i64 0]) ∧ Hid (LQ W t p s' (rwL P1 c1 n1 L :: rwM P2 c2 n2 m :: rs) w') ∧ Hid (RdL w' er cs l L)
theorem LQ.cn (h : LQ W t p s rs w) {f : Nat} {a : Array Value} {er cs : Int} {l : List Lap} {m : List Mp} (hi : Inv s') (hc : ∀ O, FS W t p s O w → Calls Tryz.prog f a w (CnR W t p s' O er cs l m w)) : Calls Tryz.prog f a w fun e w' => CnQ W t p s' rs er cs l m e w' := by
 obtain ⟨O, f, ho⟩ := h.ex
 refine (hc O f).mono ?_
 rintro e w' ⟨P1, n1, c1, P2, n2, c2, h1, h2, rfl, h3, ⟨L, h4, h5, h6⟩, h7⟩
 have hLn : L.length = n1 := by rw [h1.out, ← h4, List.length_map]
 rw [hLn] at h6
 have h7 := h7.out
 unfold SR at h7
 rw [← h2.out] at h7
 have k := (h.go ho hi h3.out).row (r := rwM P2 c2 n2 m) h.bel.size h7 (by show OthZ 59; decide) (fun O' f' k hk => f'.nott (tag_row h7 hk) fun ty e => by subst e; simp [TgO]) fun q hq k hk => h.rlt hq hk
 have k2 := (k.sub (rs' := rs) (List.sublist_cons_self _ _)).row (r := rwL P1 c1 n1 L) h.bel.size h6 (by show OthZ 57; decide) (fun O' f' k hk => f'.nott (tag_row h6 hk) fun ty e => by subst e; simp [TgO]) fun q hq k hk => h.rlt hq hk
 refine ⟨P1, n1, c1, L, P2, n2, c2, h1, h2, rfl, ⟨?_, ?_, ?_, k.iv⟩, h4, h5⟩
 · obtain ⟨O', f', h3'⟩ := k.ex
   refine ⟨O', f', fun r hr => ?_⟩
   rcases List.mem_cons.1 hr with rfl | hr
   · exact fun k hk => f'.nott (tag_row h6 hk) fun ty e => by subst e; simp [TgO]
   · exact h3' r hr
 · intro r hr
   rcases List.mem_cons.1 hr with rfl | hr
   · exact k2.rows _ (by simp)
   · exact k.rows r hr
 · refine List.pairwise_cons.2 ⟨fun r hr k' hk e => ?_, k.ap⟩
   rcases List.mem_cons.1 hr with rfl | hr
   · exact (tag_row h6 hk).two (tag_row h7 e) fun ty a b => by rw [a] at b; exact absurd b (by decide)
   · have := (row_lt h6 hk).1; have := h.rlt hr e; omega
def AfQ (W : World) (t : Nat) (p : Option Nat) (s' : St) (rs : List Rr) (n : Nat) (m : List Mp) (e : Ending) (w' : World) : Prop :=
 ∃ P2 n2 c2, Hid (n2 = m.length) ∧ e = .returned (.tuple #[.int .i64 (n : Int), .slice P2 n2 c2, .int .i64 0]) ∧ Hid (LQ W t p s' (rwM P2 c2 n2 m :: rs) w')
theorem LQ.af (h : LQ W t p s rs w) {f n : Nat} {a : Array Value} {m : List Mp} (hi : Inv s') (hc : ∀ O, FS W t p s O w → Calls Tryz.prog f a w (AfR W t p s' O n m w)) : Calls Tryz.prog f a w fun e w' => AfQ W t p s' rs n m e w' := by
 obtain ⟨O, f, ho⟩ := h.ex
 refine (hc O f).mono ?_
 rintro e w' ⟨P2, n2, c2, h2, rfl, h3, h7⟩
 have h7 := h7.out
 unfold SR at h7
 rw [← h2.out] at h7
 exact ⟨P2, n2, c2, h2, rfl, (h.go ho hi h3.out).row (r := rwM P2 c2 n2 m) h.bel.size h7 (by show OthZ 59; decide) (fun O' f' k hk => f'.nott (tag_row h7 hk) fun ty e => by subst e; simp [TgO]) fun q hq k hk => h.rlt hq hk⟩
theorem LQ.rd (h : LQ W t p s rs w) {f : Nat} {a : Array Value} {v : Value} (hc : ∀ O, FS W t p s O w → Calls Tryz.prog f a w (RdC v w)) : Calls Tryz.prog f a w fun e w' => e = .returned v ∧ Below w.heap.size w w' := by
 obtain ⟨O, f, ho⟩ := h.ex
 exact hc O f
end
end Go.Proofs.YtdpapnfjpefhkaaGreat
namespace Go.Proofs.YtdpapnfjpefhkaaGreat
open Go.RowKit Tr
set_option linter.unusedVariables false
set_option maxRecDepth 100000
section
variable {s : St} {i k : Nat} {x y : Cx} {er cs : Int}
theorem Inv.addD (h : Inv s) (hy : s.C[i]? = some y) (hC : s.C.length < 64) (hx : x.er = 0 ∧ x.cl = false ∧ x.rs = []) (hc : ∃ c, x.ch = some c) (he : er ≠ 0) : Inv (addD s x (y.nd : Int) er cs) := by
 have v2 := h.add hy hC true hx fun _ => hc
 have := Inv.fold (cs := cs) he _ _ v2 (v2.good addS_new hc hx.1) (walk_once v2.wf (v2.ndlt addS_new))
 rw [fold_new h x _ ⟨hx.2.2, hx.2.1⟩] at this
 exact this
theorem Inv.mkC (h : Inv s) (hy : s.C[i]? = some y) (hC : s.C.length < 64) (hx : x.er = 0 ∧ x.cl = false ∧ x.rs = []) (hc : ∃ c, x.ch = some c) : Inv (mkC s x y) := by
 unfold YtdpapnfjpefhkaaGreat.mkC
 by_cases he : y.er = 0
 · rw [if_pos he]; exact h.add hy hC true hx fun _ => hc
 · rw [if_neg he]; exact h.addD hy hC hx hc he
theorem Inv.nx (h : Inv s) (hy : s.C[i]? = some y) (hC : s.C.length < 64) (c : Nat) (wh : Int) (a b : Bool) : Inv (YtdpapnfjpefhkaaGreat.mkC s (nx0 c wh a b) y) := h.mkC hy hC ⟨rfl, rfl, rfl⟩ ⟨c, rfl⟩
theorem Inv.wo (h : Inv s) (hy : s.C[i]? = some y) (hC : s.C.length < 64) : Inv (addS s nxW (y.nd : Int) false) := h.add hy hC false ⟨rfl, rfl, rfl⟩ fun e => by cases e
theorem Inv.cn (h : Inv s) (hx : s.C[i]? = some x) (hc : ∃ c, x.ch = some c) (he : er ≠ 0) : Inv (cnS s x er cs).1 := by
 unfold cnS
 by_cases h0 : x.er ≠ 0
 · rw [if_pos h0]; exact h
 · rw [if_neg h0]
   exact Inv.fold he _ _ h (h.good hx hc (by omega)) (walk_once h.wf (h.ndlt hx))
theorem Inv.dl {p : Option Nat} (h : Inv s) (hy : s.C[i]? = some y) (hC : s.C.length < 64) (c : Nat) (z : Int) : Inv (dlS p s (nx0 c z true true) (y.nd : Int) z) := by
 have v := h.add (x := nx0 c z true true) hy hC true ⟨rfl, rfl, rfl⟩ fun _ => ⟨c, rfl⟩
 have hat : ∀ (j : Nat) (q : Cx), (s.C ++ [{ nw (nx0 c z true true) s.T.length with lp := lpV p s.E }])[j]? = some q → ∃ q', (s.C ++ [nw (nx0 c z true true) s.T.length])[j]? = some q' ∧ q.nd = q'.nd ∧ q.ch = q'.ch ∧ q.er = q'.er ∧ q.cl = q'.cl ∧ q.rs = q'.rs := by
  intro j q hq
  rcases Nat.lt_or_ge j s.C.length with h1 | h1
  · rw [List.getElem?_append_left h1] at hq
    exact ⟨q, by rw [List.getElem?_append_left h1]; exact hq, rfl, rfl, rfl, rfl, rfl⟩
  · rw [List.getElem?_append_right h1] at hq
    by_cases e : j - s.C.length = 0
    · rw [e] at hq; simp at hq; subst hq
      exact ⟨nw (nx0 c z true true) s.T.length, by rw [List.getElem?_append_right h1, e]; rfl, rfl, rfl, rfl, rfl, rfl⟩
    · rw [List.getElem?_eq_none (by simp; omega)] at hq; cases hq
 have hta : ∀ (j : Nat) (q : Cx), (s.C ++ [nw (nx0 c z true true) s.T.length])[j]? = some q → ∃ q', (s.C ++ [{ nw (nx0 c z true true) s.T.length with lp := lpV p s.E }])[j]? = some q' ∧ q'.nd = q.nd := by
  intro j q hq
  rcases Nat.lt_or_ge j s.C.length with h1 | h1
  · rw [List.getElem?_append_left h1] at hq
    exact ⟨q, by rw [List.getElem?_append_left h1]; exact hq, rfl⟩
  · rw [List.getElem?_append_right h1] at hq
    by_cases e : j - s.C.length = 0
    · rw [e] at hq; simp at hq; subst hq
      exact ⟨{ nw (nx0 c z true true) s.T.length with lp := lpV p s.E }, by rw [List.getElem?_append_right h1, e]; rfl, rfl⟩
    · rw [List.getElem?_eq_none (by simp; omega)] at hq; cases hq
 have el : (lpE p s.E s.C.length).length ≤ s.E.length + 1 ∧ s.E.length ≤ (lpE p s.E s.C.length).length := by cases p <;> simp [lpE]
 have sl : (lpS p s.E s.n s.S z).length ≤ s.S.length + ((lpE p s.E s.C.length).length - s.E.length) := by
  cases p with
  | none => simp [lpS, lpE]
  | some q => simp only [lpS, lpE]; rw [(ins_perm _ s.S).length_eq]; simp
 have nl : lpN p s.n ≤ s.n + ((lpE p s.E s.C.length).length - s.E.length) := by
  cases p with
  | none => simp [lpN, lpE]
  | some q => simp [lpN, lpE]
 have sp : ∀ q ∈ lpS p s.E s.n s.S z, 0 ≤ q.id := by
  intro q hq
  cases p with
  | none => exact h.sp q hq
  | some k =>
   rcases List.mem_cons.1 ((ins_perm _ s.S).mem_iff.1 hq) with rfl | hq
   · show (0 : Int) ≤ (s.E.length : Int); omega
   · exact h.sp q hq
 have e1 := h.el
 have e2 := h.sl
 have e3 := h.nl
 refine ⟨v.wf, v.kl, by have := v.tl; simp [addS] at this; simp [dlS, addS]; omega, by show (s.C ++ _).length ≤ 64; simp; omega, v.al, by show (lpE p s.E s.C.length).length ≤ (s.C ++ _).length; simp; omega, by show (lpS p s.E s.n s.S z).length ≤ (lpE p s.E s.C.length).length; omega, by show lpN p s.n ≤ (lpE p s.E s.C.length).length; omega, sp, ?_, v.ka, ?_, v.ak, ?_, ?_⟩
 · intro k j hk
   obtain ⟨q, h1, h2⟩ := v.kc k j hk
   obtain ⟨q', h3, h4⟩ := hta j q h1
   exact ⟨q', h3, h4.trans h2⟩
 · intro j q hq
   obtain ⟨q', h3, h4, _⟩ := hat j q hq
   have := v.ck j q' h3
   rw [h4]; exact this
 · intro j q r hq hr
   obtain ⟨q', h3, h4, h5, h6, _⟩ := hat j q hq
   have hr : (s.T ++ [((y.nd : Int), true)])[q.nd]? = some (r, true) := hr
   rw [h4] at hr
   have := v.lv j q' r h3 hr
   rw [h5, h6]; exact this
 · intro j q hq
   obtain ⟨q', h3, h4, h5, h6, h7, h8⟩ := hat j q hq
   have := v.cx j q' h3
   rw [h5, h6, h7, h8]; exact this
theorem Inv.af (h : Inv s) (hy : s.C[i]? = some y) (hA : s.A.length < 64) (pg : Int) : Inv (afS s y pg) := by
 have hn := h.ndlt hy
 have atA : ∀ (j : Nat) (a : Af), (s.A ++ [⟨s.T.length, pg⟩])[j]? = some a → s.A[j]? = some a ∨ (j = s.A.length ∧ a = ⟨s.T.length, pg⟩) := by
  intro j z hz
  rcases Nat.lt_or_ge j s.A.length with c | c
  · rw [List.getElem?_append_left c] at hz; exact .inl hz
  · rw [List.getElem?_append_right c] at hz
    by_cases e : j - s.A.length = 0
    · rw [e] at hz; simp at hz; exact .inr ⟨by omega, hz.symm⟩
    · rw [List.getElem?_eq_none (by simp; omega)] at hz; cases hz
 have atK : ∀ (j : Nat) (z : Kd), (s.K ++ [⟨true, s.A.length⟩])[j]? = some z → s.K[j]? = some z ∨ (j = s.K.length ∧ z = ⟨true, s.A.length⟩) := by
  intro j z hz
  rcases Nat.lt_or_ge j s.K.length with c | c
  · rw [List.getElem?_append_left c] at hz; exact .inl hz
  · rw [List.getElem?_append_right c] at hz
    by_cases e : j - s.K.length = 0
    · rw [e] at hz; simp at hz; exact .inr ⟨by omega, hz.symm⟩
    · rw [List.getElem?_eq_none (by simp; omega)] at hz; cases hz
 have upK : ∀ (j : Nat) (z : Kd), s.K[j]? = some z → (s.K ++ [⟨true, s.A.length⟩])[j]? = some z := fun j z hz => by rw [List.getElem?_append_left (List.getElem?_eq_some_iff.1 hz).1]; exact hz
 refine ⟨h.wf.push (by omega) (by omega) (by omega), by simp [afS, h.kl], by have := h.tl; simp [afS]; omega, h.cl, by simp [afS]; omega, h.el, h.sl, h.nl, h.sp, ?_, ?_, ?_, ?_, ?_, h.cx⟩
 · intro k j hk
   rcases atK k _ hk with h1 | ⟨_, e⟩
   · exact h.kc k j h1
   · cases e
 · intro k j hk
   rcases atK k _ hk with h1 | ⟨rfl, e⟩
   · obtain ⟨a, h2, h3⟩ := h.ka k j h1
     exact ⟨a, by show (s.A ++ _)[j]? = _; rw [List.getElem?_append_left (List.getElem?_eq_some_iff.1 h2).1]; exact h2, h3⟩
   · injection e with _ e; subst e
     exact ⟨⟨s.T.length, pg⟩, by show (s.A ++ _)[_]? = _; simp, h.kl.symm⟩
 · intro j z hz
   exact upK _ _ (h.ck j z hz)
 · intro j a ha
   rcases atA j a ha with h1 | ⟨rfl, rfl⟩
   · exact upK _ _ (h.ak j a h1)
   · show (s.K ++ _)[s.T.length]? = _
     rw [← h.kl]; simp
 · intro j z q hz hq
   have h2 := h.ndlt hz
   have hq : (s.T ++ [((y.nd : Int), decide (y.er = 0))])[z.nd]? = some (q, true) := hq
   rw [List.getElem?_append_left h2] at hq
   exact h.lv j z q hz hq
theorem Inv.un (h : Inv s) (k : Nat) : Inv { s with T := Tr.cut s.T k } := by
 refine ⟨h.wf.cut k, by rw [Tr.cut_len]; exact h.kl, by rw [Tr.cut_len]; exact h.tl, h.cl, h.al, h.el, h.sl, h.nl, h.sp, h.kc, h.ka, h.ck, h.ak, fun j x q hx hq => ?_, h.cx⟩
 have hq : (Tr.cut s.T k)[x.nd]? = some (q, true) := hq
 rw [cut_at] at hq
 by_cases e : x.nd = k
 · rw [if_pos e] at hq
   cases hs : s.T[x.nd]? with
   | none => rw [hs] at hq; cases hq
   | some y => rw [hs] at hq; simp at hq
 · rw [if_neg e] at hq; exact h.lv j x q hx hq
end
end Go.Proofs.YtdpapnfjpefhkaaGreat
namespace Go.Proofs.YtdpapnfjpefhkaaGreat
open Go.RowKit Tr
set_option linter.unusedVariables false
set_option maxRecDepth 100000
theorem infRN : (Tryz.prog.info? 212).map (fun i => (i.zero, i.size, i.bytes)) = some (some (.agg #[.int .i64 0, .bool false]), 2, 16) := by kernel_rfl
theorem infRC : (Tryz.prog.info? 155).map (fun i => (i.zero, i.size, i.bytes)) = some (some (.agg #[.bool false, .int .i64 0, .int .i64 0, .bool false, .bool false, .int .i64 0, .int .i64 0, .int .i64 0, .bool false, .bool false, .int .i64 0, .pointer none]), 12, 80) := by kernel_rfl
section
variable {w w' : World} {b : Nat} {a0 a2 a3 a4 : Value}
def RfZ (b : Nat) (cs : Array Value) (w w' : World) : Prop := w'.heap[b]? = some (.cells cs 152 (0, 0)) ∧ Tn (fun k => k = b) w w'
theorem radd0 (h : w.heap[b]? = some (.cells #[a0, .slice none 0 0, a2, a3, a4] 152 (0, 0))) : Calls Tryz.prog 62 #[.pointer (some ⟨b, 1, none⟩), .int .i64 (-1), .bool false] w fun e w' => e = .returned (.tuple #[.int .i64 0, .int .i64 0]) ∧ ∃ P c, Hid (RfZ b #[a0, .slice P 1 c, a2, a3, a4] w w') := by
 obtain ⟨i0, hi, hz0, hz1, hz2⟩ := info_parts infRN
 have c1 : w.cell? ⟨b, 1, none⟩ = some (.slice none 0 0) := by rw [cell_of_row w b 1 _ _ _ h]; rfl
 have f1 := frozen_of_row w b 1 _ _ h
 have hb := lt_of_blk h
 have HE : Hid (∀ {wx w1 : World} {g cap : Nat}, Below w.heap.size w wx → wx.grownBy w1 (Value.slice none 0 0).ownBlock → (w1.cell? ⟨b, 1, none⟩ = some (.slice none 0 0) ∧ w1.frozen? ⟨b, 1, none⟩ = false) ∧ RfZ b #[a0, .slice (some ⟨g, 0, none⟩) 1 cap, a2, a3, a4] w (w1.setCell ⟨b, 1, none⟩ (.slice (some ⟨g, 0, none⟩) 1 cap))) := by
  intro wx w1 g cap hx hg
  have T1 : Tn (fun k => (none : Option Nat) = some k) w w1 := Tn.grown hx hg
  have e1 := (T1.block b hb (by simp)).trans h
  exact ⟨⟨by rw [cell_of_row w1 b 1 _ _ _ e1]; rfl, frozen_of_row w1 b 1 _ _ e1⟩, heap_setCell_same w1 b 1 _ _ (.slice (some ⟨g, 0, none⟩) 1 cap) e1, (T1.mono (G := fun k => k = b) fun k hk => by cases hk).set (b := b) (.inl rfl) _⟩
 clear h
 go_enter Tryz.func62, Tryz.ntmps62
 go_wp2_with (at_builtin; go_loud (refine wpList_append_lies _ rfl _ _ 147 rfl 0 212 i0 _ 2 16 Tryz.underlying147 hi hz0 hz1 hz2 rfl (by omega) (.slice none 0 0) 0 [] rfl (World.ownsRow_nil _ _ _ _) ⟨w.heap.size, 0, none⟩ 1 1 [.int .i64 (-1), .bool false] rfl rfl (World.news_of_block (cs := #[.int .i64 (-1), .bool false]) (heap_alloc_new w _)) (by intro u hu; simp at hu; rcases hu with rfl | rfl <;> rfl) (by omega) (by unfold maxLen; omega) (by omega) (by omega) (w.heap.size + 1) (by first | (simp; done) | (simp; rfl)) ?_; intro g cap w1 hown hgrow hat hlt1; have HM := HE.out (g := g) (cap := cap) (below_al w _) hgrow; have hc1 := HM.1.1; have hf1 := HM.1.2; have HD := Lib.hid HM.2; clear HM hown hgrow hat hlt1 c1 f1))
 go_wp2_with fail
 have hc2 : w1.cell? ⟨b, 1, none⟩ = some (.slice none 0 0) := hc1
 go_ret2
 exact ⟨rfl, _, _, HD⟩
abbrev nB : Array Value := #[.bool false, .int .i64 0, .int .i64 0, .bool false, .bool true, .int .i64 0, .int .i64 0, .int .i64 0, .bool false, .bool false, .int .i64 (-1), .pointer none]
theorem nB_cells {q : Nat} (h : w.heap[q]? = some (.cells nB 155 (0, 0))) : (w.cell? ⟨q, 0, none⟩ = some (.bool false) ∧ w.cell? ⟨q, 1, none⟩ = some (.int .i64 0) ∧ w.cell? ⟨q, 2, none⟩ = some (.int .i64 0) ∧ w.cell? ⟨q, 3, none⟩ = some (.bool false) ∧ w.cell? ⟨q, 4, none⟩ = some (.bool true) ∧ w.cell? ⟨q, 5, none⟩ = some (.int .i64 0) ∧ w.cell? ⟨q, 6, none⟩ = some (.int .i64 0) ∧ w.cell? ⟨q, 7, none⟩ = some (.int .i64 0) ∧ w.cell? ⟨q, 8, none⟩ = some (.bool false) ∧ w.cell? ⟨q, 9, none⟩ = some (.bool false) ∧ w.cell? ⟨q, 10, none⟩ = some (.int .i64 (-1)) ∧ w.cell? ⟨q, 11, none⟩ = some (.pointer none)) ∧ ∀ j, w.frozen? ⟨q, j, none⟩ = false := by
 refine ⟨⟨?_, ?_, ?_, ?_, ?_, ?_, ?_, ?_, ?_, ?_, ?_, ?_⟩, fun j => frozen_of_row w q j _ _ h⟩
 · rw [cell_of_row w q 0 _ _ _ h]; rfl
 · rw [cell_of_row w q 1 _ _ _ h]; rfl
 · rw [cell_of_row w q 2 _ _ _ h]; rfl
 · rw [cell_of_row w q 3 _ _ _ h]; rfl
 · rw [cell_of_row w q 4 _ _ _ h]; rfl
 · rw [cell_of_row w q 5 _ _ _ h]; rfl
 · rw [cell_of_row w q 6 _ _ _ h]; rfl
 · rw [cell_of_row w q 7 _ _ _ h]; rfl
 · rw [cell_of_row w q 8 _ _ _ h]; rfl
 · rw [cell_of_row w q 9 _ _ _ h]; rfl
 · rw [cell_of_row w q 10 _ _ _ h]; rfl
 · rw [cell_of_row w q 11 _ _ _ h]; rfl
theorem nB_one : ∀ u ∈ nB.toList, u.oneCell' = true := by
 intro u hu
 simp at hu
 rcases hu with rfl | rfl | rfl | rfl | rfl | rfl | rfl | rfl <;> rfl
set_option maxHeartbeats 4000000 in
theorem radd_new {u : Value} (h : w.heap[b]? = some (.cells #[u, .slice none 0 0, .slice none 0 0, .slice none 0 0, .slice none 0 0] 152 (0, 0))) : Calls Tryz.prog 55 #[.pointer (some ⟨b, 0, none⟩), .int .i64 (-1), .bool false, .agg nB] w fun e w' => e = .returned (.int .i64 0) ∧ Tn (fun k => k = b) w w' := by
 obtain ⟨i0, hi, hz0, hz1, hz2⟩ := info_parts infRC
 obtain ⟨i3, hi3, hy0, hy1, hy2⟩ := info_parts Tr.inf3
 have hb := lt_of_blk h
 have HC : Hid (Calls Tryz.prog 62 #[.pointer (some ⟨b, 1, none⟩), .int .i64 (-1), .bool false] (w.alloc (.cells nB 155)) fun e w' => e = .returned (.tuple #[.int .i64 0, .int .i64 0]) ∧ ∃ P c, Hid (RfZ b #[u, .slice P 1 c, .slice none 0 0, .slice none 0 0, .slice none 0 0] w w' ∧ w'.heap[w.heap.size]? = some (.cells nB 155 (0, 0)))) := by
  refine (radd0 (((below_al w _).block b hb).trans h)).mono ?_
  rintro e w' ⟨rfl, P, c, h1, h2⟩
  refine ⟨rfl, P, c, ⟨h1, (Tn.of_below (below_al w _)).trans h2⟩, ?_⟩
  exact (h2.block w.heap.size (by simp) (by show ¬ w.heap.size = b; omega)).trans (heap_alloc_new w _)
 clear h
 go_enter Tryz.func55, Tryz.ntmps55
 go_wp2_with fail
 refine HC.out.mono ?_
 rintro e w2 ⟨rfl, P, c, hR⟩
 clear HC
 obtain ⟨⟨x0, x1, x2, x3, x4, x5, x6, x7, x8, x9, x10, x11⟩, xf⟩ := nB_cells hR.out.2
 have f1 := xf 1
 have k3 : w2.cell? ⟨b, 3, none⟩ = some (.slice none 0 0) := by rw [cell_of_row w2 b 3 _ _ _ hR.out.1.1]; rfl
 have hb2 := lt_of_blk hR.out.1.1
 have hq2 := lt_of_blk hR.out.2
 clear xf
 go_wp2_with fail
 have e3 := heap_setCell_same w2 w.heap.size 1 _ _ (.int .i64 0) hR.out.2
 have e4 : (w2.setCell ⟨w.heap.size, 1, none⟩ (.int .i64 0)).heap[b]? = some (.cells #[u, .slice P 1 c, .slice none 0 0, .slice none 0 0, .slice none 0 0] 152 (0, 0)) := (Below.heap_setCell _ _ _ _ (show b ≠ w.heap.size by omega)).trans hR.out.1.1
 have e5 : Tn (fun k => k = b) w (w2.setCell ⟨w.heap.size, 1, none⟩ (.int .i64 0)) := hR.out.1.2.set (.inr (Nat.le_refl _)) _
 have HQ : Hid ((w2.setCell ⟨w.heap.size, 1, none⟩ (.int .i64 0)).heap[w.heap.size]? = some (.cells nB 155 (0, 0)) ∧ (w2.setCell ⟨w.heap.size, 1, none⟩ (.int .i64 0)).heap[b]? = some (.cells #[u, .slice P 1 c, .slice none 0 0, .slice none 0 0, .slice none 0 0] 152 (0, 0)) ∧ Tn (fun k => k = b) w (w2.setCell ⟨w.heap.size, 1, none⟩ (.int .i64 0))) := ⟨e3, e4, e5⟩
 clear e3 e4 e5 hR x0 x1 x2 x3 x4 x5 x6 x7 x8 x9 x10 x11 f1 k3 hb2 hq2
 generalize w2.setCell ⟨w.heap.size, 1, none⟩ (.int .i64 0) = w3 at *
 obtain ⟨⟨x0, x1, x2, x3, x4, x5, x6, x7, x8, x9, x10, x11⟩, -⟩ := nB_cells HQ.out.1
 have k2 : w3.cell? ⟨b, 2, none⟩ = some (.slice none 0 0) := by rw [cell_of_row w3 b 2 _ _ _ HQ.out.2.1]; rfl
 have f2 := frozen_of_row w3 b 2 _ _ HQ.out.2.1
 have hb3 := lt_of_blk HQ.out.2.1
 have hq3 := lt_of_blk HQ.out.1
 have hs3 := HQ.out.2.2.size
 have HE : Hid (∀ {wx w5 : World} {g cap : Nat}, Below w3.heap.size w3 wx → wx.grownBy w5 (Value.slice none 0 0).ownBlock → (w5.cell? ⟨b, 2, none⟩ = some (.slice none 0 0) ∧ w5.frozen? ⟨b, 2, none⟩ = false) ∧ Hid ((w5.setCell ⟨b, 2, none⟩ (.slice (some ⟨g, 0, none⟩) 1 cap)).heap[w.heap.size]? = some (.cells nB 155 (0, 0)) ∧ (w5.setCell ⟨b, 2, none⟩ (.slice (some ⟨g, 0, none⟩) 1 cap)).heap[b]? = some (.cells #[u, .slice P 1 c, .slice (some ⟨g, 0, none⟩) 1 cap, .slice none 0 0, .slice none 0 0] 152 (0, 0)) ∧ Tn (fun k => k = b) w (w5.setCell ⟨b, 2, none⟩ (.slice (some ⟨g, 0, none⟩) 1 cap)))) := by
  intro wx w5 g cap hx hg
  have T1 : Tn (fun k => (none : Option Nat) = some k) w3 w5 := Tn.grown hx hg
  have e1 := (T1.block b hb3 (by simp)).trans HQ.out.2.1
  refine ⟨⟨by rw [cell_of_row w5 b 2 _ _ _ e1]; rfl, frozen_of_row w5 b 2 _ _ e1⟩, ?_, heap_setCell_same w5 b 2 _ _ (.slice (some ⟨g, 0, none⟩) 1 cap) e1, (HQ.out.2.2.trans (T1.mono (G := fun k => k = b) fun k hk => by cases hk)).set (b := b) (.inl rfl) _⟩
  rw [Below.heap_setCell _ _ _ _ (show w.heap.size ≠ b by omega)]
  exact (T1.block _ hq3 (by simp)).trans HQ.out.1
 go_region_law (go_loud (refine step_append_lies _ (by rfl) _ _ _ (by rfl) 0 155 i0 (.agg #[.bool false, .int .i64 0, .int .i64 0, .bool false, .bool false, .int .i64 0, .int .i64 0, .int .i64 0, .bool false, .bool false, .int .i64 0, .pointer none]) 12 80 Tryz.underlying150 hi hz0 hz1 hz2 rfl (by omega) (.slice none 0 0) 0 [] (by rfl) (World.ownsRow_nil _ _ _ _) ⟨w3.heap.size, 0, none⟩ 1 1 nB.toList (by rfl) (by rfl) (World.news_of_block (cs := nB) (t := 155) (fr := (0, 0)) (news_one (w := w3) (by rfl))) nB_one (by omega) (by unfold maxLen; omega) (by omega) (by first | omega | (simp; done) | (simp; omega)) (w3.heap.size + 1) (by simp) ?_; intro g5 cap5 w5 hown hgrow hat hlt5; have HM := HE.out (g := g5) (cap := cap5) (by exact below_one rfl rfl rfl rfl) hgrow; have hc1 := HM.1.1; have hf1 := HM.1.2; have HD := HM.2; clear HM hown hgrow hat hlt5 k2 f2))
 all_goals
  clear HE hc1 hf1 x0 x1 x2 x3 x4 x5 x6 x7 x8 x9 x10 x11
  generalize w5.setCell ⟨b, 2, none⟩ (.slice (some ⟨g5, 0, none⟩) 1 cap5) = w6 at *
  have y1 : w6.cell? ⟨w.heap.size, 1, none⟩ = some (.int .i64 0) := by rw [cell_of_row w6 w.heap.size 1 _ _ _ HD.out.1]; rfl
  have k3 : w6.cell? ⟨b, 3, none⟩ = some (.slice none 0 0) := by rw [cell_of_row w6 b 3 _ _ _ HD.out.2.1]; rfl
  have f3 := frozen_of_row w6 b 3 _ _ HD.out.2.1
  have hb6 := lt_of_blk HD.out.2.1
  have hq6 := lt_of_blk HD.out.1
  have HE2 : Hid (∀ {wx w7 : World} {g cap : Nat}, Below w6.heap.size w6 wx → wx.grownBy w7 (Value.slice none 0 0).ownBlock → (w7.cell? ⟨b, 3, none⟩ = some (.slice none 0 0) ∧ w7.frozen? ⟨b, 3, none⟩ = false) ∧ (w7.setCell ⟨b, 3, none⟩ (.slice (some ⟨g, 0, none⟩) 1 cap)).cell? ⟨w.heap.size, 1, none⟩ = some (.int .i64 0) ∧ Hid (Tn (fun k => k = b) w (w7.setCell ⟨b, 3, none⟩ (.slice (some ⟨g, 0, none⟩) 1 cap)))) := by
   intro wx w7 g cap hx hg
   have T1 : Tn (fun k => (none : Option Nat) = some k) w6 w7 := Tn.grown hx hg
   have e1 := (T1.block b hb6 (by simp)).trans HD.out.2.1
   have e2 := (T1.block _ hq6 (by simp)).trans HD.out.1
   refine ⟨⟨by rw [cell_of_row w7 b 3 _ _ _ e1]; rfl, frozen_of_row w7 b 3 _ _ e1⟩, ?_, (HD.out.2.2.trans (T1.mono (G := fun k => k = b) fun k hk => by cases hk)).set (b := b) (.inl rfl) _⟩
   rw [World.cell?_setCell_other _ _ _ _ (by simp), cell_of_row w7 w.heap.size 1 _ _ _ e2]; rfl
  go_wp2_with (at_builtin; go_loud (refine wpList_append_lies _ rfl _ _ 111 rfl 0 3 i3 _ 1 8 Tryz.underlying111 hi3 hy0 hy1 hy2 rfl (by omega) (.slice none 0 0) 0 [] rfl (World.ownsRow_nil _ _ _ _) ⟨w6.heap.size, 0, none⟩ 1 1 [.int .i64 0] rfl rfl (World.news_of_block (cs := #[.int .i64 0]) (heap_alloc_new w6 _)) (int_cell _) (by omega) (by unfold maxLen; omega) (by omega) (by omega) (w6.heap.size + 1) (by first | (simp; done) | (simp; rfl)) ?_; intro g7 cap7 w7 hown hgrow hat hlt7; have HM := HE2.out (g := g7) (cap := cap7) (below_al w6 _) hgrow; have hc7 := HM.1.1; have hf7 := HM.1.2; have hr7 := HM.2.1; have HF := HM.2.2; clear HM hown hgrow hat hlt7 k3 f3))
  go_wp2_with fail
  go_ret
  exact ⟨rfl, HF.out⟩
theorem newref_any (u : Option Addr) (w : World) : Calls Tryz.prog 20 #[.pointer u] w fun e w' => (∃ b, e = .returned (.pointer (some ⟨b, 0, none⟩))) ∧ Below w.heap.size w w' := by
 have HC : Hid (Calls Tryz.prog 55 #[.pointer (some ⟨w.heap.size, 0, none⟩), .int .i64 (-1), .bool false, .agg nB] (w.alloc (.cells #[.pointer u, .slice none 0 0, .slice none 0 0, .slice none 0 0, .slice none 0 0] 152)) fun e w' => e = .returned (.int .i64 0) ∧ Hid (Below w.heap.size w w')) := by
  refine (radd_new (heap_alloc_new w _)).mono ?_
  rintro e w' ⟨rfl, h⟩
  exact ⟨rfl, (below_al w _).trans (h.below (by simp) fun b hb => by rw [hb]; exact Nat.le_refl _)⟩
 go_enter Tryz.func20, Tryz.ntmps20
 go_wp2_with fail
 refine HC.out.mono ?_
 rintro e w2 ⟨rfl, hb⟩
 go_wp2_with fail
 go_ret
 exact ⟨⟨_, rfl⟩, hb.out⟩
end
end Go.Proofs.YtdpapnfjpefhkaaGreat
namespace Go.Proofs.YtdpapnfjpefhkaaGreat
open Go.RowKit Tr
set_option linter.unusedVariables false
set_option maxRecDepth 100000
def bdR (b ts t : Nat) (u m : Option Addr) : Rr := ⟨some ⟨b, 0, none⟩, 39, 5, 1, 1, [.pointer (some ⟨ts, 0, none⟩), .pointer (some ⟨t, 0, none⟩), .pointer u, .pointer m, .int .i64 0]⟩
section
variable {W w w' : World} {t ts b : Nat} {p : Option Nat} {s s' : St} {rs : List Rr} {u m : Option Addr}
theorem LQ.bed {i : Nat} (h : LQ W t p s rs w) (hr : rs[i]? = some (bdR b ts t u m)) : w.cell? ⟨b, 0, none⟩ = some (.pointer (some ⟨ts, 0, none⟩)) ∧ w.cell? ⟨b, 1, none⟩ = some (.pointer (some ⟨t, 0, none⟩)) := by
 have ho : w.ownsRow 0 39 5 (.slice (some ⟨b, 0, none⟩) 1 1) 1 [.pointer (some ⟨ts, 0, none⟩), .pointer (some ⟨t, 0, none⟩), .pointer u, .pointer m, .int .i64 0] := h.own hr
 exact ⟨by rw [ho.cellAt 0 (by omega)]; rfl, by rw [ho.cellAt 1 (by omega)]; rfl⟩
theorem LQ.new {b : Nat} {n : Nat} {E : List On} {S : List It} (g : GS W b p (s0 E n S) (fun _ => False) w w') (hi : Inv (s0 E n S)) : LQ W b p (s0 E n S) [] w' := by
 obtain ⟨O', f, _, _⟩ := g
 exact ⟨⟨O', f, fun r hr => (by cases hr)⟩, fun r hr => (by cases hr), List.Pairwise.nil, hi⟩
theorem ss_tms (hb : Below W.heap.size W w) : Calls Tryz.prog 18 #[] w fun e w' => e = .returned (pS w.heap.size) ∧ Hid (TMs W (some w.heap.size) [] 0 [] w') ∧ Hid (Below w.heap.size w w') := by
 refine (ss_new hb).mono ?_
 rintro e w' ⟨rfl, h1, h2⟩
 exact ⟨rfl, ⟨h1, fun x hx => (by cases hx), fun x hx => (by cases hx)⟩, h2⟩
theorem TMs.later' (h : TMs W p [] 0 [] w) (h0 : Below W.heap.size W w) (b : Below w.heap.size w w') : TMs W p [] 0 [] w' := h.tm (h0.trans (b.mono h0.size)) fun j hj _ => b.block j hj
theorem newctx_lq (m : TMs W p [] 0 [] w) (hb : Below W.heap.size W w) : Calls Tryz.prog 19 #[.pointer (cp p)] w fun e w' => e = .returned (pS w.heap.size) ∧ Hid (LQ W w.heap.size p (s0 [] 0 []) [] w') := by
 refine (new_ctx m hb).mono ?_
 rintro e w' ⟨rfl, h⟩
 exact ⟨rfl, LQ.new h.out (Inv.s0 (by simp) (by simp) (by simp) (fun z hz => by cases hz))⟩
theorem LQ.addB (h : LQ W t p s [] w) (ts : Nat) (u m : Option Addr) : LQ W t p s [bdR w.heap.size ts t u m] (w.alloc (.cells #[.pointer (some ⟨ts, 0, none⟩), .pointer (some ⟨t, 0, none⟩), .pointer u, .pointer m, .int .i64 0] 39)) := by
 have hn := heap_alloc_new w (.cells #[.pointer (some ⟨ts, 0, none⟩), .pointer (some ⟨t, 0, none⟩), .pointer u, .pointer m, .int .i64 0] 39)
 have ho : (w.alloc (.cells #[.pointer (some ⟨ts, 0, none⟩), .pointer (some ⟨t, 0, none⟩), .pointer u, .pointer m, .int .i64 0] 39)).ownsRow w.heap.size 39 5 (.slice (some ⟨w.heap.size, 0, none⟩) 1 1) 1 [.pointer (some ⟨ts, 0, none⟩), .pointer (some ⟨t, 0, none⟩), .pointer u, .pointer m, .int .i64 0] :=
  ⟨by simp, .inr ⟨w.heap.size, 1, _, rfl, Nat.le_refl _, hn, by simp, by unfold maxLen; omega, by simp⟩⟩
 exact (h.alloc _).row (r := bdR w.heap.size ts t u m) h.bel.size ho (by show OthZ 39; decide) (fun O f k hk => f.nott (tag_row ho hk) fun ty e => by subst e; simp [TgO]) fun q hq => (by cases hq)
set_option maxHeartbeats 4000000 in
theorem fresh_any (w : World) : Calls Tryz.prog 5 #[] w fun e w' => ∃ b ts t u m, e = .returned (.tuple #[.pointer (some ⟨b, 0, none⟩), .bool true]) ∧ Hid (LQ w t (some ts) (s0 [] 0 []) [bdR b ts t u m] w') := by
 go_enter Tryz.func5, Tryz.ntmps5
 go_wp2_with fail
 refine (ss_tms (Below.refl w.heap.size w)).mono ?_
 rintro e w1 ⟨rfl, h1, hb1⟩
 have H1 := Lib.hid (newctx_lq (h1.out.later' hb1.out (below_al w1 (.cells #[.slice none 0 0, .int .i64 0, .slice none 0 0, .slice none 0 0, .int .i64 0] 68))) (hb1.out.trans ((below_al w1 (.cells #[.slice none 0 0, .int .i64 0, .slice none 0 0, .slice none 0 0, .int .i64 0] 68)).mono hb1.out.size)))
 simp only [Option.map_some] at H1
 clear h1 hb1
 go_wp2_with fail
 refine H1.out.mono ?_
 rintro e w2 ⟨rfl, h2⟩
 clear H1
 go_wp2_with fail
 refine (newref_any _ w2).mono ?_
 rintro e w3 ⟨⟨mb, rfl⟩, hb3⟩
 have H3 := Lib.hid (h2.out.later hb3)
 clear h2 hb3
 go_wp2_with fail
 have H3' : Hid (LQ w (w1.heap.size + 1) (some w.heap.size) (s0 [] 0 []) [] w3) := by
  have h9 := H3.out
  rw [World.size_alloc] at h9
  exact h9
 have H4 := Lib.hid (H3'.out.addB w.heap.size (some ⟨w1.heap.size, 0, none⟩) (some ⟨mb, 0, none⟩))
 clear H3 H3'
 go_quiet (fail)
 go_wp2_with fail
 go_ret2
 exact ⟨_, _, _, _, _, rfl, H4.out.drewN _⟩
end
end Go.Proofs.YtdpapnfjpefhkaaGreat
namespace Go.Proofs.YtdpapnfjpefhkaaGreat
open Go.RowKit Tr
set_option linter.unusedVariables false
set_option maxRecDepth 100000
def X1 (c : Nat) : Cx := ⟨1, some c, false, [], 0, 0, 0, false, false, -1⟩
def X2 (c : Nat) : Cx := ⟨2, some c, false, [], 0, 0, 20, true, true, 0⟩
def X3 : Cx := ⟨3, none, false, [], 0, 0, 0, false, false, -1⟩
def X4 (c : Nat) : Cx := ⟨4, some c, false, [], 0, 0, 0, false, false, -1⟩
def X5 (c : Nat) : Cx := ⟨6, some c, false, [], 0, 0, 20, true, false, -1⟩
def X6 (c : Nat) : Cx := ⟨7, some c, true, [], 2, 2, 3, true, true, -1⟩
def tE : List On := [⟨4, 2, none, 1⟩]
def A0 : St := s0 [] 0 []
def A1 (c1 : Nat) : St := ⟨[(-1, false), (0, true)], [⟨false, 0⟩, ⟨false, 1⟩], [bg, X1 c1], [], [], 0, []⟩
def A2 (c1 c2 : Nat) : St := ⟨[(-1, false), (0, true), (1, true)], [⟨false, 0⟩, ⟨false, 1⟩, ⟨false, 2⟩], [bg, X1 c1, X2 c2], [], tE, 1, [⟨0, 20, 1⟩]⟩
def A3 (c1 c2 : Nat) : St := ⟨[(-1, false), (0, true), (1, true), (2, false)], [⟨false, 0⟩, ⟨false, 1⟩, ⟨false, 2⟩, ⟨false, 3⟩], [bg, X1 c1, X2 c2, X3], [], tE, 1, [⟨0, 20, 1⟩]⟩
def A4 (c1 c2 c4 : Nat) : St := ⟨[(-1, false), (0, true), (1, true), (2, false), (3, true)], [⟨false, 0⟩, ⟨false, 1⟩, ⟨false, 2⟩, ⟨false, 3⟩, ⟨false, 4⟩], [bg, X1 c1, X2 c2, X3, X4 c4], [], tE, 1, [⟨0, 20, 1⟩]⟩
def A5 (c1 c2 c4 : Nat) : St := ⟨[(-1, false), (0, true), (1, true), (2, false), (3, true), (2, true)], [⟨false, 0⟩, ⟨false, 1⟩, ⟨false, 2⟩, ⟨false, 3⟩, ⟨false, 4⟩, ⟨true, 0⟩], [bg, X1 c1, X2 c2, X3, X4 c4], [⟨5, 3⟩], tE, 1, [⟨0, 20, 1⟩]⟩
def A6 (c1 c2 c4 c5 : Nat) : St := ⟨[(-1, false), (0, true), (1, true), (2, false), (3, true), (2, true), (2, true)], [⟨false, 0⟩, ⟨false, 1⟩, ⟨false, 2⟩, ⟨false, 3⟩, ⟨false, 4⟩, ⟨true, 0⟩, ⟨false, 5⟩], [bg, X1 c1, X2 c2, X3, X4 c4, X5 c5], [⟨5, 3⟩], tE, 1, [⟨0, 20, 1⟩]⟩
def A7 (c1 c2 c4 c5 : Nat) : St := ⟨[(-1, false), (0, false), (1, false), (2, false), (3, true), (2, false), (2, false)], [⟨false, 0⟩, ⟨false, 1⟩, ⟨false, 2⟩, ⟨false, 3⟩, ⟨false, 4⟩, ⟨true, 0⟩, ⟨false, 5⟩], [bg, ended (X1 c1) 1 9, ended (X2 c2) 1 9, X3, X4 c4, ended (X5 c5) 1 9], [⟨5, 3⟩], tE, 1, []⟩
def A8 (c1 c2 c4 c5 c6 : Nat) : St := ⟨[(-1, false), (0, false), (1, false), (2, false), (3, true), (2, false), (2, false), (0, false)], [⟨false, 0⟩, ⟨false, 1⟩, ⟨false, 2⟩, ⟨false, 3⟩, ⟨false, 4⟩, ⟨true, 0⟩, ⟨false, 5⟩, ⟨false, 6⟩], [bg, ended (X1 c1) 1 9, ended (X2 c2) 1 9, X3, X4 c4, ended (X5 c5) 1 9, X6 c6], [⟨5, 3⟩], tE, 1, []⟩
section
variable (ts c1 c2 c4 c5 c6 : Nat)
theorem A1_eq : mkC A0 (nx0 c1 bg.wh bg.has false) bg = A1 c1 := rfl
theorem A2_eq : dlS (some ts) (A1 c1) (nx0 c2 (hz 20) true true) ((X1 c1).nd : Int) (hz 20) = A2 c1 c2 := rfl
theorem A4_eq : mkC (A3 c1 c2) (nx0 c4 X3.wh X3.has false) X3 = A4 c1 c2 c4 := rfl
theorem A6_eq : mkC (A5 c1 c2 c4) (nx0 c5 (X2 c2).wh (X2 c2).has false) (X2 c2) = A6 c1 c2 c4 c5 := rfl
theorem walk_A6 : Tr.walk (A6 c1 c2 c4 c5).T (X1 c1).nd = [1, 2, 5, 6] := by
 show Tr.walk (A6 0 0 0 0).T 1 = _
 rw [walk_eq, show Tr.kids (A6 0 0 0 0).T 1 = [2] from by decide]
 simp only [List.flatMap_cons, List.flatMap_nil, List.append_nil]
 rw [walk_eq, show Tr.kids (A6 0 0 0 0).T 2 = [5, 6] from by decide]
 simp only [List.flatMap_cons, List.flatMap_nil, List.append_nil]
 rw [walk_eq _ 5, walk_eq _ 6, show Tr.kids (A6 0 0 0 0).T 5 = [] from by decide, show Tr.kids (A6 0 0 0 0).T 6 = [] from by decide]
 rfl
theorem A7_eq : cnS (A6 c1 c2 c4 c5) (X1 c1) 1 9 = (A7 c1 c2 c4 c5, [(1, []), (2, []), (5, [])], [⟨0, 3⟩]) := by
 unfold cnS
 rw [if_neg (by show ¬ ((0 : Int) ≠ 0); decide), walk_A6]
 rfl
end
end Go.Proofs.YtdpapnfjpefhkaaGreat
