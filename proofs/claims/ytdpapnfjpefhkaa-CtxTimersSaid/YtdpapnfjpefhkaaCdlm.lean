/- What Deadline of package ctx does. Conditions: each theorem's own premises.
What a law knows: contexts of its own and rows of its own, apart; what each call makes of them. No condition. -/
import Derived.Test.YtdpapnfjpefhkaaCcam
import Derived.Test.YtdpapnfjpefhkaaTmrm
namespace Go.Proofs.Ytdpapnfjpefhkaa
open Go.RowKit Tr
set_option linter.unusedVariables false
set_option maxRecDepth 100000
section
variable {W w w' w'' wx w1 w2 : World} {t i n c : Nat} {p : Option Nat} {O : Nat → Prop} {s s' : St} {x y : Cx} {er cs : Int} {l : List Lap} {m : List Mp}

theorem MkR.from {s' : Nat → St} (b : Below w.heap.size w w1) {e : Ending} (h : MkR W t p s' O n er cs l w1 e w') : MkR W t p s' O n er cs l w e w' := by
  obtain ⟨P1, n1, c1, c, h1, h2, h3, h4⟩ := h
  exact ⟨P1, n1, c1, c, h1, h2, GS.from b h3.out, h4.out.low b.size⟩
/-- What Lapse of the timers makes of them. -/
def lpE (p : Option Nat) (E : List On) (k : Nat) : List On := match p with
  | none => E
  | some _ => E ++ [⟨4, k, none, 1⟩]
def lpN (p : Option Nat) (n : Nat) : Nat := match p with
  | none => n
  | some _ => n + 1
def lpS (p : Option Nat) (E : List On) (n : Nat) (S : List It) (z : Int) : List It := match p with
  | none => S
  | some _ => ins ⟨(E.length : Int), z, (n : Int) + 1⟩ S
def lpV (p : Option Nat) (E : List On) : Int := match p with
  | none => 0
  | some _ => (E.length : Int)
theorem hz_hz (x : Int) : hz (hz x) = hz x := by unfold hz; omega
theorem tlapse_nil (z : Int) (k : Nat) (w : World) : Calls Try.prog 40 #[.pointer none, .int .i64 z, .int .i64 (k : Int)] w fun e w' => e = .returned (.tuple #[.int .i64 0, .int .i64 3]) ∧ w = w' := by
  have b0 : ¬ (k : Int) < 0 := by omega
  go_enter Try.func40, Try.ntmps40
  go_wp2_with fail
  go_ret2
  exact ⟨rfl, rfl⟩
theorem tlapse_any {E : List On} {S : List It} (z : Int) (k : Nat) (m : TMs W p E n S w) (hb : Below W.heap.size W w) (hE : E.length ≤ 1000) (hn : n ≤ 1000) (hl : S.length < 1000) :
    Calls Try.prog 40 #[.pointer (cp p), .int .i64 z, .int .i64 (k : Int)] w fun e w' => ∃ r, e = .returned (.tuple #[.int .i64 (lpV p E), .int .i64 r]) ∧ TmR W p (lpE p E k) (lpN p n) (lpS p E n S (hz z)) w w' := by
  cases p with
  | none =>
    refine (tlapse_nil z k w).mono ?_
    rintro e w' ⟨rfl, rfl⟩
    exact ⟨_, rfl, m, hb, OZ.refl _, Nat.le_refl _⟩
  | some ts =>
    obtain ⟨h, h1, h2⟩ := m
    refine (lapse_ok (wh := z) h (by omega) (by omega) (by omega) hl).mono ?_
    rintro e w' ⟨rfl, h3, h4⟩
    rw [fput_z0, del_out h1 (.inr (Int.le_refl _))] at h3
    refine ⟨_, rfl, ⟨h3, fun x hx => ?_, fun x hx => ?_⟩, h3.bel, h4, h4.1⟩
    · rw [show (lpE (some ts) E k).length = E.length + 1 from by simp [lpE]]
      have hx : x ∈ ins ⟨(E.length : Int), hz z, (n : Int) + 1⟩ S := hx
      rcases List.mem_cons.1 ((ins_perm _ S).mem_iff.1 hx) with rfl | hx
      · exact ⟨by show (0 : Int) ≤ (E.length : Int); omega, by show (E.length : Int) < _; omega⟩
      · have := h1 x hx; omega
    · have hx : x ∈ E ++ [(⟨4, k, none, 1⟩ : On)] := hx
      rcases List.mem_append.1 hx with hx | hx
      · exact h2 x hx
      · simp at hx; subst hx; exact ⟨rfl, rfl⟩
/-- A context's timer is written. -/
theorem FS.lps (h : FS W t p s O w) (hx : s.C[i]? = some x) {q k cC : Nat} (hc : w.cell? ⟨t, 3, none⟩ = some (.slice (some ⟨q, 0, none⟩) k cC)) : w.cell? ⟨q, i * 8 + 7, none⟩ = some (.int .i64 x.lp) ∧ w.frozen? ⟨q, i * 8 + 7, none⟩ = false ∧ q ≠ t ∧
    ∀ v, GS W t p { s with C := s.C.set i { x with lp := v } } O w (w.setCell ⟨q, i * 8 + 7, none⟩ (.int .i64 v)) := by
  obtain ⟨⟨F, G, o, y, e⟩, m⟩ := h
  obtain ⟨q', hP, hq, ⟨-, -, -, -, -, -, -, x7⟩, hf⟩ := y.cx hx
  have h3 := y.cells.2.2.1
  rw [hc] at h3
  injection h3 with h3; injection h3 with h3 _ _
  rw [hP] at h3
  injection h3 with h3; injection h3 with h3; subst h3
  refine ⟨x7, hf _, ?_, fun v => ?_⟩
  · rintro rfl
    obtain ⟨P9, c9, hb9⟩ := y.tr.blk
    exact (tag_row y.rc (by rw [hP]; rfl)).not hb9 (by decide)
  obtain ⟨y1, t1⟩ := y.setx (y := { x with lp := v }) hx hP 7 (by omega) (.int .i64 v) rfl rfl rfl
  exact FS.ctx y e m y1 (fun k hk => .inl ((e k).2 hk)) (t1.mono fun b hb => .inl ((e b).2 hb))
/-- What is left when a deadline is told to the timers. -/
def dlS (p : Option Nat) (s : St) (x : Cx) (ab z : Int) : St := { addS s x ab true with C := s.C ++ [{ nw x s.T.length with lp := lpV p s.E }], E := lpE p s.E s.C.length, n := lpN p s.n, S := lpS p s.E s.n s.S z }

set_option maxHeartbeats 8000000 in
theorem deadline_as (wh now : Int) (h : FS W t p s O w) (v : Inv s) (hy : s.C[i]? = some y) (hC : s.C.length < 64) (h1 : y.has = true) (h2 : y.wh ≤ hz wh) : Calls Try.prog 19 #[pS t, .int .i64 (i : Int), .int .i64 wh, .int .i64 now] w (MkR W t p (fun c => mkC s (nx0 c y.wh y.has false) y) O s.C.length y.er y.cs (mkL s y) w) := by
  have hi := (List.getElem?_eq_some_iff.1 hy).1
  have b1 : (i : Int) < (s.C.length : Int) := by omega
  have b2 : (0 : Int) ≤ (i : Int) := by omega
  have HR := Lib.hid (refusal_any (i : Int) h)
  rw [rfs_ok hi hC] at HR
  obtain ⟨PC, cC, h3, hr⟩ := h.c3
  obtain ⟨q, rfl, hq, x0, x1, x2, x3, x4, x5, x6, x7⟩ := hr i y hy
  have ht := h.tlt
  rw [h1] at x5
  obtain ⟨a, hmin⟩ : ∃ a, min wh 4611686018427387904 = a := ⟨_, rfl⟩
  obtain ⟨z, hmax⟩ : ∃ z, max 0 a = z := ⟨_, rfl⟩
  have hzz : hz wh = z := by unfold hz; rw [hmin, hmax]
  rw [hzz] at h2
  have HC : Hid (∀ w', Below w.heap.size w w' → Calls Try.prog 15 #[pS t, .int .i64 (i : Int)] w' (MkR W t p (fun c => mkC s (nx0 c y.wh y.has false) y) O s.C.length y.er y.cs (mkL s y) w)) := fun w' hb => (cancels_ok (h.later hb) v hy hC).mono fun e w' h => h.from hb
  clear hr hy h hC hi v h1 hzz
  go_enter Try.func19, Try.ntmps19
  go_wp2_with fail
  refine HR.out.mono ?_
  rintro e w' ⟨rfl, rfl⟩
  clear HR
  go_wp2_with fail
  refine (HC.out _ (below_al w _)).mono ?_
  rintro e w2 ⟨P1, n1, c1, c, h4, rfl, h5, h6⟩
  go_wp2_with fail
  go_ret3
  exact ⟨P1, n1, c1, c, h4, rfl, h5, h6⟩

set_option maxHeartbeats 16000000 in
theorem deadline_over (wh now : Int) (h : FS W t p s O w) (v : Inv s) (hy : s.C[i]? = some y) (hC : s.C.length < 64) (hn : ¬ (y.has = true ∧ y.wh ≤ hz wh)) (he : y.er ≠ 0) : Calls Try.prog 19 #[pS t, .int .i64 (i : Int), .int .i64 wh, .int .i64 now] w (MkR W t p (fun c => mkC s (nx0 c (hz wh) true true) y) O s.C.length y.er y.cs (mkL s y) w) := by
  obtain ⟨a, hmin⟩ : ∃ a, min wh 4611686018427387904 = a := ⟨_, rfl⟩
  obtain ⟨z, hmax⟩ : ∃ z, max 0 a = z := ⟨_, rfl⟩
  have hzz : hz wh = z := by unfold hz; rw [hmin, hmax]
  have hzi : hz z = z := by rw [← hzz, hz_hz]
  rw [hzz] at hn
  try rw [hzz] at hnow
  try rw [hzz]
  clear hzz
  obtain ⟨hv, hhv⟩ : ∃ hv, y.has = hv := ⟨_, rfl⟩
  have hn : hv = true → ¬ y.wh ≤ z := fun e h => hn ⟨hhv.trans e, h⟩
  have hi := (List.getElem?_eq_some_iff.1 hy).1
  have b1 : (i : Int) < (s.C.length : Int) := by omega
  have b2 : (0 : Int) ≤ (i : Int) := by omega
  have HR := Lib.hid (refusal_any (i : Int) h)
  rw [rfs_ok hi hC] at HR
  obtain ⟨PC, cC, h3, hr⟩ := h.c3
  obtain ⟨q, rfl, hq, x0, x1, x2, x3, x4, x5, x6, x7⟩ := hr i y hy
  have ht := h.tlt
  rw [hhv] at x5
  have HSG : Hid (∀ w', Below (w.alloc (.cells #[.int .i64 y.nd, .pointer (cp y.ch), .int .i64 y.er, .int .i64 y.cs, .int .i64 y.wh, .bool hv, .bool y.own, .int .i64 y.lp] 92)).heap.size (w.alloc (.cells #[.int .i64 y.nd, .pointer (cp y.ch), .int .i64 y.er, .int .i64 y.cs, .int .i64 y.wh, .bool hv, .bool y.own, .int .i64 y.lp] 92)) w' → Calls Try.prog 34 #[] w' fun e w4 => ∃ c, e = .returned (.pointer (some ⟨c, 0, none⟩)) ∧ Hid (∀ w4', Below w4.heap.size w4 w4' → Calls Try.prog 32 #[pS t, .int .i64 (i : Int), .bool true, cG (nx0 c z true true)] w4' fun e w5 => e = .returned (.int .i64 (s.C.length : Int)) ∧ Hid (Calls Try.prog 35 #[pS t, .int .i64 (s.C.length : Int), .int .i64 (i : Int)] w5 (FoR W t p (mkC s (nx0 c z true true) y) O y.er y.cs (mkL s y) w)))) := by
    intro w' hb
    have hw' : Below w.heap.size w w' := (below_al w _).trans (hb.mono (by simp))
    have f' := h.later hw'
    refine (Ch.signal_any w').mono ?_
    rintro e w4 ⟨c, rfl, mk⟩
    refine ⟨c, rfl, fun w4' hb' => ?_⟩
    obtain ⟨Gc, nc, hg⟩ := NC.of_mk f' z true true mk
    have nc' : NC W O Gc w4' (nx0 c z true true) := nc.keep fun k hk => hb'.block k (nc.lt hk)
    refine (f'.add v hy (mk.bel.trans (hb'.mono mk.bel.size)) nc' hg true).mono ?_
    rintro e w5 ⟨rfl, gs⟩
    obtain ⟨O5, f5, hs5, fm5⟩ := gs
    refine ⟨rfl, ?_⟩
    refine (follow_new f5 v hC hy ⟨rfl, rfl, rfl⟩ ⟨c, rfl⟩).mono ?_
    rintro e w6 ⟨P1, n1, c1, h1, h2, h3, h4⟩
    exact ⟨P1, n1, c1, h1, h2, GS.from hw' (GS.comp hs5 fm5 h3.out), h4.out.low (Nat.le_trans hw'.size fm5.1)⟩
  have HV := Lib.hid v
  have HCL := Lib.hid hC
  have HER := Lib.hid he
  clear hr hy h hC hi v hhv he hzi
  cases hv
  all_goals
    first | (have b9 := hn rfl; clear hn) | clear hn
    go_enter Try.func19, Try.ntmps19
    go_wp2_with fail
    refine HR.out.mono ?_
    rintro e w' ⟨rfl, rfl⟩
    clear HR
    go_wp2_with fail
    refine (HSG.out _ (Below.refl _ _)).mono ?_
    rintro e w4 ⟨c, rfl, h4⟩
    clear HSG
    go_wp2_with fail
    refine (h4.out _ (Below.refl _ _)).mono ?_
    rintro e w5 ⟨rfl, h5⟩
    clear h4
    go_wp2_with fail
    refine h5.out.mono ?_
    rintro e w6 ⟨P1, n1, c1, h6, rfl, h7, h8⟩
    clear h5 x0 x1 x2 x3 x4 x5 x6 x7 h3 b1 b2 hq ht
    try clear b9
    clear hmin hmax
    have h7' := h7
    unfold mkC at h7'
    rw [if_neg HER.out] at h7'
    obtain ⟨O6, f6, hs6, fm6⟩ := h7'.out
    have HO := Lib.hid (over_any (i := s.C.length) f6 (x := ended (nw (nx0 c z true true) s.T.length) y.er y.cs) (by show (s.C ++ _)[_]? = _; simp))
    have e9 : ((ended (nw (nx0 c z true true) s.T.length) y.er y.cs).er != 0) = true := bne_iff_ne.2 HER.out
    rw [e9] at HO
    clear e9 f6 hs6 fm6 h7'
    go_wp2_with fail
    refine HO.out.mono ?_
    rintro e w7 ⟨rfl, rfl⟩
    go_wp2_with fail
    go_ret3
    exact ⟨P1, n1, c1, c, h6, rfl, h7, h8⟩

set_option maxHeartbeats 16000000 in
theorem deadline_now (wh now : Int) (h : FS W t p s O w) (v : Inv s) (hy : s.C[i]? = some y) (hC : s.C.length < 64) (hn : ¬ (y.has = true ∧ y.wh ≤ hz wh)) (he : y.er = 0) (hnow : hz wh ≤ now) : Calls Try.prog 19 #[pS t, .int .i64 (i : Int), .int .i64 wh, .int .i64 now] w (MkR W t p (fun c => addD s (nx0 c (hz wh) true true) (y.nd : Int) 2 2) O s.C.length 2 2 [(s.C.length, [])] w) := by
  obtain ⟨a, hmin⟩ : ∃ a, min wh 4611686018427387904 = a := ⟨_, rfl⟩
  obtain ⟨z, hmax⟩ : ∃ z, max 0 a = z := ⟨_, rfl⟩
  have hzz : hz wh = z := by unfold hz; rw [hmin, hmax]
  have hzi : hz z = z := by rw [← hzz, hz_hz]
  rw [hzz] at hn
  try rw [hzz] at hnow
  try rw [hzz]
  clear hzz
  obtain ⟨hv, hhv⟩ : ∃ hv, y.has = hv := ⟨_, rfl⟩
  have hn : hv = true → ¬ y.wh ≤ z := fun e h => hn ⟨hhv.trans e, h⟩
  have hi := (List.getElem?_eq_some_iff.1 hy).1
  have b1 : (i : Int) < (s.C.length : Int) := by omega
  have b2 : (0 : Int) ≤ (i : Int) := by omega
  have HR := Lib.hid (refusal_any (i : Int) h)
  rw [rfs_ok hi hC] at HR
  obtain ⟨PC, cC, h3, hr⟩ := h.c3
  obtain ⟨q, rfl, hq, x0, x1, x2, x3, x4, x5, x6, x7⟩ := hr i y hy
  have ht := h.tlt
  rw [hhv] at x5
  have HSG : Hid (∀ w', Below (w.alloc (.cells #[.int .i64 y.nd, .pointer (cp y.ch), .int .i64 y.er, .int .i64 y.cs, .int .i64 y.wh, .bool hv, .bool y.own, .int .i64 y.lp] 92)).heap.size (w.alloc (.cells #[.int .i64 y.nd, .pointer (cp y.ch), .int .i64 y.er, .int .i64 y.cs, .int .i64 y.wh, .bool hv, .bool y.own, .int .i64 y.lp] 92)) w' → Calls Try.prog 34 #[] w' fun e w4 => ∃ c, e = .returned (.pointer (some ⟨c, 0, none⟩)) ∧ Hid (∀ w4', Below w4.heap.size w4 w4' → Calls Try.prog 32 #[pS t, .int .i64 (i : Int), .bool true, cG (nx0 c z true true)] w4' fun e w5 => e = .returned (.int .i64 (s.C.length : Int)) ∧ Hid (Calls Try.prog 35 #[pS t, .int .i64 (s.C.length : Int), .int .i64 (i : Int)] w5 (FoR W t p (mkC s (nx0 c z true true) y) O y.er y.cs (mkL s y) w)))) := by
    intro w' hb
    have hw' : Below w.heap.size w w' := (below_al w _).trans (hb.mono (by simp))
    have f' := h.later hw'
    refine (Ch.signal_any w').mono ?_
    rintro e w4 ⟨c, rfl, mk⟩
    refine ⟨c, rfl, fun w4' hb' => ?_⟩
    obtain ⟨Gc, nc, hg⟩ := NC.of_mk f' z true true mk
    have nc' : NC W O Gc w4' (nx0 c z true true) := nc.keep fun k hk => hb'.block k (nc.lt hk)
    refine (f'.add v hy (mk.bel.trans (hb'.mono mk.bel.size)) nc' hg true).mono ?_
    rintro e w5 ⟨rfl, gs⟩
    obtain ⟨O5, f5, hs5, fm5⟩ := gs
    refine ⟨rfl, ?_⟩
    refine (follow_new f5 v hC hy ⟨rfl, rfl, rfl⟩ ⟨c, rfl⟩).mono ?_
    rintro e w6 ⟨P1, n1, c1, h1, h2, h3, h4⟩
    exact ⟨P1, n1, c1, h1, h2, GS.from hw' (GS.comp hs5 fm5 h3.out), h4.out.low (Nat.le_trans hw'.size fm5.1)⟩
  have HV := Lib.hid v
  have HYY := Lib.hid hy
  have HCL := Lib.hid hC
  have HER := Lib.hid he
  clear hr hy h hC hi v hhv he hzi
  cases hv
  all_goals
    first | (have b9 := hn rfl; clear hn) | clear hn
    go_enter Try.func19, Try.ntmps19
    go_wp2_with fail
    refine HR.out.mono ?_
    rintro e w' ⟨rfl, rfl⟩
    clear HR
    go_wp2_with fail
    refine (HSG.out _ (Below.refl _ _)).mono ?_
    rintro e w4 ⟨c, rfl, h4⟩
    clear HSG
    go_wp2_with fail
    refine (h4.out _ (Below.refl _ _)).mono ?_
    rintro e w5 ⟨rfl, h5⟩
    clear h4
    go_wp2_with fail
    refine h5.out.mono ?_
    rintro e w6 ⟨P1, n1, c1, h6, rfl, h7, h8⟩
    clear h5 x0 x1 x2 x3 x4 x5 x6 x7 h3 b1 b2 hq ht
    try clear b9
    clear hmin hmax
    have hmk : mkC s (nx0 c z true true) y = addS s (nx0 c z true true) (y.nd : Int) true := by unfold mkC; rw [if_pos HER.out]
    have h7' := h7
    rw [hmk] at h7'
    obtain ⟨O6, f6, hs6, fm6⟩ := h7'.out
    have HX6 : Hid ((addS s (nx0 c z true true) (y.nd : Int) true).C[s.C.length]? = some (nw (nx0 c z true true) s.T.length)) := addS_new
    have HO := Lib.hid (over_any (i := s.C.length) f6 HX6.out)
    have e9 : ((nw (nx0 c z true true) s.T.length).er != 0) = false := rfl
    rw [e9] at HO
    obtain ⟨y0, hy0⟩ : ∃ y0, s.C[i]? = some y0 := ⟨_, HYY.out⟩
    have HCN : Hid (Calls Try.prog 37 #[pS t, .int .i64 (s.C.length : Int), .int .i64 2, .int .i64 2] w6 (CaR W t p (addD s (nx0 c z true true) (y.nd : Int) 2 2) O 2 2 [(s.C.length, [])] [] w)) := by
      have v2 := HV.out.add (x := nx0 c z true true) HYY.out HCL.out true ⟨rfl, rfl, rfl⟩ fun _ => ⟨c, rfl⟩
      have := cancel_go (er := 2) (cs := 2) f6 HX6.out rfl (v2.ndlt HX6.out) (v2.good HX6.out ⟨c, rfl⟩ rfl) (by have := v2.el; have := v2.cl; omega) (by have := v2.sl; have := v2.el; have := v2.cl; omega) (by have := v2.cl; omega) (by have := v2.al; omega) (by have := v2.kl; have := v2.tl; have := v2.cl; have := v2.al; omega)
      rw [fold_new HV.out _ _ ⟨rfl, rfl⟩] at this
      refine this.mono ?_
      rintro e w7 ⟨P1, n1, c1, P2, n2, c2, g1, g2, rfl, g3, g4, g5⟩
      exact ⟨P1, n1, c1, P2, n2, c2, g1, g2, rfl, GS.comp hs6 fm6 g3.out, g4.out.low fm6.1, row_low g5.out fm6.1⟩
    clear e9 f6 hs6 fm6 h7' hmk h7 h8 h6 hy0
    go_wp2_with fail
    refine HO.out.mono ?_
    rintro e w7 ⟨rfl, rfl⟩
    go_wp2_with fail
    refine HCN.out.mono ?_
    rintro e w7 ⟨P1, n1, c1, P2, n2, c2, g1, g2, rfl, g3, g4, g5⟩
    go_wp2_with fail
    go_ret3
    exact ⟨P1, n1, c1, c, g1, rfl, g3, g4⟩

set_option maxHeartbeats 16000000 in
theorem deadline_set (wh now : Int) (h : FS W t p s O w) (v : Inv s) (hy : s.C[i]? = some y) (hC : s.C.length < 64) (hn : ¬ (y.has = true ∧ y.wh ≤ hz wh)) (he : y.er = 0) (hset : ¬ hz wh ≤ now) : Calls Try.prog 19 #[pS t, .int .i64 (i : Int), .int .i64 wh, .int .i64 now] w (MkR W t p (fun c => dlS p s (nx0 c (hz wh) true true) (y.nd : Int) (hz wh)) O s.C.length y.er y.cs (mkL s y) w) := by
  obtain ⟨a, hmin⟩ : ∃ a, min wh 4611686018427387904 = a := ⟨_, rfl⟩
  obtain ⟨z, hmax⟩ : ∃ z, max 0 a = z := ⟨_, rfl⟩
  have hzz : hz wh = z := by unfold hz; rw [hmin, hmax]
  have hzi : hz z = z := by rw [← hzz, hz_hz]
  rw [hzz] at hn
  try rw [hzz] at hset
  try rw [hzz]
  clear hzz
  obtain ⟨hv, hhv⟩ : ∃ hv, y.has = hv := ⟨_, rfl⟩
  have hn : hv = true → ¬ y.wh ≤ z := fun e h => hn ⟨hhv.trans e, h⟩
  have hi := (List.getElem?_eq_some_iff.1 hy).1
  have b1 : (i : Int) < (s.C.length : Int) := by omega
  have b2 : (0 : Int) ≤ (i : Int) := by omega
  have HR := Lib.hid (refusal_any (i : Int) h)
  rw [rfs_ok hi hC] at HR
  obtain ⟨PC, cC, h3, hr⟩ := h.c3
  obtain ⟨q, rfl, hq, x0, x1, x2, x3, x4, x5, x6, x7⟩ := hr i y hy
  have ht := h.tlt
  rw [hhv] at x5
  have HSG : Hid (∀ w', Below (w.alloc (.cells #[.int .i64 y.nd, .pointer (cp y.ch), .int .i64 y.er, .int .i64 y.cs, .int .i64 y.wh, .bool hv, .bool y.own, .int .i64 y.lp] 92)).heap.size (w.alloc (.cells #[.int .i64 y.nd, .pointer (cp y.ch), .int .i64 y.er, .int .i64 y.cs, .int .i64 y.wh, .bool hv, .bool y.own, .int .i64 y.lp] 92)) w' → Calls Try.prog 34 #[] w' fun e w4 => ∃ c, e = .returned (.pointer (some ⟨c, 0, none⟩)) ∧ Hid (∀ w4', Below w4.heap.size w4 w4' → Calls Try.prog 32 #[pS t, .int .i64 (i : Int), .bool true, cG (nx0 c z true true)] w4' fun e w5 => e = .returned (.int .i64 (s.C.length : Int)) ∧ Hid (Calls Try.prog 35 #[pS t, .int .i64 (s.C.length : Int), .int .i64 (i : Int)] w5 (FoR W t p (mkC s (nx0 c z true true) y) O y.er y.cs (mkL s y) w)))) := by
    intro w' hb
    have hw' : Below w.heap.size w w' := (below_al w _).trans (hb.mono (by simp))
    have f' := h.later hw'
    refine (Ch.signal_any w').mono ?_
    rintro e w4 ⟨c, rfl, mk⟩
    refine ⟨c, rfl, fun w4' hb' => ?_⟩
    obtain ⟨Gc, nc, hg⟩ := NC.of_mk f' z true true mk
    have nc' : NC W O Gc w4' (nx0 c z true true) := nc.keep fun k hk => hb'.block k (nc.lt hk)
    refine (f'.add v hy (mk.bel.trans (hb'.mono mk.bel.size)) nc' hg true).mono ?_
    rintro e w5 ⟨rfl, gs⟩
    obtain ⟨O5, f5, hs5, fm5⟩ := gs
    refine ⟨rfl, ?_⟩
    refine (follow_new f5 v hC hy ⟨rfl, rfl, rfl⟩ ⟨c, rfl⟩).mono ?_
    rintro e w6 ⟨P1, n1, c1, h1, h2, h3, h4⟩
    exact ⟨P1, n1, c1, h1, h2, GS.from hw' (GS.comp hs5 fm5 h3.out), h4.out.low (Nat.le_trans hw'.size fm5.1)⟩
  have HV := Lib.hid v
  have HCL := Lib.hid hC
  have HER := Lib.hid he
  clear hr hy h hC hi v hhv he
  cases hv
  all_goals
    first | (have b9 := hn rfl; clear hn) | clear hn
    go_enter Try.func19, Try.ntmps19
    go_wp2_with fail
    refine HR.out.mono ?_
    rintro e w' ⟨rfl, rfl⟩
    clear HR
    go_wp2_with fail
    refine (HSG.out _ (Below.refl _ _)).mono ?_
    rintro e w4 ⟨c, rfl, h4⟩
    clear HSG
    go_wp2_with fail
    refine (h4.out _ (Below.refl _ _)).mono ?_
    rintro e w5 ⟨rfl, h5⟩
    clear h4
    go_wp2_with fail
    refine h5.out.mono ?_
    rintro e w6 ⟨P1, n1, c1, h6, rfl, h7, h8⟩
    clear h5 x0 x1 x2 x3 x4 x5 x6 x7 h3 b1 b2 hq ht
    try clear b9
    clear hmin hmax
    have hmk : mkC s (nx0 c z true true) y = addS s (nx0 c z true true) (y.nd : Int) true := by unfold mkC; rw [if_pos HER.out]
    have h7' := h7
    rw [hmk] at h7'
    obtain ⟨O6, f6, hs6, fm6⟩ := h7'.out
    have HX6 : Hid ((addS s (nx0 c z true true) (y.nd : Int) true).C[s.C.length]? = some (nw (nx0 c z true true) s.T.length)) := addS_new
    have HO := Lib.hid (over_any (i := s.C.length) f6 HX6.out)
    have e9 : ((nw (nx0 c z true true) s.T.length).er != 0) = false := rfl
    rw [e9] at HO
    obtain ⟨PC6, cC6, d3, dr⟩ := f6.c3
    obtain ⟨q6, rfl, hq6, -⟩ := dr s.C.length _ HX6.out
    obtain ⟨N1, hN1⟩ : ∃ N1, (addS s (nx0 c z true true) (y.nd : Int) true).C.length = N1 := ⟨_, rfl⟩
    rw [hN1] at d3
    have d0 : w6.cell? ⟨t, 0, none⟩ = some (.pointer (cp p)) := by obtain ⟨⟨F, G, o, yy, e⟩, m⟩ := f6; exact yy.cells.1
    have ht6 := f6.tlt
    have b7 : (s.C.length : Int) < (N1 : Int) := by
      have h1 : (addS s (nx0 c z true true) (y.nd : Int) true).C.length = s.C.length + 1 := by simp [addS]
      omega
    have b8 : (0 : Int) ≤ (s.C.length : Int) := by omega
    have KP : Hid (∀ w', Below w6.heap.size w6 w' → w'.cell? ⟨t, 3, none⟩ = some (.slice (some ⟨q6, 0, none⟩) N1 cC6) ∧ w'.cell? ⟨t, 0, none⟩ = some (.pointer (cp p))) := fun w' hb => ⟨(hb.cell (p := ⟨t, 3, none⟩) ht6).trans d3, (hb.cell (p := ⟨t, 0, none⟩) ht6).trans d0⟩
    have HLP : Hid (∀ w', Below w6.heap.size w6 w' → Calls Try.prog 40 #[.pointer (cp p), .int .i64 z, .int .i64 (s.C.length : Int)] w' fun e w8 => ∃ r, e = .returned (.tuple #[.int .i64 (lpV p s.E), .int .i64 r]) ∧ Hid ((w8.cell? ⟨t, 3, none⟩ = some (.slice (some ⟨q6, 0, none⟩) N1 cC6) ∧ w8.cell? ⟨t, 0, none⟩ = some (.pointer (cp p))) ∧ w8.cell? ⟨q6, s.C.length * 8 + 7, none⟩ = some (.int .i64 (-1)) ∧ w8.frozen? ⟨q6, s.C.length * 8 + 7, none⟩ = false ∧
        GS W t p (dlS p s (nx0 c z true true) (y.nd : Int) z) O w (w8.setCell ⟨q6, s.C.length * 8 + 7, none⟩ (.int .i64 (lpV p s.E))) ∧ LR w.heap.size (w8.setCell ⟨q6, s.C.length * 8 + 7, none⟩ (.int .i64 (lpV p s.E))) P1 c1 y.er y.cs (mkL s y) ∧ ((w8.setCell ⟨q6, s.C.length * 8 + 7, none⟩ (.int .i64 (lpV p s.E))).cell? ⟨t, 3, none⟩ = some (.slice (some ⟨q6, 0, none⟩) N1 cC6) ∧ (w8.setCell ⟨q6, s.C.length * 8 + 7, none⟩ (.int .i64 (lpV p s.E))).cell? ⟨t, 0, none⟩ = some (.pointer (cp p))))) := by
      intro w' hb
      have f7 := f6.later hb
      have v2 := HV.out
      refine (tlapse_any z s.C.length f7.2 f7.bel (by have := v2.el; have := v2.cl; show s.E.length ≤ 1000; omega) (by have := v2.nl; have := v2.el; have := v2.cl; show s.n ≤ 1000; omega) (by have := v2.sl; have := v2.el; have := v2.cl; show s.S.length < 1000; omega)).mono ?_
      rintro e w8 ⟨r, rfl, g1, g2, g3, g4⟩
      have et : w8.heap[t]? = w'.heap[t]? := by
        obtain ⟨⟨F, G, o, yy, ee⟩, m⟩ := f7
        obtain ⟨P9, c9, hb9⟩ := yy.tr.blk
        rw [hb9]; exact g3.2 _ _ _ _ hb9 (by decide)
      have k := KP.out w' hb
      have k3 := (cell_blk et 3).trans k.1
      have k0 := (cell_blk et 0).trans k.2
      rw [hzi] at g1
      obtain ⟨O8, f8, hs8, fm8⟩ := f7.tms g1 g2 g3
      have hx8 : (addS s (nx0 c z true true) (y.nd : Int) true).C[s.C.length]? = some (nw (nx0 c z true true) s.T.length) := addS_new
      obtain ⟨l1, l2, ln, l3⟩ := f8.lps (x := nw (nx0 c z true true) s.T.length) hx8 k3
      refine ⟨r, rfl, ⟨k3, k0⟩, l1, l2, ?_⟩
      have gs6 := GS.from hb (GS.comp hs8 fm8 (l3 (lpV p s.E)))
      have := GS.comp hs6 fm6 gs6
      have ec : (addS s (nx0 c z true true) (y.nd : Int) true).C.set s.C.length { nw (nx0 c z true true) s.T.length with lp := lpV p s.E } = s.C ++ [{ nw (nx0 c z true true) s.T.length with lp := lpV p s.E }] := by
        show (s.C ++ [nw (nx0 c z true true) s.T.length]).set s.C.length _ = _
        simp
      have e2 : ({ addS s (nx0 c z true true) (y.nd : Int) true with C := (addS s (nx0 c z true true) (y.nd : Int) true).C.set s.C.length { nw (nx0 c z true true) s.T.length with lp := lpV p s.E }, E := lpE p s.E s.C.length, n := lpN p s.n, S := lpS p s.E s.n s.S z } : St) = dlS p s (nx0 c z true true) (y.nd : Int) z := by
        rw [ec]; rfl
      rw [← e2]
      refine ⟨this, ?_, (World.cell?_setCell_other _ _ _ _ (by simp)).trans k3, (World.cell?_setCell_other _ _ _ _ (by simp)).trans k0⟩
      obtain ⟨O9, f9, hs9, fm9⟩ := gs6
      exact h8.out.keep fun b hb => fm9.tg hb (fun ty e => by rcases e with rfl | rfl <;> decide) (f6.nott hb fun ty e => by rcases e with rfl | rfl <;> simp [TgO])
    have HN6 := h6
    clear e9 f6 hs6 fm6 h7' hmk h7 h8 hN1 d0 dr d3
    go_wp2_with fail
    refine HO.out.mono ?_
    rintro e w7 ⟨rfl, rfl⟩
    clear HO
    go_wp2_with fail
    refine but_start 1000 (fun w' => w'.cell? ⟨t, 3, none⟩ = some (.slice (some ⟨q6, 0, none⟩) N1 cC6) ∧ w'.cell? ⟨t, 0, none⟩ = some (.pointer (cp p))) (by kernel_rfl) ?_
    have hHeld := KP.out w6.drew (Below.refl _ _).drew
    change AnyBut _ _ _ _ _ _ 18 _ _ _
    refine but_take (i := 0) (v := ?_) rfl (by kernel_rfl) (by kernel_rfl) (by kernel_rfl) (by kernel_rfl) (fun _ _ _ h => h) (Or.inl ⟨by first | kernel_rfl | rfl, ?_⟩) hHeld ?_
    rotate_left
    · intro w hSw
      (try dsimp only at hSw)
      go_split_ands
      go_simp
      try with_reducible rfl
    try simp only [List.getElem_toArray, List.getElem_cons_zero, Act.put, List.setIfInBounds_toArray, List.set_cons_zero, List.set_cons_succ]
    refine but_take (i := 1) (v := ?_) rfl (by kernel_rfl) (by kernel_rfl) (by kernel_rfl) (by kernel_rfl) (fun _ _ _ h => h) (Or.inl ⟨by first | kernel_rfl | rfl, ?_⟩) hHeld ?_
    rotate_left
    · intro w hSw
      (try dsimp only at hSw)
      go_split_ands
      go_simp
      try with_reducible rfl
    try simp only [List.getElem_toArray, List.getElem_cons_succ, List.getElem_cons_zero, Act.put, List.setIfInBounds_toArray, List.set_cons_zero, List.set_cons_succ]
    refine but_take (i := 2) (v := ?_) rfl (by kernel_rfl) (by kernel_rfl) (by kernel_rfl) (by kernel_rfl) (fun _ _ _ h => h) (Or.inl ⟨by first | kernel_rfl | rfl, ?_⟩) hHeld ?_
    rotate_left
    · intro w hSw
      (try dsimp only at hSw)
      go_split_ands
      go_simp
      try with_reducible rfl
    try simp only [List.getElem_toArray, List.getElem_cons_succ, List.getElem_cons_zero, Act.put, List.setIfInBounds_toArray, List.set_cons_zero, List.set_cons_succ]
    refine but_take (i := 3) (v := ?_) rfl (by kernel_rfl) (by kernel_rfl) (by kernel_rfl) (by kernel_rfl) (fun _ _ _ h => h) (Or.inl ⟨by first | kernel_rfl | rfl, ?_⟩) hHeld ?_
    rotate_left
    · intro w hSw
      (try dsimp only at hSw)
      go_split_ands
      go_simp
      try with_reducible rfl
    try simp only [List.getElem_toArray, List.getElem_cons_succ, List.getElem_cons_zero, Act.put, List.setIfInBounds_toArray, List.set_cons_zero, List.set_cons_succ]
    refine but_take (i := 4) (v := ?_) rfl (by kernel_rfl) (by kernel_rfl) (by kernel_rfl) (by kernel_rfl) (fun _ _ _ h => h) (Or.inl ⟨by first | kernel_rfl | rfl, ?_⟩) hHeld ?_
    rotate_left
    · intro w hSw
      (try dsimp only at hSw)
      go_split_ands
      go_simp
      try with_reducible rfl
    try simp only [List.getElem_toArray, List.getElem_cons_succ, List.getElem_cons_zero, Act.put, List.setIfInBounds_toArray, List.set_cons_zero, List.set_cons_succ]
    refine but_take (i := 5) (v := ?_) rfl (by kernel_rfl) (by kernel_rfl) (by kernel_rfl) (by kernel_rfl) (fun _ _ _ h => h) (Or.inl ⟨by first | kernel_rfl | rfl, ?_⟩) hHeld ?_
    rotate_left
    · intro w hSw
      (try dsimp only at hSw)
      go_split_ands
      go_simp
      try with_reducible rfl
    try simp only [List.getElem_toArray, List.getElem_cons_succ, List.getElem_cons_zero, Act.put, List.setIfInBounds_toArray, List.set_cons_zero, List.set_cons_succ]
    refine but_take (i := 6) (v := ?_) rfl (by kernel_rfl) (by kernel_rfl) (by kernel_rfl) (by kernel_rfl) (fun _ _ _ h => h) (Or.inl ⟨by first | kernel_rfl | rfl, ?_⟩) hHeld ?_
    rotate_left
    · intro w hSw
      (try dsimp only at hSw)
      go_split_ands
      go_simp
      try with_reducible rfl
    try simp only [List.getElem_toArray, List.getElem_cons_succ, List.getElem_cons_zero, Act.put, List.setIfInBounds_toArray, List.set_cons_zero, List.set_cons_succ]
    refine but_take (i := 7) (v := ?_) rfl (by kernel_rfl) (by kernel_rfl) (by kernel_rfl) (by kernel_rfl) (fun _ _ _ h => h) (Or.inl ⟨by first | kernel_rfl | rfl, ?_⟩) hHeld ?_
    rotate_left
    · intro w hSw
      (try dsimp only at hSw)
      go_split_ands
      go_simp
      try with_reducible rfl
    try simp only [List.getElem_toArray, List.getElem_cons_succ, List.getElem_cons_zero, Act.put, List.setIfInBounds_toArray, List.set_cons_zero, List.set_cons_succ]
    refine but_take (i := 8) (v := ?_) rfl (by kernel_rfl) (by kernel_rfl) (by kernel_rfl) (by kernel_rfl) (fun _ _ _ h => h) (Or.inl ⟨by first | kernel_rfl | rfl, ?_⟩) hHeld ?_
    rotate_left
    · intro w hSw
      (try dsimp only at hSw)
      go_split_ands
      go_simp
      try with_reducible rfl
    try simp only [List.getElem_toArray, List.getElem_cons_succ, List.getElem_cons_zero, Act.put, List.setIfInBounds_toArray, List.set_cons_zero, List.set_cons_succ]
    refine but_take (i := 9) (v := ?_) rfl (by kernel_rfl) (by kernel_rfl) (by kernel_rfl) (by kernel_rfl) (fun _ _ _ h => h) (Or.inl ⟨by first | kernel_rfl | rfl, ?_⟩) hHeld ?_
    rotate_left
    · intro w hSw
      (try dsimp only at hSw)
      go_split_ands
      go_simp
      try with_reducible rfl
    try simp only [List.getElem_toArray, List.getElem_cons_succ, List.getElem_cons_zero, Act.put, List.setIfInBounds_toArray, List.set_cons_zero, List.set_cons_succ]
    refine but_take (i := 10) (v := ?_) rfl (by kernel_rfl) (by kernel_rfl) (by kernel_rfl) (by kernel_rfl) (fun _ _ _ h => h) (Or.inl ⟨by first | kernel_rfl | rfl, ?_⟩) hHeld ?_
    rotate_left
    · intro w hSw
      (try dsimp only at hSw)
      go_split_ands
      go_simp
      try with_reducible rfl
    try simp only [List.getElem_toArray, List.getElem_cons_succ, List.getElem_cons_zero, Act.put, List.setIfInBounds_toArray, List.set_cons_zero, List.set_cons_succ]
    refine but_one (i := 11) (by kernel_rfl) rfl ?_
    intro K hK
    go_simp
    go_at_call 40
    refine (HLP.out _ (by first | exact Below.refl _ _ | exact (Below.refl _ _).drew | (repeat' (first | exact Below.refl _ _ | (with_reducible assumption) | refine Below.drew ?_ | refine Below.alloc ?_ (by first | omega | (simp <;> omega)) _)))).mono ?_
    rintro e w8 ⟨r8, rfl, h9⟩
    have k8 := h9.out.1
    have k83 := k8.1
    obtain ⟨k87, f87, -⟩ := h9.out.2
    have hHeld2 := k8
    refine hK _ _ (fun _ => hHeld2) ?_
    clear hK K hHeld
    have hHeld := hHeld2
    clear hHeld2
    try simp only [List.getElem_toArray, List.getElem_cons_succ, List.getElem_cons_zero, Act.put, List.setIfInBounds_toArray, List.set_cons_zero, List.set_cons_succ]
    refine but_take (i := 12) (v := ?_) rfl (by kernel_rfl) (by kernel_rfl) (by kernel_rfl) (by kernel_rfl) (fun _ _ _ h => h) (Or.inl ⟨by first | kernel_rfl | rfl, ?_⟩) hHeld ?_
    rotate_left
    · intro w hSw
      (try dsimp only at hSw)
      go_split_ands
      go_simp
      try with_reducible rfl
    try simp only [List.getElem_toArray, List.getElem_cons_succ, List.getElem_cons_zero, Act.put, List.setIfInBounds_toArray, List.set_cons_zero, List.set_cons_succ]
    refine but_take (i := 13) (v := ?_) rfl (by kernel_rfl) (by kernel_rfl) (by kernel_rfl) (by kernel_rfl) (fun _ _ _ h => h) (Or.inl ⟨by first | kernel_rfl | rfl, ?_⟩) hHeld ?_
    rotate_left
    · intro w hSw
      (try dsimp only at hSw)
      go_split_ands
      go_simp
      try with_reducible rfl
    try simp only [List.getElem_toArray, List.getElem_cons_succ, List.getElem_cons_zero, Act.put, List.setIfInBounds_toArray, List.set_cons_zero, List.set_cons_succ]
    refine but_take (i := 14) (v := ?_) rfl (by kernel_rfl) (by kernel_rfl) (by kernel_rfl) (by kernel_rfl) (fun _ _ _ h => h) (Or.inl ⟨by first | kernel_rfl | rfl, ?_⟩) hHeld ?_
    rotate_left
    · intro w hSw
      (try dsimp only at hSw)
      go_split_ands
      go_simp
      try with_reducible rfl
    try simp only [List.getElem_toArray, List.getElem_cons_succ, List.getElem_cons_zero, Act.put, List.setIfInBounds_toArray, List.set_cons_zero, List.set_cons_succ]
    refine but_take (i := 15) (v := ?_) rfl (by kernel_rfl) (by kernel_rfl) (by kernel_rfl) (by kernel_rfl) (fun _ _ _ h => h) (Or.inl ⟨by first | kernel_rfl | rfl, ?_⟩) hHeld ?_
    rotate_left
    · intro w hSw
      (try dsimp only at hSw)
      go_split_ands
      go_simp
      try with_reducible rfl
    try simp only [List.getElem_toArray, List.getElem_cons_succ, List.getElem_cons_zero, Act.put, List.setIfInBounds_toArray, List.set_cons_zero, List.set_cons_succ]
    refine but_take (i := 16) (v := ?_) rfl (by kernel_rfl) (by kernel_rfl) (by kernel_rfl) (by kernel_rfl) (fun _ _ _ h => h) (Or.inl ⟨by first | kernel_rfl | rfl, ?_⟩) hHeld ?_
    rotate_left
    · intro w hSw
      (try dsimp only at hSw)
      go_split_ands
      go_simp
      try with_reducible rfl
    try simp only [List.getElem_toArray, List.getElem_cons_succ, List.getElem_cons_zero, Act.put, List.setIfInBounds_toArray, List.set_cons_zero, List.set_cons_succ]
    refine but_one (i := 17) (by kernel_rfl) rfl ?_
    intro K hK
    go_simp
    have hHeld2 := h9.out.2.2.2.2.2
    refine hK _ _ (fun _ => hHeld2) ?_
    clear hK K hHeld
    have hHeld := hHeld2
    clear hHeld2
    try simp only [List.getElem_toArray, List.getElem_cons_succ, List.getElem_cons_zero, Act.put, List.setIfInBounds_toArray, List.set_cons_zero, List.set_cons_succ]
    refine but_done (by kernel_rfl) ?_
    try clear hHeld
    clear KP HLP k83 k87 f87 b7 b8 ht6 hq6
    go_wp2_with fail
    go_ret3
    exact ⟨P1, n1, c1, c, HN6.out, rfl, h9.out.2.2.2.1, h9.out.2.2.2.2.1⟩
end
end Go.Proofs.Ytdpapnfjpefhkaa
namespace Go.Proofs.Ytdpapnfjpefhkaa
open Go.RowKit Tr
set_option linter.unusedVariables false
set_option maxRecDepth 100000
/-- A row of one's own: where, of what type, how wide, how long, what. -/
structure Rr where
  P : Option Addr
  e : Nat
  z : Nat
  c : Nat
  n : Nat
  xs : List Value
def Rr.own (w : World) (r : Rr) : Prop := w.ownsRow 0 r.e r.z (.slice r.P r.n r.c) r.n r.xs
def Rr.apart (a b : Rr) : Prop := ∀ k, blk a.P = some k → blk b.P ≠ some k
/-- Since W, block t has come to be the contexts s, and there are rows; nothing that was there has turned. -/
structure LQ (W : World) (t : Nat) (p : Option Nat) (s : St) (rs : List Rr) (w : World) : Prop where
  ex : ∃ O : Nat → Prop, FS W t p s O w ∧ ∀ r ∈ rs, ∀ k, blk r.P = some k → ¬ O k
  rows : ∀ r ∈ rs, r.own w ∧ OthZ r.e ∧ ∀ k, blk r.P = some k → W.heap.size ≤ k
  ap : rs.Pairwise Rr.apart
  iv : Inv s
section
variable {W w w' : World} {t : Nat} {p : Option Nat} {s s' : St} {rs : List Rr} {O : Nat → Prop}
theorem LQ.bel (h : LQ W t p s rs w) : Below W.heap.size W w := by obtain ⟨O, f, _⟩ := h.ex; exact f.bel
theorem LQ.rlt (h : LQ W t p s rs w) {r : Rr} (hr : r ∈ rs) {k : Nat} (hk : blk r.P = some k) : k < w.heap.size := (row_lt (h.rows r hr).1 hk).2
theorem LQ.later (h : LQ W t p s rs w) (b : Below w.heap.size w w') : LQ W t p s rs w' := by
  obtain ⟨O, f, ho⟩ := h.ex
  exact ⟨⟨O, f.later b, ho⟩, fun r hr => ⟨row_later (h.rows r hr).1 b, (h.rows r hr).2⟩, h.ap, h.iv⟩
theorem LQ.drewN (h : LQ W t p s rs w) (q : Nat) : LQ W t p s rs (w.drewN q) := h.later (below_drewN w q)
theorem LQ.alloc (h : LQ W t p s rs w) (o : Obj) : LQ W t p s rs (w.alloc o) := h.later (below_al w o)
theorem LQ.sub (h : LQ W t p s rs w) {rs' : List Rr} (hs : rs'.Sublist rs) : LQ W t p s rs' w := by
  obtain ⟨O, f, ho⟩ := h.ex
  exact ⟨⟨O, f, fun r hr => ho r (hs.subset hr)⟩, fun r hr => h.rows r (hs.subset hr), h.ap.sublist hs, h.iv⟩
theorem LQ.own (h : LQ W t p s rs w) {i : Nat} {r : Rr} (hr : rs[i]? = some r) : r.own w := (h.rows r (List.mem_of_getElem? hr)).1
/-- A call that changed the contexts. -/
theorem LQ.go (h : LQ W t p s rs w) (ho : ∀ r ∈ rs, ∀ k, blk r.P = some k → ¬ O k) (hi : Inv s') (g : GS W t p s' O w w') : LQ W t p s' rs w' := by
  obtain ⟨O', f, hs, fm⟩ := g
  refine ⟨⟨O', f, fun r hr k hk hO => ?_⟩, fun r hr => ⟨row_keep (h.rows r hr).1 fun k hk => ?_, (h.rows r hr).2⟩, h.ap, hi⟩
  · rcases hs k hO with h1 | h1
    · exact ho r hr k hk h1
    · have := h.rlt hr hk; omega
  · exact fm.tg (tag_row (h.rows r hr).1 hk) (fun ty e => by subst e; exact (h.rows r hr).2.1) (ho r hr k hk)
/-- A new row of another kind. -/
theorem LQ.row (h : LQ W t p s rs w') {r : Rr} {B : Nat} (hB : W.heap.size ≤ B) (hr : w'.ownsRow B r.e r.z (.slice r.P r.n r.c) r.n r.xs) (ho : OthZ r.e) (hn : ∀ O, FS W t p s O w' → ∀ k, blk r.P = some k → ¬ O k) (hl : ∀ q ∈ rs, ∀ k, blk q.P = some k → k < B) : LQ W t p s (r :: rs) w' := by
  obtain ⟨O, f, h3⟩ := h.ex
  refine ⟨⟨O, f, fun q hq => ?_⟩, fun q hq => ?_, List.pairwise_cons.2 ⟨fun q hq k hk e => ?_, h.ap⟩, h.iv⟩
  · rcases List.mem_cons.1 hq with rfl | hq
    · exact hn O f
    · exact h3 q hq
  · rcases List.mem_cons.1 hq with rfl | hq
    · exact ⟨row_low hr (Nat.zero_le _), ho, fun k hk => Nat.le_trans hB (row_lt hr hk).1⟩
    · exact h.rows q hq
  · have := (row_lt hr hk).1; have := hl q hq k e; omega
/-- A row has turned: a store into it, or an append. -/
theorem LQ.turn {i : Nat} {r r' : Rr} (h : LQ W t p s rs w) (hr : rs[i]? = some r) (T : Tn (fun k => blk r.P = some k) w w') (own : r'.own w') (he : r'.e = r.e) (hat : ∀ k, blk r'.P = some k → blk r.P = some k ∨ w.heap.size ≤ k) : LQ W t p s (rs.set i r') w' := by
  obtain ⟨O, f, h3⟩ := h.ex
  have hW := h.bel.size
  have hs := T.size
  have hrm : r ∈ rs := List.mem_of_getElem? hr
  have hb : Below W.heap.size W w' := h.bel.trans (T.below hW fun k hk => (h.rows r hrm).2.2 k hk)
  have hoth := (h.rows r hrm).2.1
  have key : ∀ (j : Nat) (x : Rr), (rs.set i r')[j]? = some x → (j = i ∧ x = r') ∨ (j ≠ i ∧ rs[j]? = some x) := fun j x hx => set_at hx
  have ap : ∀ (j : Nat) (x : Rr), rs[j]? = some x → j ≠ i → ∀ k, blk x.P = some k → blk r.P ≠ some k := by
    intro j x hx hne k hk e
    have hp := h.ap
    rw [List.pairwise_iff_getElem] at hp
    obtain ⟨hj, rfl⟩ := List.getElem?_eq_some_iff.1 hx
    obtain ⟨hi, rfl⟩ := List.getElem?_eq_some_iff.1 hr
    rcases Nat.lt_or_gt_of_ne hne with c | c
    · exact hp j i hj hi c k hk e
    · exact hp i j hi hj c k e hk
  have f' : FS W t p s O w' := by
    obtain ⟨⟨F, G, o, y, e⟩, mm⟩ := f
    refine ⟨⟨F, G, o, y.keep (fun k hk => T.block k (y.lt hk) fun h5 => h3 r hrm k h5 ((e k).2 hk)) hb, e⟩, mm.tm hb fun j hj hi => T.block j hj fun h5 => ?_⟩
    rcases hi with hi | ⟨es, cl, e2⟩
    · exact (tag_row (h.rows r hrm).1 h5).two hi fun ty' a b => b (by subst a; exact hoth)
    · obtain ⟨cs, ty', fr, e3, _⟩ := tag_row (h.rows r hrm).1 h5
      rw [e2] at e3; cases e3
  refine ⟨⟨O, f', fun x hx k hk hf => ?_⟩, fun x hx => ?_, ?_, h.iv⟩
  · obtain ⟨j, hj⟩ := List.getElem?_of_mem hx
    rcases key j x hj with ⟨_, rfl⟩ | ⟨_, hj⟩
    · rcases hat k hk with e | e
      · exact h3 r hrm k e hf
      · have := f.lt hf; omega
    · exact h3 x (List.mem_of_getElem? hj) k hk hf
  · obtain ⟨j, hj⟩ := List.getElem?_of_mem hx
    rcases key j x hj with ⟨_, rfl⟩ | ⟨hne, hj⟩
    · refine ⟨own, by rw [he]; exact hoth, fun k hk => ?_⟩
      rcases hat k hk with e | e
      · exact (h.rows r hrm).2.2 k e
      · omega
    · have hx2 := h.rows x (List.mem_of_getElem? hj)
      exact ⟨row_keep hx2.1 fun k hk => T.block k (row_lt hx2.1 hk).2 (ap j x hj hne k hk), hx2.2⟩
  · rw [List.pairwise_iff_getElem]
    intro a b ha hb hab k hk e
    have xa := key a _ (List.getElem?_eq_getElem ha)
    have xb := key b _ (List.getElem?_eq_getElem hb)
    have lt : ∀ (j : Nat) (x : Rr), rs[j]? = some x → blk x.P = some k → k < w.heap.size := fun j x hj hk => h.rlt (List.mem_of_getElem? hj) hk
    rcases xa with ⟨rfl, ea⟩ | ⟨na, ea⟩
    · rcases xb with ⟨rfl, eb⟩ | ⟨nb, eb⟩
      · omega
      · rw [ea] at hk
        rcases hat k hk with e1 | e1
        · exact ap b _ eb nb k e e1
        · have := lt b _ eb e; omega
    · rcases xb with ⟨rfl, eb⟩ | ⟨nb, eb⟩
      · rw [eb] at e
        rcases hat k e with e1 | e1
        · exact ap a _ ea na k hk e1
        · have := lt a _ ea hk; omega
      · have hp := h.ap
        rw [List.pairwise_iff_getElem] at hp
        obtain ⟨ha', ea'⟩ := List.getElem?_eq_some_iff.1 ea
        obtain ⟨hb', eb'⟩ := List.getElem?_eq_some_iff.1 eb
        rw [← ea'] at hk
        rw [← eb'] at e
        exact hp a b ha' hb' hab k hk e
/-- A call that changed the contexts, in short. -/
theorem LQ.call (h : LQ W t p s rs w) {f : Nat} {a : Array Value} {Q : Ending → World → Prop} (hi : Inv s') (hc : ∀ O, FS W t p s O w → Calls Try.prog f a w fun e w' => Q e w' ∧ GS W t p s' O w w') : Calls Try.prog f a w fun e w' => Q e w' ∧ LQ W t p s' rs w' := by
  obtain ⟨O, f, ho⟩ := h.ex
  exact (hc O f).mono fun e w' ⟨h1, h2⟩ => ⟨h1, h.go ho hi h2⟩
/-- A row of who was cancelled, and one of what was started, as rows of one's own. -/
def rwL (P : Option Addr) (c n : Nat) (L : List Lp) : Rr := ⟨P, 41, 4, c, n, L.flatMap lE⟩
def rwM (P : Option Addr) (c n : Nat) (m : List Mp) : Rr := ⟨P, 57, 2, c, n, m.flatMap mE⟩
/-- They read as l. -/
def RdL (w : World) (er cs : Int) (l : List Lap) (L : List Lp) : Prop := L.map (fun x => (x.id, x.wk)) = l ∧ ∀ x ∈ L, x.er = er ∧ x.cs = cs ∧ x.n = x.wk.length ∧ Ch.RdK w x.A x.n x.wk
def MkQ (W : World) (t : Nat) (p : Option Nat) (s' : Nat → St) (rs : List Rr) (n : Nat) (er cs : Int) (l : List Lap) (e : Ending) (w' : World) : Prop :=
  ∃ P1 n1 c1 c L, Hid (n1 = l.length) ∧ e = .returned (.tuple #[.int .i64 (n : Int), .slice P1 n1 c1, .int .i64 0]) ∧ Hid (LQ W t p (s' c) (rwL P1 c1 n1 L :: rs) w') ∧ Hid (RdL w' er cs l L)
theorem LQ.made (h : LQ W t p s rs w) {f n : Nat} {a : Array Value} {s' : Nat → St} {er cs : Int} {l : List Lap} (hi : ∀ c, Inv (s' c)) (hc : ∀ O, FS W t p s O w → Calls Try.prog f a w (MkR W t p s' O n er cs l w)) : Calls Try.prog f a w fun e w' => MkQ W t p s' rs n er cs l e w' := by
  obtain ⟨O, f, ho⟩ := h.ex
  refine (hc O f).mono ?_
  rintro e w' ⟨P1, n1, c1, c, h1, rfl, h2, L, h3, h4, h5⟩
  have hLn : L.length = n1 := by rw [h1.out, ← h3, List.length_map]
  rw [hLn] at h5
  refine ⟨P1, n1, c1, c, L, h1, rfl, (h.go ho (hi c) h2.out).row (r := rwL P1 c1 n1 L) h.bel.size h5 (by show OthZ 41; decide) (fun O' f' k hk => f'.nott (tag_row h5 hk) fun ty e => by subst e; simp [TgO]) fun q hq k hk => h.rlt hq hk, h3, h4⟩
def CnQ (W : World) (t : Nat) (p : Option Nat) (s' : St) (rs : List Rr) (er cs : Int) (l : List Lap) (m : List Mp) (e : Ending) (w' : World) : Prop :=
  ∃ P1 n1 c1 L P2 n2 c2, Hid (n1 = l.length) ∧ Hid (n2 = m.length) ∧ e = .returned (.tuple #[.slice P1 n1 c1, .slice P2 n2 c2, .int .i64 0]) ∧ Hid (LQ W t p s' (rwL P1 c1 n1 L :: rwM P2 c2 n2 m :: rs) w') ∧ Hid (RdL w' er cs l L)
theorem LQ.cn (h : LQ W t p s rs w) {f : Nat} {a : Array Value} {er cs : Int} {l : List Lap} {m : List Mp} (hi : Inv s') (hc : ∀ O, FS W t p s O w → Calls Try.prog f a w (CnR W t p s' O er cs l m w)) : Calls Try.prog f a w fun e w' => CnQ W t p s' rs er cs l m e w' := by
  obtain ⟨O, f, ho⟩ := h.ex
  refine (hc O f).mono ?_
  rintro e w' ⟨P1, n1, c1, P2, n2, c2, h1, h2, rfl, h3, ⟨L, h4, h5, h6⟩, h7⟩
  have hLn : L.length = n1 := by rw [h1.out, ← h4, List.length_map]
  rw [hLn] at h6
  have h7 := h7.out
  unfold SR at h7
  rw [← h2.out] at h7
  have k := (h.go ho hi h3.out).row (r := rwM P2 c2 n2 m) h.bel.size h7 (by show OthZ 57; decide) (fun O' f' k hk => f'.nott (tag_row h7 hk) fun ty e => by subst e; simp [TgO]) fun q hq k hk => h.rlt hq hk
  have k2 := (k.sub (rs' := rs) (List.sublist_cons_self _ _)).row (r := rwL P1 c1 n1 L) h.bel.size h6 (by show OthZ 41; decide) (fun O' f' k hk => f'.nott (tag_row h6 hk) fun ty e => by subst e; simp [TgO]) fun q hq k hk => h.rlt hq hk
  refine ⟨P1, n1, c1, L, P2, n2, c2, h1, h2, rfl, ⟨?_, ?_, ?_, k.iv⟩, h4, h5⟩
  · obtain ⟨O', f', h3'⟩ := k.ex
    refine ⟨O', f', fun r hr => ?_⟩
    rcases List.mem_cons.1 hr with rfl | hr
    · exact fun k hk => f'.nott (tag_row h6 hk) fun ty e => by subst e; simp [TgO]
    · exact h3' r hr
  · intro r hr
    rcases List.mem_cons.1 hr with rfl | hr
    · exact k2.rows _ (by simp)
    · exact k.rows r hr
  · refine List.pairwise_cons.2 ⟨fun r hr k' hk e => ?_, k.ap⟩
    rcases List.mem_cons.1 hr with rfl | hr
    · exact (tag_row h6 hk).two (tag_row h7 e) fun ty a b => by rw [a] at b; exact absurd b (by decide)
    · have := (row_lt h6 hk).1; have := h.rlt hr e; omega
def AfQ (W : World) (t : Nat) (p : Option Nat) (s' : St) (rs : List Rr) (n : Nat) (m : List Mp) (e : Ending) (w' : World) : Prop :=
  ∃ P2 n2 c2, Hid (n2 = m.length) ∧ e = .returned (.tuple #[.int .i64 (n : Int), .slice P2 n2 c2, .int .i64 0]) ∧ Hid (LQ W t p s' (rwM P2 c2 n2 m :: rs) w')
theorem LQ.af (h : LQ W t p s rs w) {f n : Nat} {a : Array Value} {m : List Mp} (hi : Inv s') (hc : ∀ O, FS W t p s O w → Calls Try.prog f a w (AfR W t p s' O n m w)) : Calls Try.prog f a w fun e w' => AfQ W t p s' rs n m e w' := by
  obtain ⟨O, f, ho⟩ := h.ex
  refine (hc O f).mono ?_
  rintro e w' ⟨P2, n2, c2, h2, rfl, h3, h7⟩
  have h7 := h7.out
  unfold SR at h7
  rw [← h2.out] at h7
  exact ⟨P2, n2, c2, h2, rfl, (h.go ho hi h3.out).row (r := rwM P2 c2 n2 m) h.bel.size h7 (by show OthZ 57; decide) (fun O' f' k hk => f'.nott (tag_row h7 hk) fun ty e => by subst e; simp [TgO]) fun q hq k hk => h.rlt hq hk⟩
/-- A call that only reads. -/
theorem LQ.rd (h : LQ W t p s rs w) {f : Nat} {a : Array Value} {v : Value} (hc : ∀ O, FS W t p s O w → Calls Try.prog f a w (RdC v w)) : Calls Try.prog f a w fun e w' => e = .returned v ∧ Below w.heap.size w w' := by
  obtain ⟨O, f, ho⟩ := h.ex
  exact hc O f
end
end Go.Proofs.Ytdpapnfjpefhkaa
