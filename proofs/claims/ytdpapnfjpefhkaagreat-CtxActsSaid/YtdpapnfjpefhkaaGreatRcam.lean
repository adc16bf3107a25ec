/- What Cancel and Lapse of the document's contexts do. Conditions: each theorem's own premises.
What After and Unafter of the document's contexts do. Conditions: each theorem's own premises.
What Unafter of the document's contexts does. Conditions: each theorem's own premises. -/
import Derived.Test.YtdpapnfjpefhkaaGreatRfam
import Derived.Test.YtdpapnfjpefhkaaGreatCdlm
namespace Go.Proofs.YtdpapnfjpefhkaaGreat
open Go.RowKit Tr
set_option linter.unusedVariables false
set_option maxRecDepth 100000
structure IW (R : Nat) (s : St) : Prop where
 v : Inv s
 r : RI s
 rs : ∀ (i : Nat) (x : Cx), s.C[i]? = some x → x.rs.length ≤ R
 hR : R ≤ 1000
section
variable {R : Nat} {W w w' w'' w0 w1 : World} {m mo B i j k : Nat} {O O' O0 : Nat → Prop} {s s' : St} {N : List Nd} {er cs : Int} {l : List Lap} {mm : List Mp} {P1 P2 : Option Addr} {n1 c1 n2 c2 : Nat} {pn : Option Addr × Option Addr × Option Addr} {x y : Cx} {o : Lr}
theorem IW.gdr (h : IW R s) (hx : s.C[i]? = some x) (hc : ∃ c, x.ch = some c) (he : x.er = 0) : ∀ k ∈ Tr.walk s.T x.nd, GdR s k := by
 intro k hk
 have hn := h.v.ndlt hx
 have g := h.v.good hx hc he k hk
 have hkl := (walk_up h.v.wf _ _ _ (Nat.lt_succ_self _) hn hk).1
 refine ⟨hkl, ?_⟩
 obtain ⟨⟨za, zi⟩, hz⟩ : ∃ z, s.K[k]? = some z := ⟨_, List.getElem?_eq_getElem (by rw [h.v.kl]; exact hkl)⟩
 refine ⟨_, hz, fun e => ?_, fun e => ?_⟩
 · have e : za = true := e
   subst e
   obtain ⟨a, ha, ha2⟩ := h.v.ka k zi hz
   refine ⟨a, ha, ha2, ?_⟩
   rcases walk_linked _ _ _ (Nat.lt_succ_self _) hk with rfl | ⟨q, hq⟩
   · have e1 := h.v.ck i x hx
     rw [hz] at e1; cases e1
   · exact ⟨q, hq⟩
 · have e : za = false := e
   subst e
   obtain ⟨y, hy, hyn⟩ := h.v.kc k zi hz
   have key : (∃ c, y.ch = some c) ∧ y.er = 0 := by
    rcases walk_linked _ _ _ (Nat.lt_succ_self _) hk with rfl | ⟨q, hq⟩
    · have e1 := h.v.ck i x hx
      rw [hz] at e1; injection e1 with e1; injection e1 with _ e1; subst e1
      rw [hx] at hy; cases hy
      exact ⟨hc, he⟩
    · exact h.v.lv zi y q hy (by rw [hyn]; exact hq)
   obtain ⟨⟨c, h1⟩, h2⟩ := key
   refine ⟨y, c, hy, hyn, h1, h2, ?_, Nat.le_trans (h.rs zi y hy) h.hR⟩
   rw [(h.v.cx zi y hy).1, h2]; rfl
def RFa (W : World) (m mo : Nat) (s' : St) (O : Nat → Prop) (er cs : Int) (l : List Lap) (mm : List Mp) (w : World) (e : Ending) (w' : World) : Prop :=
 ∃ P1 n1 c1 P2 n2 c2, Hid (n1 = l.length ∧ n2 = mm.length) ∧ e = .returned (.tuple #[.slice P1 n1 c1, .slice P2 n2 c2]) ∧ Hid (RG W m mo s' O w w') ∧ Hid (LRt 160 w.heap.size w' P1 c1 er cs l) ∧ Hid (SRt 164 w.heap.size w' P2 c2 mm)
theorem FL.rg (h : FL W m mo w.heap.size pn w1 O' s N er cs l P1 c1 mm P2 c2 w') (r : NR s.T s.C s.A N) (f : Rm O w w1) (hs : ∀ k, O' k → O k ∨ w.heap.size ≤ k) : RG W m mo s O w w' := by
 obtain ⟨o, hr, hp, hO⟩ := h.rm
 refine ⟨oR m o s.C, ⟨⟨N, o, hr, r, fun k => Iff.rfl⟩, h.tm⟩, fun k hk => ?_, f.comp h.fr fun k hk => ?_⟩
 · rcases hO k hk with h1 | h1
   · exact hs k h1
   · exact .inr (Nat.le_trans f.1 h1)
 · rcases hk with h1 | ⟨h1, _⟩
   · exact hs k h1
   · exact .inr h1
theorem RC.fall (h : RC W m mo s O w) (v : IW R s) (hx : s.C[i]? = some x) (hc : ∃ c, x.ch = some c) (he : x.er = 0) (f : Rm O0 w0 w) (hs : ∀ k, O k → O0 k ∨ w0.heap.size ≤ k) (hW : W.heap.size ≤ w0.heap.size) (er cs : Int) :
  Calls Tryz.prog 58 #[pM' m, .int .i64 (x.nd : Int), .int .i64 er, .int .i64 cs, .slice none 0 0, .slice none 0 0] w (RFa W m mo (cfold er cs (Tr.walk s.T x.nd) s).1 O0 er cs (cfold er cs (Tr.walk s.T x.nd) s).2.1 (cfold er cs (Tr.walk s.T x.nd) s).2.2 w0) := by
 obtain ⟨⟨N, o, hr, r, e⟩, t⟩ := h
 have hn := v.v.ndlt hx
 have hl := walk_len v.v.wf hn
 have := v.r.tl
 refine (fall_call er cs W m mo w0.heap.size (s.T.length + 1) x.nd s N o [] [] none none 0 0 0 0 w (by omega) v.r hn (v.gdr hx hc he) hr r t (LRt.nil _ _ _ _ _) (SRt.nil _ _ _) ⟨hW, f.1⟩ rfl rfl (by simp; omega) (by simp; omega)).mono ?_
 rintro e' w' ⟨P1, n1, c1, P2, n2, c2, N', hn, rfl, hF⟩
 obtain ⟨hF, r2⟩ := hF.out
 simp only [List.nil_append] at hn hF
 exact ⟨P1, n1, c1, P2, n2, c2, hn, rfl, hF.rg r2 f fun k hk => hs k ((e k).2 hk), hF.lr, hF.sr⟩
set_option maxHeartbeats 4000000 in
theorem fall_over (h : RC W m mo s O w) (hx : s.C[i]? = some x) (he : x.er ≠ 0) (er cs : Int) (v1 v2 : Value) :
  Calls Tryz.prog 58 #[pM' m, .int .i64 (x.nd : Int), .int .i64 er, .int .i64 cs, v1, v2] w fun e w' => e = .returned (.tuple #[v1, v2]) ∧ w = w' := by
 obtain ⟨⟨N, o, hr, r, e⟩, t⟩ := h
 have hN := r.c i x hx
 obtain ⟨q, hP, hq, hc, -⟩ := hr.nd hN
 have c0 := hc 0 (by decide)
 have c5 := hc 5 (by decide)
 obtain ⟨⟨-, -, t2, -, -⟩, -⟩ := hr.top
 rw [hP] at t2
 have b3 : (x.nd : Int) < (N.length : Int) := by have := (List.getElem?_eq_some_iff.1 hN).1; omega
 have b4 : (0 : Int) ≤ (x.nd : Int) := by omega
 simp only [nE, ndC, List.getElem?_cons_succ, List.getElem?_cons_zero, Nat.add_zero] at c0 c5
 clear hr r e t hx hN hP hq hc
 generalize x.nd = d at *
 generalize x.er = e0 at *
 go_enter Tryz.func58, Tryz.ntmps58
 go_wp2_with fail
 go_ret2
 exact ⟨rfl, rfl⟩
theorem RC.falls (h : RC W m mo s O w) (v : IW R s) (hx : s.C[i]? = some x) (hc : ∃ c, x.ch = some c) (f : Rm O0 w0 w) (hs : ∀ k, O k → O0 k ∨ w0.heap.size ≤ k) (hW : W.heap.size ≤ w0.heap.size) (er cs : Int) :
  Calls Tryz.prog 58 #[pM' m, .int .i64 (x.nd : Int), .int .i64 er, .int .i64 cs, .slice none 0 0, .slice none 0 0] w (RFa W m mo (cnS s x er cs).1 O0 er cs (cnS s x er cs).2.1 (cnS s x er cs).2.2 w0) := by
 unfold cnS
 by_cases he : x.er = 0
 · rw [if_neg (by omega)]
   exact h.fall v hx hc he f hs hW er cs
 · rw [if_pos he]
   refine (fall_over h hx he er cs _ _).mono ?_
   rintro e w' ⟨rfl, rfl⟩
   exact ⟨none, 0, 0, none, 0, 0, ⟨rfl, rfl⟩, rfl, ⟨O, h, hs, f⟩, LRt.nil _ _ _ _ _, SRt.nil _ _ _⟩
def RCn (W : World) (m mo : Nat) (s' : St) (O : Nat → Prop) (er cs : Int) (l : List Lap) (mm : List Mp) (w : World) (e : Ending) (w' : World) : Prop :=
 ∃ P1 n1 c1 P2 n2 c2, Hid (n1 = l.length ∧ n2 = mm.length) ∧ e = .returned (.tuple #[.slice P1 n1 c1, .slice P2 n2 c2, .int .i64 0]) ∧ Hid (RG W m mo s' O w w') ∧ Hid (LRt 160 w.heap.size w' P1 c1 er cs l) ∧ Hid (SRt 164 w.heap.size w' P2 c2 mm)
set_option maxHeartbeats 8000000 in
theorem rcancel_none {k c1 : Int} (h : RC W m mo s O w) (hk : k < 0 ∨ (s.C.length : Int) ≤ k) : Calls Tryz.prog 25 #[pM' m, .int .i64 k, .int .i64 c1] w fun e w' => e = .returned (cn3 4) ∧ w = w' := by
 obtain ⟨⟨N, o, hr, r, e⟩, t⟩ := h
 have HI := Lib.hid (rcin_any hr k)
 rw [decide_eq_false (by omega)] at HI
 clear hr r e t
 go_enter Tryz.func25, Tryz.ntmps25
 go_wp2_with fail
 refine HI.out.mono ?_
 rintro e w' ⟨rfl, rfl⟩
 go_wp2_with fail
 go_ret3
 exact ⟨rfl, rfl⟩
set_option maxHeartbeats 8000000 in
theorem rcancel_plain {c1 : Int} (h : RC W m mo s O w) (hx : s.C[i]? = some x) (hc : x.ch = none) : Calls Tryz.prog 25 #[pM' m, .int .i64 (i : Int), .int .i64 c1] w fun e w' => e = .returned (cn3 1) ∧ ∃ nq, w' = w.drewN nq := by
 obtain ⟨q, hA, hcl, -⟩ := h.at hx
 have hi := (List.getElem?_eq_some_iff.1 hx).1
 obtain ⟨⟨N, o, hr, r, e⟩, t⟩ := h
 have HI := Lib.hid (rcin_any hr (i : Int))
 rw [decide_eq_true (by omega)] at HI
 have c4 := hcl 4 (by decide)
 have HA := Lib.hid (hA 0)
 simp only [nE, ndC, List.getElem?_cons_succ, List.getElem?_cons_zero, hc, Option.isNone_none] at c4
 clear hr r e t hA hcl
 go_enter Tryz.func25, Tryz.ntmps25
 go_wp2_with fail
 refine HI.out.mono ?_
 rintro e w' ⟨rfl, rfl⟩
 go_wp2_with fail
 refine HA.out.mono ?_
 rintro e w' ⟨rfl, nq, rfl⟩
 go_wp2_with fail
 go_ret3
 exact ⟨rfl, nq, rfl⟩
set_option maxHeartbeats 16000000 in
theorem rcancel_call (h : RC W m mo s O w) (v : IW R s) (hx : s.C[i]? = some x) (hc : ∃ c, x.ch = some c) (k c1 : Int) (hk : (if k < 1 then 1 else k) = c1) : Calls Tryz.prog 25 #[pM' m, .int .i64 (i : Int), .int .i64 k] w (RCn W m mo (cnS s x 1 c1).1 O 1 c1 (cnS s x 1 c1).2.1 (cnS s x 1 c1).2.2 w) := by
 obtain ⟨q, hA, hcl, -⟩ := h.at hx
 have hi := (List.getElem?_eq_some_iff.1 hx).1
 have HW := h.bel.size
 have HF : Hid (∀ nq, Calls Tryz.prog 58 #[pM' m, .int .i64 (x.nd : Int), .int .i64 1, .int .i64 c1, .slice none 0 0, .slice none 0 0] (w.drewN nq) (RFa W m mo (cnS s x 1 c1).1 O 1 c1 (cnS s x 1 c1).2.1 (cnS s x 1 c1).2.2 w)) := fun nq => (h.later (below_drewN w nq)).falls v hx hc (Rm.of_below (below_drewN w nq)) (fun k hk => .inl hk) HW 1 c1
 obtain ⟨⟨N, o, hr, r, e⟩, t⟩ := h
 have HI := Lib.hid (rcin_any hr (i : Int))
 rw [decide_eq_true (by omega)] at HI
 have c4 := hcl 4 (by decide)
 have HA := Lib.hid (hA 0)
 obtain ⟨c, hc⟩ := hc
 simp only [nE, ndC, List.getElem?_cons_succ, List.getElem?_cons_zero, hc, Option.isNone_some] at c4
 obtain ⟨⟨-, -, -, t3, -⟩, -⟩ := hr.top
 obtain ⟨q2, hX, d0⟩ := hr.cx hx
 rw [hX] at t3
 have b1 : (i : Int) < (s.C.length : Int) := by omega
 have b2 : (0 : Int) ≤ (i : Int) := by omega
 clear hr r e t hA hcl hx v hX HW hc
 generalize cnS s x 1 c1 = z at *
 generalize x.nd = d at *
 generalize s.C.length = lc at *
 by_cases h1 : k < 1
 · rw [if_pos h1] at hk
   subst hk
   go_enter Tryz.func25, Tryz.ntmps25
   go_wp2_with fail
   refine HI.out.mono ?_
   rintro e w' ⟨rfl, rfl⟩
   go_wp2_with fail
   refine HA.out.mono ?_
   rintro e w' ⟨rfl, nq, rfl⟩
   go_wp2_with fail
   refine (HF.out nq).mono ?_
   rintro e w' ⟨P1, n1, c1, P2, n2, c2, hn, rfl, hg, hl, hs⟩
   go_wp2_with fail
   go_ret3
   exact ⟨P1, n1, c1, P2, n2, c2, hn, rfl, hg, hl, hs⟩
 · rw [if_neg h1] at hk
   subst hk
   go_enter Tryz.func25, Tryz.ntmps25
   go_wp2_with fail
   refine HI.out.mono ?_
   rintro e w' ⟨rfl, rfl⟩
   go_wp2_with fail
   refine HA.out.mono ?_
   rintro e w' ⟨rfl, nq, rfl⟩
   go_wp2_with fail
   refine (HF.out nq).mono ?_
   rintro e w' ⟨P1, n1, c1, P2, n2, c2, hn, rfl, hg, hl, hs⟩
   go_wp2_with fail
   go_ret3
   exact ⟨P1, n1, c1, P2, n2, c2, hn, rfl, hg, hl, hs⟩
set_option maxHeartbeats 8000000 in
theorem rlapse_none {k : Int} (h : RC W m mo s O w) (hk : k < 0 ∨ (s.C.length : Int) ≤ k) : Calls Tryz.prog 33 #[pM' m, .int .i64 k] w fun e w' => e = .returned (cn3 4) ∧ w = w' := by
 obtain ⟨⟨N, o, hr, r, e⟩, t⟩ := h
 have HI := Lib.hid (rcin_any hr k)
 rw [decide_eq_false (by omega)] at HI
 clear hr r e t
 go_enter Tryz.func33, Tryz.ntmps33
 go_wp2_with fail
 refine HI.out.mono ?_
 rintro e w' ⟨rfl, rfl⟩
 go_wp2_with fail
 go_ret3
 exact ⟨rfl, rfl⟩
set_option maxHeartbeats 8000000 in
theorem rlapse_plain (h : RC W m mo s O w) (hx : s.C[i]? = some x) (ho : x.own = false) : Calls Tryz.prog 33 #[pM' m, .int .i64 (i : Int)] w fun e w' => e = .returned (cn3 1) ∧ ∃ nq, w' = w.drewN nq := by
 obtain ⟨q, hA, hcl, -⟩ := h.at hx
 have hi := (List.getElem?_eq_some_iff.1 hx).1
 obtain ⟨⟨N, o, hr, r, e⟩, t⟩ := h
 have HI := Lib.hid (rcin_any hr (i : Int))
 rw [decide_eq_true (by omega)] at HI
 have c4 := hcl 9 (by decide)
 have HA := Lib.hid (hA 0)
 simp only [nE, ndC, List.getElem?_cons_succ, List.getElem?_cons_zero, ho] at c4
 clear hr r e t hA hcl
 go_enter Tryz.func33, Tryz.ntmps33
 go_wp2_with fail
 refine HI.out.mono ?_
 rintro e w' ⟨rfl, rfl⟩
 go_wp2_with fail
 refine HA.out.mono ?_
 rintro e w' ⟨rfl, nq, rfl⟩
 go_wp2_with fail
 go_ret3
 exact ⟨rfl, nq, rfl⟩
set_option maxHeartbeats 16000000 in
theorem rlapse_call (h : RC W m mo s O w) (v : IW R s) (hx : s.C[i]? = some x) (hc : ∃ c, x.ch = some c) (ho : x.own = true) : Calls Tryz.prog 33 #[pM' m, .int .i64 (i : Int)] w (RCn W m mo (cnS s x 2 2).1 O 2 2 (cnS s x 2 2).2.1 (cnS s x 2 2).2.2 w) := by
 obtain ⟨q, hA, hcl, -⟩ := h.at hx
 have hi := (List.getElem?_eq_some_iff.1 hx).1
 have HW := h.bel.size
 have HF : Hid (∀ nq, Calls Tryz.prog 58 #[pM' m, .int .i64 (x.nd : Int), .int .i64 2, .int .i64 2, .slice none 0 0, .slice none 0 0] (w.drewN nq) (RFa W m mo (cnS s x 2 2).1 O 2 2 (cnS s x 2 2).2.1 (cnS s x 2 2).2.2 w)) := fun nq => (h.later (below_drewN w nq)).falls v hx hc (Rm.of_below (below_drewN w nq)) (fun k hk => .inl hk) HW 2 2
 obtain ⟨⟨N, o, hr, r, e⟩, t⟩ := h
 have HI := Lib.hid (rcin_any hr (i : Int))
 rw [decide_eq_true (by omega)] at HI
 have c4 := hcl 9 (by decide)
 have HA := Lib.hid (hA 0)
 simp only [nE, ndC, List.getElem?_cons_succ, List.getElem?_cons_zero, ho] at c4
 obtain ⟨⟨-, -, -, t3, -⟩, -⟩ := hr.top
 obtain ⟨q2, hX, d0⟩ := hr.cx hx
 rw [hX] at t3
 have b1 : (i : Int) < (s.C.length : Int) := by omega
 have b2 : (0 : Int) ≤ (i : Int) := by omega
 clear hr r e t hA hcl hx v hX HW hc
 generalize cnS s x 2 2 = z at *
 generalize x.nd = d at *
 generalize s.C.length = lc at *
 go_enter Tryz.func33, Tryz.ntmps33
 go_wp2_with fail
 refine HI.out.mono ?_
 rintro e w' ⟨rfl, rfl⟩
 go_wp2_with fail
 refine HA.out.mono ?_
 rintro e w' ⟨rfl, nq, rfl⟩
 go_wp2_with fail
 refine (HF.out nq).mono ?_
 rintro e w' ⟨P1, n1, c1, P2, n2, c2, hn, rfl, hg, hl, hs⟩
 go_wp2_with fail
 go_ret3
 exact ⟨P1, n1, c1, P2, n2, c2, hn, rfl, hg, hl, hs⟩
end
end Go.Proofs.YtdpapnfjpefhkaaGreat
namespace Go.Proofs.YtdpapnfjpefhkaaGreat
open Go.RowKit Tr
set_option linter.unusedVariables false
set_option maxRecDepth 100000
section
variable {R : Nat} {W w w' w'' w0 w1 : World} {m mo B i j k : Nat} {O O' O0 : Nat → Prop} {s s' : St} {N : List Nd} {C : List Cx} {A : List Af} {T : TS} {er cs : Int} {l : List Lap} {mm : List Mp} {P1 P2 : Option Addr} {n1 c1 n2 c2 : Nat} {pn : Option Addr × Option Addr × Option Addr} {x y : Cx} {o : Lr} {pg : Int}
def RAf (W : World) (m mo : Nat) (s' : St) (O : Nat → Prop) (n : Nat) (mm : List Mp) (w : World) (e : Ending) (w' : World) : Prop :=
 ∃ P2 n2 c2, Hid (n2 = mm.length) ∧ e = .returned (.tuple #[.int .i64 (n : Int), .slice P2 n2 c2, .int .i64 0]) ∧ Hid (RG W m mo s' O w w') ∧ Hid (SRt 164 w.heap.size w' P2 c2 mm)
theorem rafter_none {k : Int} (h : RC W m mo s O w) (hk : k < 0 ∨ (s.C.length : Int) ≤ k) : Calls Tryz.prog 27 #[pM' m, .int .i64 k, .int .i64 pg] w fun e w' => e = .returned (af3 4) ∧ w = w' := by
 obtain ⟨⟨N, o, hr, r, e⟩, t⟩ := h
 have HI := Lib.hid (rcin_any hr k)
 rw [decide_eq_false (by omega)] at HI
 clear hr r e t
 go_enter Tryz.func27, Tryz.ntmps27
 go_wp2_with fail
 refine HI.out.mono ?_
 rintro e w' ⟨rfl, rfl⟩
 go_wp2_with fail
 go_ret3
 exact ⟨rfl, rfl⟩
theorem rafter_arg (h : RC W m mo s O w) (hi : i < s.C.length) (hp : pg < 0) : Calls Tryz.prog 27 #[pM' m, .int .i64 (i : Int), .int .i64 pg] w fun e w' => e = .returned (af3 1) ∧ w = w' := by
 obtain ⟨⟨N, o, hr, r, e⟩, t⟩ := h
 have HI := Lib.hid (rcin_any hr (i : Int))
 rw [decide_eq_true (by omega)] at HI
 clear hr r e t
 go_enter Tryz.func27, Tryz.ntmps27
 go_wp2_with fail
 refine HI.out.mono ?_
 rintro e w' ⟨rfl, rfl⟩
 go_wp2_with fail
 go_ret3
 exact ⟨rfl, rfl⟩
theorem rafter_full (h : RC W m mo s O w) (hi : i < s.C.length) (hp : 0 ≤ pg) (hA : s.A.length = 64) : Calls Tryz.prog 27 #[pM' m, .int .i64 (i : Int), .int .i64 pg] w fun e w' => e = .returned (af3 3) ∧ w = w' := by
 obtain ⟨⟨N, o, hr, r, e⟩, t⟩ := h
 have HI := Lib.hid (rcin_any hr (i : Int))
 rw [decide_eq_true (by omega)] at HI
 obtain ⟨⟨-, -, -, -, t4⟩, -⟩ := hr.top
 have b1 : ¬ pg < 0 := by omega
 rw [hA] at t4
 clear hr r e t
 go_enter Tryz.func27, Tryz.ntmps27
 go_wp2_with fail
 refine HI.out.mono ?_
 rintro e w' ⟨rfl, rfl⟩
 go_wp2_with fail
 go_ret3
 exact ⟨rfl, rfl⟩
theorem NR.addA (h : NR T C A N) (pr : Int) (pg : Int) (hx : ∀ (i : Nat) (x : Cx), C[i]? = some x → x.nd < T.length) : NR (T ++ [(pr, true)]) C (A ++ [⟨T.length, pg⟩]) (N ++ [ndA A.length pg true]) := by
 refine ⟨by simp [h.len], fun i x hi => ?_, fun j a ha => ?_⟩
 · rw [List.getElem?_append_left (by rw [h.len]; exact hx i x hi)]
   exact h.c i x hi
 · rcases Nat.lt_or_ge j A.length with hl | hl
   · rw [List.getElem?_append_left hl] at ha
     obtain ⟨q, l, h1, h2⟩ := h.a j a ha
     exact ⟨q, l, by rw [List.getElem?_append_left (List.getElem?_eq_some_iff.1 h1).1]; exact h1, by rw [List.getElem?_append_left (List.getElem?_eq_some_iff.1 h2).1]; exact h2⟩
   · rw [List.getElem?_append_right hl] at ha
     have hj := (List.getElem?_eq_some_iff.1 ha).1
     have hj : j - A.length < 1 := hj
     obtain rfl : j = A.length := by omega
     rw [Nat.sub_self] at ha; cases ha
     exact ⟨pr, true, by simp, by rw [← h.len]; simp⟩
theorem NR.addC (h : NR T C A N) (pr : Int) (l : Bool) (x : Cx) (hx : x.nd = T.length) (hc : ∀ (i : Nat) (x : Cx), C[i]? = some x → x.nd < T.length) : NR (T ++ [(pr, l)]) (C ++ [x]) A (N ++ [ndC C.length x]) := by
 refine ⟨by simp [h.len], fun i y hi => ?_, fun j a ha => ?_⟩
 · rcases Nat.lt_or_ge i C.length with hl | hl
   · rw [List.getElem?_append_left hl] at hi
     rw [List.getElem?_append_left (by rw [h.len]; exact hc i y hi)]
     exact h.c i y hi
   · rw [List.getElem?_append_right hl] at hi
     have hj := (List.getElem?_eq_some_iff.1 hi).1
     have hj : i - C.length < 1 := hj
     obtain rfl : i = C.length := by omega
     rw [Nat.sub_self] at hi; cases hi
     rw [hx, ← h.len]; simp
 · obtain ⟨q, l, h1, h2⟩ := h.a j a ha
   exact ⟨q, l, by rw [List.getElem?_append_left (List.getElem?_eq_some_iff.1 h1).1]; exact h1, by rw [List.getElem?_append_left (List.getElem?_eq_some_iff.1 h2).1]; exact h2⟩
def afL (s : St) (x : Cx) (pg : Int) : St := { s with T := s.T ++ [((x.nd : Int), true)], K := s.K ++ [⟨true, s.A.length⟩], A := s.A ++ [⟨s.T.length, pg⟩] }
theorem afS_live (s : St) (x : Cx) (pg : Int) (h : x.er = 0) : afS s x pg = afL s x pg := by unfold afS afL; rw [h]; rfl
theorem afS_over (s : St) (x : Cx) (pg : Int) (h : x.er ≠ 0) : afS s x pg = ctT (afL s x pg) s.T.length := by
 unfold afS afL ctT
 dsimp only
 rw [cut_new, decide_eq_false h]
abbrev bA (n : Nat) (pg : Int) : Array Value := #[.bool true, .int .i64 n, .int .i64 pg, .bool false, .bool false, .int .i64 0, .int .i64 0, .int .i64 0, .bool false, .bool false, .int .i64 (-1), .pointer none]
theorem bA_cells {n q : Nat} (h : w.heap[q]? = some (.cells (bA n pg) 155 (0, 0))) : (w.cell? ⟨q, 0, none⟩ = some (.bool true) ∧ w.cell? ⟨q, 1, none⟩ = some (.int .i64 n) ∧ w.cell? ⟨q, 2, none⟩ = some (.int .i64 pg) ∧ w.cell? ⟨q, 3, none⟩ = some (.bool false) ∧ w.cell? ⟨q, 4, none⟩ = some (.bool false) ∧ w.cell? ⟨q, 5, none⟩ = some (.int .i64 0) ∧ w.cell? ⟨q, 6, none⟩ = some (.int .i64 0) ∧ w.cell? ⟨q, 7, none⟩ = some (.int .i64 0) ∧ w.cell? ⟨q, 8, none⟩ = some (.bool false) ∧ w.cell? ⟨q, 9, none⟩ = some (.bool false) ∧ w.cell? ⟨q, 10, none⟩ = some (.int .i64 (-1)) ∧ w.cell? ⟨q, 11, none⟩ = some (.pointer none)) ∧ ∀ j, w.frozen? ⟨q, j, none⟩ = false := by
 refine ⟨⟨?_, ?_, ?_, ?_, ?_, ?_, ?_, ?_, ?_, ?_, ?_, ?_⟩, fun j => frozen_of_row w q j _ _ h⟩
 · rw [cell_of_row w q 0 _ _ _ h]; rfl
 · rw [cell_of_row w q 1 _ _ _ h]; rfl
 · rw [cell_of_row w q 2 _ _ _ h]; rfl
 · rw [cell_of_row w q 3 _ _ _ h]; rfl
 · rw [cell_of_row w q 4 _ _ _ h]; rfl
 · rw [cell_of_row w q 5 _ _ _ h]; rfl
 · rw [cell_of_row w q 6 _ _ _ h]; rfl
 · rw [cell_of_row w q 7 _ _ _ h]; rfl
 · rw [cell_of_row w q 8 _ _ _ h]; rfl
 · rw [cell_of_row w q 9 _ _ _ h]; rfl
 · rw [cell_of_row w q 10 _ _ _ h]; rfl
 · rw [cell_of_row w q 11 _ _ _ h]; rfl
structure RB (W : World) (m mo : Nat) (T : TS) (N : List Nd) (C : List Cx) (A : List Af) (O : Nat → Prop) (b n : Nat) (pg : Int) (w : World) (o : Lr) (w' : World) : Prop where
 rm : RM W m mo T N C A o w'
 hs : ∀ k, oR m o C k → O k ∨ w.heap.size ≤ k
 hb : w.heap.size ≤ b ∧ ¬ oR m o C b
 tn : Tn O w w'
 bx : w'.heap[b]? = some (.cells (bA n pg) 155 (0, 0))
theorem RB.step {N' : List Nd} {C' : List Cx} {A' : List Af} {o' : Lr} {b n : Nat} (h : RB W m mo T N C A O b n pg w o w') (r : RM W m mo T N' C' A' o' w'') (f : Tn (oR m o C) w' w'') (hs : ∀ k, oR m o' C' k → oR m o C k ∨ w'.heap.size ≤ k) : RB W m mo T N' C' A' O b n pg w o' w'' := by
 have hl := lt_of_blk h.bx
 refine ⟨r, fun k hk => ?_, ⟨h.hb.1, fun hk => ?_⟩, h.tn.comp f fun k hk => h.hs k hk, (f.block b hl h.hb.2).trans h.bx⟩
 · rcases hs k hk with h1 | h1
   · exact h.hs k h1
   · exact .inr (Nat.le_trans h.tn.size h1)
 · rcases hs b hk with h1 | h1
   · exact h.hb.2 h1
   · omega
theorem afL_cell {b n : Nat} (h : w.heap[b]? = some (.cells (bA n pg) 155 (0, 0))) (nq : Nat) : (w.drewN nq).cell? ⟨b, 1, none⟩ = some (.int .i64 n) := by
 have := (below_drewN w nq).block b (lt_of_blk h)
 exact (bA_cells (this.trans h)).1.2.1
theorem af_fall {N' : List Nd} {b n : Nat} {o3 : Lr} (v : IW R s) (hF : RB W m mo (afL s x pg).T N' s.C (afL s x pg).A (oR m o s.C) b n pg w o3 w') (hO : ∀ k, O k ↔ oR m o s.C k) (r : NR (afL s x pg).T s.C (afL s x pg).A N') (t : RS W mo s.E 0 s.n s.S z0 w') (hW : W.heap.size ≤ w.heap.size) (he : x.er ≠ 0) :
  Calls Tryz.prog 58 #[pM' m, .int .i64 (s.T.length : Int), .int .i64 0, .int .i64 0, .slice none 0 0, .slice none 0 0] w' fun e w2 => RFa W m mo (afS s x pg) O 0 0 [] [⟨s.A.length, pg⟩] w e w2 ∧ w2.cell? ⟨b, 1, none⟩ = some (.int .i64 n) := by
 have hK : s.K.length = s.T.length := v.v.kl
 have ck : ∀ (i : Nat) (y : Cx), s.C[i]? = some y → (s.K ++ [⟨true, s.A.length⟩])[y.nd]? = some (⟨false, i⟩ : Kd) := fun i y hy => by
  rw [List.getElem?_append_left (by rw [hK]; exact v.v.ndlt hy)]; exact v.v.ck i y hy
 have ak : ∀ (i : Nat) (a : Af), (s.A ++ [⟨s.T.length, pg⟩])[i]? = some a → (s.K ++ [⟨true, s.A.length⟩])[a.nd]? = some (⟨true, i⟩ : Kd) := fun i a ha => by
  rcases Nat.lt_or_ge i s.A.length with hl | hl
  · rw [List.getElem?_append_left hl] at ha
    have h1 := v.v.ak i a ha
    rw [List.getElem?_append_left (List.getElem?_eq_some_iff.1 h1).1]; exact h1
  · rw [List.getElem?_append_right hl] at ha
    have hj := (List.getElem?_eq_some_iff.1 ha).1
    have hj : i - s.A.length < 1 := hj
    obtain rfl : i = s.A.length := by omega
    rw [Nat.sub_self] at ha; cases ha
    show (s.K ++ _)[s.T.length]? = _
    rw [← hK]; simp
 refine (fall_after (s := afL s x pg) (k := s.T.length) (j := s.A.length) (a := ⟨s.T.length, pg⟩) (q := (x.nd : Int)) (er := 0) (cs := 0) (B := w.heap.size) (l := []) (st := []) (by show (s.K ++ _)[_]? = _; rw [← hK]; simp) (by show (s.A ++ _)[_]? = _; simp) rfl (by show (s.T ++ _)[_]? = _; simp) hF.rm r ck ak t (LRt.nil _ _ _ _ _) (SRt.nil _ _ _) ⟨hW, hF.tn.size⟩ rfl rfl (by simp)).mono ?_
 rintro e w2 ⟨P1, n1, c1, P2, n2, c2, N2, hn, rfl, hL⟩
 obtain ⟨hL, r2⟩ := hL.out
 rw [← afS_over s x pg he] at hL r2
 refine ⟨⟨P1, n1, c1, P2, n2, c2, hn, rfl, hL.rg r2 (Rm.of_tn (hF.tn.mono fun k hk => .inl ((hO k).2 hk))) (fun k hk => ?_), hL.lr, hL.sr⟩, ?_⟩
 · rcases hF.hs k hk with h1 | h1
   · exact .inl ((hO k).2 h1)
   · exact .inr h1
 · have e9 := hL.fr.cells hF.bx (by
    rintro (h1 | ⟨_, h1⟩)
    · exact hF.hb.2 h1
    · exact h1.not hF.bx fun h2 => by rcases h2 with h2 | h2 <;> cases h2) (by decide)
   exact (bA_cells e9).1.2.1
set_option maxHeartbeats 16000000 in
theorem rafter_ok (h : RC W m mo s O w) (v : IW R s) (hx : s.C[i]? = some x) (hp : 0 ≤ pg) (hA : s.A.length < 64) : Calls Tryz.prog 27 #[pM' m, .int .i64 (i : Int), .int .i64 pg] w (RAf W m mo (afS s x pg) O s.A.length (afM s x pg) w) := by
 obtain ⟨i0, hi0, hz0, hz1, hz2⟩ := info_parts infRC
 obtain ⟨i3, hi3, hy0, hy1, hy2⟩ := info_parts Tr.inf3
 have hi := (List.getElem?_eq_some_iff.1 hx).1
 have hW := h.bel.size
 have hnd := v.v.ndlt hx
 have hT1 : s.T.length ≤ 128 := by have := v.v.tl; have := v.v.cl; have := v.v.al; omega
 have hCl := v.v.cl
 have HV := Lib.hid v
 have HX := Lib.hid hx
 have HNX : Hid (∀ (i : Nat) (x : Cx), s.C[i]? = some x → x.nd < s.T.length) := fun i x hi => v.v.ndlt hi
 obtain ⟨⟨N, o, hr, r, e⟩, t⟩ := h
 have HI := Lib.hid (rcin_any hr (i : Int))
 rw [decide_eq_true (by omega)] at HI
 obtain ⟨⟨-, -, -, t3, t4⟩, -⟩ := hr.top
 obtain ⟨q2, hX, d0⟩ := hr.cx hx
 rw [hX] at t3
 have b1 : (i : Int) < (s.C.length : Int) := by omega
 have b2 : (0 : Int) ≤ (i : Int) := by omega
 have b3 : ¬ pg < 0 := by omega
 have b4 : ¬ (64 : Int) ≤ (s.A.length : Int) := by omega
 have b5 : (s.A.length : Int) ≤ 64 := by omega
 have HO : Hid (∀ k, O k ↔ oR m o s.C k) := e
 have HR0 := Lib.hid hr
 have HNR := Lib.hid r
 have HT := Lib.hid t
 have hNl : N.length ≤ 128 := by rw [r.len]; exact hT1
 have HC : Hid (∀ w1, Below w.heap.size w w1 → Calls Tryz.prog 62 #[.pointer (some ⟨m, 1, none⟩), .int .i64 (x.nd : Int), .bool true] w1 fun e w' => e = .returned (.tuple #[.int .i64 (s.T.length : Int), .int .i64 0]) ∧ ∃ o1, Hid (RM W m mo (s.T ++ [((x.nd : Int), true)]) N s.C s.A o1 w' ∧ (∀ k, oR m o1 s.C k → oR m o s.C k ∨ w.heap.size ≤ k) ∧ Tn (oR m o s.C) w w')) := by
  intro w1 hb
  have h1 := hr.later hb
  refine (Tr.madd_in h1.tr (by omega) (x.nd : Int) true true ⟨by omega, by omega⟩ (by rw [decide_eq_true (by omega)]; rfl)).mono ?_
  rintro e w' ⟨rfl, g⟩
  obtain ⟨o', r1, r2, r3, r4, r5, r6⟩ := h1.tree g.out
  exact ⟨rfl, o', r1, fun k hk => (r2 k hk).imp id fun h2 => Nat.le_trans hb.size h2, (Tn.of_below hb).trans r3⟩
 clear hr r e t hX hx v hA hp
 generalize hnn : x.nd = d at *
 go_enter Tryz.func27, Tryz.ntmps27
 go_wp2_with fail
 refine HI.out.mono ?_
 rintro e w' ⟨rfl, rfl⟩
 go_wp2_with fail
 go_region_with (go_at_call 62; go_loud (refine (HC.out _ (by first | exact Below.refl _ _ | exact (Below.refl _ _).drew | exact below_drewN _ _)).mono ?_; rintro e w4 ⟨rfl, o1, hR⟩))
 all_goals
  have hR1 := hR.out.1
  obtain ⟨⟨-, -, -, -, k4⟩, -⟩ := hR1.top
  have hs4 := hR.out.2.2.size
  have HRB : Hid (RB W m mo (s.T ++ [((d : Int), true)]) N s.C s.A (oR m o s.C) w4.heap.size s.A.length pg w o1 (w4.alloc (.cells (bA s.A.length pg) 155))) := ⟨hR1.later (below_al w4 _), hR.out.2.1, ⟨hs4, fun hk => by have := hR1.lt hk; omega⟩, hR.out.2.2.trans (Tn.of_below (below_al w4 _)), heap_alloc_new w4 _⟩
  clear hR1 hR HC HI t3 t4 d0
  go_wp2_with fail
  generalize w4.alloc (.cells #[.bool true, .int .i64 s.A.length, .int .i64 pg, .bool false, .bool false, .int .i64 0, .int .i64 0, .int .i64 0, .bool false, .bool false, .int .i64 (-1), .pointer none] 155) = w5 at *
  generalize w4.heap.size = b at *
  clear k4
  have hR5 := HRB.out.rm
  obtain ⟨⟨-, -, k2, -, -⟩, kf⟩ := hR5.top
  obtain ⟨⟨x0, x1, x2, x3, x4, x5, x6, x7, x8, x9, x10, x11⟩, -⟩ := bA_cells HRB.out.bx
  have f2 := kf 2
  have hm5 := hR5.lt (.inl rfl)
  have hb5 := lt_of_blk HRB.out.bx
  have HRN := Lib.hid hR5.rn
  have HE : Hid (∀ {wx w5' : World} {g cap : Nat}, Below w5.heap.size w5 wx → wx.grownBy w5' (Value.slice o1.PN N.length o1.cN).ownBlock → w5'.ownsRow 0 155 12 (.slice (some ⟨g, 0, none⟩) (N.length + 1) cap) (N.length + 1) (N.flatMap nE ++ nE (ndA s.A.length pg true)) → ((Value.slice o1.PN N.length o1.cN).ownBlock = some g ∨ w5.heap.size ≤ g) →
    (w5'.cell? ⟨m, 2, none⟩ = some (.slice o1.PN N.length o1.cN) ∧ w5'.frozen? ⟨m, 2, none⟩ = false) ∧ Hid (∃ o2, RB W m mo (s.T ++ [((d : Int), true)]) (N ++ [ndA s.A.length pg true]) s.C s.A (oR m o s.C) b s.A.length pg w o2 (w5'.setCell ⟨m, 2, none⟩ (.slice (some ⟨g, 0, none⟩) (N.length + 1) cap)))) := by
   intro wx w5' g cap hx hg ho hat
   obtain ⟨c1, c2, c3, c4⟩ := HRB.out.rm.addN hx hg ho hat
   exact ⟨c1, _, HRB.out.step c2 c3 c4⟩
  clear HRB hR5 kf
  go_region_law (go_loud (refine step_append_lies _ (by rfl) _ _ _ (by rfl) 0 155 i0 (.agg #[.bool false, .int .i64 0, .int .i64 0, .bool false, .bool false, .int .i64 0, .int .i64 0, .int .i64 0, .bool false, .bool false, .int .i64 0, .pointer none]) 12 80 Tryz.underlying150 hi0 hz0 hz1 hz2 rfl (by omega) (.slice o1.PN N.length o1.cN) N.length (N.flatMap nE) (by rfl) (row_later HRN.out (below_one rfl rfl rfl rfl)) ⟨w5.heap.size, 0, none⟩ 1 1 (nE (ndA s.A.length pg true)) (by rfl) (by rfl) (World.news_of_block (cs := bA s.A.length pg) (t := 155) (fr := (0, 0)) (news_one (w := w5) (by rfl))) (nE_one _) (by omega) (by unfold maxLen; omega) (by omega) (by first | omega | (simp; done) | (simp; omega)) (w5.heap.size + 1) (by simp) ?_; intro g5 cap5 w6 hown hgrow hat hlt5; have HM := HE.out (g := g5) (cap := cap5) (by exact below_one rfl rfl rfl rfl) hgrow hown (hat.imp id (by omega)); have hc1 := HM.1.1; have hf1 := HM.1.2; have HD := HM.2; clear HM hown hgrow hat hlt5 k2 f2))
  all_goals
   clear HE hc1 hf1 x0 x1 x2 x3 x4 x5 x6 x7 x8 x9 x10 x11 HRN
   generalize w6.setCell ⟨m, 2, none⟩ (.slice (some ⟨g5, 0, none⟩) (N.length + 1) cap5) = w7 at *
   obtain ⟨o2, HD⟩ := HD.out
   have HD := Lib.hid HD
   have hR7 := HD.out.rm
   obtain ⟨⟨-, -, -, -, k4⟩, kf⟩ := hR7.top
   have f4 := kf 4
   have hm7 := hR7.lt (.inl rfl)
   have HRY := Lib.hid hR7.ry
   have HE2 : Hid (∀ {wx w7' : World} {g cap : Nat}, Below w7.heap.size w7 wx → wx.grownBy w7' (Value.slice o2.PY s.A.length o2.cY).ownBlock → w7'.ownsRow 0 3 1 (.slice (some ⟨g, 0, none⟩) (s.A.length + 1) cap) (s.A.length + 1) (yV s.A ++ [.int .i64 (s.T.length : Int)]) → ((Value.slice o2.PY s.A.length o2.cY).ownBlock = some g ∨ w7.heap.size ≤ g) →
     (w7'.cell? ⟨m, 4, none⟩ = some (.slice o2.PY s.A.length o2.cY) ∧ w7'.frozen? ⟨m, 4, none⟩ = false) ∧ Hid (∃ o3, RB W m mo (s.T ++ [((d : Int), true)]) (N ++ [ndA s.A.length pg true]) s.C (s.A ++ [⟨s.T.length, pg⟩]) (oR m o s.C) b s.A.length pg w o3 (w7'.setCell ⟨m, 4, none⟩ (.slice (some ⟨g, 0, none⟩) (s.A.length + 1) cap)))) := by
    intro wx w7' g cap hx' hg ho hat
    obtain ⟨c1, c2, c3, c4⟩ := HD.out.rm.addY (a := ⟨s.T.length, pg⟩) hx' hg ho hat
    exact ⟨c1, _, HD.out.step c2 c3 c4⟩
   clear HD hR7 kf
   go_wp2_with (at_builtin; go_loud (refine wpList_append_lies _ rfl _ _ 111 rfl 0 3 i3 _ 1 8 Tryz.underlying111 hi3 hy0 hy1 hy2 rfl (by omega) (.slice o2.PY s.A.length o2.cY) s.A.length (yV s.A) rfl (row_later HRY.out (below_al w7 _)) ⟨w7.heap.size, 0, none⟩ 1 1 [.int .i64 (s.T.length : Int)] rfl rfl (World.news_of_block (cs := #[.int .i64 (s.T.length : Int)]) (heap_alloc_new w7 _)) (int_cell _) (by omega) (by unfold maxLen; omega) (by omega) (by omega) (w7.heap.size + 1) (by first | (simp; done) | (simp; rfl)) ?_; intro g7 cap7 w8 hown hgrow hat hlt7; have HM := HE2.out (g := g7) (cap := cap7) (below_al w7 _) hgrow hown (hat.imp id (by omega)); have hc7 := HM.1.1; have hf7 := HM.1.2; have HF := HM.2; clear HM hown hgrow hat hlt7 k4 f4))
   clear HE2 HRY hc7 hf7
   generalize w8.setCell ⟨m, 4, none⟩ (.slice (some ⟨g7, 0, none⟩) (s.A.length + 1) cap7) = w9 at *
   obtain ⟨o3, HF⟩ := HF.out
   subst hnn
   have hNR := HNR.out.addA (x.nd : Int) pg HNX.out
   have hRS := RS.tn HT.out (fun k hk => HR0.out.tag hk) HF.tn
   have hRC : RC W m mo (afL s x pg) (oR m o3 s.C) w9 := ⟨⟨_, o3, HF.rm, hNR, fun k => Iff.rfl⟩, hRS⟩
   obtain ⟨q8, hA8, hc8, -⟩ := hRC.at (i := i) HX.out
   have c5 := hc8 5 (by decide)
   have HA8 := Lib.hid (hA8 0)
   simp only [nE, ndC, List.getElem?_cons_succ, List.getElem?_cons_zero] at c5
   have HB1 := Lib.hid (afL_cell HF.bx)
   have HG : Hid (∀ nq, RG W m mo (afL s x pg) O w (w9.drewN nq)) := fun nq => RG.then ⟨_, hRC, fun k hk => (HF.hs k hk).imp (HO.out k).2 id, Rm.of_tn (HF.tn.mono fun k hk => .inl ((HO.out k).2 hk))⟩ (below_drewN w9 nq)
   by_cases he : x.er = 0
   · have HMM : Hid (afM s x pg = [] ∧ afS s x pg = afL s x pg) := ⟨by unfold afM; rw [if_pos he], afS_live s x pg he⟩
     rw [he] at c5
     clear hA8 hc8 hRC HF hNR hRS
     go_wp2_with fail
     refine HA8.out.mono ?_
     rintro e w10 ⟨rfl, nq, rfl⟩
     have hb1 := HB1.out nq
     go_wp2_with fail
     go_ret3
     rw [HMM.out.1, HMM.out.2]
     exact ⟨none, 0, 0, rfl, rfl, HG.out nq, SRt.nil _ _ _⟩
   · have HMM : Hid (afM s x pg = [⟨s.A.length, pg⟩]) := by show _ = _; unfold afM; rw [if_neg he]
     have HFA : Hid (∀ nq, Calls Tryz.prog 58 #[pM' m, .int .i64 (s.T.length : Int), .int .i64 0, .int .i64 0, .slice none 0 0, .slice none 0 0] (w9.drewN nq) fun e w2 => RFa W m mo (afS s x pg) O 0 0 [] [⟨s.A.length, pg⟩] w e w2 ∧ w2.cell? ⟨b, 1, none⟩ = some (.int .i64 s.A.length)) := fun nq => af_fall HV.out (HF.step (HF.rm.later (below_drewN w9 nq)) (Tn.of_below (below_drewN w9 nq)) fun k hk => .inl hk) HO.out hNR (hRS.later (below_drewN w9 nq)) hW he
     clear hA8 hc8 hRC HF hNR hRS
     generalize x.er = e0 at *
     go_wp2_with fail
     refine HA8.out.mono ?_
     rintro e w10 ⟨rfl, nq, rfl⟩
     go_wp2_with fail
     refine (HFA.out nq).mono ?_
     rintro e w11 ⟨⟨P1, n1, c1, P2, n2, c2, hn, rfl, hg, hl, hs⟩, hb1⟩
     go_wp2_with fail
     go_ret3
     rw [HMM.out]
     exact ⟨P2, n2, c2, hn.out.2, rfl, hg, hs⟩
end
end Go.Proofs.YtdpapnfjpefhkaaGreat
namespace Go.Proofs.YtdpapnfjpefhkaaGreat
open Go.RowKit Tr
set_option linter.unusedVariables false
set_option maxRecDepth 100000
section
variable {R : Nat} {W w w' w'' w0 w1 : World} {m mo B i j k : Nat} {O O' O0 : Nat → Prop} {s s' : St} {N : List Nd} {C : List Cx} {A : List Af} {T : TS} {er cs : Int} {l : List Lap} {mm : List Mp} {P1 P2 : Option Addr} {n1 c1 n2 c2 : Nat} {pn : Option Addr × Option Addr × Option Addr} {x y : Cx} {o : Lr} {pg : Int}
theorem runafter_none {k : Int} (h : RC W m mo s O w) (hk : k < 0 ∨ (s.A.length : Int) ≤ k) : Calls Tryz.prog 28 #[pM' m, .int .i64 k] w fun e w' => e = .returned (un2 false 4) ∧ w = w' := by
 obtain ⟨⟨N, o, hr, r, e⟩, t⟩ := h
 obtain ⟨⟨-, -, -, -, t4⟩, -⟩ := hr.top
 clear hr r e t
 by_cases c1 : k < 0
 · clear hk
   go_enter Tryz.func28, Tryz.ntmps28
   go_wp2_with fail
   go_ret2
   exact ⟨rfl, rfl⟩
 · have c2 : (s.A.length : Int) ≤ k := by omega
   clear hk
   go_enter Tryz.func28, Tryz.ntmps28
   go_wp2_with fail
   go_ret2
   exact ⟨rfl, rfl⟩
theorem lkd_at {q : Int} {l : Bool} (h : s.T[k]? = some (q, l)) : lkd s k = l := by unfold lkd; rw [h]
set_option maxHeartbeats 8000000 in
theorem runafter_ok {j : Nat} {a : Af} (h : RC W m mo s O w) (v : IW R s) (ha : s.A[j]? = some a) : Calls Tryz.prog 28 #[pM' m, .int .i64 (j : Int)] w fun e w' => e = .returned (un2 (lkd s a.nd) 0) ∧ Hid (RG W m mo { s with T := Tr.cut s.T a.nd } O w w') := by
 have hj := (List.getElem?_eq_some_iff.1 ha).1
 have b1 : ¬ (j : Int) < 0 := by omega
 have b2 : ¬ (s.A.length : Int) ≤ (j : Int) := by omega
 have b3 : (0 : Int) ≤ (j : Int) := by omega
 have b4 : (j : Int) < (s.A.length : Int) := by omega
 obtain ⟨⟨N, o, hr, r, e⟩, t⟩ := h
 obtain ⟨q', l', hT, hN⟩ := r.a j a ha
 have hkT : a.nd < s.T.length := (List.getElem?_eq_some_iff.1 hT).1
 have hkN := (List.getElem?_eq_some_iff.1 hN).1
 rw [lkd_at hT]
 have HNR := Lib.hid (r.cutA v.r.ck v.r.ak ha hT)
 obtain ⟨q9, hP, hq9, hc, hf⟩ := hr.nd hN
 have d3 := hc 3 (by decide)
 have f3 := hf (a.nd * 12 + 3)
 simp only [nE, ndA, List.getElem?_cons_succ, List.getElem?_cons_zero] at d3
 obtain ⟨⟨-, -, t2, -, t4⟩, -⟩ := hr.top
 rw [hP] at t2
 obtain ⟨q8, hY, y0⟩ := hr.ax ha
 rw [hY] at t4
 have b5 : (a.nd : Int) < (N.length : Int) := by omega
 have b6 : (0 : Int) ≤ (a.nd : Int) := by omega
 have hw9 : ∀ nq, RM W m mo s.T N s.C s.A o (w.drewN nq) := fun nq => hr.later (below_drewN w nq)
 have HRM : Hid (∀ nq, RM W m mo s.T (N.set a.nd (ndA j a.pg false)) s.C s.A o ((w.drewN nq).setCell ⟨q9, a.nd * 12 + 3, none⟩ (.bool true)) ∧ Tn (oR m o s.C) w ((w.drewN nq).setCell ⟨q9, a.nd * 12 + 3, none⟩ (.bool true))) := fun nq => by
  obtain ⟨r1, r2⟩ := (hw9 nq).node (j := 3) (u := .bool true) (n' := ndA j a.pg false) hN hP (by decide) rfl
  exact ⟨r1, (Tn.of_below (below_drewN w nq)).trans r2⟩
 have HTM := Lib.hid t
 have HTG : Hid (∀ k, oR m o s.C k → Tg TgR w k) := fun k hk => hr.tag hk
 have HO := Lib.hid e
 have HC : Hid (∀ w1 w2, RM W m mo s.T (N.set a.nd (ndA j a.pg false)) s.C s.A o w1 → Tn (oR m o s.C) w w1 → Below w1.heap.size w1 w2 → Calls Tryz.prog 63 #[.pointer (some ⟨m, 1, none⟩), .int .i64 (a.nd : Int)] w2 fun e w4 => (∃ b, e = .returned (.bool b)) ∧ Hid (RG W m mo { s with T := Tr.cut s.T a.nd } O w w4)) := by
  intro w1 w2 h1 h2 h3
  refine (mdet_any (h1.later h3).tr a.nd hkT).mono ?_
  rintro e w4 ⟨hb, g⟩
  obtain ⟨o', r1, r2, r3, r4, r5, r6⟩ := (h1.later h3).tree g
  have hT4 : Tn (oR m o s.C) w w4 := (h2.trans (Tn.of_below h3)).trans r3
  refine ⟨hb, ⟨oR m o' s.C, ⟨⟨_, o', r1, HNR.out, fun k => Iff.rfl⟩, RS.tn HTM.out HTG.out hT4⟩, fun k hk => ?_, Rm.of_tn (hT4.mono fun k hk => .inl ((HO.out k).2 hk))⟩⟩
  rcases r2 k hk with h4 | h4
  · exact .inl ((HO.out k).2 h4)
  · exact .inr (Nat.le_trans (Nat.le_trans h2.size h3.size) h4)
 have HY : Hid (∀ nq, ((w.drewN nq).setCell ⟨q9, a.nd * 12 + 3, none⟩ (.bool true)).cell? ⟨m, 4, none⟩ = some (.slice (some ⟨q8, 0, none⟩) s.A.length o.cY) ∧ ((w.drewN nq).setCell ⟨q9, a.nd * 12 + 3, none⟩ (.bool true)).cell? ⟨q8, j, none⟩ = some (.int .i64 a.nd)) := fun nq => by
  obtain ⟨⟨-, -, -, -, z4⟩, -⟩ := (HRM.out nq).1.top
  obtain ⟨q7, hY7, y7⟩ := (HRM.out nq).1.ax ha
  rw [hY] at hY7 z4; injection hY7 with hY7; injection hY7 with hY7; subst hY7
  exact ⟨z4, y7⟩
 clear hr r e t hT hN hP hc hf hY hq9 ha v hw9 hkT hkN
 generalize N.length = ln at *
 generalize a.nd = d at *
 generalize s.A.length = la at *
 go_enter Tryz.func28, Tryz.ntmps28
 go_wp2_with fail
 go_quiet (fail)
 go_wp2_with fail
 have hy4 := (HY.out nq).1
 have hy0 := (HY.out nq).2
 have HC2 : Hid (∀ w2, Below ((w.drewN nq).setCell ⟨q9, d * 12 + 3, none⟩ (.bool true)).heap.size ((w.drewN nq).setCell ⟨q9, d * 12 + 3, none⟩ (.bool true)) w2 → Calls Tryz.prog 63 #[.pointer (some ⟨m, 1, none⟩), .int .i64 (d : Int)] w2 fun e w4 => (∃ b, e = .returned (.bool b)) ∧ Hid (RG W m mo { s with T := Tr.cut s.T d } O w w4)) := fun w2 hb => HC.out _ w2 (HRM.out nq).1 (HRM.out nq).2 hb
 clear t2 d3 f3 y0 t4 HY HC HRM
 generalize (w.drewN nq).setCell ⟨q9, d * 12 + 3, none⟩ (.bool true) = w1 at *
 go_region_with (go_at_call 63; go_loud (refine (HC2.out _ (by first | exact Below.refl _ _ | exact (Below.refl _ _).drew | exact below_drewN _ _)).mono ?_; rintro e w4 ⟨⟨b, rfl⟩, h4⟩))
 all_goals
  go_wp2_with fail
  go_ret2
  exact ⟨rfl, h4⟩
end
end Go.Proofs.YtdpapnfjpefhkaaGreat
