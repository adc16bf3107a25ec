/- What Cancel, Lapse, Unafter of package ctx do. Conditions: each theorem's own premises.
What Unafter and New of package ctx do. Conditions: each theorem's own premises.
What Cancels, Without and Deadline of package ctx do. Conditions: each theorem's own premises. -/
import Derived.Test.YtdpapnfjpefhkaaCinm
import Derived.Test.YtdpapnfjpefhkaaTmrm
namespace Go.Proofs.Ytdpapnfjpefhkaa
open Go.RowKit Tr
set_option linter.unusedVariables false
set_option maxRecDepth 100000
section
variable {W w w' w'' wx w1 w2 : World} {t i n c : Nat} {p : Option Nat} {O : Nat → Prop} {s s' : St} {x y : Cx} {er cs : Int} {l : List Lap} {m : List Mp}
/-- What Cancel and Lapse tell. -/
def CnR (W : World) (t : Nat) (p : Option Nat) (s' : St) (O : Nat → Prop) (er cs : Int) (l : List Lap) (m : List Mp) (w : World) (e : Ending) (w' : World) : Prop :=
  ∃ P1 n1 c1 P2 n2 c2, Hid (n1 = l.length) ∧ Hid (n2 = m.length) ∧ e = .returned (.tuple #[.slice P1 n1 c1, .slice P2 n2 c2, .int .i64 0]) ∧ Hid (GS W t p s' O w w') ∧ Hid (LR w.heap.size w' P1 c1 er cs l) ∧ Hid (SR w.heap.size w' P2 c2 m)
/-- What is made of one that is cancelled: nothing, if it is done. -/
def cnS (s : St) (x : Cx) (er cs : Int) : St × List Lap × List Mp := if x.er ≠ 0 then (s, [], []) else cfold er cs (Tr.walk s.T x.nd) s
theorem cancel_any {er cs : Int} (h : FS W t p s O w) (v : Inv s) (hx : s.C[i]? = some x) (hc : ∃ c, x.ch = some c) :
    Calls Try.prog 37 #[pS t, .int .i64 (i : Int), .int .i64 er, .int .i64 cs] w (CaR W t p (cnS s x er cs).1 O er cs (cnS s x er cs).2.1 (cnS s x er cs).2.2 w) := by
  unfold cnS
  by_cases he : x.er ≠ 0
  · rw [if_pos he]
    exact cancel_over h hx he
  · rw [if_neg he]
    have he : x.er = 0 := by omega
    exact cancel_go h hx he (v.ndlt hx) (v.good hx hc he) (by have := v.el; have := v.cl; omega) (by have := v.sl; have := v.el; have := v.cl; omega) (by have := v.cl; omega) (by have := v.al; omega) (by have := v.kl; have := v.tl; have := v.cl; have := v.al; omega)
theorem cancel_call (h : FS W t p s O w) (v : Inv s) (hx : s.C[i]? = some x) (hc : ∃ c, x.ch = some c) (k c1 : Int) (hk : (if k < 1 then 1 else k) = c1) : Calls Try.prog 16 #[pS t, .int .i64 (i : Int), .int .i64 k] w (CnR W t p (cnS s x 1 c1).1 O 1 c1 (cnS s x 1 c1).2.1 (cnS s x 1 c1).2.2 w) := by
  have hi := (List.getElem?_eq_some_iff.1 hx).1
  have b1 : (i : Int) < (s.C.length : Int) := by omega
  have b2 : (0 : Int) ≤ (i : Int) := by omega
  have H := Lib.hid (chas_yes h hi)
  have HC := Lib.hid (cancel_any (er := 1) (cs := c1) h v hx hc)
  obtain ⟨PC, cC, h3, hr⟩ := h.c3
  obtain ⟨q, rfl, hq, x0, x1, -⟩ := hr i x hx
  obtain ⟨ch, hch⟩ := hc
  rw [hch] at x1
  simp only [Option.map_some] at x1
  have ht := h.tlt
  clear hr hx h v hch x0 hi
  by_cases hk1 : k < 1
  · rw [if_pos hk1] at hk
    subst hk
    go_enter Try.func16, Try.ntmps16
    go_wp2_with fail
    refine H.out.mono ?_
    rintro e w' ⟨rfl, rfl⟩
    go_wp2_with fail
    refine HC.out.mono ?_
    rintro e w2 ⟨P1, n1, c1, P2, n2, c2, g1, g2, rfl, g3, g4, g5⟩
    go_wp2_with fail
    go_ret3
    exact ⟨P1, n1, c1, P2, n2, c2, g1, g2, rfl, g3, g4, g5⟩
  · rw [if_neg hk1] at hk
    subst hk
    go_enter Try.func16, Try.ntmps16
    go_wp2_with fail
    refine H.out.mono ?_
    rintro e w' ⟨rfl, rfl⟩
    go_wp2_with fail
    refine HC.out.mono ?_
    rintro e w2 ⟨P1, n1, c1, P2, n2, c2, g1, g2, rfl, g3, g4, g5⟩
    go_wp2_with fail
    go_ret3
    exact ⟨P1, n1, c1, P2, n2, c2, g1, g2, rfl, g3, g4, g5⟩
abbrev cn3 (r : Int) : Value := .tuple #[.slice none 0 0, .slice none 0 0, .int .i64 r]
theorem cancel_none {k c1 : Int} (h : FS W t p s O w) (hk : k < 0 ∨ (s.C.length : Int) ≤ k) : Calls Try.prog 16 #[pS t, .int .i64 k, .int .i64 c1] w fun e w' => e = .returned (cn3 4) ∧ w = w' := by
  have H := Lib.hid (chas_no h hk)
  clear h hk
  go_enter Try.func16, Try.ntmps16
  go_wp2_with fail
  refine H.out.mono ?_
  rintro e w' ⟨rfl, rfl⟩
  go_wp2_with fail
  go_ret3
  exact ⟨rfl, rfl⟩
theorem cancel_plain {c1 : Int} (h : FS W t p s O w) (hx : s.C[i]? = some x) (hc : x.ch = none) : Calls Try.prog 16 #[pS t, .int .i64 (i : Int), .int .i64 c1] w fun e w' => e = .returned (cn3 1) ∧ w = w' := by
  have hi := (List.getElem?_eq_some_iff.1 hx).1
  have b1 : (i : Int) < (s.C.length : Int) := by omega
  have b2 : (0 : Int) ≤ (i : Int) := by omega
  have H := Lib.hid (chas_yes h hi)
  obtain ⟨PC, cC, h3, hr⟩ := h.c3
  obtain ⟨q, rfl, hq, x0, x1, -⟩ := hr i x hx
  rw [hc] at x1
  simp only [Option.map_none] at x1
  have ht := h.tlt
  clear hr hx h hc x0 hi
  go_enter Try.func16, Try.ntmps16
  go_wp2_with fail
  refine H.out.mono ?_
  rintro e w' ⟨rfl, rfl⟩
  go_wp2_with fail
  go_ret3
  exact ⟨rfl, rfl⟩
theorem lapse_call (h : FS W t p s O w) (v : Inv s) (hx : s.C[i]? = some x) (hc : ∃ c, x.ch = some c) (ho : x.own = true) : Calls Try.prog 22 #[pS t, .int .i64 (i : Int)] w (CnR W t p (cnS s x 2 2).1 O 2 2 (cnS s x 2 2).2.1 (cnS s x 2 2).2.2 w) := by
  have hi := (List.getElem?_eq_some_iff.1 hx).1
  have b1 : (i : Int) < (s.C.length : Int) := by omega
  have b2 : (0 : Int) ≤ (i : Int) := by omega
  have H := Lib.hid (chas_yes h hi)
  have HC := Lib.hid (cancel_any (er := 2) (cs := 2) h v hx hc)
  obtain ⟨PC, cC, h3, hr⟩ := h.c3
  obtain ⟨q, rfl, hq, x0, x1, x2, x3, x4, x5, x6, x7⟩ := hr i x hx
  rw [ho] at x6
  have ht := h.tlt
  clear hr hx h v hc x0 x1 x2 x3 x4 x5 x7 hi ho
  go_enter Try.func22, Try.ntmps22
  go_wp2_with fail
  refine H.out.mono ?_
  rintro e w' ⟨rfl, rfl⟩
  go_wp2_with fail
  refine HC.out.mono ?_
  rintro e w2 ⟨P1, n1, c1, P2, n2, c2, g1, g2, rfl, g3, g4, g5⟩
  go_wp2_with fail
  go_ret3
  exact ⟨P1, n1, c1, P2, n2, c2, g1, g2, rfl, g3, g4, g5⟩
theorem lapse_none {k : Int} (h : FS W t p s O w) (hk : k < 0 ∨ (s.C.length : Int) ≤ k) : Calls Try.prog 22 #[pS t, .int .i64 k] w fun e w' => e = .returned (cn3 4) ∧ w = w' := by
  have H := Lib.hid (chas_no h hk)
  clear h hk
  go_enter Try.func22, Try.ntmps22
  go_wp2_with fail
  refine H.out.mono ?_
  rintro e w' ⟨rfl, rfl⟩
  go_wp2_with fail
  go_ret3
  exact ⟨rfl, rfl⟩
theorem lapse_plain (h : FS W t p s O w) (hx : s.C[i]? = some x) (ho : x.own = false) : Calls Try.prog 22 #[pS t, .int .i64 (i : Int)] w fun e w' => e = .returned (cn3 1) ∧ w = w' := by
  have hi := (List.getElem?_eq_some_iff.1 hx).1
  have b1 : (i : Int) < (s.C.length : Int) := by omega
  have b2 : (0 : Int) ≤ (i : Int) := by omega
  have H := Lib.hid (chas_yes h hi)
  obtain ⟨PC, cC, h3, hr⟩ := h.c3
  obtain ⟨q, rfl, hq, x0, x1, x2, x3, x4, x5, x6, x7⟩ := hr i x hx
  rw [ho] at x6
  have ht := h.tlt
  clear hr hx h x0 x1 x2 x3 x4 x5 x7 hi ho
  go_enter Try.func22, Try.ntmps22
  go_wp2_with fail
  refine H.out.mono ?_
  rintro e w' ⟨rfl, rfl⟩
  go_wp2_with fail
  go_ret3
  exact ⟨rfl, rfl⟩
end
end Go.Proofs.Ytdpapnfjpefhkaa
namespace Go.Proofs.Ytdpapnfjpefhkaa
open Go.RowKit Tr
set_option linter.unusedVariables false
set_option maxRecDepth 100000
section
variable {W w w' w'' wx w1 w2 : World} {t i n c : Nat} {p : Option Nat} {O : Nat → Prop} {s s' : St} {x y : Cx} {er cs : Int} {l : List Lap} {m : List Mp}

/-- Is it linked? -/
def lkd (s : St) (k : Nat) : Bool := match s.T[k]? with
  | some y => y.2
  | none => false
theorem FS.cutb (h : FS W t p s O w) (k : Nat) (hk : k < s.T.length) : Calls Try.prog 44 #[.pointer (some ⟨t, 1, none⟩), .int .i64 (k : Int)] w fun e w' => e = .returned (.bool (lkd s k)) ∧ GS W t p { s with T := Tr.cut s.T k } O w w' := by
  obtain ⟨⟨q, l⟩, hs⟩ : ∃ y, s.T[k]? = some y := ⟨_, List.getElem?_eq_getElem hk⟩
  have hl : lkd s k = l := by unfold lkd; rw [hs]
  rw [hl]
  have h0 := h
  obtain ⟨⟨F, G, o, y, e⟩, m⟩ := h
  cases l with
  | true =>
    obtain ⟨q', rfl⟩ := Int.eq_ofNat_of_zero_le ((y.tr.wf k q true hs).2.2 rfl)
    refine (detach_yes w y.tr (fun k hk => (y.fF k hk).2.lt) k hs).mono ?_
    rintro e' w' ⟨rfl, g⟩
    refine ⟨rfl, ?_⟩
    obtain ⟨F', y', hs', tn⟩ := y.tree g
    refine FS.ctx y e m y' (fun k hk => ?_) (tn.mono fun b hb => .inl ((e b).2 (.f hb)))
    rcases hk with hk | hk | hk | hk | ⟨j, hk⟩
    · exact (hs' k hk).imp (fun h => (e k).2 (.f h)) id
    · exact .inl ((e k).2 (.k hk))
    · exact .inl ((e k).2 (.c hk))
    · exact .inl ((e k).2 (.a hk))
    · exact .inl ((e k).2 (.g hk))
  | false =>
    have e2 : Tr.cut s.T k = s.T := by
      rw [Tr.cut_some hs]
      apply List.ext_getElem?
      intro j
      rw [List.getElem?_set]
      by_cases c : k = j
      · subst c; rw [if_pos rfl, if_pos hk, hs]
      · rw [if_neg c]
    rw [e2]
    refine (detach_off w y.tr k hs).mono ?_
    rintro e' w' ⟨rfl, b⟩
    exact ⟨rfl, h0.gs b⟩
abbrev un2 (b : Bool) (r : Int) : Value := .tuple #[.bool b, .int .i64 r]
theorem unafter_nil (k : Int) (w : World) : Calls Try.prog 24 #[.pointer none, .int .i64 k] w fun e w' => e = .returned (un2 false 4) ∧ w = w' := by
  go_enter Try.func24, Try.ntmps24
  go_wp2_with fail
  go_ret2
  exact ⟨rfl, rfl⟩
theorem unafter_none {k : Int} (h : FS W t p s O w) (hk : k < 0 ∨ (s.A.length : Int) ≤ k) : Calls Try.prog 24 #[pS t, .int .i64 k] w fun e w' => e = .returned (un2 false 4) ∧ w = w' := by
  obtain ⟨PA, cA, k4⟩ := h.a4l
  clear h
  by_cases c1 : k < 0
  · clear hk
    go_enter Try.func24, Try.ntmps24
    go_wp2_with fail
    go_ret2
    exact ⟨rfl, rfl⟩
  · have c2 : (s.A.length : Int) ≤ k := by omega
    clear hk
    go_enter Try.func24, Try.ntmps24
    go_wp2_with fail
    go_ret2
    exact ⟨rfl, rfl⟩

set_option maxHeartbeats 4000000 in
theorem unafter_ok {j : Nat} {a : Af} (h : FS W t p s O w) (v : Inv s) (ha : s.A[j]? = some a) : Calls Try.prog 24 #[pS t, .int .i64 (j : Int)] w fun e w' => e = .returned (un2 (lkd s a.nd) 0) ∧ Hid (GS W t p { s with T := Tr.cut s.T a.nd } O w w') := by
  have hj := (List.getElem?_eq_some_iff.1 ha).1
  have b1 : ¬ (j : Int) < 0 := by omega
  have b2 : ¬ (s.A.length : Int) ≤ (j : Int) := by omega
  have b3 : (0 : Int) ≤ (j : Int) := by omega
  have b4 : (j : Int) < (s.A.length : Int) := by omega
  obtain ⟨q, cA, k4, hq, an, -⟩ := h.a4 ha
  have ht := h.tlt
  have hnd : a.nd < s.T.length := by
    have := (List.getElem?_eq_some_iff.1 (v.ak j a ha)).1
    rw [v.kl] at this; exact this
  have HC : Hid (∀ w', Below w.heap.size w w' → Calls Try.prog 44 #[.pointer (some ⟨t, 1, none⟩), .int .i64 (a.nd : Int)] w' fun e w4 => e = .returned (.bool (lkd s a.nd)) ∧ Hid (GS W t p { s with T := Tr.cut s.T a.nd } O w w4)) := fun w' hb => ((h.later hb).cutb a.nd hnd).mono fun e w4 hh => ⟨hh.1, GS.from hb hh.2⟩
  generalize lkd s a.nd = lb at *
  clear h v ha hj hnd
  go_enter Try.func24, Try.ntmps24
  go_wp2_with fail
  go_region_with (go_at_call 44; go_loud (refine (HC.out _ (by first | exact Below.refl _ _ | exact (Below.refl _ _).drew | exact below_drewN _ _)).mono ?_; rintro e w4 ⟨rfl, h4⟩))
  all_goals
    go_wp2_with fail
    go_ret2
    exact ⟨rfl, h4⟩
/-! New. -/
def s00 (E : List On) (n : Nat) (S : List It) : St := ⟨[], [], [], [], E, n, S⟩
/-- The background alone. -/
def bg : Cx := nw nxW 0
def s0 (E : List On) (n : Nat) (S : List It) : St := ⟨[(-1, false)], [⟨false, 0⟩], [bg], [], E, n, S⟩
def nwb (p : Option Nat) : Obj := .cells #[.pointer (cp p), .slice none 0 0, .slice none 0 0, .slice none 0 0, .slice none 0 0] 89
theorem FS.new {E : List On} {S : List It} (m : TMs W p E n S w) (hb : Below W.heap.size W w) : FS W w.heap.size p (s00 E n S) (fun k => k = w.heap.size) (w.alloc (nwb p)) := by
  have hn := heap_alloc_new w (nwb p)
  have hb1 : Below W.heap.size W (w.alloc (nwb p)) := hb.trans ((below_al w _).mono hb.size)
  refine ⟨⟨fun k => k = w.heap.size, fun _ _ => False, ⟨none, 0, none, 0, none, 0⟩, ⟨hb1, ⟨WF.nil, Nat.zero_le _, none, 0, [], ⟨hn, World.ownsRow_nil _ _ _ _, fun i d h => (by simp at h), fun i j d e h => (by simp at h), Nat.zero_le _, rfl, fun k h => (by cases h), fun i d k h => (by simp at h)⟩, rfl, fun i d h => (by simp at h)⟩, World.ownsRow_nil _ _ _ _, World.ownsRow_nil _ _ _ _, World.ownsRow_nil _ _ _ _, fun k h => (by cases h), fun k h => (by cases h), fun k h => (by cases h), fun i x c h => (by simp [s00] at h), fun k hk => ⟨(by subst hk; exact hb.size), (by subst hk; exact ⟨_, _, _, hn, .inl rfl⟩)⟩, fun i k h => h.elim, fun i j k h => h.elim, fun i k h => id⟩, fun k => ?_⟩, m.tm hb1 fun j hj _ => Below.heap_alloc _ _ j hj⟩
  constructor
  · exact fun h => .inl h
  · rintro (h | h | h | h | ⟨i, h⟩)
    · exact h
    · cases h
    · cases h
    · cases h
    · exact h.elim
theorem Inv.s0 {E : List On} {S : List It} (h1 : E.length ≤ 1) (h2 : S.length ≤ E.length) (h3 : n ≤ E.length) (h4 : ∀ z ∈ S, 0 ≤ z.id) : Inv (s0 E n S) := by
  refine ⟨WF.push WF.nil (by omega) (by simp) (by simp), rfl, rfl, by show (1 : Nat) ≤ 64; omega, by show (0 : Nat) ≤ 64; omega, h1, h2, h3, h4, ?_, ?_, ?_, ?_, ?_, ?_⟩
  · intro k i h
    match k, h with
    | 0, h => simp [Ytdpapnfjpefhkaa.s0] at h; subst h; exact ⟨bg, rfl, rfl⟩
    | k + 1, h => simp [Ytdpapnfjpefhkaa.s0] at h
  · intro k i h
    match k, h with
    | 0, h => simp [Ytdpapnfjpefhkaa.s0] at h
    | k + 1, h => simp [Ytdpapnfjpefhkaa.s0] at h
  · intro i x h
    match i, h with
    | 0, h => simp [Ytdpapnfjpefhkaa.s0] at h; subst h; rfl
    | i + 1, h => simp [Ytdpapnfjpefhkaa.s0] at h
  · intro i a h; simp [Ytdpapnfjpefhkaa.s0] at h
  · intro i x q h hq
    match i, h with
    | 0, h => simp [Ytdpapnfjpefhkaa.s0] at h; subst h; simp [Ytdpapnfjpefhkaa.s0, bg, nw] at hq
    | i + 1, h => simp [Ytdpapnfjpefhkaa.s0] at h
  · intro i x h
    match i, h with
    | 0, h => simp [Ytdpapnfjpefhkaa.s0] at h; subst h; exact ⟨rfl, fun _ => rfl, by simp [bg, nw, nxW]⟩
    | i + 1, h => simp [Ytdpapnfjpefhkaa.s0] at h
theorem new_ctx {E : List On} {S : List It} (m : TMs W p E n S w) (hb : Below W.heap.size W w) : Calls Try.prog 11 #[.pointer (cp p)] w fun e w' => e = .returned (pS w.heap.size) ∧ Hid (GS W w.heap.size p (s0 E n S) (fun _ => False) w w') := by
  have f := FS.new m hb
  have HA : Hid (Calls Try.prog 32 #[pS w.heap.size, .int .i64 (-1), .bool false, cG nxW] (w.alloc (nwb p)) fun e w' => e = .returned (.int .i64 0) ∧ Hid (GS W w.heap.size p (s0 E n S) (fun _ => False) w w')) := by
    obtain ⟨⟨F, G, o, y, eo⟩, mm⟩ := f
    refine (cadd_any (x := nxW) (T' := [] ++ [(-1, false)]) (K' := [] ++ [⟨false, ([] : List Cx).length⟩]) y eo (NC.none rfl) (by show (0 : Nat) ≤ 1000; omega) fun w2 b2 => ?_).mono fun e w' a => ?_
    · exact (hang_root ⟨false, 0⟩ (y.later b2) eo (by show (0 : Nat) < 1000; omega) (by show (0 : Nat) ≤ 1000; omega)).mono fun e w' h => ⟨h.1, h.2.1⟩
    · obtain ⟨h1, O', h2, h3, h4⟩ := AdR.gs (s := s00 E n S) (ab := -1) (l := false) ⟨⟨F, G, o, y, eo⟩, mm⟩ (Below.refl _ _) (fun k hk => hk.elim) a
      refine ⟨h1, O', h2, fun k hk => ?_, (Fm.of_below (below_al w _)).comp h4 fun k hk => .inr (by rw [hk]; exact Nat.le_refl _)⟩
      rcases h3 k hk with h5 | h5
      · exact .inr (by rw [h5]; exact Nat.le_refl _)
      · exact .inr (by simp at h5; omega)
  unfold cG nxW nwb at HA
  simp only [Option.map_none] at HA
  clear m hb f
  go_enter Try.func11, Try.ntmps11
  go_wp2_with fail
  refine HA.out.mono ?_
  rintro e w' ⟨rfl, h⟩
  go_wp2_with fail
  go_ret
  exact ⟨rfl, h⟩
end
end Go.Proofs.Ytdpapnfjpefhkaa
namespace Go.Proofs.Ytdpapnfjpefhkaa
open Go.RowKit Tr
set_option linter.unusedVariables false
set_option maxRecDepth 100000
section
variable {W w w' w'' wx w1 w2 : World} {t i n c : Nat} {p : Option Nat} {O : Nat → Prop} {s s' : St} {x y : Cx} {er cs : Int} {l : List Lap} {m : List Mp}

/-- What comes of a new one that hangs on y. -/
def mkC (s : St) (x y : Cx) : St := if y.er = 0 then addS s x (y.nd : Int) true else addD s x (y.nd : Int) y.er y.cs
def mkL (s : St) (y : Cx) : List Lap := if y.er = 0 then [] else [(s.C.length, [])]
theorem GS.at (g : GS W t p s O w w') : ∃ O', FS W t p s O' w' ∧ (∀ k, O' k → O k ∨ w.heap.size ≤ k) ∧ Fm O w w' := g
theorem addS_at {ab : Int} {l : Bool} (hy : s.C[i]? = some y) : (addS s x ab l).C[i]? = some y := by
  show (s.C ++ _)[i]? = _
  rw [List.getElem?_append_left (List.getElem?_eq_some_iff.1 hy).1]; exact hy
theorem addS_new {ab : Int} {l : Bool} : (addS s x ab l).C[s.C.length]? = some (nw x s.T.length) := by show (s.C ++ _)[_]? = _; simp
/-- follow, behind an addition. -/
theorem follow_new (h : FS W t p (addS s x (y.nd : Int) true) O w) (v : Inv s) (hC : s.C.length < 64) (hy : s.C[i]? = some y) (hx : x.er = 0 ∧ x.cl = false ∧ x.rs = []) (hc : ∃ c, x.ch = some c) :
    Calls Try.prog 35 #[pS t, .int .i64 (s.C.length : Int), .int .i64 (i : Int)] w (FoR W t p (mkC s x y) O y.er y.cs (mkL s y) w) := by
  unfold mkC mkL
  by_cases he : y.er = 0
  · rw [if_pos he, if_pos he]
    exact follow_no h (addS_at hy) he _
  · rw [if_neg he, if_neg he]
    have v2 := v.add hy hC true hx fun _ => hc
    refine follow_go h (addS_at hy) he _ (m := []) fun w1 b => ?_
    have := cancel_go (er := y.er) (cs := y.cs) (h.later b) addS_new hx.1 (v2.ndlt addS_new) (v2.good addS_new hc hx.1) (by have := v2.el; have := v2.cl; omega) (by have := v2.sl; have := v2.el; have := v2.cl; omega) (by have := v2.cl; omega) (by have := v2.al; omega) (by have := v2.kl; have := v2.tl; have := v2.cl; have := v2.al; omega)
    rw [fold_new v x _ ⟨hx.2.2, hx.2.1⟩] at this
    exact this
/-- What a call that makes one tells. -/
def MkR (W : World) (t : Nat) (p : Option Nat) (s' : Nat → St) (O : Nat → Prop) (n : Nat) (er cs : Int) (l : List Lap) (w : World) (e : Ending) (w' : World) : Prop :=
  ∃ P1 n1 c1 c, Hid (n1 = l.length) ∧ e = .returned (.tuple #[.int .i64 (n : Int), .slice P1 n1 c1, .int .i64 0]) ∧ Hid (GS W t p (s' c) O w w') ∧ Hid (LR w.heap.size w' P1 c1 er cs l)
theorem rfs_ok (hi : i < s.C.length) (hC : s.C.length < 64) : rfs s i = 0 := by
  unfold rfs; rw [if_neg (by omega), if_neg (by omega)]
theorem rfs_none {k : Int} (hk : k < 0 ∨ (s.C.length : Int) ≤ k) : rfs s k = 4 := by unfold rfs; rw [if_pos hk]
theorem rfs_full (hi : i < s.C.length) (hC : s.C.length = 64) : rfs s i = 3 := by
  unfold rfs; rw [if_neg (by omega), if_pos hC]

set_option maxHeartbeats 8000000 in
theorem cancels_ok (h : FS W t p s O w) (v : Inv s) (hy : s.C[i]? = some y) (hC : s.C.length < 64) : Calls Try.prog 15 #[pS t, .int .i64 (i : Int)] w (MkR W t p (fun c => mkC s (nx0 c y.wh y.has false) y) O s.C.length y.er y.cs (mkL s y) w) := by
  have hi := (List.getElem?_eq_some_iff.1 hy).1
  have b1 : (i : Int) < (s.C.length : Int) := by omega
  have b2 : (0 : Int) ≤ (i : Int) := by omega
  have HR := Lib.hid (refusal_any (i : Int) h)
  rw [rfs_ok hi hC] at HR
  obtain ⟨PC, cC, h3, hr⟩ := h.c3
  obtain ⟨q, rfl, hq, x0, x1, x2, x3, x4, x5, x6, x7⟩ := hr i y hy
  have ht := h.tlt
  have HSG : Hid (∀ w', Below (w.alloc (.cells #[.int .i64 y.nd, .pointer (cp y.ch), .int .i64 y.er, .int .i64 y.cs, .int .i64 y.wh, .bool y.has, .bool y.own, .int .i64 y.lp] 92)).heap.size (w.alloc (.cells #[.int .i64 y.nd, .pointer (cp y.ch), .int .i64 y.er, .int .i64 y.cs, .int .i64 y.wh, .bool y.has, .bool y.own, .int .i64 y.lp] 92)) w' → Calls Try.prog 34 #[] w' fun e w4 => ∃ c, e = .returned (.pointer (some ⟨c, 0, none⟩)) ∧ Hid (Below (w.alloc (.cells #[.int .i64 y.nd, .pointer (cp y.ch), .int .i64 y.er, .int .i64 y.cs, .int .i64 y.wh, .bool y.has, .bool y.own, .int .i64 y.lp] 92)).heap.size (w.alloc (.cells #[.int .i64 y.nd, .pointer (cp y.ch), .int .i64 y.er, .int .i64 y.cs, .int .i64 y.wh, .bool y.has, .bool y.own, .int .i64 y.lp] 92)) w4 ∧ ∀ w4', Below w4.heap.size w4 w4' → Calls Try.prog 32 #[pS t, .int .i64 (i : Int), .bool true, cG (nx0 c y.wh y.has false)] w4' fun e w5 => e = .returned (.int .i64 (s.C.length : Int)) ∧ Hid ((w5.cell? ⟨w.heap.size, 4, none⟩ = some (.int .i64 y.wh) ∧ w5.cell? ⟨w.heap.size, 5, none⟩ = some (.bool y.has)) ∧ Calls Try.prog 35 #[pS t, .int .i64 (s.C.length : Int), .int .i64 (i : Int)] w5 (FoR W t p (mkC s (nx0 c y.wh y.has false) y) O y.er y.cs (mkL s y) w)))) := by
    intro w' hb
    have hw' : Below w.heap.size w w' := (below_al w _).trans (hb.mono (by simp))
    have f' := h.later hw'
    refine (Ch.signal_any w').mono ?_
    rintro e w4 ⟨c, rfl, mk⟩
    have hb4 := hb.trans (mk.bel.mono hb.size)
    refine ⟨c, rfl, hb4, fun w4' hb' => ?_⟩
    obtain ⟨Gc, nc, hg⟩ := NC.of_mk f' y.wh y.has false mk
    have nc' : NC W O Gc w4' (nx0 c y.wh y.has false) := nc.keep fun k hk => hb'.block k (nc.lt hk)
    refine (f'.add v hy (mk.bel.trans (hb'.mono mk.bel.size)) nc' hg true).mono ?_
    rintro e w5 ⟨rfl, gs⟩
    obtain ⟨O5, f5, hs5, fm5⟩ := gs
    have hbx : w5.heap[w.heap.size]? = some (.cells #[.int .i64 y.nd, .pointer (cp y.ch), .int .i64 y.er, .int .i64 y.cs, .int .i64 y.wh, .bool y.has, .bool y.own, .int .i64 y.lp] 92) := by
      refine fm5.2 _ _ _ (0, 0) ?_ (by decide) (fun hO => by have := h.lt hO; omega)
      exact (hb.block _ (by simp)).trans (heap_alloc_new w _)
    refine ⟨rfl, ⟨by rw [cell_of_row w5 w.heap.size 4 _ _ _ hbx]; rfl, by rw [cell_of_row w5 w.heap.size 5 _ _ _ hbx]; rfl⟩, ?_⟩
    refine (follow_new f5 v hC hy ⟨rfl, rfl, rfl⟩ ⟨c, rfl⟩).mono ?_
    rintro e w6 ⟨P1, n1, c1, h1, h2, h3, h4⟩
    exact ⟨P1, n1, c1, h1, h2, GS.from hw' (GS.comp hs5 fm5 h3.out), h4.out.low (Nat.le_trans hw'.size fm5.1)⟩
  have KP : Hid (∀ w', Below (w.alloc (.cells #[.int .i64 y.nd, .pointer (cp y.ch), .int .i64 y.er, .int .i64 y.cs, .int .i64 y.wh, .bool y.has, .bool y.own, .int .i64 y.lp] 92)).heap.size (w.alloc (.cells #[.int .i64 y.nd, .pointer (cp y.ch), .int .i64 y.er, .int .i64 y.cs, .int .i64 y.wh, .bool y.has, .bool y.own, .int .i64 y.lp] 92)) w' → w'.cell? ⟨w.heap.size, 4, none⟩ = some (.int .i64 y.wh) ∧ w'.cell? ⟨w.heap.size, 5, none⟩ = some (.bool y.has)) := fun w' hb => by
    have hbx := (hb.block w.heap.size (by simp)).trans (heap_alloc_new w (.cells #[.int .i64 y.nd, .pointer (cp y.ch), .int .i64 y.er, .int .i64 y.cs, .int .i64 y.wh, .bool y.has, .bool y.own, .int .i64 y.lp] 92))
    exact ⟨by rw [cell_of_row w' w.heap.size 4 _ _ _ hbx]; rfl, by rw [cell_of_row w' w.heap.size 5 _ _ _ hbx]; rfl⟩
  clear hr hy h hC hi v
  go_enter Try.func15, Try.ntmps15
  go_wp2_with fail
  refine HR.out.mono ?_
  rintro e w' ⟨rfl, rfl⟩
  clear HR
  go_wp2_with fail
  generalize w.alloc (.cells #[.int .i64 y.nd, .pointer (cp y.ch), .int .i64 y.er, .int .i64 y.cs, .int .i64 y.wh, .bool y.has, .bool y.own, .int .i64 y.lp] 92) = w2 at *
  generalize w.heap.size = b at *
  refine but_start 1000 (fun w' => w'.cell? ⟨b, 4, none⟩ = some (.int .i64 y.wh) ∧ w'.cell? ⟨b, 5, none⟩ = some (.bool y.has)) (by kernel_rfl) ?_
  have hHeld := KP.out w2.drew (Below.refl _ _).drew
  change AnyBut _ _ _ _ _ _ 10 _ _ _
  refine but_take (i := 0) (v := ?_) rfl (by kernel_rfl) (by kernel_rfl) (by kernel_rfl) (by kernel_rfl) (fun _ _ _ h => h) (Or.inl ⟨by first | kernel_rfl | rfl, ?_⟩) hHeld ?_
  rotate_left
  · intro w hSw
    (try dsimp only at hSw)
    go_split_ands
    go_simp
    try with_reducible rfl
  try simp only [List.getElem_toArray, List.getElem_cons_zero, Act.put, List.setIfInBounds_toArray, List.set_cons_zero, List.set_cons_succ]
  refine but_take (i := 1) (v := ?_) rfl (by kernel_rfl) (by kernel_rfl) (by kernel_rfl) (by kernel_rfl) (fun _ _ _ h => h) (Or.inl ⟨by first | kernel_rfl | rfl, ?_⟩) hHeld ?_
  rotate_left
  · intro w hSw
    (try dsimp only at hSw)
    go_split_ands
    go_simp
    try with_reducible rfl
  try simp only [List.getElem_toArray, List.getElem_cons_succ, List.getElem_cons_zero, Act.put, List.setIfInBounds_toArray, List.set_cons_zero, List.set_cons_succ]
  refine but_take (i := 3) (v := ?_) rfl (by kernel_rfl) (by kernel_rfl) (by kernel_rfl) (by kernel_rfl) (fun _ _ _ h => h) (Or.inl ⟨by first | kernel_rfl | rfl, ?_⟩) hHeld ?_
  rotate_left
  · intro w hSw
    (try dsimp only at hSw)
    go_split_ands
    go_simp
    try with_reducible rfl
  try simp only [List.getElem_toArray, List.getElem_cons_succ, List.getElem_cons_zero, Act.put, List.setIfInBounds_toArray, List.set_cons_zero, List.set_cons_succ]
  refine but_take (i := 4) (v := ?_) rfl (by kernel_rfl) (by kernel_rfl) (by kernel_rfl) (by kernel_rfl) (fun _ _ _ h => h) (Or.inl ⟨by first | kernel_rfl | rfl, ?_⟩) hHeld ?_
  rotate_left
  · intro w hSw
    (try dsimp only at hSw)
    go_split_ands
    go_simp
    try with_reducible rfl
  try simp only [List.getElem_toArray, List.getElem_cons_succ, List.getElem_cons_zero, Act.put, List.setIfInBounds_toArray, List.set_cons_zero, List.set_cons_succ]
  refine but_take (i := 5) (v := ?_) rfl (by kernel_rfl) (by kernel_rfl) (by kernel_rfl) (by kernel_rfl) (fun _ _ _ h => h) (Or.inl ⟨by first | kernel_rfl | rfl, ?_⟩) hHeld ?_
  rotate_left
  · intro w hSw
    (try dsimp only at hSw)
    go_split_ands
    go_simp
    try with_reducible rfl
  try simp only [List.getElem_toArray, List.getElem_cons_succ, List.getElem_cons_zero, Act.put, List.setIfInBounds_toArray, List.set_cons_zero, List.set_cons_succ]
  refine but_take (i := 6) (v := ?_) rfl (by kernel_rfl) (by kernel_rfl) (by kernel_rfl) (by kernel_rfl) (fun _ _ _ h => h) (Or.inl ⟨by first | kernel_rfl | rfl, ?_⟩) hHeld ?_
  rotate_left
  · intro w hSw
    (try dsimp only at hSw)
    go_split_ands
    go_simp
    try with_reducible rfl
  try simp only [List.getElem_toArray, List.getElem_cons_succ, List.getElem_cons_zero, Act.put, List.setIfInBounds_toArray, List.set_cons_zero, List.set_cons_succ]
  refine but_one (i := 2) (by kernel_rfl) rfl ?_
  intro K hK
  go_simp
  go_at_call 34
  refine (HSG.out _ (by first | exact Below.refl _ _ | exact (Below.refl _ _).drew | (repeat' (first | exact Below.refl _ _ | (with_reducible assumption) | refine Below.drew ?_ | refine Below.alloc ?_ (by first | omega | (simp <;> omega)) _)))).mono ?_
  rintro e w4 ⟨c, rfl, h4⟩
  have b4 := h4.out.1
  have hHeld2 := KP.out w4 b4
  refine hK _ _ (fun _ => hHeld2) ?_
  clear hK K hHeld
  have hHeld := hHeld2
  clear hHeld2
  try simp only [List.getElem_toArray, List.getElem_cons_succ, List.getElem_cons_zero, Act.put, List.setIfInBounds_toArray, List.set_cons_zero, List.set_cons_succ]
  refine but_take (i := 7) (v := ?_) rfl (by kernel_rfl) (by kernel_rfl) (by kernel_rfl) (by kernel_rfl) (fun _ _ _ h => h) (Or.inl ⟨by first | kernel_rfl | rfl, ?_⟩) hHeld ?_
  rotate_left
  · intro w hSw
    (try dsimp only at hSw)
    go_split_ands
    go_simp
    try with_reducible rfl
  try simp only [List.getElem_toArray, List.getElem_cons_succ, List.getElem_cons_zero, Act.put, List.setIfInBounds_toArray, List.set_cons_zero, List.set_cons_succ]
  refine but_one (i := 8) (by kernel_rfl) rfl ?_
  intro K hK
  go_simp
  go_at_call 32
  refine (h4.out.2 _ (by first | exact Below.refl _ _ | exact (Below.refl _ _).drew | (repeat' (first | exact Below.refl _ _ | (with_reducible assumption) | refine Below.drew ?_ | refine Below.alloc ?_ (by first | omega | (simp <;> omega)) _)))).mono ?_
  rintro e w5 ⟨rfl, h5⟩
  have k5 := h5.out.1
  have hHeld2 := k5
  refine hK _ _ (fun _ => hHeld2) ?_
  clear hK K hHeld
  have hHeld := hHeld2
  clear hHeld2
  try simp only [List.getElem_toArray, List.getElem_cons_succ, List.getElem_cons_zero, Act.put, List.setIfInBounds_toArray, List.set_cons_zero, List.set_cons_succ]
  refine but_take (i := 9) (v := ?_) rfl (by kernel_rfl) (by kernel_rfl) (by kernel_rfl) (by kernel_rfl) (fun _ _ _ h => h) (Or.inl ⟨by first | kernel_rfl | rfl, ?_⟩) hHeld ?_
  rotate_left
  · intro w hSw
    (try dsimp only at hSw)
    go_split_ands
    go_simp
    try with_reducible rfl
  try simp only [List.getElem_toArray, List.getElem_cons_succ, List.getElem_cons_zero, Act.put, List.setIfInBounds_toArray, List.set_cons_zero, List.set_cons_succ]
  refine but_done (by kernel_rfl) ?_
  try clear hHeld
  clear x0 x1 x2 x3 x4 x5 x6 x7 h3 KP HSG k5 b4
  go_wp2_with fail
  refine h5.out.2.mono ?_
  rintro e w6 ⟨P1, n1, c1, h1, rfl, h6, h7⟩
  go_wp2_with fail
  go_ret3
  exact ⟨P1, n1, c1, c, h1, rfl, h6, h7⟩
theorem cancels_no (h : FS W t p s O w) {k r : Int} (hr : rfs s k = r) (h0 : r ≠ 0) : Calls Try.prog 15 #[pS t, .int .i64 k] w fun e w' => e = .returned (.tuple #[.int .i64 0, .slice none 0 0, .int .i64 r]) ∧ w = w' := by
  have HR := Lib.hid (refusal_any k h)
  rw [hr] at HR
  have b1 : (r != 0) = true := bne_iff_ne.2 h0
  clear h hr h0
  go_enter Try.func15, Try.ntmps15
  go_wp2_with fail
  refine HR.out.mono ?_
  rintro e w' ⟨rfl, rfl⟩
  go_wp2_with fail
  go_ret3
  exact ⟨rfl, rfl⟩
theorem cancels_nil (k : Int) (w : World) : Calls Try.prog 15 #[.pointer none, .int .i64 k] w fun e w' => e = .returned (.tuple #[.int .i64 0, .slice none 0 0, .int .i64 4]) ∧ w = w' := by
  go_enter Try.func15, Try.ntmps15
  go_wp2_with fail
  refine (refusal_nil k w).mono ?_
  rintro e w' ⟨rfl, rfl⟩
  go_wp2_with fail
  go_ret3
  exact ⟨rfl, rfl⟩
/-! Without. -/
theorem without_ok (h : FS W t p s O w) (v : Inv s) (hy : s.C[i]? = some y) (hC : s.C.length < 64) : Calls Try.prog 14 #[pS t, .int .i64 (i : Int)] w fun e w' => e = .returned (.tuple #[.int .i64 (s.C.length : Int), .int .i64 0]) ∧ Hid (GS W t p (addS s nxW (y.nd : Int) false) O w w') := by
  have hi := (List.getElem?_eq_some_iff.1 hy).1
  have HR := Lib.hid (refusal_any (i : Int) h)
  rw [rfs_ok hi hC] at HR
  have HA := Lib.hid (h.add v hy (Below.refl _ _) (x := nxW) (NC.none rfl) (fun k hk => hk.elim) false)
  clear h v hy hC hi
  unfold cG nxW at HA
  simp only [Option.map_none] at HA
  go_enter Try.func14, Try.ntmps14
  go_wp2_with fail
  refine HR.out.mono ?_
  rintro e w' ⟨rfl, rfl⟩
  go_wp2_with fail
  refine HA.out.mono ?_
  rintro e w' ⟨rfl, g⟩
  have HG := Lib.hid g
  clear g HA
  go_wp2_with fail
  go_ret2
  exact ⟨rfl, HG.out⟩
theorem without_no (h : FS W t p s O w) {k r : Int} (hr : rfs s k = r) (h0 : r ≠ 0) : Calls Try.prog 14 #[pS t, .int .i64 k] w fun e w' => e = .returned (.tuple #[.int .i64 0, .int .i64 r]) ∧ w = w' := by
  have HR := Lib.hid (refusal_any k h)
  rw [hr] at HR
  have b1 : (r != 0) = true := bne_iff_ne.2 h0
  clear h hr h0
  go_enter Try.func14, Try.ntmps14
  go_wp2_with fail
  refine HR.out.mono ?_
  rintro e w' ⟨rfl, rfl⟩
  go_wp2_with fail
  go_ret2
  exact ⟨rfl, rfl⟩
end
end Go.Proofs.Ytdpapnfjpefhkaa
