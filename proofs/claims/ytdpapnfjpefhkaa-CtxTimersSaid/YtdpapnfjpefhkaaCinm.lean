/- What holds of contexts at all times: plain mathematics. No condition but those that each names.
What follow of package ctx does, and what an addition leaves. Conditions: each theorem's own premises.
What After and Unafter of package ctx do, and New. Conditions: each theorem's own premises. -/
import Derived.Test.YtdpapnfjpefhkaaClm
import Derived.Test.YtdpapnfjpefhkaaCcl
import Derived.Test.YtdpapnfjpefhkaaTmrm
namespace Go.Proofs.Ytdpapnfjpefhkaa
open Go.RowKit Tr
set_option linter.unusedVariables false
set_option maxRecDepth 100000
structure Inv (s : St) : Prop where
  wf : WF s.T
  kl : s.K.length = s.T.length
  tl : s.T.length = s.C.length + s.A.length
  cl : s.C.length ≤ 64
  al : s.A.length ≤ 64
  el : s.E.length ≤ s.C.length
  sl : s.S.length ≤ s.E.length
  nl : s.n ≤ s.E.length
  sp : ∀ z ∈ s.S, 0 ≤ z.id
  kc : ∀ (k i : Nat), s.K[k]? = some ⟨false, i⟩ → ∃ x, s.C[i]? = some x ∧ x.nd = k
  ka : ∀ (k i : Nat), s.K[k]? = some ⟨true, i⟩ → ∃ a, s.A[i]? = some a ∧ a.nd = k
  ck : ∀ (i : Nat) (x : Cx), s.C[i]? = some x → s.K[x.nd]? = some ⟨false, i⟩
  ak : ∀ (i : Nat) (a : Af), s.A[i]? = some a → s.K[a.nd]? = some ⟨true, i⟩
  lv : ∀ (i : Nat) (x : Cx) (q : Int), s.C[i]? = some x → s.T[x.nd]? = some (q, true) → (∃ c, x.ch = some c) ∧ x.er = 0
  cx : ∀ (i : Nat) (x : Cx), s.C[i]? = some x → x.cl = decide (x.er ≠ 0) ∧ (x.ch = none → x.er = 0) ∧ x.rs.length ≤ 1000000
section
variable {s : St} {i k : Nat} {x : Cx}
theorem Inv.ndlt (h : Inv s) (hx : s.C[i]? = some x) : x.nd < s.T.length := by
  have := (List.getElem?_eq_some_iff.1 (h.ck i x hx)).1
  rw [h.kl] at this; exact this
/-- Who stands in a walk below another is linked. -/
theorem walk_linked {S : TS} : ∀ n i j, S.length - i < n → j ∈ Tr.walk S i → j = i ∨ ∃ q, S[j]? = some (q, true) := by
  intro n
  induction n with
  | zero => intro i j hn; omega
  | succ n ih =>
    intro i j hn hj
    rcases walk_cases hj with rfl | ⟨k, hk, hj⟩
    · exact .inl rfl
    · have := kids_lt hk
      rcases ih k j (by omega) hj with rfl | h
      · exact .inr ⟨_, (mem_kids.1 hk).1⟩
      · exact .inr h
theorem Inv.good (h : Inv s) (hx : s.C[i]? = some x) (hc : ∃ c, x.ch = some c) (he : x.er = 0) : ∀ k ∈ Tr.walk s.T x.nd, Good s k := by
  intro k hk
  have hn := h.ndlt hx
  have hkl := (walk_up h.wf _ _ _ (Nat.lt_succ_self _) hn hk).1
  refine ⟨hkl, ?_⟩
  obtain ⟨⟨za, zi⟩, hz⟩ : ∃ z, s.K[k]? = some z := ⟨_, List.getElem?_eq_getElem (by rw [h.kl]; exact hkl)⟩
  refine ⟨_, hz, fun e => ?_, fun e => ?_⟩
  · have e : za = true := e
    subst e
    obtain ⟨a, ha, _⟩ := h.ka k zi hz
    exact ⟨a, ha⟩
  · have e : za = false := e
    subst e
    obtain ⟨y, hy, hyn⟩ := h.kc k zi hz
    have key : (∃ c, y.ch = some c) ∧ y.er = 0 := by
      rcases walk_linked _ _ _ (Nat.lt_succ_self _) hk with rfl | ⟨q, hq⟩
      · have e1 := h.ck i x hx
        rw [hz] at e1; injection e1 with e1; injection e1 with _ e1; subst e1
        rw [hx] at hy; cases hy
        exact ⟨hc, he⟩
      · exact h.lv zi y q hy (by rw [hyn]; exact hq)
    obtain ⟨c, hc'⟩ := key.1
    obtain ⟨h1, _, h3⟩ := h.cx zi y hy
    exact ⟨y, c, hy, hyn, hc', by rw [h1, key.2]; rfl, h3⟩
theorem ids_len' (s : St) : (ids s.S).length = s.S.length := ids_len _
theorem Inv.step {er cs : Int} (h : Inv s) (he : er ≠ 0) (hk : k < s.T.length) (hl : ∀ (i : Nat) (x : Cx), s.K[k]? = some ⟨false, i⟩ → s.C[i]? = some x → ∃ c, x.ch = some c) : Inv (cst er cs s k) := by
  obtain ⟨⟨za, zi⟩, hz⟩ : ∃ z, s.K[k]? = some z := ⟨_, List.getElem?_eq_getElem (by rw [h.kl]; exact hk)⟩
  have lk : ∀ (j : Nat) (q : Int), (Tr.cut s.T k)[j]? = some (q, true) → j ≠ k ∧ s.T[j]? = some (q, true) := by
    intro j q hj
    rw [cut_at] at hj
    by_cases e : j = k
    · rw [if_pos e] at hj
      cases hs : s.T[j]? with
      | none => rw [hs] at hj; cases hj
      | some y => rw [hs] at hj; simp at hj
    · rw [if_neg e] at hj; exact ⟨e, hj⟩
  cases za with
  | true =>
    rw [cst_af hz]
    exact ⟨h.wf.cut k, by rw [Tr.cut_len]; exact h.kl, by rw [Tr.cut_len]; exact h.tl, h.cl, h.al, h.el, h.sl, h.nl, h.sp, h.kc, h.ka, h.ck, h.ak, fun i x q hx hq => h.lv i x q hx (lk _ _ hq).2, h.cx⟩
  | false =>
    obtain ⟨y, hy, hyn⟩ := h.kc k zi hz
    obtain ⟨c, hc⟩ := hl zi y hz hy
    have hzl := (List.getElem?_eq_some_iff.1 hy).1
    rw [cst_cx hz hy]
    have hat : ∀ (j : Nat) (x : Cx), (s.C.set zi (ended y er cs))[j]? = some x → (j = zi ∧ x = ended y er cs) ∨ (j ≠ zi ∧ s.C[j]? = some x) := fun j x hx => set_at hx
    refine ⟨h.wf.cut k, by rw [Tr.cut_len]; exact h.kl, by rw [Tr.cut_len, List.length_set]; exact h.tl, by rw [List.length_set]; exact h.cl, h.al, by rw [List.length_set]; exact h.el, Nat.le_trans (List.length_filter_le _ _) h.sl, h.nl, fun z hz => h.sp z (del_mem.1 hz).1, ?_, h.ka, ?_, h.ak, ?_, ?_⟩
    · intro j i hj
      obtain ⟨x, hx, hxn⟩ := h.kc j i hj
      by_cases e : i = zi
      · subst e
        rw [hy] at hx; cases hx
        exact ⟨ended y er cs, by rw [List.getElem?_set_self hzl], hxn⟩
      · exact ⟨x, by rw [List.getElem?_set_ne (fun e9 => e e9.symm)]; exact hx, hxn⟩
    · intro j x hx
      rcases hat j x hx with ⟨rfl, rfl⟩ | ⟨_, hx⟩
      · exact h.ck j y hy
      · exact h.ck j x hx
    · intro j x q hx hq
      obtain ⟨l1, l2⟩ := lk _ _ hq
      rcases hat j x hx with ⟨rfl, rfl⟩ | ⟨_, hx⟩
      · exact absurd hyn l1
      · exact h.lv j x q hx l2
    · intro j x hx
      rcases hat j x hx with ⟨rfl, rfl⟩ | ⟨_, hx⟩
      · exact ⟨by show true = decide (er ≠ 0); simp [he], fun e => (by have e : y.ch = none := e; rw [hc] at e; cases e), by show (0 : Nat) ≤ 1000000; omega⟩
      · exact h.cx j x hx
theorem Inv.fold {er cs : Int} (he : er ≠ 0) : ∀ (ws : List Nat) (s : St), Inv s → (∀ k ∈ ws, Good s k) → ws.Nodup → Inv (cfold er cs ws s).1
  | [], s, h, _, _ => h
  | k :: r, s, h, hg, hn => by
    have hk := hg k (by simp)
    rw [List.nodup_cons] at hn
    refine Inv.fold he r _ (h.step he hk.lt fun i x h1 h2 => ?_) (fun k' hk' => (hg k' (by simp [hk'])).next hk (by rintro rfl; exact hn.1 hk')) hn.2
    obtain ⟨z, e1, _, e3⟩ := hk.ex
    rw [h1] at e1; cases e1
    obtain ⟨y, c, y1, _, y3, _⟩ := e3 rfl
    have y1 : s.C[i]? = some y := y1
    rw [h2] at y1; cases y1
    exact ⟨c, y3⟩
/-! One more. -/
/-- With one context more, whose number in the tree hangs on ab, or does not. -/
def addS (s : St) (x : Cx) (ab : Int) (l : Bool) : St := { s with T := s.T ++ [(ab, l)], K := s.K ++ [⟨false, s.C.length⟩], C := s.C ++ [nw x s.T.length] }
theorem Inv.add {y : Cx} (h : Inv s) (hy : s.C[i]? = some y) (hC : s.C.length < 64) (l : Bool) (hx : x.er = 0 ∧ x.cl = false ∧ x.rs = []) (hl : l = true → ∃ c, x.ch = some c) : Inv (addS s x (y.nd : Int) l) := by
  have hn := h.ndlt hy
  have at1 : ∀ (j : Nat) (z : Cx), (s.C ++ [nw x s.T.length])[j]? = some z → (j < s.C.length ∧ s.C[j]? = some z) ∨ (j = s.C.length ∧ z = nw x s.T.length) := by
    intro j z hz
    rcases Nat.lt_or_ge j s.C.length with c | c
    · rw [List.getElem?_append_left c] at hz; exact .inl ⟨c, hz⟩
    · rw [List.getElem?_append_right c] at hz
      by_cases e : j - s.C.length = 0
      · rw [e] at hz; simp at hz; exact .inr ⟨by omega, hz.symm⟩
      · rw [List.getElem?_eq_none (by simp; omega)] at hz; cases hz
  have atK : ∀ (j : Nat) (z : Kd), (s.K ++ [⟨false, s.C.length⟩])[j]? = some z → (j < s.K.length ∧ s.K[j]? = some z) ∨ (j = s.K.length ∧ z = ⟨false, s.C.length⟩) := by
    intro j z hz
    rcases Nat.lt_or_ge j s.K.length with c | c
    · rw [List.getElem?_append_left c] at hz; exact .inl ⟨c, hz⟩
    · rw [List.getElem?_append_right c] at hz
      by_cases e : j - s.K.length = 0
      · rw [e] at hz; simp at hz; exact .inr ⟨by omega, hz.symm⟩
      · rw [List.getElem?_eq_none (by simp; omega)] at hz; cases hz
  have upK : ∀ (j : Nat) (z : Kd), s.K[j]? = some z → (s.K ++ [⟨false, s.C.length⟩])[j]? = some z := fun j z hz => by rw [List.getElem?_append_left (List.getElem?_eq_some_iff.1 hz).1]; exact hz
  refine ⟨h.wf.push (by omega) (by omega) (by omega), by simp [addS, h.kl], by have := h.tl; simp [addS]; omega, by simp [addS]; omega, h.al, by have := h.el; simp [addS]; omega, h.sl, h.nl, h.sp, ?_, ?_, ?_, ?_, ?_, ?_⟩
  · intro k i hk
    rcases atK k _ hk with ⟨_, h1⟩ | ⟨rfl, e⟩
    · obtain ⟨z, h2, h3⟩ := h.kc k i h1
      exact ⟨z, by show (s.C ++ _)[i]? = _; rw [List.getElem?_append_left (List.getElem?_eq_some_iff.1 h2).1]; exact h2, h3⟩
    · injection e with _ e; subst e
      exact ⟨nw x s.T.length, by show (s.C ++ _)[_]? = _; simp, by rw [h.kl]; rfl⟩
  · intro k i hk
    rcases atK k _ hk with ⟨_, h1⟩ | ⟨rfl, e⟩
    · exact h.ka k i h1
    · cases e
  · intro i z hz
    rcases at1 i z hz with ⟨_, h1⟩ | ⟨rfl, rfl⟩
    · exact upK _ _ (h.ck i z h1)
    · show (s.K ++ _)[s.T.length]? = _
      rw [← h.kl]; simp
  · intro i a ha
    exact upK _ _ (h.ak i a ha)
  · intro i z q hz hq
    rcases at1 i z hz with ⟨_, h1⟩ | ⟨rfl, rfl⟩
    · have h2 := h.ndlt h1
      have hq : (s.T ++ [((y.nd : Int), l)])[z.nd]? = some (q, true) := hq
      rw [List.getElem?_append_left h2] at hq
      exact h.lv i z q h1 hq
    · have hq : (s.T ++ [((y.nd : Int), l)])[s.T.length]? = some (q, true) := hq
      simp at hq
      exact ⟨hl hq.2, hx.1⟩
  · intro i z hz
    rcases at1 i z hz with ⟨_, h1⟩ | ⟨rfl, rfl⟩
    · exact h.cx i z h1
    · refine ⟨?_, fun _ => hx.1, ?_⟩
      · show x.cl = decide (x.er ≠ 0)
        rw [hx.1, hx.2.1]; rfl
      · show x.rs.length ≤ 1000000
        rw [hx.2.2]; simp
/-- A walk of the newest one. -/
theorem walk_new (S : TS) (p : Int) (l : Bool) : Tr.walk (S ++ [(p, l)]) S.length = [S.length] := by
  rw [walk_eq, kids_new (S := S ++ [(p, l)]) S.length (by simp)]; rfl
theorem cut_new (S : TS) (p : Int) (l : Bool) : Tr.cut (S ++ [(p, l)]) S.length = S ++ [(p, false)] := by
  rw [cut_some (p := p) (l := l) (by simp)]
  simp
/-- The newest one is done at once. -/
def addD (s : St) (x : Cx) (ab : Int) (er cs : Int) : St := { s with T := s.T ++ [(ab, false)], K := s.K ++ [⟨false, s.C.length⟩], C := s.C ++ [ended (nw x s.T.length) er cs] }
theorem fold_new {er cs : Int} (h : Inv s) (x : Cx) (ab : Int) (hx : x.rs = [] ∧ x.cl = false) : cfold er cs (Tr.walk (addS s x ab true).T (nw x s.T.length).nd) (addS s x ab true) = (addD s x ab er cs, [(s.C.length, [])], []) := by
  have e : Tr.walk (addS s x ab true).T (nw x s.T.length).nd = [s.T.length] := walk_new s.T ab true
  have hz : (addS s x ab true).K[s.T.length]? = some ⟨false, s.C.length⟩ := by show (s.K ++ _)[s.T.length]? = _; rw [← h.kl]; simp
  have hc : (addS s x ab true).C[s.C.length]? = some (nw x s.T.length) := by show (s.C ++ _)[_]? = _; simp
  rw [e]
  show (cst er cs (addS s x ab true) s.T.length, clp (addS s x ab true) s.T.length ++ [], cmp (addS s x ab true) s.T.length ++ []) = _
  rw [cst_cx hz hc, clp_cx hz hc, cmp_cx hz]
  have e2 : wks (nw x s.T.length) = [] := by
    have h1 : (nw x s.T.length).rs = [] := hx.1
    unfold wks Ch.tot chS
    rw [h1]; rfl
  have e3 : del (nw x s.T.length).lp (addS s x ab true).S = s.S := by
    show del (-1) s.S = s.S
    unfold del
    rw [List.filter_eq_self]
    intro z hz
    have := h.sp z hz
    simp; omega
  rw [e2, e3]
  have e4 : Tr.cut (addS s x ab true).T s.T.length = s.T ++ [(ab, false)] := cut_new s.T ab true
  rw [e4]
  have e5 : (addS s x ab true).C.set s.C.length (ended (nw x s.T.length) er cs) = s.C ++ [ended (nw x s.T.length) er cs] := by
    show (s.C ++ [nw x s.T.length]).set s.C.length _ = _
    simp
  rw [e5]
  rfl
end
end Go.Proofs.Ytdpapnfjpefhkaa
namespace Go.Proofs.Ytdpapnfjpefhkaa
open Go.RowKit Tr
set_option linter.unusedVariables false
set_option maxRecDepth 100000
section
variable {W w w' w'' wx w1 w2 : World} {t i n c : Nat} {p : Option Nat} {O : Nat → Prop} {s s' : St} {x y : Cx} {er cs : Int} {l : List Lap} {m : List Mp}
/-- What is told of who was cancelled. -/
def FoR (W : World) (t : Nat) (p : Option Nat) (s' : St) (O : Nat → Prop) (er cs : Int) (l : List Lap) (w : World) (e : Ending) (w' : World) : Prop :=
  ∃ P1 n1 c1, Hid (n1 = l.length) ∧ e = .returned (.slice P1 n1 c1) ∧ Hid (GS W t p s' O w w') ∧ Hid (LR w.heap.size w' P1 c1 er cs l)
theorem CaR.from (b : Below w.heap.size w w1) {e : Ending} (h : CaR W t p s' O er cs l m w1 e w') : CaR W t p s' O er cs l m w e w' := by
  obtain ⟨P1, n1, c1, P2, n2, c2, h1, h2, rfl, h3, h4, h5⟩ := h
  exact ⟨P1, n1, c1, P2, n2, c2, h1, h2, rfl, GS.from b h3.out, h4.out.low b.size, row_low h5.out b.size⟩
set_option maxHeartbeats 4000000 in
theorem follow_no (h : FS W t p s O w) (hy : s.C[i]? = some y) (he : y.er = 0) (k : Int) : Calls Try.prog 35 #[pS t, .int .i64 k, .int .i64 (i : Int)] w (FoR W t p s O er cs [] w) := by
  have hi := (List.getElem?_eq_some_iff.1 hy).1
  have b1 : (i : Int) < (s.C.length : Int) := by omega
  have b2 : (0 : Int) ≤ (i : Int) := by omega
  obtain ⟨PC, cC, h3, hr⟩ := h.c3
  obtain ⟨q, rfl, hq, x0, x1, x2, x3, x4, x5, x6, x7⟩ := hr i y hy
  have ht := h.tlt
  have HA := Lib.hid h
  rw [he] at x2
  clear hr hy he h
  go_enter Try.func35, Try.ntmps35
  go_wp2_with fail
  go_ret
  exact ⟨_, _, _, rfl, rfl, HA.out.gs (below_al w _), LR.nil _ _ _ _⟩
set_option maxHeartbeats 4000000 in
theorem follow_go (h : FS W t p s O w) (hy : s.C[i]? = some y) (he : y.er ≠ 0) (k : Int) (hc : ∀ w1, Below w.heap.size w w1 → Calls Try.prog 37 #[pS t, .int .i64 k, .int .i64 y.er, .int .i64 y.cs] w1 (CaR W t p s' O y.er y.cs l m w1)) :
    Calls Try.prog 35 #[pS t, .int .i64 k, .int .i64 (i : Int)] w (FoR W t p s' O y.er y.cs l w) := by
  have hi := (List.getElem?_eq_some_iff.1 hy).1
  have b1 : (i : Int) < (s.C.length : Int) := by omega
  have b2 : (0 : Int) ≤ (i : Int) := by omega
  have b3 : (y.er == 0) = false := beq_eq_false_iff_ne.2 he
  obtain ⟨PC, cC, h3, hr⟩ := h.c3
  obtain ⟨q, rfl, hq, x0, x1, x2, x3, x4, x5, x6, x7⟩ := hr i y hy
  have ht := h.tlt
  have HC : Hid (∀ w1, Below w.heap.size w w1 → Calls Try.prog 37 #[pS t, .int .i64 k, .int .i64 y.er, .int .i64 y.cs] w1 (CaR W t p s' O y.er y.cs l m w)) := fun w1 hb => (hc w1 hb).mono fun e w' h => CaR.from hb h
  clear hr hy he h hc
  go_enter Try.func35, Try.ntmps35
  go_wp2_with fail
  refine (HC.out _ (below_al w _)).mono ?_
  rintro e w2 ⟨P1, n1, c1, P2, n2, c2, h1, h2, rfl, h4, h5, h6⟩
  go_wp2_with fail
  go_ret
  exact ⟨P1, n1, c1, h1, rfl, h4, h5⟩
/-- A new one with a channel. -/
def nx0 (c : Nat) (wh : Int) (has own : Bool) : Cx := ⟨0, some c, false, [], 0, 0, wh, has, own, 0⟩
/-- One of Without. -/
def nxW : Cx := ⟨0, none, false, [], 0, 0, 0, false, false, 0⟩
theorem AdR.gs {Gc : Nat → Prop} {ab : Int} {l : Bool} (h : FS W t p s O w) (b : Below w.heap.size w w1) (hg : ∀ k, Gc k → w.heap.size ≤ k) {e : Ending}
    (a : AdR W t p (s.T ++ [(ab, l)]) (s.K ++ [⟨false, s.C.length⟩]) s.C s.A s.T.length O Gc x w1 e w') : e = .returned (.int .i64 (s.C.length : Int)) ∧ GS W t p (addS s x ab l) O w w' := by
  obtain ⟨he, z⟩ := a
  refine ⟨he, ?_⟩
  exact h.ctx' ((z.from b).mono fun k hk => hk) fun k hk => by
    rcases hk with hk | hk
    · exact hg k hk
    · exact Nat.le_trans b.size hk
theorem FS.add (h : FS W t p s O w) (v : Inv s) (hy : s.C[i]? = some y) (b : Below w.heap.size w w1) {Gc : Nat → Prop} (hc : NC W O Gc w1 x) (hg : ∀ k, Gc k → w.heap.size ≤ k) (l : Bool) :
    Calls Try.prog 32 #[pS t, .int .i64 (i : Int), .bool l, cG x] w1 fun e w' => e = .returned (.int .i64 (s.C.length : Int)) ∧ GS W t p (addS s x (y.nd : Int) l) O w w' := by
  have h1 := h.later b
  obtain ⟨⟨F, G, o, yy, e⟩, m⟩ := h1
  have hc' : NC W (ow F G o) Gc w1 x := ⟨hc.cc, fun hk => ⟨(hc.no hk).1, fun hk2 => (hc.no hk).2 ((e _).2 hk2)⟩, hc.has⟩
  have hcl := v.cl
  have hal := v.al
  have htl := v.tl
  have hkl := v.kl
  refine (cadd_any (T' := s.T ++ [((y.nd : Int), l)]) (K' := s.K ++ [⟨false, s.C.length⟩]) yy e hc (by omega) fun w2 b2 => ?_).mono fun e w' a => AdR.gs h b hg a
  exact (hang_ctx l ⟨false, s.C.length⟩ (yy.later b2) e hy (v.ndlt hy) (by omega) (by omega)).mono fun e w' h => ⟨h.1, h.2.1⟩
theorem NC.of_mk (h : FS W t p s O w) (wh : Int) (has own : Bool) {c : Nat} (m : Ch.Mk c ⟨2, false, 0, [], [], []⟩ w w1) : ∃ Gc, NC W O Gc w1 (nx0 c wh has own) ∧ ∀ k, Gc k → w.heap.size ≤ k := by
  obtain ⟨Gc, h1, h2⟩ := m.ch
  refine ⟨Gc, ⟨fun e => ?_, fun hk => ⟨Nat.le_trans h.bel.size (h2 _ hk), fun hO => ?_⟩, fun hk => ⟨c, rfl⟩⟩, h2⟩
  · injection e with e; subst e; exact h1
  · have := h.lt hO; have := h2 _ hk; omega
end
end Go.Proofs.Ytdpapnfjpefhkaa
namespace Go.Proofs.Ytdpapnfjpefhkaa
open Go.RowKit Tr
set_option linter.unusedVariables false
set_option maxRecDepth 100000
section
variable {W w w' w'' wx w1 w2 : World} {t i n c : Nat} {p : Option Nat} {O : Nat → Prop} {s s' : St} {x y : Cx} {er cs : Int} {l : List Lap} {m : List Mp}

/-- With one after more. -/
def afS (s : St) (x : Cx) (pg : Int) : St := { s with T := s.T ++ [((x.nd : Int), decide (x.er = 0))], K := s.K ++ [⟨true, s.A.length⟩], A := s.A ++ [⟨s.T.length, pg⟩] }
def afM (s : St) (x : Cx) (pg : Int) : List Mp := if x.er = 0 then [] else [⟨s.A.length, pg⟩]
/-- What After tells. -/
def AfR (W : World) (t : Nat) (p : Option Nat) (s' : St) (O : Nat → Prop) (n : Nat) (m : List Mp) (w : World) (e : Ending) (w' : World) : Prop :=
  ∃ P2 n2 c2, Hid (n2 = m.length) ∧ e = .returned (.tuple #[.int .i64 (n : Int), .slice P2 n2 c2, .int .i64 0]) ∧ Hid (GS W t p s' O w w') ∧ Hid (SR w.heap.size w' P2 c2 m)
abbrev af3 (r : Int) : Value := .tuple #[.int .i64 0, .slice none 0 0, .int .i64 r]
theorem FS.a4l (h : FS W t p s O w) : ∃ PA cA, w.cell? ⟨t, 4, none⟩ = some (.slice PA s.A.length cA) := by
  obtain ⟨⟨F, G, o, y, e⟩, m⟩ := h
  exact ⟨_, _, y.cells.2.2.2.1⟩
theorem SR.one {B : Nat} {w0 w1 : World} {P : Option Addr} {x : Mp} {g : Nat} (hP : P = some ⟨g, 0, none⟩) (hB : B ≤ g) (h : w1.heap[g]? = some (.cells #[.int .i64 x.id, .int .i64 x.pg] 57 (0, 0))) : SR B w1 P 1 [x] := by
  subst hP
  exact ⟨by simp [mE], .inr ⟨g, 1, #[.int .i64 x.id, .int .i64 x.pg], rfl, hB, h, by simp, by unfold maxLen; omega, by simp [mE]⟩⟩

set_option maxHeartbeats 8000000 in
theorem after_ok (pg : Int) (h : FS W t p s O w) (v : Inv s) (hx : s.C[i]? = some x) (hp : 0 ≤ pg) (hA : s.A.length < 64) : Calls Try.prog 23 #[pS t, .int .i64 (i : Int), .int .i64 pg] w (AfR W t p (afS s x pg) O s.A.length (afM s x pg) w) := by
  have hi := (List.getElem?_eq_some_iff.1 hx).1
  have b1 : ¬ pg < 0 := by omega
  have b2 : ((s.A.length : Int) == 64) = false := beq_eq_false_iff_ne.2 (by omega)
  have b3 : (s.A.length : Int) ≤ 64 := by omega
  obtain ⟨iA, hiA, yz0, yz1, yz2⟩ := info_parts infA
  have H := Lib.hid (chas_yes h hi)
  have HO := Lib.hid (over_any h hx)
  obtain ⟨PA, cA, k4⟩ := h.a4l
  have ht := h.tlt
  obtain ⟨ov, hov⟩ : ∃ ov, (x.er != 0) = ov := ⟨_, rfl⟩
  rw [hov] at HO
  have hnov : decide (x.er = 0) = !ov := by rw [← hov]; by_cases e : x.er = 0 <;> simp [e]
  have HH : Hid (∀ w', Below w.heap.size w w' → Calls Try.prog 43 #[pS t, .int .i64 (i : Int), .bool (!ov), .agg #[.bool true, .int .i64 (s.A.length : Int)]] w' fun e w4 => e = .returned (.int .i64 (s.T.length : Int)) ∧ w4.cell? ⟨t, 4, none⟩ = some (.slice PA s.A.length cA) ∧ Hid (t < w4.heap.size ∧ w4.ownsRow 0 121 2 (.slice PA s.A.length cA) s.A.length (s.A.flatMap aE) ∧
      ∀ {wx w5 : World} {g cap : Nat}, Below w4.heap.size w4 wx → wx.grownBy w5 (Value.slice PA s.A.length cA).ownBlock → w5.ownsRow 0 121 2 (.slice (some ⟨g, 0, none⟩) (s.A.length + 1) cap) (s.A.length + 1) (s.A.flatMap aE ++ aE ⟨s.T.length, pg⟩) → ((Value.slice PA s.A.length cA).ownBlock = some g ∨ w4.heap.size ≤ g) →
        w5.cell? ⟨t, 4, none⟩ = some (.slice PA s.A.length cA) ∧ w5.frozen? ⟨t, 4, none⟩ = false ∧ GS W t p (afS s x pg) O w (w5.setCell ⟨t, 4, none⟩ (.slice (some ⟨g, 0, none⟩) (s.A.length + 1) cap)))) := by
    intro w' hb
    have f' := h.later hb
    have hf' := f'
    obtain ⟨⟨F, G, o, yy, e⟩, mm⟩ := f'
    have hcl := v.cl
    have htl := v.tl
    have hkl := v.kl
    refine (hang_ctx (!ov) ⟨true, s.A.length⟩ yy e hx (v.ndlt hx) (by omega) (by omega)).mono ?_
    rintro e' w4 ⟨rfl, z, hc4⟩
    have hc4' := hc4.trans ((hb.cell (p := ⟨t, 4, none⟩) ht).trans k4)
    obtain ⟨F4, G4, o4, y4, hs4, tn4⟩ := z
    have q4 := y4.cells.2.2.2.1
    rw [hc4'] at q4
    injection q4 with q4; injection q4 with q41 _ q42
    refine ⟨rfl, hc4', Nat.lt_of_lt_of_le ht (Nat.le_trans hb.size tn4.size), by rw [q41, q42]; exact y4.ra, ?_⟩
    rw [q41, q42]
    intro wx w5 g cap a1 a2 a3 a4
    obtain ⟨-, -, m3, m4⟩ := y4.midA a1 a2
    refine ⟨m3, m4, ?_⟩
    have z5 := y4.stepA hs4 tn4 (fun k hk => Nat.le_trans tn4.size hk) (fun k hk => hk) (z := ⟨s.T.length, pg⟩) a1 a2 a3 a4
    have g5 := GS.from hb (hf'.ctx' z5 fun k hk => hk)
    unfold afS
    rw [hnov]
    exact g5
  have KP : Hid (∀ w', Below w.heap.size w w' → w'.cell? ⟨t, 4, none⟩ = some (.slice PA s.A.length cA)) := fun w' hb => (hb.cell (p := ⟨t, 4, none⟩) ht).trans k4
  have hm : afM s x pg = if ov = true then [⟨s.A.length, pg⟩] else [] := by
    unfold afM; rw [← hov]
    by_cases e : x.er = 0 <;> simp [e]
  obtain ⟨M, hM⟩ : ∃ M, afM s x pg = M := ⟨_, rfl⟩
  have HM : Hid (M = if ov = true then [⟨s.A.length, pg⟩] else []) := by rw [← hM]; exact hm
  rw [hM]
  have hsz := h.bel.size
  clear h v hx hi hnov hm hov hM
  go_enter Try.func23, Try.ntmps23
  go_wp2_with fail
  refine H.out.mono ?_
  rintro e w' ⟨rfl, rfl⟩
  go_wp2_with fail
  refine HO.out.mono ?_
  rintro e w' ⟨rfl, rfl⟩
  clear H HO
  go_wp2_with fail
  refine but_start 18 (fun w' => w'.cell? ⟨t, 4, none⟩ = some (.slice PA s.A.length cA)) (by kernel_rfl) ?_
  have hHeld := KP.out w.drew (Below.refl _ _).drew
  change AnyBut _ _ _ _ _ _ 19 _ _ _
  refine but_take (i := 0) (v := ?_) rfl (by kernel_rfl) (by kernel_rfl) (by kernel_rfl) (by kernel_rfl) (fun _ _ _ h => h) (Or.inl ⟨by first | kernel_rfl | rfl, ?_⟩) hHeld ?_
  rotate_left
  · intro w hSw
    (try dsimp only at hSw)
    go_split_ands
    go_simp
    try with_reducible rfl
  try simp only [List.getElem_toArray, List.getElem_cons_zero, Act.put, List.setIfInBounds_toArray, List.set_cons_zero, List.set_cons_succ]
  refine but_take (i := 1) (v := ?_) rfl (by kernel_rfl) (by kernel_rfl) (by kernel_rfl) (by kernel_rfl) (fun _ _ _ h => h) (Or.inl ⟨by first | kernel_rfl | rfl, ?_⟩) hHeld ?_
  rotate_left
  · intro w hSw
    (try dsimp only at hSw)
    go_split_ands
    go_simp
    try with_reducible rfl
  try simp only [List.getElem_toArray, List.getElem_cons_succ, List.getElem_cons_zero, Act.put, List.setIfInBounds_toArray, List.set_cons_zero, List.set_cons_succ]
  refine but_take (i := 2) (v := ?_) rfl (by kernel_rfl) (by kernel_rfl) (by kernel_rfl) (by kernel_rfl) (fun _ _ _ h => h) (Or.inl ⟨by first | kernel_rfl | rfl, ?_⟩) hHeld ?_
  rotate_left
  · intro w hSw
    (try dsimp only at hSw)
    go_split_ands
    go_simp
    try with_reducible rfl
  try simp only [List.getElem_toArray, List.getElem_cons_succ, List.getElem_cons_zero, Act.put, List.setIfInBounds_toArray, List.set_cons_zero, List.set_cons_succ]
  refine but_take (i := 3) (v := ?_) rfl (by kernel_rfl) (by kernel_rfl) (by kernel_rfl) (by kernel_rfl) (fun _ _ _ h => h) (Or.inl ⟨by first | kernel_rfl | rfl, ?_⟩) hHeld ?_
  rotate_left
  · intro w hSw
    (try dsimp only at hSw)
    go_split_ands
    go_simp
    try with_reducible rfl
  try simp only [List.getElem_toArray, List.getElem_cons_succ, List.getElem_cons_zero, Act.put, List.setIfInBounds_toArray, List.set_cons_zero, List.set_cons_succ]
  refine but_take (i := 4) (v := ?_) rfl (by kernel_rfl) (by kernel_rfl) (by kernel_rfl) (by kernel_rfl) (fun _ _ _ h => h) (Or.inl ⟨by first | kernel_rfl | rfl, ?_⟩) hHeld ?_
  rotate_left
  · intro w hSw
    (try dsimp only at hSw)
    go_split_ands
    go_simp
    try with_reducible rfl
  try simp only [List.getElem_toArray, List.getElem_cons_succ, List.getElem_cons_zero, Act.put, List.setIfInBounds_toArray, List.set_cons_zero, List.set_cons_succ]
  refine but_take (i := 5) (v := ?_) rfl (by kernel_rfl) (by kernel_rfl) (by kernel_rfl) (by kernel_rfl) (fun _ _ _ h => h) (Or.inl ⟨by first | kernel_rfl | rfl, ?_⟩) hHeld ?_
  rotate_left
  · intro w hSw
    (try dsimp only at hSw)
    go_split_ands
    go_simp
    try with_reducible rfl
  try simp only [List.getElem_toArray, List.getElem_cons_succ, List.getElem_cons_zero, Act.put, List.setIfInBounds_toArray, List.set_cons_zero, List.set_cons_succ]
  refine but_take (i := 6) (v := ?_) rfl (by kernel_rfl) (by kernel_rfl) (by kernel_rfl) (by kernel_rfl) (fun _ _ _ h => h) (Or.inl ⟨by first | kernel_rfl | rfl, ?_⟩) hHeld ?_
  rotate_left
  · intro w hSw
    (try dsimp only at hSw)
    go_split_ands
    go_simp
    try with_reducible rfl
  try simp only [List.getElem_toArray, List.getElem_cons_succ, List.getElem_cons_zero, Act.put, List.setIfInBounds_toArray, List.set_cons_zero, List.set_cons_succ]
  refine but_take (i := 7) (v := ?_) rfl (by kernel_rfl) (by kernel_rfl) (by kernel_rfl) (by kernel_rfl) (fun _ _ _ h => h) (Or.inl ⟨by first | kernel_rfl | rfl, ?_⟩) hHeld ?_
  rotate_left
  · intro w hSw
    (try dsimp only at hSw)
    go_split_ands
    go_simp
    try with_reducible rfl
  try simp only [List.getElem_toArray, List.getElem_cons_succ, List.getElem_cons_zero, Act.put, List.setIfInBounds_toArray, List.set_cons_zero, List.set_cons_succ]
  refine but_take (i := 8) (v := ?_) rfl (by kernel_rfl) (by kernel_rfl) (by kernel_rfl) (by kernel_rfl) (fun _ _ _ h => h) (Or.inl ⟨by first | kernel_rfl | rfl, ?_⟩) hHeld ?_
  rotate_left
  · intro w hSw
    (try dsimp only at hSw)
    go_split_ands
    go_simp
    try with_reducible rfl
  try simp only [List.getElem_toArray, List.getElem_cons_succ, List.getElem_cons_zero, Act.put, List.setIfInBounds_toArray, List.set_cons_zero, List.set_cons_succ]
  refine but_take (i := 9) (v := ?_) rfl (by kernel_rfl) (by kernel_rfl) (by kernel_rfl) (by kernel_rfl) (fun _ _ _ h => h) (Or.inl ⟨by first | kernel_rfl | rfl, ?_⟩) hHeld ?_
  rotate_left
  · intro w hSw
    (try dsimp only at hSw)
    go_split_ands
    go_simp
    try with_reducible rfl
  try simp only [List.getElem_toArray, List.getElem_cons_succ, List.getElem_cons_zero, Act.put, List.setIfInBounds_toArray, List.set_cons_zero, List.set_cons_succ]
  refine but_take (i := 10) (v := ?_) rfl (by kernel_rfl) (by kernel_rfl) (by kernel_rfl) (by kernel_rfl) (fun _ _ _ h => h) (Or.inl ⟨by first | kernel_rfl | rfl, ?_⟩) hHeld ?_
  rotate_left
  · intro w hSw
    (try dsimp only at hSw)
    go_split_ands
    go_simp
    try with_reducible rfl
  try simp only [List.getElem_toArray, List.getElem_cons_succ, List.getElem_cons_zero, Act.put, List.setIfInBounds_toArray, List.set_cons_zero, List.set_cons_succ]
  refine but_take (i := 12) (v := ?_) rfl (by kernel_rfl) (by kernel_rfl) (by kernel_rfl) (by kernel_rfl) (fun _ _ _ h => h) (Or.inl ⟨by first | kernel_rfl | rfl, ?_⟩) hHeld ?_
  rotate_left
  · intro w hSw
    (try dsimp only at hSw)
    go_split_ands
    go_simp
    try with_reducible rfl
  try simp only [List.getElem_toArray, List.getElem_cons_succ, List.getElem_cons_zero, Act.put, List.setIfInBounds_toArray, List.set_cons_zero, List.set_cons_succ]
  refine but_one (i := 11) (by kernel_rfl) rfl ?_
  intro K hK
  go_simp
  go_at_call 43
  refine (HH.out _ (by first | exact Below.refl _ _ | exact (Below.refl _ _).drew | (repeat' (first | exact Below.refl _ _ | (with_reducible assumption) | refine Below.drew ?_ | refine Below.alloc ?_ (by first | omega | (simp <;> omega)) _)))).mono ?_
  rintro e w4 ⟨rfl, k4, h4⟩
  have hHeld2 := k4
  refine hK _ _ (fun _ => hHeld2) ?_
  clear hK K hHeld
  have hHeld := hHeld2
  clear hHeld2
  try simp only [List.getElem_toArray, List.getElem_cons_succ, List.getElem_cons_zero, Act.put, List.setIfInBounds_toArray, List.set_cons_zero, List.set_cons_succ]
  refine but_take (i := 13) (v := ?_) rfl (by kernel_rfl) (by kernel_rfl) (by kernel_rfl) (by kernel_rfl) (fun _ _ _ h => h) (Or.inl ⟨by first | kernel_rfl | rfl, ?_⟩) hHeld ?_
  rotate_left
  · intro w hSw
    (try dsimp only at hSw)
    go_split_ands
    go_simp
    try with_reducible rfl
  try simp only [List.getElem_toArray, List.getElem_cons_succ, List.getElem_cons_zero, Act.put, List.setIfInBounds_toArray, List.set_cons_zero, List.set_cons_succ]
  refine but_one (i := 14) (by kernel_rfl) rfl ?_
  intro K hK
  go_simp
  have hHeld2 := ((below_al w4 (.cells #[.int .i64 (s.T.length : Int), .int .i64 pg] 121)).cell (p := ⟨t, 4, none⟩) h4.out.1).trans k4
  refine hK _ _ (fun _ => hHeld2) ?_
  clear hK K hHeld
  have hHeld := hHeld2
  clear hHeld2
  try simp only [List.getElem_toArray, List.getElem_cons_succ, List.getElem_cons_zero, Act.put, List.setIfInBounds_toArray, List.set_cons_zero, List.set_cons_succ]
  refine but_one (i := 15) (by kernel_rfl) rfl ?_
  intro K hK
  refine step_append_lies _ (by rfl) _ _ _ (by rfl) 0 121 iA (.agg #[.int .i64 0, .int .i64 0]) 2 16 Try.underlying87 hiA yz0 yz1 yz2 rfl (by omega) (.slice PA s.A.length cA) s.A.length (s.A.flatMap aE) (by rfl) (row_later h4.out.2.1 (below_al w4 _)) ⟨w4.heap.size, 0, none⟩ 1 1 (aE ⟨s.T.length, pg⟩) (by rfl) (by rfl) (World.news_of_block (cs := #[.int .i64 (s.T.length : Int), .int .i64 pg]) (t := 121) (fr := (0, 0)) (heap_alloc_new w4 _)) (aE_one _) (by omega) (by unfold maxLen; omega) (by omega) (by first | omega | (simp; done) | (simp; omega)) (w4.heap.size + 1) (by simp) ?_
  intro g5 cap5 w5 hown hgrow hat hlt5
  have HE := Lib.hid (h4.out.2.2 (below_al w4 _) hgrow hown (hat.imp id (by omega)))
  have hc5 := HE.out.1
  have hf5 := HE.out.2.1
  clear hown hgrow hat hlt5
  have hHeld2 := hc5
  refine hK _ _ (fun _ => hHeld2) ?_
  clear hK K hHeld
  have hHeld := hHeld2
  clear hHeld2
  try simp only [List.getElem_toArray, List.getElem_cons_succ, List.getElem_cons_zero, Act.put, List.setIfInBounds_toArray, List.set_cons_zero, List.set_cons_succ]
  refine but_one (i := 16) (by kernel_rfl) rfl ?_
  intro K hK
  go_simp
  have hHeld2 := hc5
  refine hK _ _ (fun _ => hHeld2) ?_
  clear hK K hHeld
  have hHeld := hHeld2
  clear hHeld2
  try simp only [List.getElem_toArray, List.getElem_cons_succ, List.getElem_cons_zero, Act.put, List.setIfInBounds_toArray, List.set_cons_zero, List.set_cons_succ]
  refine but_one (i := 17) (by kernel_rfl) rfl ?_
  intro K hK
  go_simp
  have hHeld2 := hc5
  refine hK _ _ (fun _ => hHeld2) ?_
  clear hK K hHeld
  have hHeld := hHeld2
  clear hHeld2
  try simp only [List.getElem_toArray, List.getElem_cons_succ, List.getElem_cons_zero, Act.put, List.setIfInBounds_toArray, List.set_cons_zero, List.set_cons_succ]
  refine but_one (i := 18) (by kernel_rfl) rfl ?_
  intro K hK
  go_simp
  refine hK _ _ (fun h => absurd rfl h) ?_
  clear hK K hHeld
  try simp only [List.getElem_toArray, List.getElem_cons_succ, List.getElem_cons_zero, Act.put, List.setIfInBounds_toArray, List.set_cons_zero, List.set_cons_succ]
  refine but_done (by kernel_rfl) ?_
  try clear hHeld
  clear k4 KP HH hc5 hf5
  have HG := Lib.hid HE.out.2.2
  have hw9 : Hid (w.heap.size ≤ (w5.setCell ⟨t, 4, none⟩ (.slice (some ⟨g5, 0, none⟩) (s.A.length + 1) cap5)).heap.size) := by obtain ⟨_, _, _, f⟩ := HG.out; exact f.1
  clear HE
  generalize w5.setCell ⟨t, 4, none⟩ (.slice (some ⟨g5, 0, none⟩) (s.A.length + 1) cap5) = w6 at *
  cases ov with
  | false =>
    have e9 : M = [] := by rw [HM.out]; rfl
    subst e9
    go_wp2_with fail
    go_ret3
    exact ⟨_, _, _, rfl, rfl, HG.out, SR.nil _ _⟩
  | true =>
    have e9 : M = [⟨s.A.length, pg⟩] := by rw [HM.out]; rfl
    subst e9
    go_wp2_with fail
    go_ret3
    exact ⟨_, _, _, rfl, rfl, HG.out.then (below_al w6 _), SR.one (w0 := w6) (x := ⟨s.A.length, pg⟩) rfl hw9.out (heap_alloc_new w6 _)⟩
theorem after_none {k pg : Int} (h : FS W t p s O w) (hk : k < 0 ∨ (s.C.length : Int) ≤ k) : Calls Try.prog 23 #[pS t, .int .i64 k, .int .i64 pg] w fun e w' => e = .returned (af3 4) ∧ w = w' := by
  have H := Lib.hid (chas_no h hk)
  clear h hk
  go_enter Try.func23, Try.ntmps23
  go_wp2_with fail
  refine H.out.mono ?_
  rintro e w' ⟨rfl, rfl⟩
  go_wp2_with fail
  go_ret3
  exact ⟨rfl, rfl⟩
theorem after_arg {pg : Int} (h : FS W t p s O w) (hi : i < s.C.length) (hp : pg < 0) : Calls Try.prog 23 #[pS t, .int .i64 (i : Int), .int .i64 pg] w fun e w' => e = .returned (af3 1) ∧ w = w' := by
  have H := Lib.hid (chas_yes h hi)
  clear h
  go_enter Try.func23, Try.ntmps23
  go_wp2_with fail
  refine H.out.mono ?_
  rintro e w' ⟨rfl, rfl⟩
  go_wp2_with fail
  go_ret3
  exact ⟨rfl, rfl⟩
theorem after_full {pg : Int} (h : FS W t p s O w) (hi : i < s.C.length) (hp : 0 ≤ pg) (hA : s.A.length = 64) : Calls Try.prog 23 #[pS t, .int .i64 (i : Int), .int .i64 pg] w fun e w' => e = .returned (af3 3) ∧ w = w' := by
  have H := Lib.hid (chas_yes h hi)
  have b1 : ¬ pg < 0 := by omega
  obtain ⟨PA, cA, k4⟩ := h.a4l
  rw [hA] at k4
  clear h hA
  go_enter Try.func23, Try.ntmps23
  go_wp2_with fail
  refine H.out.mono ?_
  rintro e w' ⟨rfl, rfl⟩
  go_wp2_with fail
  go_ret3
  exact ⟨rfl, rfl⟩
end
end Go.Proofs.Ytdpapnfjpefhkaa
