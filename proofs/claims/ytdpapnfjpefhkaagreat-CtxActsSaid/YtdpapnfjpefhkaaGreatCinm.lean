/- What holds of contexts at all times: plain mathematics. No condition but those that each names.
What follow of package ctx does, and what an addition leaves. Conditions: each theorem's own premises.
What After and Unafter of package ctx do, and New. Conditions: each theorem's own premises.
What Cancel, Lapse, Unafter of package ctx do. Conditions: each theorem's own premises.
What Unafter and New of package ctx do. Conditions: each theorem's own premises.
What Cancels, Without and Deadline of package ctx do. Conditions: each theorem's own premises. -/
import Derived.Test.YtdpapnfjpefhkaaGreatCaem
import Derived.Test.YtdpapnfjpefhkaaGreatRemm
namespace Go.Proofs.YtdpapnfjpefhkaaGreat
open Go.RowKit Tr
set_option linter.unusedVariables false
set_option maxRecDepth 100000
structure Inv (s : St) : Prop where
 wf : WF s.T
 kl : s.K.length = s.T.length
 tl : s.T.length = s.C.length + s.A.length
 cl : s.C.length ≤ 64
 al : s.A.length ≤ 64
 el : s.E.length ≤ s.C.length
 sl : s.S.length ≤ s.E.length
 nl : s.n ≤ s.E.length
 sp : ∀ z ∈ s.S, 0 ≤ z.id
 kc : ∀ (k i : Nat), s.K[k]? = some ⟨false, i⟩ → ∃ x, s.C[i]? = some x ∧ x.nd = k
 ka : ∀ (k i : Nat), s.K[k]? = some ⟨true, i⟩ → ∃ a, s.A[i]? = some a ∧ a.nd = k
 ck : ∀ (i : Nat) (x : Cx), s.C[i]? = some x → s.K[x.nd]? = some ⟨false, i⟩
 ak : ∀ (i : Nat) (a : Af), s.A[i]? = some a → s.K[a.nd]? = some ⟨true, i⟩
 lv : ∀ (i : Nat) (x : Cx) (q : Int), s.C[i]? = some x → s.T[x.nd]? = some (q, true) → (∃ c, x.ch = some c) ∧ x.er = 0
 cx : ∀ (i : Nat) (x : Cx), s.C[i]? = some x → x.cl = decide (x.er ≠ 0) ∧ (x.ch = none → x.er = 0) ∧ x.rs.length ≤ 1000000
section
variable {s : St} {i k : Nat} {x : Cx}
theorem Inv.ndlt (h : Inv s) (hx : s.C[i]? = some x) : x.nd < s.T.length := by
 have := (List.getElem?_eq_some_iff.1 (h.ck i x hx)).1
 rw [h.kl] at this; exact this
theorem walk_linked {S : TS} : ∀ n i j, S.length - i < n → j ∈ Tr.walk S i → j = i ∨ ∃ q, S[j]? = some (q, true) := by
 intro n
 induction n with
 | zero => intro i j hn; omega
 | succ n ih =>
  intro i j hn hj
  rcases walk_cases hj with rfl | ⟨k, hk, hj⟩
  · exact .inl rfl
  · have := kids_lt hk
    rcases ih k j (by omega) hj with rfl | h
    · exact .inr ⟨_, (mem_kids.1 hk).1⟩
    · exact .inr h
theorem Inv.good (h : Inv s) (hx : s.C[i]? = some x) (hc : ∃ c, x.ch = some c) (he : x.er = 0) : ∀ k ∈ Tr.walk s.T x.nd, Good s k := by
 intro k hk
 have hn := h.ndlt hx
 have hkl := (walk_up h.wf _ _ _ (Nat.lt_succ_self _) hn hk).1
 refine ⟨hkl, ?_⟩
 obtain ⟨⟨za, zi⟩, hz⟩ : ∃ z, s.K[k]? = some z := ⟨_, List.getElem?_eq_getElem (by rw [h.kl]; exact hkl)⟩
 refine ⟨_, hz, fun e => ?_, fun e => ?_⟩
 · have e : za = true := e
   subst e
   obtain ⟨a, ha, _⟩ := h.ka k zi hz
   exact ⟨a, ha⟩
 · have e : za = false := e
   subst e
   obtain ⟨y, hy, hyn⟩ := h.kc k zi hz
   have key : (∃ c, y.ch = some c) ∧ y.er = 0 := by
    rcases walk_linked _ _ _ (Nat.lt_succ_self _) hk with rfl | ⟨q, hq⟩
    · have e1 := h.ck i x hx
      rw [hz] at e1; injection e1 with e1; injection e1 with _ e1; subst e1
      rw [hx] at hy; cases hy
      exact ⟨hc, he⟩
    · exact h.lv zi y q hy (by rw [hyn]; exact hq)
   obtain ⟨c, hc'⟩ := key.1
   obtain ⟨h1, _, h3⟩ := h.cx zi y hy
   exact ⟨y, c, hy, hyn, hc', by rw [h1, key.2]; rfl, h3⟩
theorem Inv.step {er cs : Int} (h : Inv s) (he : er ≠ 0) (hk : k < s.T.length) (hl : ∀ (i : Nat) (x : Cx), s.K[k]? = some ⟨false, i⟩ → s.C[i]? = some x → ∃ c, x.ch = some c) : Inv (cst er cs s k) := by
 obtain ⟨⟨za, zi⟩, hz⟩ : ∃ z, s.K[k]? = some z := ⟨_, List.getElem?_eq_getElem (by rw [h.kl]; exact hk)⟩
 have lk : ∀ (j : Nat) (q : Int), (Tr.cut s.T k)[j]? = some (q, true) → j ≠ k ∧ s.T[j]? = some (q, true) := by
  intro j q hj
  rw [cut_at] at hj
  by_cases e : j = k
  · rw [if_pos e] at hj
    cases hs : s.T[j]? with
    | none => rw [hs] at hj; cases hj
    | some y => rw [hs] at hj; simp at hj
  · rw [if_neg e] at hj; exact ⟨e, hj⟩
 cases za with
 | true =>
  rw [cst_af hz]
  exact ⟨h.wf.cut k, by rw [Tr.cut_len]; exact h.kl, by rw [Tr.cut_len]; exact h.tl, h.cl, h.al, h.el, h.sl, h.nl, h.sp, h.kc, h.ka, h.ck, h.ak, fun i x q hx hq => h.lv i x q hx (lk _ _ hq).2, h.cx⟩
 | false =>
  obtain ⟨y, hy, hyn⟩ := h.kc k zi hz
  obtain ⟨c, hc⟩ := hl zi y hz hy
  have hzl := (List.getElem?_eq_some_iff.1 hy).1
  rw [cst_cx hz hy]
  have hat : ∀ (j : Nat) (x : Cx), (s.C.set zi (ended y er cs))[j]? = some x → (j = zi ∧ x = ended y er cs) ∨ (j ≠ zi ∧ s.C[j]? = some x) := fun j x hx => set_at hx
  refine ⟨h.wf.cut k, by rw [Tr.cut_len]; exact h.kl, by rw [Tr.cut_len, List.length_set]; exact h.tl, by rw [List.length_set]; exact h.cl, h.al, by rw [List.length_set]; exact h.el, Nat.le_trans (List.length_filter_le _ _) h.sl, h.nl, fun z hz => h.sp z (del_mem.1 hz).1, ?_, h.ka, ?_, h.ak, ?_, ?_⟩
  · intro j i hj
    obtain ⟨x, hx, hxn⟩ := h.kc j i hj
    by_cases e : i = zi
    · subst e
      rw [hy] at hx; cases hx
      exact ⟨ended y er cs, by rw [List.getElem?_set_self hzl], hxn⟩
    · exact ⟨x, by rw [List.getElem?_set_ne (fun e9 => e e9.symm)]; exact hx, hxn⟩
  · intro j x hx
    rcases hat j x hx with ⟨rfl, rfl⟩ | ⟨_, hx⟩
    · exact h.ck j y hy
    · exact h.ck j x hx
  · intro j x q hx hq
    obtain ⟨l1, l2⟩ := lk _ _ hq
    rcases hat j x hx with ⟨rfl, rfl⟩ | ⟨_, hx⟩
    · exact absurd hyn l1
    · exact h.lv j x q hx l2
  · intro j x hx
    rcases hat j x hx with ⟨rfl, rfl⟩ | ⟨_, hx⟩
    · exact ⟨by show true = decide (er ≠ 0); simp [he], fun e => (by have e : y.ch = none := e; rw [hc] at e; cases e), by show (0 : Nat) ≤ 1000000; omega⟩
    · exact h.cx j x hx
theorem Inv.fold {er cs : Int} (he : er ≠ 0) : ∀ (ws : List Nat) (s : St), Inv s → (∀ k ∈ ws, Good s k) → ws.Nodup → Inv (cfold er cs ws s).1
 | [], s, h, _, _ => h
 | k :: r, s, h, hg, hn => by
  have hk := hg k (by simp)
  rw [List.nodup_cons] at hn
  refine Inv.fold he r _ (h.step he hk.lt fun i x h1 h2 => ?_) (fun k' hk' => (hg k' (by simp [hk'])).next hk (by rintro rfl; exact hn.1 hk')) hn.2
  obtain ⟨z, e1, _, e3⟩ := hk.ex
  rw [h1] at e1; cases e1
  obtain ⟨y, c, y1, _, y3, _⟩ := e3 rfl
  have y1 : s.C[i]? = some y := y1
  rw [h2] at y1; cases y1
  exact ⟨c, y3⟩
def addS (s : St) (x : Cx) (ab : Int) (l : Bool) : St := { s with T := s.T ++ [(ab, l)], K := s.K ++ [⟨false, s.C.length⟩], C := s.C ++ [nw x s.T.length] }
theorem Inv.add {y : Cx} (h : Inv s) (hy : s.C[i]? = some y) (hC : s.C.length < 64) (l : Bool) (hx : x.er = 0 ∧ x.cl = false ∧ x.rs = []) (hl : l = true → ∃ c, x.ch = some c) : Inv (addS s x (y.nd : Int) l) := by
 have hn := h.ndlt hy
 have at1 : ∀ (j : Nat) (z : Cx), (s.C ++ [nw x s.T.length])[j]? = some z → (j < s.C.length ∧ s.C[j]? = some z) ∨ (j = s.C.length ∧ z = nw x s.T.length) := by
  intro j z hz
  rcases Nat.lt_or_ge j s.C.length with c | c
  · rw [List.getElem?_append_left c] at hz; exact .inl ⟨c, hz⟩
  · rw [List.getElem?_append_right c] at hz
    by_cases e : j - s.C.length = 0
    · rw [e] at hz; simp at hz; exact .inr ⟨by omega, hz.symm⟩
    · rw [List.getElem?_eq_none (by simp; omega)] at hz; cases hz
 have atK : ∀ (j : Nat) (z : Kd), (s.K ++ [⟨false, s.C.length⟩])[j]? = some z → (j < s.K.length ∧ s.K[j]? = some z) ∨ (j = s.K.length ∧ z = ⟨false, s.C.length⟩) := by
  intro j z hz
  rcases Nat.lt_or_ge j s.K.length with c | c
  · rw [List.getElem?_append_left c] at hz; exact .inl ⟨c, hz⟩
  · rw [List.getElem?_append_right c] at hz
    by_cases e : j - s.K.length = 0
    · rw [e] at hz; simp at hz; exact .inr ⟨by omega, hz.symm⟩
    · rw [List.getElem?_eq_none (by simp; omega)] at hz; cases hz
 have upK : ∀ (j : Nat) (z : Kd), s.K[j]? = some z → (s.K ++ [⟨false, s.C.length⟩])[j]? = some z := fun j z hz => by rw [List.getElem?_append_left (List.getElem?_eq_some_iff.1 hz).1]; exact hz
 refine ⟨h.wf.push (by omega) (by omega) (by omega), by simp [addS, h.kl], by have := h.tl; simp [addS]; omega, by simp [addS]; omega, h.al, by have := h.el; simp [addS]; omega, h.sl, h.nl, h.sp, ?_, ?_, ?_, ?_, ?_, ?_⟩
 · intro k i hk
   rcases atK k _ hk with ⟨_, h1⟩ | ⟨rfl, e⟩
   · obtain ⟨z, h2, h3⟩ := h.kc k i h1
     exact ⟨z, by show (s.C ++ _)[i]? = _; rw [List.getElem?_append_left (List.getElem?_eq_some_iff.1 h2).1]; exact h2, h3⟩
   · injection e with _ e; subst e
     exact ⟨nw x s.T.length, by show (s.C ++ _)[_]? = _; simp, by rw [h.kl]; rfl⟩
 · intro k i hk
   rcases atK k _ hk with ⟨_, h1⟩ | ⟨rfl, e⟩
   · exact h.ka k i h1
   · cases e
 · intro i z hz
   rcases at1 i z hz with ⟨_, h1⟩ | ⟨rfl, rfl⟩
   · exact upK _ _ (h.ck i z h1)
   · show (s.K ++ _)[s.T.length]? = _
     rw [← h.kl]; simp
 · intro i a ha
   exact upK _ _ (h.ak i a ha)
 · intro i z q hz hq
   rcases at1 i z hz with ⟨_, h1⟩ | ⟨rfl, rfl⟩
   · have h2 := h.ndlt h1
     have hq : (s.T ++ [((y.nd : Int), l)])[z.nd]? = some (q, true) := hq
     rw [List.getElem?_append_left h2] at hq
     exact h.lv i z q h1 hq
   · have hq : (s.T ++ [((y.nd : Int), l)])[s.T.length]? = some (q, true) := hq
     simp at hq
     exact ⟨hl hq.2, hx.1⟩
 · intro i z hz
   rcases at1 i z hz with ⟨_, h1⟩ | ⟨rfl, rfl⟩
   · exact h.cx i z h1
   · refine ⟨?_, fun _ => hx.1, ?_⟩
     · show x.cl = decide (x.er ≠ 0)
       rw [hx.1, hx.2.1]; rfl
     · show x.rs.length ≤ 1000000
       rw [hx.2.2]; simp
theorem walk_new (S : TS) (p : Int) (l : Bool) : Tr.walk (S ++ [(p, l)]) S.length = [S.length] := by
 rw [walk_eq, kids_new (S := S ++ [(p, l)]) S.length (by simp)]; rfl
theorem cut_new (S : TS) (p : Int) (l : Bool) : Tr.cut (S ++ [(p, l)]) S.length = S ++ [(p, false)] := by
 rw [cut_some (p := p) (l := l) (by simp)]
 simp
def addD (s : St) (x : Cx) (ab : Int) (er cs : Int) : St := { s with T := s.T ++ [(ab, false)], K := s.K ++ [⟨false, s.C.length⟩], C := s.C ++ [ended (nw x s.T.length) er cs] }
theorem fold_new {er cs : Int} (h : Inv s) (x : Cx) (ab : Int) (hx : x.rs = [] ∧ x.cl = false) : cfold er cs (Tr.walk (addS s x ab true).T (nw x s.T.length).nd) (addS s x ab true) = (addD s x ab er cs, [(s.C.length, [])], []) := by
 have e : Tr.walk (addS s x ab true).T (nw x s.T.length).nd = [s.T.length] := walk_new s.T ab true
 have hz : (addS s x ab true).K[s.T.length]? = some ⟨false, s.C.length⟩ := by show (s.K ++ _)[s.T.length]? = _; rw [← h.kl]; simp
 have hc : (addS s x ab true).C[s.C.length]? = some (nw x s.T.length) := by show (s.C ++ _)[_]? = _; simp
 rw [e]
 show (cst er cs (addS s x ab true) s.T.length, clp (addS s x ab true) s.T.length ++ [], cmp (addS s x ab true) s.T.length ++ []) = _
 rw [cst_cx hz hc, clp_cx hz hc, cmp_cx hz]
 have e2 : wks (nw x s.T.length) = [] := by
  have h1 : (nw x s.T.length).rs = [] := hx.1
  unfold wks Ch.tot chS
  rw [h1]; rfl
 have e3 : del (nw x s.T.length).lp (addS s x ab true).S = s.S := by
  show del (-1) s.S = s.S
  unfold del
  rw [List.filter_eq_self]
  intro z hz
  have := h.sp z hz
  simp; omega
 rw [e2, e3]
 have e4 : Tr.cut (addS s x ab true).T s.T.length = s.T ++ [(ab, false)] := cut_new s.T ab true
 rw [e4]
 have e5 : (addS s x ab true).C.set s.C.length (ended (nw x s.T.length) er cs) = s.C ++ [ended (nw x s.T.length) er cs] := by
  show (s.C ++ [nw x s.T.length]).set s.C.length _ = _
  simp
 rw [e5]
 rfl
end
end Go.Proofs.YtdpapnfjpefhkaaGreat
namespace Go.Proofs.YtdpapnfjpefhkaaGreat
open Go.RowKit Tr
set_option linter.unusedVariables false
set_option maxRecDepth 100000
section
variable {W w w' w'' wx w1 w2 : World} {t i n c : Nat} {p : Option Nat} {O : Nat → Prop} {s s' : St} {x y : Cx} {er cs : Int} {l : List Lap} {m : List Mp}
def FoR (W : World) (t : Nat) (p : Option Nat) (s' : St) (O : Nat → Prop) (er cs : Int) (l : List Lap) (w : World) (e : Ending) (w' : World) : Prop :=
 ∃ P1 n1 c1, Hid (n1 = l.length) ∧ e = .returned (.slice P1 n1 c1) ∧ Hid (GS W t p s' O w w') ∧ Hid (LR w.heap.size w' P1 c1 er cs l)
theorem CaR.from (b : Below w.heap.size w w1) {e : Ending} (h : CaR W t p s' O er cs l m w1 e w') : CaR W t p s' O er cs l m w e w' := by
 obtain ⟨P1, n1, c1, P2, n2, c2, h1, h2, rfl, h3, h4, h5⟩ := h
 exact ⟨P1, n1, c1, P2, n2, c2, h1, h2, rfl, GS.from b h3.out, h4.out.low b.size, row_low h5.out b.size⟩
set_option maxHeartbeats 4000000 in
theorem follow_no (h : FS W t p s O w) (hy : s.C[i]? = some y) (he : y.er = 0) (k : Int) : Calls Tryz.prog 46 #[pS t, .int .i64 k, .int .i64 (i : Int)] w (FoR W t p s O er cs [] w) := by
 have hi := (List.getElem?_eq_some_iff.1 hy).1
 have b1 : (i : Int) < (s.C.length : Int) := by omega
 have b2 : (0 : Int) ≤ (i : Int) := by omega
 obtain ⟨PC, cC, h3, hr⟩ := h.c3
 obtain ⟨q, rfl, hq, x0, x1, x2, x3, x4, x5, x6, x7⟩ := hr i y hy
 have ht := h.tlt
 have HA := Lib.hid h
 rw [he] at x2
 clear hr hy he h
 go_enter Tryz.func46, Tryz.ntmps46
 go_wp2_with fail
 go_ret
 exact ⟨_, _, _, rfl, rfl, HA.out.gs (below_al w _), LR.nil _ _ _ _⟩
set_option maxHeartbeats 4000000 in
theorem follow_go (h : FS W t p s O w) (hy : s.C[i]? = some y) (he : y.er ≠ 0) (k : Int) (hc : ∀ w1, Below w.heap.size w w1 → Calls Tryz.prog 48 #[pS t, .int .i64 k, .int .i64 y.er, .int .i64 y.cs] w1 (CaR W t p s' O y.er y.cs l m w1)) :
  Calls Tryz.prog 46 #[pS t, .int .i64 k, .int .i64 (i : Int)] w (FoR W t p s' O y.er y.cs l w) := by
 have hi := (List.getElem?_eq_some_iff.1 hy).1
 have b1 : (i : Int) < (s.C.length : Int) := by omega
 have b2 : (0 : Int) ≤ (i : Int) := by omega
 have b3 : (y.er == 0) = false := beq_eq_false_iff_ne.2 he
 obtain ⟨PC, cC, h3, hr⟩ := h.c3
 obtain ⟨q, rfl, hq, x0, x1, x2, x3, x4, x5, x6, x7⟩ := hr i y hy
 have ht := h.tlt
 have HC : Hid (∀ w1, Below w.heap.size w w1 → Calls Tryz.prog 48 #[pS t, .int .i64 k, .int .i64 y.er, .int .i64 y.cs] w1 (CaR W t p s' O y.er y.cs l m w)) := fun w1 hb => (hc w1 hb).mono fun e w' h => CaR.from hb h
 clear hr hy he h hc
 go_enter Tryz.func46, Tryz.ntmps46
 go_wp2_with fail
 refine (HC.out _ (below_al w _)).mono ?_
 rintro e w2 ⟨P1, n1, c1, P2, n2, c2, h1, h2, rfl, h4, h5, h6⟩
 go_wp2_with fail
 go_ret
 exact ⟨P1, n1, c1, h1, rfl, h4, h5⟩
def nx0 (c : Nat) (wh : Int) (has own : Bool) : Cx := ⟨0, some c, false, [], 0, 0, wh, has, own, 0⟩
def nxW : Cx := ⟨0, none, false, [], 0, 0, 0, false, false, 0⟩
theorem AdR.gs {Gc : Nat → Prop} {ab : Int} {l : Bool} (h : FS W t p s O w) (b : Below w.heap.size w w1) (hg : ∀ k, Gc k → w.heap.size ≤ k) {e : Ending}
  (a : AdR W t p (s.T ++ [(ab, l)]) (s.K ++ [⟨false, s.C.length⟩]) s.C s.A s.T.length O Gc x w1 e w') : e = .returned (.int .i64 (s.C.length : Int)) ∧ GS W t p (addS s x ab l) O w w' := by
 obtain ⟨he, z⟩ := a
 refine ⟨he, ?_⟩
 exact h.ctx' ((z.from b).mono fun k hk => hk) fun k hk => by
  rcases hk with hk | hk
  · exact hg k hk
  · exact Nat.le_trans b.size hk
theorem FS.add (h : FS W t p s O w) (v : Inv s) (hy : s.C[i]? = some y) (b : Below w.heap.size w w1) {Gc : Nat → Prop} (hc : NC W O Gc w1 x) (hg : ∀ k, Gc k → w.heap.size ≤ k) (l : Bool) :
  Calls Tryz.prog 44 #[pS t, .int .i64 (i : Int), .bool l, cG x] w1 fun e w' => e = .returned (.int .i64 (s.C.length : Int)) ∧ GS W t p (addS s x (y.nd : Int) l) O w w' := by
 have h1 := h.later b
 obtain ⟨⟨F, G, o, yy, e⟩, m⟩ := h1
 have hc' : NC W (ow F G o) Gc w1 x := ⟨hc.cc, fun hk => ⟨(hc.no hk).1, fun hk2 => (hc.no hk).2 ((e _).2 hk2)⟩, hc.has⟩
 have hcl := v.cl
 have hal := v.al
 have htl := v.tl
 have hkl := v.kl
 refine (cadd_any (T' := s.T ++ [((y.nd : Int), l)]) (K' := s.K ++ [⟨false, s.C.length⟩]) yy e hc (by omega) fun w2 b2 => ?_).mono fun e w' a => AdR.gs h b hg a
 exact (hang_ctx l ⟨false, s.C.length⟩ (yy.later b2) e hy (v.ndlt hy) (by omega) (by omega)).mono fun e w' h => ⟨h.1, h.2.1⟩
theorem NC.of_mk (h : FS W t p s O w) (wh : Int) (has own : Bool) {c : Nat} (m : Ch.Mk c ⟨2, false, 0, [], [], []⟩ w w1) : ∃ Gc, NC W O Gc w1 (nx0 c wh has own) ∧ ∀ k, Gc k → w.heap.size ≤ k := by
 obtain ⟨Gc, h1, h2⟩ := m.ch
 refine ⟨Gc, ⟨fun e => ?_, fun hk => ⟨Nat.le_trans h.bel.size (h2 _ hk), fun hO => ?_⟩, fun hk => ⟨c, rfl⟩⟩, h2⟩
 · injection e with e; subst e; exact h1
 · have := h.lt hO; have := h2 _ hk; omega
end
end Go.Proofs.YtdpapnfjpefhkaaGreat
namespace Go.Proofs.YtdpapnfjpefhkaaGreat
open Go.RowKit Tr
set_option linter.unusedVariables false
set_option maxRecDepth 100000
section
variable {W w w' w'' wx w1 w2 : World} {t i n c : Nat} {p : Option Nat} {O : Nat → Prop} {s s' : St} {x y : Cx} {er cs : Int} {l : List Lap} {m : List Mp}
def afS (s : St) (x : Cx) (pg : Int) : St := { s with T := s.T ++ [((x.nd : Int), decide (x.er = 0))], K := s.K ++ [⟨true, s.A.length⟩], A := s.A ++ [⟨s.T.length, pg⟩] }
def afM (s : St) (x : Cx) (pg : Int) : List Mp := if x.er = 0 then [] else [⟨s.A.length, pg⟩]
def AfR (W : World) (t : Nat) (p : Option Nat) (s' : St) (O : Nat → Prop) (n : Nat) (m : List Mp) (w : World) (e : Ending) (w' : World) : Prop :=
 ∃ P2 n2 c2, Hid (n2 = m.length) ∧ e = .returned (.tuple #[.int .i64 (n : Int), .slice P2 n2 c2, .int .i64 0]) ∧ Hid (GS W t p s' O w w') ∧ Hid (SR w.heap.size w' P2 c2 m)
abbrev af3 (r : Int) : Value := .tuple #[.int .i64 0, .slice none 0 0, .int .i64 r]
theorem FS.a4l (h : FS W t p s O w) : ∃ PA cA, w.cell? ⟨t, 4, none⟩ = some (.slice PA s.A.length cA) := by
 obtain ⟨⟨F, G, o, y, e⟩, m⟩ := h
 exact ⟨_, _, y.cells.2.2.2.1⟩
theorem SR.one {B : Nat} {w0 w1 : World} {P : Option Addr} {x : Mp} {g : Nat} (hP : P = some ⟨g, 0, none⟩) (hB : B ≤ g) (h : w1.heap[g]? = some (.cells #[.int .i64 x.id, .int .i64 x.pg] 59 (0, 0))) : SR B w1 P 1 [x] := by
 subst hP
 exact ⟨by simp [mE], .inr ⟨g, 1, #[.int .i64 x.id, .int .i64 x.pg], rfl, hB, h, by simp, by unfold maxLen; omega, by simp [mE]⟩⟩
set_option maxHeartbeats 8000000 in
theorem after_ok (pg : Int) (h : FS W t p s O w) (v : Inv s) (hx : s.C[i]? = some x) (hp : 0 ≤ pg) (hA : s.A.length < 64) : Calls Tryz.prog 11 #[pS t, .int .i64 (i : Int), .int .i64 pg] w (AfR W t p (afS s x pg) O s.A.length (afM s x pg) w) := by
 have hi := (List.getElem?_eq_some_iff.1 hx).1
 have b1 : ¬ pg < 0 := by omega
 have b2 : ((s.A.length : Int) == 64) = false := beq_eq_false_iff_ne.2 (by omega)
 have b3 : (s.A.length : Int) ≤ 64 := by omega
 obtain ⟨iA, hiA, yz0, yz1, yz2⟩ := info_parts infA
 have H := Lib.hid (chas_yes h hi)
 have HO := Lib.hid (over_any h hx)
 obtain ⟨PA, cA, k4⟩ := h.a4l
 have ht := h.tlt
 obtain ⟨ov, hov⟩ : ∃ ov, (x.er != 0) = ov := ⟨_, rfl⟩
 rw [hov] at HO
 have hnov : decide (x.er = 0) = !ov := by rw [← hov]; by_cases e : x.er = 0 <;> simp [e]
 have HH : Hid (∀ w', Below w.heap.size w w' → Calls Tryz.prog 51 #[pS t, .int .i64 (i : Int), .bool (!ov), .agg #[.bool true, .int .i64 (s.A.length : Int)]] w' fun e w4 => e = .returned (.int .i64 (s.T.length : Int)) ∧ w4.cell? ⟨t, 4, none⟩ = some (.slice PA s.A.length cA) ∧ Hid (t < w4.heap.size ∧ w4.ownsRow 0 137 2 (.slice PA s.A.length cA) s.A.length (s.A.flatMap aE) ∧
   ∀ {wx w5 : World} {g cap : Nat}, Below w4.heap.size w4 wx → wx.grownBy w5 (Value.slice PA s.A.length cA).ownBlock → w5.ownsRow 0 137 2 (.slice (some ⟨g, 0, none⟩) (s.A.length + 1) cap) (s.A.length + 1) (s.A.flatMap aE ++ aE ⟨s.T.length, pg⟩) → ((Value.slice PA s.A.length cA).ownBlock = some g ∨ w4.heap.size ≤ g) →
    w5.cell? ⟨t, 4, none⟩ = some (.slice PA s.A.length cA) ∧ w5.frozen? ⟨t, 4, none⟩ = false ∧ GS W t p (afS s x pg) O w (w5.setCell ⟨t, 4, none⟩ (.slice (some ⟨g, 0, none⟩) (s.A.length + 1) cap)))) := by
  intro w' hb
  have f' := h.later hb
  have hf' := f'
  obtain ⟨⟨F, G, o, yy, e⟩, mm⟩ := f'
  have hcl := v.cl
  have htl := v.tl
  have hkl := v.kl
  refine (hang_ctx (!ov) ⟨true, s.A.length⟩ yy e hx (v.ndlt hx) (by omega) (by omega)).mono ?_
  rintro e' w4 ⟨rfl, z, hc4⟩
  have hc4' := hc4.trans ((hb.cell (p := ⟨t, 4, none⟩) ht).trans k4)
  obtain ⟨F4, G4, o4, y4, hs4, tn4⟩ := z
  have q4 := y4.cells.2.2.2.1
  rw [hc4'] at q4
  injection q4 with q4; injection q4 with q41 _ q42
  refine ⟨rfl, hc4', Nat.lt_of_lt_of_le ht (Nat.le_trans hb.size tn4.size), by rw [q41, q42]; exact y4.ra, ?_⟩
  rw [q41, q42]
  intro wx w5 g cap a1 a2 a3 a4
  obtain ⟨-, -, m3, m4⟩ := y4.midA a1 a2
  refine ⟨m3, m4, ?_⟩
  have z5 := y4.stepA hs4 tn4 (fun k hk => Nat.le_trans tn4.size hk) (fun k hk => hk) (z := ⟨s.T.length, pg⟩) a1 a2 a3 a4
  have g5 := GS.from hb (hf'.ctx' z5 fun k hk => hk)
  unfold afS
  rw [hnov]
  exact g5
 have KP : Hid (∀ w', Below w.heap.size w w' → w'.cell? ⟨t, 4, none⟩ = some (.slice PA s.A.length cA)) := fun w' hb => (hb.cell (p := ⟨t, 4, none⟩) ht).trans k4
 have hm : afM s x pg = if ov = true then [⟨s.A.length, pg⟩] else [] := by
  unfold afM; rw [← hov]
  by_cases e : x.er = 0 <;> simp [e]
 obtain ⟨M, hM⟩ : ∃ M, afM s x pg = M := ⟨_, rfl⟩
 have HM : Hid (M = if ov = true then [⟨s.A.length, pg⟩] else []) := by rw [← hM]; exact hm
 rw [hM]
 have hsz := h.bel.size
 clear h v hx hi hnov hm hov hM
 go_enter Tryz.func11, Tryz.ntmps11
 go_wp2_with fail
 refine H.out.mono ?_
 rintro e w' ⟨rfl, rfl⟩
 go_wp2_with fail
 refine HO.out.mono ?_
 rintro e w' ⟨rfl, rfl⟩
 clear H HO
 go_wp2_with fail
 refine but_start 18 (fun w' => w'.cell? ⟨t, 4, none⟩ = some (.slice PA s.A.length cA)) (by kernel_rfl) ?_
 have hHeld := KP.out w.drew (Below.refl _ _).drew
 change AnyBut _ _ _ _ _ _ 19 _ _ _
 refine tkT 0 rfl hHeld ?_
 refine tkT 1 rfl hHeld ?_
 refine tkT 2 rfl hHeld ?_
 refine tkT 3 rfl hHeld ?_
 refine tkT 4 rfl hHeld ?_
 refine tkT 5 rfl hHeld ?_
 refine tkT 6 rfl hHeld ?_
 refine tkT 7 rfl hHeld ?_
 refine tkT 8 rfl hHeld ?_
 refine tkT 9 rfl hHeld ?_
 refine tkT 10 rfl hHeld ?_
 refine tkT 12 rfl hHeld ?_
 try simp only [l1, l2, l3, Act.put, l4, l5, l6]
 refine but_one (i := 11) (by kernel_rfl) rfl ?_
 intro K hK
 go_simp
 go_at_call 51
 refine (HH.out _ (by first | exact Below.refl _ _ | exact (Below.refl _ _).drew | (repeat' (first | exact Below.refl _ _ | (with_reducible assumption) | refine Below.drew ?_ | refine Below.alloc ?_ (by first | omega | (simp <;> omega)) _)))).mono ?_
 rintro e w4 ⟨rfl, k4, h4⟩
 have hHeld2 := k4
 refine hK _ _ (fun _ => hHeld2) ?_
 clear hK K hHeld
 have hHeld := hHeld2
 clear hHeld2
 refine tkT 13 rfl hHeld ?_
 try simp only [l1, l2, l3, Act.put, l4, l5, l6]
 refine but_one (i := 14) (by kernel_rfl) rfl ?_
 intro K hK
 go_simp
 have hHeld2 := ((below_al w4 (.cells #[.int .i64 (s.T.length : Int), .int .i64 pg] 137)).cell (p := ⟨t, 4, none⟩) h4.out.1).trans k4
 refine hK _ _ (fun _ => hHeld2) ?_
 clear hK K hHeld
 have hHeld := hHeld2
 clear hHeld2
 try simp only [l1, l2, l3, Act.put, l4, l5, l6]
 refine but_one (i := 15) (by kernel_rfl) rfl ?_
 intro K hK
 refine step_append_lies _ (by rfl) _ _ _ (by rfl) 0 137 iA (.agg #[.int .i64 0, .int .i64 0]) 2 16 Tryz.underlying123 hiA yz0 yz1 yz2 rfl (by omega) (.slice PA s.A.length cA) s.A.length (s.A.flatMap aE) (by rfl) (row_later h4.out.2.1 (below_al w4 _)) ⟨w4.heap.size, 0, none⟩ 1 1 (aE ⟨s.T.length, pg⟩) (by rfl) (by rfl) (World.news_of_block (cs := #[.int .i64 (s.T.length : Int), .int .i64 pg]) (t := 137) (fr := (0, 0)) (heap_alloc_new w4 _)) (aE_one _) (by omega) (by unfold maxLen; omega) (by omega) (by first | omega | (simp; done) | (simp; omega)) (w4.heap.size + 1) (by simp) ?_
 intro g5 cap5 w5 hown hgrow hat hlt5
 have HE := Lib.hid (h4.out.2.2 (below_al w4 _) hgrow hown (hat.imp id (by omega)))
 have hc5 := HE.out.1
 have hf5 := HE.out.2.1
 clear hown hgrow hat hlt5
 have hHeld2 := hc5
 refine hK _ _ (fun _ => hHeld2) ?_
 clear hK K hHeld
 have hHeld := hHeld2
 clear hHeld2
 try simp only [l1, l2, l3, Act.put, l4, l5, l6]
 refine but_one (i := 16) (by kernel_rfl) rfl ?_
 intro K hK
 go_simp
 have hHeld2 := hc5
 refine hK _ _ (fun _ => hHeld2) ?_
 clear hK K hHeld
 have hHeld := hHeld2
 clear hHeld2
 try simp only [l1, l2, l3, Act.put, l4, l5, l6]
 refine but_one (i := 17) (by kernel_rfl) rfl ?_
 intro K hK
 go_simp
 have hHeld2 := hc5
 refine hK _ _ (fun _ => hHeld2) ?_
 clear hK K hHeld
 have hHeld := hHeld2
 clear hHeld2
 try simp only [l1, l2, l3, Act.put, l4, l5, l6]
 refine but_one (i := 18) (by kernel_rfl) rfl ?_
 intro K hK
 go_simp
 refine hK _ _ (fun h => absurd rfl h) ?_
 clear hK K hHeld
 try simp only [l1, l2, l3, Act.put, l4, l5, l6]
 refine but_done (by kernel_rfl) ?_
 try clear hHeld
 clear k4 KP HH hc5 hf5
 have HG := Lib.hid HE.out.2.2
 have hw9 : Hid (w.heap.size ≤ (w5.setCell ⟨t, 4, none⟩ (.slice (some ⟨g5, 0, none⟩) (s.A.length + 1) cap5)).heap.size) := by obtain ⟨_, _, _, f⟩ := HG.out; exact f.1
 clear HE
 generalize w5.setCell ⟨t, 4, none⟩ (.slice (some ⟨g5, 0, none⟩) (s.A.length + 1) cap5) = w6 at *
 cases ov with
 | false =>
  have e9 : M = [] := by rw [HM.out]; rfl
  subst e9
  go_wp2_with fail
  go_ret3
  exact ⟨_, _, _, rfl, rfl, HG.out, SR.nil _ _⟩
 | true =>
  have e9 : M = [⟨s.A.length, pg⟩] := by rw [HM.out]; rfl
  subst e9
  go_wp2_with fail
  go_ret3
  exact ⟨_, _, _, rfl, rfl, HG.out.then (below_al w6 _), SR.one (w0 := w6) (x := ⟨s.A.length, pg⟩) rfl hw9.out (heap_alloc_new w6 _)⟩
theorem after_none {k pg : Int} (h : FS W t p s O w) (hk : k < 0 ∨ (s.C.length : Int) ≤ k) : Calls Tryz.prog 11 #[pS t, .int .i64 k, .int .i64 pg] w fun e w' => e = .returned (af3 4) ∧ w = w' := by
 have H := Lib.hid (chas_no h hk)
 clear h hk
 go_enter Tryz.func11, Tryz.ntmps11
 go_wp2_with fail
 refine H.out.mono ?_
 rintro e w' ⟨rfl, rfl⟩
 go_wp2_with fail
 go_ret3
 exact ⟨rfl, rfl⟩
theorem after_arg {pg : Int} (h : FS W t p s O w) (hi : i < s.C.length) (hp : pg < 0) : Calls Tryz.prog 11 #[pS t, .int .i64 (i : Int), .int .i64 pg] w fun e w' => e = .returned (af3 1) ∧ w = w' := by
 have H := Lib.hid (chas_yes h hi)
 clear h
 go_enter Tryz.func11, Tryz.ntmps11
 go_wp2_with fail
 refine H.out.mono ?_
 rintro e w' ⟨rfl, rfl⟩
 go_wp2_with fail
 go_ret3
 exact ⟨rfl, rfl⟩
theorem after_full {pg : Int} (h : FS W t p s O w) (hi : i < s.C.length) (hp : 0 ≤ pg) (hA : s.A.length = 64) : Calls Tryz.prog 11 #[pS t, .int .i64 (i : Int), .int .i64 pg] w fun e w' => e = .returned (af3 3) ∧ w = w' := by
 have H := Lib.hid (chas_yes h hi)
 have b1 : ¬ pg < 0 := by omega
 obtain ⟨PA, cA, k4⟩ := h.a4l
 rw [hA] at k4
 clear h hA
 go_enter Tryz.func11, Tryz.ntmps11
 go_wp2_with fail
 refine H.out.mono ?_
 rintro e w' ⟨rfl, rfl⟩
 go_wp2_with fail
 go_ret3
 exact ⟨rfl, rfl⟩
end
end Go.Proofs.YtdpapnfjpefhkaaGreat
namespace Go.Proofs.YtdpapnfjpefhkaaGreat
open Go.RowKit Tr
set_option linter.unusedVariables false
set_option maxRecDepth 100000
section
variable {W w w' w'' wx w1 w2 : World} {t i n c : Nat} {p : Option Nat} {O : Nat → Prop} {s s' : St} {x y : Cx} {er cs : Int} {l : List Lap} {m : List Mp}
def CnR (W : World) (t : Nat) (p : Option Nat) (s' : St) (O : Nat → Prop) (er cs : Int) (l : List Lap) (m : List Mp) (w : World) (e : Ending) (w' : World) : Prop :=
 ∃ P1 n1 c1 P2 n2 c2, Hid (n1 = l.length) ∧ Hid (n2 = m.length) ∧ e = .returned (.tuple #[.slice P1 n1 c1, .slice P2 n2 c2, .int .i64 0]) ∧ Hid (GS W t p s' O w w') ∧ Hid (LR w.heap.size w' P1 c1 er cs l) ∧ Hid (SR w.heap.size w' P2 c2 m)
def cnS (s : St) (x : Cx) (er cs : Int) : St × List Lap × List Mp := if x.er ≠ 0 then (s, [], []) else cfold er cs (Tr.walk s.T x.nd) s
theorem cancel_any {er cs : Int} (h : FS W t p s O w) (v : Inv s) (hx : s.C[i]? = some x) (hc : ∃ c, x.ch = some c) :
  Calls Tryz.prog 48 #[pS t, .int .i64 (i : Int), .int .i64 er, .int .i64 cs] w (CaR W t p (cnS s x er cs).1 O er cs (cnS s x er cs).2.1 (cnS s x er cs).2.2 w) := by
 unfold cnS
 by_cases he : x.er ≠ 0
 · rw [if_pos he]
   exact cancel_over h hx he
 · rw [if_neg he]
   have he : x.er = 0 := by omega
   exact cancel_go h hx he (v.ndlt hx) (v.good hx hc he) (by have := v.el; have := v.cl; omega) (by have := v.sl; have := v.el; have := v.cl; omega) (by have := v.cl; omega) (by have := v.al; omega) (by have := v.kl; have := v.tl; have := v.cl; have := v.al; omega)
theorem cancel_call (h : FS W t p s O w) (v : Inv s) (hx : s.C[i]? = some x) (hc : ∃ c, x.ch = some c) (k c1 : Int) (hk : (if k < 1 then 1 else k) = c1) : Calls Tryz.prog 13 #[pS t, .int .i64 (i : Int), .int .i64 k] w (CnR W t p (cnS s x 1 c1).1 O 1 c1 (cnS s x 1 c1).2.1 (cnS s x 1 c1).2.2 w) := by
 have hi := (List.getElem?_eq_some_iff.1 hx).1
 have b1 : (i : Int) < (s.C.length : Int) := by omega
 have b2 : (0 : Int) ≤ (i : Int) := by omega
 have H := Lib.hid (chas_yes h hi)
 have HC := Lib.hid (cancel_any (er := 1) (cs := c1) h v hx hc)
 obtain ⟨PC, cC, h3, hr⟩ := h.c3
 obtain ⟨q, rfl, hq, x0, x1, -⟩ := hr i x hx
 obtain ⟨ch, hch⟩ := hc
 rw [hch] at x1
 simp only [Option.map_some] at x1
 have ht := h.tlt
 clear hr hx h v hch x0 hi
 by_cases hk1 : k < 1
 · rw [if_pos hk1] at hk
   subst hk
   go_enter Tryz.func13, Tryz.ntmps13
   go_wp2_with fail
   refine H.out.mono ?_
   rintro e w' ⟨rfl, rfl⟩
   go_wp2_with fail
   refine HC.out.mono ?_
   rintro e w2 ⟨P1, n1, c1, P2, n2, c2, g1, g2, rfl, g3, g4, g5⟩
   go_wp2_with fail
   go_ret3
   exact ⟨P1, n1, c1, P2, n2, c2, g1, g2, rfl, g3, g4, g5⟩
 · rw [if_neg hk1] at hk
   subst hk
   go_enter Tryz.func13, Tryz.ntmps13
   go_wp2_with fail
   refine H.out.mono ?_
   rintro e w' ⟨rfl, rfl⟩
   go_wp2_with fail
   refine HC.out.mono ?_
   rintro e w2 ⟨P1, n1, c1, P2, n2, c2, g1, g2, rfl, g3, g4, g5⟩
   go_wp2_with fail
   go_ret3
   exact ⟨P1, n1, c1, P2, n2, c2, g1, g2, rfl, g3, g4, g5⟩
abbrev cn3 (r : Int) : Value := .tuple #[.slice none 0 0, .slice none 0 0, .int .i64 r]
theorem cancel_none {k c1 : Int} (h : FS W t p s O w) (hk : k < 0 ∨ (s.C.length : Int) ≤ k) : Calls Tryz.prog 13 #[pS t, .int .i64 k, .int .i64 c1] w fun e w' => e = .returned (cn3 4) ∧ w = w' := by
 have H := Lib.hid (chas_no h hk)
 clear h hk
 go_enter Tryz.func13, Tryz.ntmps13
 go_wp2_with fail
 refine H.out.mono ?_
 rintro e w' ⟨rfl, rfl⟩
 go_wp2_with fail
 go_ret3
 exact ⟨rfl, rfl⟩
theorem cancel_plain {c1 : Int} (h : FS W t p s O w) (hx : s.C[i]? = some x) (hc : x.ch = none) : Calls Tryz.prog 13 #[pS t, .int .i64 (i : Int), .int .i64 c1] w fun e w' => e = .returned (cn3 1) ∧ w = w' := by
 have hi := (List.getElem?_eq_some_iff.1 hx).1
 have b1 : (i : Int) < (s.C.length : Int) := by omega
 have b2 : (0 : Int) ≤ (i : Int) := by omega
 have H := Lib.hid (chas_yes h hi)
 obtain ⟨PC, cC, h3, hr⟩ := h.c3
 obtain ⟨q, rfl, hq, x0, x1, -⟩ := hr i x hx
 rw [hc] at x1
 simp only [Option.map_none] at x1
 have ht := h.tlt
 clear hr hx h hc x0 hi
 go_enter Tryz.func13, Tryz.ntmps13
 go_wp2_with fail
 refine H.out.mono ?_
 rintro e w' ⟨rfl, rfl⟩
 go_wp2_with fail
 go_ret3
 exact ⟨rfl, rfl⟩
theorem lapse_call (h : FS W t p s O w) (v : Inv s) (hx : s.C[i]? = some x) (hc : ∃ c, x.ch = some c) (ho : x.own = true) : Calls Tryz.prog 32 #[pS t, .int .i64 (i : Int)] w (CnR W t p (cnS s x 2 2).1 O 2 2 (cnS s x 2 2).2.1 (cnS s x 2 2).2.2 w) := by
 have hi := (List.getElem?_eq_some_iff.1 hx).1
 have b1 : (i : Int) < (s.C.length : Int) := by omega
 have b2 : (0 : Int) ≤ (i : Int) := by omega
 have H := Lib.hid (chas_yes h hi)
 have HC := Lib.hid (cancel_any (er := 2) (cs := 2) h v hx hc)
 obtain ⟨PC, cC, h3, hr⟩ := h.c3
 obtain ⟨q, rfl, hq, x0, x1, x2, x3, x4, x5, x6, x7⟩ := hr i x hx
 rw [ho] at x6
 have ht := h.tlt
 clear hr hx h v hc x0 x1 x2 x3 x4 x5 x7 hi ho
 go_enter Tryz.func32, Tryz.ntmps32
 go_wp2_with fail
 refine H.out.mono ?_
 rintro e w' ⟨rfl, rfl⟩
 go_wp2_with fail
 refine HC.out.mono ?_
 rintro e w2 ⟨P1, n1, c1, P2, n2, c2, g1, g2, rfl, g3, g4, g5⟩
 go_wp2_with fail
 go_ret3
 exact ⟨P1, n1, c1, P2, n2, c2, g1, g2, rfl, g3, g4, g5⟩
theorem lapse_none {k : Int} (h : FS W t p s O w) (hk : k < 0 ∨ (s.C.length : Int) ≤ k) : Calls Tryz.prog 32 #[pS t, .int .i64 k] w fun e w' => e = .returned (cn3 4) ∧ w = w' := by
 have H := Lib.hid (chas_no h hk)
 clear h hk
 go_enter Tryz.func32, Tryz.ntmps32
 go_wp2_with fail
 refine H.out.mono ?_
 rintro e w' ⟨rfl, rfl⟩
 go_wp2_with fail
 go_ret3
 exact ⟨rfl, rfl⟩
theorem lapse_plain (h : FS W t p s O w) (hx : s.C[i]? = some x) (ho : x.own = false) : Calls Tryz.prog 32 #[pS t, .int .i64 (i : Int)] w fun e w' => e = .returned (cn3 1) ∧ w = w' := by
 have hi := (List.getElem?_eq_some_iff.1 hx).1
 have b1 : (i : Int) < (s.C.length : Int) := by omega
 have b2 : (0 : Int) ≤ (i : Int) := by omega
 have H := Lib.hid (chas_yes h hi)
 obtain ⟨PC, cC, h3, hr⟩ := h.c3
 obtain ⟨q, rfl, hq, x0, x1, x2, x3, x4, x5, x6, x7⟩ := hr i x hx
 rw [ho] at x6
 have ht := h.tlt
 clear hr hx h x0 x1 x2 x3 x4 x5 x7 hi ho
 go_enter Tryz.func32, Tryz.ntmps32
 go_wp2_with fail
 refine H.out.mono ?_
 rintro e w' ⟨rfl, rfl⟩
 go_wp2_with fail
 go_ret3
 exact ⟨rfl, rfl⟩
end
end Go.Proofs.YtdpapnfjpefhkaaGreat
namespace Go.Proofs.YtdpapnfjpefhkaaGreat
open Go.RowKit Tr
set_option linter.unusedVariables false
set_option maxRecDepth 100000
section
variable {W w w' w'' wx w1 w2 : World} {t i n c : Nat} {p : Option Nat} {O : Nat → Prop} {s s' : St} {x y : Cx} {er cs : Int} {l : List Lap} {m : List Mp}
def lkd (s : St) (k : Nat) : Bool := match s.T[k]? with
 | some y => y.2
 | none => false
theorem FS.cutb (h : FS W t p s O w) (k : Nat) (hk : k < s.T.length) : Calls Tryz.prog 53 #[.pointer (some ⟨t, 1, none⟩), .int .i64 (k : Int)] w fun e w' => e = .returned (.bool (lkd s k)) ∧ GS W t p { s with T := Tr.cut s.T k } O w w' := by
 obtain ⟨⟨q, l⟩, hs⟩ : ∃ y, s.T[k]? = some y := ⟨_, List.getElem?_eq_getElem hk⟩
 have hl : lkd s k = l := by unfold lkd; rw [hs]
 rw [hl]
 have h0 := h
 obtain ⟨⟨F, G, o, y, e⟩, m⟩ := h
 cases l with
 | true =>
  obtain ⟨q', rfl⟩ := Int.eq_ofNat_of_zero_le ((y.tr.wf k q true hs).2.2 rfl)
  refine (detach_yes w y.tr (fun k hk => (y.fF k hk).2.lt) k hs).mono ?_
  rintro e' w' ⟨rfl, g⟩
  refine ⟨rfl, ?_⟩
  obtain ⟨F', y', hs', tn⟩ := y.tree g
  refine FS.ctx y e m y' (fun k hk => ?_) (tn.mono fun b hb => .inl ((e b).2 (.f hb)))
  rcases hk with hk | hk | hk | hk | ⟨j, hk⟩
  · exact (hs' k hk).imp (fun h => (e k).2 (.f h)) id
  · exact .inl ((e k).2 (.k hk))
  · exact .inl ((e k).2 (.c hk))
  · exact .inl ((e k).2 (.a hk))
  · exact .inl ((e k).2 (.g hk))
 | false =>
  have e2 : Tr.cut s.T k = s.T := by
   rw [Tr.cut_some hs]
   apply List.ext_getElem?
   intro j
   rw [List.getElem?_set]
   by_cases c : k = j
   · subst c; rw [if_pos rfl, if_pos hk, hs]
   · rw [if_neg c]
  rw [e2]
  refine (detach_off w y.tr k hs).mono ?_
  rintro e' w' ⟨rfl, b⟩
  exact ⟨rfl, h0.gs b⟩
abbrev un2 (b : Bool) (r : Int) : Value := .tuple #[.bool b, .int .i64 r]
theorem unafter_none {k : Int} (h : FS W t p s O w) (hk : k < 0 ∨ (s.A.length : Int) ≤ k) : Calls Tryz.prog 16 #[pS t, .int .i64 k] w fun e w' => e = .returned (un2 false 4) ∧ w = w' := by
 obtain ⟨PA, cA, k4⟩ := h.a4l
 clear h
 by_cases c1 : k < 0
 · clear hk
   go_enter Tryz.func16, Tryz.ntmps16
   go_wp2_with fail
   go_ret2
   exact ⟨rfl, rfl⟩
 · have c2 : (s.A.length : Int) ≤ k := by omega
   clear hk
   go_enter Tryz.func16, Tryz.ntmps16
   go_wp2_with fail
   go_ret2
   exact ⟨rfl, rfl⟩
set_option maxHeartbeats 4000000 in
theorem unafter_ok {j : Nat} {a : Af} (h : FS W t p s O w) (v : Inv s) (ha : s.A[j]? = some a) : Calls Tryz.prog 16 #[pS t, .int .i64 (j : Int)] w fun e w' => e = .returned (un2 (lkd s a.nd) 0) ∧ Hid (GS W t p { s with T := Tr.cut s.T a.nd } O w w') := by
 have hj := (List.getElem?_eq_some_iff.1 ha).1
 have b1 : ¬ (j : Int) < 0 := by omega
 have b2 : ¬ (s.A.length : Int) ≤ (j : Int) := by omega
 have b3 : (0 : Int) ≤ (j : Int) := by omega
 have b4 : (j : Int) < (s.A.length : Int) := by omega
 obtain ⟨q, cA, k4, hq, an, -⟩ := h.a4 ha
 have ht := h.tlt
 have hnd : a.nd < s.T.length := by
  have := (List.getElem?_eq_some_iff.1 (v.ak j a ha)).1
  rw [v.kl] at this; exact this
 have HC : Hid (∀ w', Below w.heap.size w w' → Calls Tryz.prog 53 #[.pointer (some ⟨t, 1, none⟩), .int .i64 (a.nd : Int)] w' fun e w4 => e = .returned (.bool (lkd s a.nd)) ∧ Hid (GS W t p { s with T := Tr.cut s.T a.nd } O w w4)) := fun w' hb => ((h.later hb).cutb a.nd hnd).mono fun e w4 hh => ⟨hh.1, GS.from hb hh.2⟩
 generalize lkd s a.nd = lb at *
 clear h v ha hj hnd
 go_enter Tryz.func16, Tryz.ntmps16
 go_wp2_with fail
 go_region_with (go_at_call 53; go_loud (refine (HC.out _ (by first | exact Below.refl _ _ | exact (Below.refl _ _).drew | exact below_drewN _ _)).mono ?_; rintro e w4 ⟨rfl, h4⟩))
 all_goals
  go_wp2_with fail
  go_ret2
  exact ⟨rfl, h4⟩
def s00 (E : List On) (n : Nat) (S : List It) : St := ⟨[], [], [], [], E, n, S⟩
def bg : Cx := nw nxW 0
def s0 (E : List On) (n : Nat) (S : List It) : St := ⟨[(-1, false)], [⟨false, 0⟩], [bg], [], E, n, S⟩
def nwb (p : Option Nat) : Obj := .cells #[.pointer (cp p), .slice none 0 0, .slice none 0 0, .slice none 0 0, .slice none 0 0] 125
theorem FS.new {E : List On} {S : List It} (m : TMs W p E n S w) (hb : Below W.heap.size W w) : FS W w.heap.size p (s00 E n S) (fun k => k = w.heap.size) (w.alloc (nwb p)) := by
 have hn := heap_alloc_new w (nwb p)
 have hb1 : Below W.heap.size W (w.alloc (nwb p)) := hb.trans ((below_al w _).mono hb.size)
 refine ⟨⟨fun k => k = w.heap.size, fun _ _ => False, ⟨none, 0, none, 0, none, 0⟩, ⟨hb1, ⟨WF.nil, Nat.zero_le _, none, 0, [], ⟨hn, World.ownsRow_nil _ _ _ _, fun i d h => (by simp at h), fun i j d e h => (by simp at h), Nat.zero_le _, rfl, fun k h => (by cases h), fun i d k h => (by simp at h)⟩, rfl, fun i d h => (by simp at h)⟩, World.ownsRow_nil _ _ _ _, World.ownsRow_nil _ _ _ _, World.ownsRow_nil _ _ _ _, fun k h => (by cases h), fun k h => (by cases h), fun k h => (by cases h), fun i x c h => (by simp [s00] at h), fun k hk => ⟨(by subst hk; exact hb.size), (by subst hk; exact ⟨_, _, _, hn, .inl rfl⟩)⟩, fun i k h => h.elim, fun i j k h => h.elim, fun i k h => id⟩, fun k => ?_⟩, m.tm hb1 fun j hj _ => Below.heap_alloc _ _ j hj⟩
 constructor
 · exact fun h => .inl h
 · rintro (h | h | h | h | ⟨i, h⟩)
   · exact h
   · cases h
   · cases h
   · cases h
   · exact h.elim
theorem Inv.s0 {E : List On} {S : List It} (h1 : E.length ≤ 1) (h2 : S.length ≤ E.length) (h3 : n ≤ E.length) (h4 : ∀ z ∈ S, 0 ≤ z.id) : Inv (s0 E n S) := by
 refine ⟨WF.push WF.nil (by omega) (by simp) (by simp), rfl, rfl, by show (1 : Nat) ≤ 64; omega, by show (0 : Nat) ≤ 64; omega, h1, h2, h3, h4, ?_, ?_, ?_, ?_, ?_, ?_⟩
 · intro k i h
   match k, h with
   | 0, h => simp [YtdpapnfjpefhkaaGreat.s0] at h; subst h; exact ⟨bg, rfl, rfl⟩
   | k + 1, h => simp [YtdpapnfjpefhkaaGreat.s0] at h
 · intro k i h
   match k, h with
   | 0, h => simp [YtdpapnfjpefhkaaGreat.s0] at h
   | k + 1, h => simp [YtdpapnfjpefhkaaGreat.s0] at h
 · intro i x h
   match i, h with
   | 0, h => simp [YtdpapnfjpefhkaaGreat.s0] at h; subst h; rfl
   | i + 1, h => simp [YtdpapnfjpefhkaaGreat.s0] at h
 · intro i a h; simp [YtdpapnfjpefhkaaGreat.s0] at h
 · intro i x q h hq
   match i, h with
   | 0, h => simp [YtdpapnfjpefhkaaGreat.s0] at h; subst h; simp [YtdpapnfjpefhkaaGreat.s0, bg, nw] at hq
   | i + 1, h => simp [YtdpapnfjpefhkaaGreat.s0] at h
 · intro i x h
   match i, h with
   | 0, h => simp [YtdpapnfjpefhkaaGreat.s0] at h; subst h; exact ⟨rfl, fun _ => rfl, by simp [bg, nw, nxW]⟩
   | i + 1, h => simp [YtdpapnfjpefhkaaGreat.s0] at h
theorem new_ctx {E : List On} {S : List It} (m : TMs W p E n S w) (hb : Below W.heap.size W w) : Calls Tryz.prog 19 #[.pointer (cp p)] w fun e w' => e = .returned (pS w.heap.size) ∧ Hid (GS W w.heap.size p (s0 E n S) (fun _ => False) w w') := by
 have f := FS.new m hb
 have HA : Hid (Calls Tryz.prog 44 #[pS w.heap.size, .int .i64 (-1), .bool false, cG nxW] (w.alloc (nwb p)) fun e w' => e = .returned (.int .i64 0) ∧ Hid (GS W w.heap.size p (s0 E n S) (fun _ => False) w w')) := by
  obtain ⟨⟨F, G, o, y, eo⟩, mm⟩ := f
  refine (cadd_any (x := nxW) (T' := [] ++ [(-1, false)]) (K' := [] ++ [⟨false, ([] : List Cx).length⟩]) y eo (NC.none rfl) (by show (0 : Nat) ≤ 1000; omega) fun w2 b2 => ?_).mono fun e w' a => ?_
  · exact (hang_root ⟨false, 0⟩ (y.later b2) eo (by show (0 : Nat) < 1000; omega) (by show (0 : Nat) ≤ 1000; omega)).mono fun e w' h => ⟨h.1, h.2.1⟩
  · obtain ⟨h1, O', h2, h3, h4⟩ := AdR.gs (s := s00 E n S) (ab := -1) (l := false) ⟨⟨F, G, o, y, eo⟩, mm⟩ (Below.refl _ _) (fun k hk => hk.elim) a
    refine ⟨h1, O', h2, fun k hk => ?_, (Fm.of_below (below_al w _)).comp h4 fun k hk => .inr (by rw [hk]; exact Nat.le_refl _)⟩
    rcases h3 k hk with h5 | h5
    · exact .inr (by rw [h5]; exact Nat.le_refl _)
    · exact .inr (by simp at h5; omega)
 unfold cG nxW nwb at HA
 simp only [Option.map_none] at HA
 clear m hb f
 go_enter Tryz.func19, Tryz.ntmps19
 go_wp2_with fail
 refine HA.out.mono ?_
 rintro e w' ⟨rfl, h⟩
 go_wp2_with fail
 go_ret
 exact ⟨rfl, h⟩
end
end Go.Proofs.YtdpapnfjpefhkaaGreat
namespace Go.Proofs.YtdpapnfjpefhkaaGreat
open Go.RowKit Tr
set_option linter.unusedVariables false
set_option maxRecDepth 100000
section
variable {W w w' w'' wx w1 w2 : World} {t i n c : Nat} {p : Option Nat} {O : Nat → Prop} {s s' : St} {x y : Cx} {er cs : Int} {l : List Lap} {m : List Mp}
def mkC (s : St) (x y : Cx) : St := if y.er = 0 then addS s x (y.nd : Int) true else addD s x (y.nd : Int) y.er y.cs
def mkL (s : St) (y : Cx) : List Lap := if y.er = 0 then [] else [(s.C.length, [])]
theorem GS.at (g : GS W t p s O w w') : ∃ O', FS W t p s O' w' ∧ (∀ k, O' k → O k ∨ w.heap.size ≤ k) ∧ Fm O w w' := g
theorem addS_at {ab : Int} {l : Bool} (hy : s.C[i]? = some y) : (addS s x ab l).C[i]? = some y := by
 show (s.C ++ _)[i]? = _
 rw [List.getElem?_append_left (List.getElem?_eq_some_iff.1 hy).1]; exact hy
theorem addS_new {ab : Int} {l : Bool} : (addS s x ab l).C[s.C.length]? = some (nw x s.T.length) := by show (s.C ++ _)[_]? = _; simp
theorem follow_new (h : FS W t p (addS s x (y.nd : Int) true) O w) (v : Inv s) (hC : s.C.length < 64) (hy : s.C[i]? = some y) (hx : x.er = 0 ∧ x.cl = false ∧ x.rs = []) (hc : ∃ c, x.ch = some c) :
  Calls Tryz.prog 46 #[pS t, .int .i64 (s.C.length : Int), .int .i64 (i : Int)] w (FoR W t p (mkC s x y) O y.er y.cs (mkL s y) w) := by
 unfold mkC mkL
 by_cases he : y.er = 0
 · rw [if_pos he, if_pos he]
   exact follow_no h (addS_at hy) he _
 · rw [if_neg he, if_neg he]
   have v2 := v.add hy hC true hx fun _ => hc
   refine follow_go h (addS_at hy) he _ (m := []) fun w1 b => ?_
   have := cancel_go (er := y.er) (cs := y.cs) (h.later b) addS_new hx.1 (v2.ndlt addS_new) (v2.good addS_new hc hx.1) (by have := v2.el; have := v2.cl; omega) (by have := v2.sl; have := v2.el; have := v2.cl; omega) (by have := v2.cl; omega) (by have := v2.al; omega) (by have := v2.kl; have := v2.tl; have := v2.cl; have := v2.al; omega)
   rw [fold_new v x _ ⟨hx.2.2, hx.2.1⟩] at this
   exact this
def MkR (W : World) (t : Nat) (p : Option Nat) (s' : Nat → St) (O : Nat → Prop) (n : Nat) (er cs : Int) (l : List Lap) (w : World) (e : Ending) (w' : World) : Prop :=
 ∃ P1 n1 c1 c, Hid (n1 = l.length) ∧ e = .returned (.tuple #[.int .i64 (n : Int), .slice P1 n1 c1, .int .i64 0]) ∧ Hid (GS W t p (s' c) O w w') ∧ Hid (LR w.heap.size w' P1 c1 er cs l)
theorem rfs_ok (hi : i < s.C.length) (hC : s.C.length < 64) : rfs s i = 0 := by
 unfold rfs; rw [if_neg (by omega), if_neg (by omega)]
theorem rfs_none {k : Int} (hk : k < 0 ∨ (s.C.length : Int) ≤ k) : rfs s k = 4 := by unfold rfs; rw [if_pos hk]
theorem rfs_full (hi : i < s.C.length) (hC : s.C.length = 64) : rfs s i = 3 := by
 unfold rfs; rw [if_neg (by omega), if_pos hC]
set_option maxHeartbeats 8000000 in
theorem cancels_ok (h : FS W t p s O w) (v : Inv s) (hy : s.C[i]? = some y) (hC : s.C.length < 64) : Calls Tryz.prog 8 #[pS t, .int .i64 (i : Int)] w (MkR W t p (fun c => mkC s (nx0 c y.wh y.has false) y) O s.C.length y.er y.cs (mkL s y) w) := by
 have hi := (List.getElem?_eq_some_iff.1 hy).1
 have b1 : (i : Int) < (s.C.length : Int) := by omega
 have b2 : (0 : Int) ≤ (i : Int) := by omega
 have HR := Lib.hid (refusal_any (i : Int) h)
 rw [rfs_ok hi hC] at HR
 obtain ⟨PC, cC, h3, hr⟩ := h.c3
 obtain ⟨q, rfl, hq, x0, x1, x2, x3, x4, x5, x6, x7⟩ := hr i y hy
 have ht := h.tlt
 have HSG : Hid (∀ w', Below (w.alloc (.cells #[.int .i64 y.nd, .pointer (cp y.ch), .int .i64 y.er, .int .i64 y.cs, .int .i64 y.wh, .bool y.has, .bool y.own, .int .i64 y.lp] 117)).heap.size (w.alloc (.cells #[.int .i64 y.nd, .pointer (cp y.ch), .int .i64 y.er, .int .i64 y.cs, .int .i64 y.wh, .bool y.has, .bool y.own, .int .i64 y.lp] 117)) w' → Calls Tryz.prog 45 #[] w' fun e w4 => ∃ c, e = .returned (.pointer (some ⟨c, 0, none⟩)) ∧ Hid (Below (w.alloc (.cells #[.int .i64 y.nd, .pointer (cp y.ch), .int .i64 y.er, .int .i64 y.cs, .int .i64 y.wh, .bool y.has, .bool y.own, .int .i64 y.lp] 117)).heap.size (w.alloc (.cells #[.int .i64 y.nd, .pointer (cp y.ch), .int .i64 y.er, .int .i64 y.cs, .int .i64 y.wh, .bool y.has, .bool y.own, .int .i64 y.lp] 117)) w4 ∧ ∀ w4', Below w4.heap.size w4 w4' → Calls Tryz.prog 44 #[pS t, .int .i64 (i : Int), .bool true, cG (nx0 c y.wh y.has false)] w4' fun e w5 => e = .returned (.int .i64 (s.C.length : Int)) ∧ Hid ((w5.cell? ⟨w.heap.size, 4, none⟩ = some (.int .i64 y.wh) ∧ w5.cell? ⟨w.heap.size, 5, none⟩ = some (.bool y.has)) ∧ Calls Tryz.prog 46 #[pS t, .int .i64 (s.C.length : Int), .int .i64 (i : Int)] w5 (FoR W t p (mkC s (nx0 c y.wh y.has false) y) O y.er y.cs (mkL s y) w)))) := by
  intro w' hb
  have hw' : Below w.heap.size w w' := (below_al w _).trans (hb.mono (by simp))
  have f' := h.later hw'
  refine (Ch.signal_any w').mono ?_
  rintro e w4 ⟨c, rfl, mk⟩
  have hb4 := hb.trans (mk.bel.mono hb.size)
  refine ⟨c, rfl, hb4, fun w4' hb' => ?_⟩
  obtain ⟨Gc, nc, hg⟩ := NC.of_mk f' y.wh y.has false mk
  have nc' : NC W O Gc w4' (nx0 c y.wh y.has false) := nc.keep fun k hk => hb'.block k (nc.lt hk)
  refine (f'.add v hy (mk.bel.trans (hb'.mono mk.bel.size)) nc' hg true).mono ?_
  rintro e w5 ⟨rfl, gs⟩
  obtain ⟨O5, f5, hs5, fm5⟩ := gs
  have hbx : w5.heap[w.heap.size]? = some (.cells #[.int .i64 y.nd, .pointer (cp y.ch), .int .i64 y.er, .int .i64 y.cs, .int .i64 y.wh, .bool y.has, .bool y.own, .int .i64 y.lp] 117) := by
   refine fm5.2 _ _ _ (0, 0) ?_ (by decide) (fun hO => by have := h.lt hO; omega)
   exact (hb.block _ (by simp)).trans (heap_alloc_new w _)
  refine ⟨rfl, ⟨by rw [cell_of_row w5 w.heap.size 4 _ _ _ hbx]; rfl, by rw [cell_of_row w5 w.heap.size 5 _ _ _ hbx]; rfl⟩, ?_⟩
  refine (follow_new f5 v hC hy ⟨rfl, rfl, rfl⟩ ⟨c, rfl⟩).mono ?_
  rintro e w6 ⟨P1, n1, c1, h1, h2, h3, h4⟩
  exact ⟨P1, n1, c1, h1, h2, GS.from hw' (GS.comp hs5 fm5 h3.out), h4.out.low (Nat.le_trans hw'.size fm5.1)⟩
 have KP : Hid (∀ w', Below (w.alloc (.cells #[.int .i64 y.nd, .pointer (cp y.ch), .int .i64 y.er, .int .i64 y.cs, .int .i64 y.wh, .bool y.has, .bool y.own, .int .i64 y.lp] 117)).heap.size (w.alloc (.cells #[.int .i64 y.nd, .pointer (cp y.ch), .int .i64 y.er, .int .i64 y.cs, .int .i64 y.wh, .bool y.has, .bool y.own, .int .i64 y.lp] 117)) w' → w'.cell? ⟨w.heap.size, 4, none⟩ = some (.int .i64 y.wh) ∧ w'.cell? ⟨w.heap.size, 5, none⟩ = some (.bool y.has)) := fun w' hb => by
  have hbx := (hb.block w.heap.size (by simp)).trans (heap_alloc_new w (.cells #[.int .i64 y.nd, .pointer (cp y.ch), .int .i64 y.er, .int .i64 y.cs, .int .i64 y.wh, .bool y.has, .bool y.own, .int .i64 y.lp] 117))
  exact ⟨by rw [cell_of_row w' w.heap.size 4 _ _ _ hbx]; rfl, by rw [cell_of_row w' w.heap.size 5 _ _ _ hbx]; rfl⟩
 clear hr hy h hC hi v
 go_enter Tryz.func8, Tryz.ntmps8
 go_wp2_with fail
 refine HR.out.mono ?_
 rintro e w' ⟨rfl, rfl⟩
 clear HR
 go_wp2_with fail
 generalize w.alloc (.cells #[.int .i64 y.nd, .pointer (cp y.ch), .int .i64 y.er, .int .i64 y.cs, .int .i64 y.wh, .bool y.has, .bool y.own, .int .i64 y.lp] 117) = w2 at *
 generalize w.heap.size = b at *
 refine but_start 1000 (fun w' => w'.cell? ⟨b, 4, none⟩ = some (.int .i64 y.wh) ∧ w'.cell? ⟨b, 5, none⟩ = some (.bool y.has)) (by kernel_rfl) ?_
 have hHeld := KP.out w2.drew (Below.refl _ _).drew
 change AnyBut _ _ _ _ _ _ 10 _ _ _
 refine tkT 0 rfl hHeld ?_
 refine tkT 1 rfl hHeld ?_
 refine tkT 3 rfl hHeld ?_
 refine tkT 4 rfl hHeld ?_
 refine tkT 5 rfl hHeld ?_
 refine tkT 6 rfl hHeld ?_
 try simp only [l1, l2, l3, Act.put, l4, l5, l6]
 refine but_one (i := 2) (by kernel_rfl) rfl ?_
 intro K hK
 go_simp
 go_at_call 45
 refine (HSG.out _ (by first | exact Below.refl _ _ | exact (Below.refl _ _).drew | (repeat' (first | exact Below.refl _ _ | (with_reducible assumption) | refine Below.drew ?_ | refine Below.alloc ?_ (by first | omega | (simp <;> omega)) _)))).mono ?_
 rintro e w4 ⟨c, rfl, h4⟩
 have b4 := h4.out.1
 have hHeld2 := KP.out w4 b4
 refine hK _ _ (fun _ => hHeld2) ?_
 clear hK K hHeld
 have hHeld := hHeld2
 clear hHeld2
 refine tkT 7 rfl hHeld ?_
 try simp only [l1, l2, l3, Act.put, l4, l5, l6]
 refine but_one (i := 8) (by kernel_rfl) rfl ?_
 intro K hK
 go_simp
 go_at_call 44
 refine (h4.out.2 _ (by first | exact Below.refl _ _ | exact (Below.refl _ _).drew | (repeat' (first | exact Below.refl _ _ | (with_reducible assumption) | refine Below.drew ?_ | refine Below.alloc ?_ (by first | omega | (simp <;> omega)) _)))).mono ?_
 rintro e w5 ⟨rfl, h5⟩
 have k5 := h5.out.1
 have hHeld2 := k5
 refine hK _ _ (fun _ => hHeld2) ?_
 clear hK K hHeld
 have hHeld := hHeld2
 clear hHeld2
 refine tkT 9 rfl hHeld ?_
 try simp only [l1, l2, l3, Act.put, l4, l5, l6]
 refine but_done (by kernel_rfl) ?_
 try clear hHeld
 clear x0 x1 x2 x3 x4 x5 x6 x7 h3 KP HSG k5 b4
 go_wp2_with fail
 refine h5.out.2.mono ?_
 rintro e w6 ⟨P1, n1, c1, h1, rfl, h6, h7⟩
 go_wp2_with fail
 go_ret3
 exact ⟨P1, n1, c1, c, h1, rfl, h6, h7⟩
theorem cancels_no (h : FS W t p s O w) {k r : Int} (hr : rfs s k = r) (h0 : r ≠ 0) : Calls Tryz.prog 8 #[pS t, .int .i64 k] w fun e w' => e = .returned (.tuple #[.int .i64 0, .slice none 0 0, .int .i64 r]) ∧ w = w' := by
 have HR := Lib.hid (refusal_any k h)
 rw [hr] at HR
 have b1 : (r != 0) = true := bne_iff_ne.2 h0
 clear h hr h0
 go_enter Tryz.func8, Tryz.ntmps8
 go_wp2_with fail
 refine HR.out.mono ?_
 rintro e w' ⟨rfl, rfl⟩
 go_wp2_with fail
 go_ret3
 exact ⟨rfl, rfl⟩
theorem cancels_nil (k : Int) (w : World) : Calls Tryz.prog 8 #[.pointer none, .int .i64 k] w fun e w' => e = .returned (.tuple #[.int .i64 0, .slice none 0 0, .int .i64 4]) ∧ w = w' := by
 go_enter Tryz.func8, Tryz.ntmps8
 go_wp2_with fail
 refine (refusal_nil k w).mono ?_
 rintro e w' ⟨rfl, rfl⟩
 go_wp2_with fail
 go_ret3
 exact ⟨rfl, rfl⟩
theorem without_ok (h : FS W t p s O w) (v : Inv s) (hy : s.C[i]? = some y) (hC : s.C.length < 64) : Calls Tryz.prog 10 #[pS t, .int .i64 (i : Int)] w fun e w' => e = .returned (.tuple #[.int .i64 (s.C.length : Int), .int .i64 0]) ∧ Hid (GS W t p (addS s nxW (y.nd : Int) false) O w w') := by
 have hi := (List.getElem?_eq_some_iff.1 hy).1
 have HR := Lib.hid (refusal_any (i : Int) h)
 rw [rfs_ok hi hC] at HR
 have HA := Lib.hid (h.add v hy (Below.refl _ _) (x := nxW) (NC.none rfl) (fun k hk => hk.elim) false)
 clear h v hy hC hi
 unfold cG nxW at HA
 simp only [Option.map_none] at HA
 go_enter Tryz.func10, Tryz.ntmps10
 go_wp2_with fail
 refine HR.out.mono ?_
 rintro e w' ⟨rfl, rfl⟩
 go_wp2_with fail
 refine HA.out.mono ?_
 rintro e w' ⟨rfl, g⟩
 have HG := Lib.hid g
 clear g HA
 go_wp2_with fail
 go_ret2
 exact ⟨rfl, HG.out⟩
theorem without_no (h : FS W t p s O w) {k r : Int} (hr : rfs s k = r) (h0 : r ≠ 0) : Calls Tryz.prog 10 #[pS t, .int .i64 k] w fun e w' => e = .returned (.tuple #[.int .i64 0, .int .i64 r]) ∧ w = w' := by
 have HR := Lib.hid (refusal_any k h)
 rw [hr] at HR
 have b1 : (r != 0) = true := bne_iff_ne.2 h0
 clear h hr h0
 go_enter Tryz.func10, Tryz.ntmps10
 go_wp2_with fail
 refine HR.out.mono ?_
 rintro e w' ⟨rfl, rfl⟩
 go_wp2_with fail
 go_ret2
 exact ⟨rfl, rfl⟩
end
end Go.Proofs.YtdpapnfjpefhkaaGreat
