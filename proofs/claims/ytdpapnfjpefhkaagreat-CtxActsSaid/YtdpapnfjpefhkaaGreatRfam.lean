/- fall of the document's contexts: what falls, kid by kid. Conditions: each theorem's own premises.
Appends to the rows of the document's contexts. No condition but those that each names.
add of the document's contexts: one comes to the tree, the nodes and the contexts. Conditions: each theorem's own premises. -/
import Derived.Test.YtdpapnfjpefhkaaGreatRctm
import Derived.Test.YtdpapnfjpefhkaaGreatCdlm
namespace Go.Proofs.YtdpapnfjpefhkaaGreat
open Go.RowKit Tr
set_option linter.unusedVariables false
set_option maxRecDepth 100000
theorem infRL : (Tryz.prog.info? 160).map (fun i => (i.zero, i.size, i.bytes)) = some (some (.agg #[.int .i64 0, .int .i64 0, .int .i64 0, .slice none 0 0]), 4, 48) := by kernel_rfl
theorem infRM : (Tryz.prog.info? 164).map (fun i => (i.zero, i.size, i.bytes)) = some (some (.agg #[.int .i64 0, .int .i64 0]), 2, 16) := by kernel_rfl
section
variable {W w w' w1 wx : World} {m mo B g cap c1 c2 n1 n2 k i j : Nat} {O : Nat → Prop} {s s' : St} {N N' : List Nd} {er cs : Int} {l : List Lap} {st : List Mp} {P1 P2 : Option Addr} {pn : Option Addr × Option Addr × Option Addr} {o : Lr} {x : Cx} {a : Af}
theorem mdet_any {V : Nat → Value} {c : Nat} {Q : Option Addr} {S : TS} (h : Tr.MX V w m Q c S) (k : Nat) (hk : k < S.length) : Calls Tryz.prog 63 #[.pointer (some ⟨m, 1, none⟩), .int .i64 (k : Int)] w fun e w' => (∃ b, e = .returned (.bool b)) ∧ Tr.MGo V m Q (Tr.cut S k) w w' := by
 obtain ⟨⟨q, l⟩, hs⟩ : ∃ y, S[k]? = some y := ⟨_, List.getElem?_eq_getElem hk⟩
 cases l with
 | true =>
  refine (Tr.mdet_yes h k hs).mono ?_
  rintro e w' ⟨rfl, g⟩
  exact ⟨⟨_, rfl⟩, g.out⟩
 | false =>
  have e : Tr.cut S k = S := by
   rw [Tr.cut_some hs]
   apply List.ext_getElem?
   intro j
   rw [List.getElem?_set]
   by_cases c : k = j
   · subst c; rw [if_pos rfl, if_pos hk, hs]
   · rw [if_neg c]
  rw [e]
  refine (Tr.mdet_off h k hs).mono ?_
  rintro e w' ⟨rfl, rfl⟩
  exact ⟨⟨_, rfl⟩, Q, c, h, Tn.refl _ _, fun k hk => .inl hk⟩
theorem FL.det (h : FL W m mo B pn w1 O s N er cs l P1 c1 st P2 c2 w) (k : Nat) (hk : k < s.T.length) : Calls Tryz.prog 63 #[.pointer (some ⟨m, 1, none⟩), .int .i64 (k : Int)] w fun e w' => (∃ b, e = .returned (.bool b)) ∧ Hid (FL W m mo B pn w1 O (ctT s k) N er cs l P1 c1 st P2 c2 w') := by
 obtain ⟨o, hr, hp, hO⟩ := h.rm
 refine (mdet_any hr.tr k hk).mono ?_
 rintro e w' ⟨hb, g⟩
 obtain ⟨o', r1, r2, r3, r4, r5, r6⟩ := hr.tree g
 exact ⟨hb, h.own (s' := ctT s k) (N' := N) hr hO r1 (by rw [r4, r5, r6]; exact hp) r2 (RS.tn h.tm (fun k hk => hr.tag hk) r3) (Rm.of_tn r3)⟩
set_option maxHeartbeats 16000000 in
theorem fall_after {q : Int} (hz : s.K[k]? = some ⟨true, j⟩) (ha : s.A[j]? = some a) (hnd : a.nd = k) (hT : s.T[k]? = some (q, true)) (hr : RM W m mo s.T N s.C s.A o w) (hn : NR s.T s.C s.A N) (ck : ∀ (i : Nat) (x : Cx), s.C[i]? = some x → s.K[x.nd]? = some ⟨false, i⟩) (ak : ∀ (i : Nat) (a : Af), s.A[i]? = some a → s.K[a.nd]? = some ⟨true, i⟩)
  (ht : RS W mo s.E 0 s.n s.S z0 w) (lr : LRt 160 B w P1 c1 er cs l) (sr : SRt 164 B w P2 c2 st) (hb : W.heap.size ≤ B ∧ B ≤ w.heap.size) (h1 : n1 = l.length) (h2 : n2 = st.length) (hst : st.length ≤ 100000) :
  Calls Tryz.prog 58 #[pM' m, .int .i64 (k : Int), .int .i64 er, .int .i64 cs, .slice P1 n1 c1, .slice P2 n2 c2] w (FaP W m mo B (o.PN, o.PX, o.PY) w (oR m o s.C) (ctT s k) er cs l (st ++ [⟨j, a.pg⟩])) := by
 obtain ⟨q', l', hT', hN⟩ := hn.a j a ha
 rw [hnd, hT] at hT'
 obtain ⟨rfl, rfl⟩ : q = q' ∧ l' = true := by simpa using hT'
 rw [hnd] at hN
 have HNR := Lib.hid (hn.cutA ck ak ha (by rw [hnd]; exact hT))
 rw [hnd] at HNR
 have hkN := (List.getElem?_eq_some_iff.1 hN).1
 have hkT : k < s.T.length := by rw [← hn.len]; exact hkN
 obtain ⟨q9, hP, hq9, hc, hf⟩ := hr.nd hN
 have d0 := hc 0 (by decide)
 have d3 := hc 3 (by decide)
 have f3 := hf (k * 12 + 3)
 simp only [nE, ndA, List.getElem?_cons_succ, List.getElem?_cons_zero, Nat.add_zero, Bool.not_true] at d0 d3
 obtain ⟨⟨-, -, t2, -, -⟩, -⟩ := hr.top
 rw [hP] at t2
 obtain ⟨r1, r2⟩ := hr.node (j := 3) (u := .bool true) (n' := ndA j a.pg false) hN hP (by decide) rfl
 obtain ⟨q8, hP8, -, hc8, -⟩ := r1.nd (k := k) (n := ndA j a.pg false) (by rw [List.getElem?_set_self hkN])
 rw [hP] at hP8; injection hP8 with hP8; injection hP8 with hP8; subst hP8
 have e1 := hc8 1 (by decide)
 have e2 := hc8 2 (by decide)
 simp only [nE, ndA, List.getElem?_cons_succ, List.getElem?_cons_zero] at e1 e2
 have HF : Hid (FL W m mo B (o.PN, o.PX, o.PY) w (oR m o s.C) s (N.set k (ndA j a.pg false)) er cs l P1 c1 st P2 c2 (w.setCell ⟨q9, k * 12 + 3, none⟩ (.bool true))) := (FL.start hr ht lr sr hb).own hr (fun k hk => .inl hk) r1 rfl (fun k hk => .inl hk) (RS.tn ht (fun k hk => hr.tag hk) r2) (Rm.of_tn r2)
 have b3 : (k : Int) < (N.length : Int) := by omega
 have b4 : (0 : Int) ≤ (k : Int) := by omega
 have b5 : n2 ≤ 100000 := by omega
 have H1 := Lib.hid h1
 have H2 := Lib.hid h2
 have hBs : B ≤ w.heap.size := hb.2
 obtain ⟨iM, hiM, yz0, yz1, yz2⟩ := info_parts infRM
 clear hz ha hT hT' hr hn ck ak ht lr sr hb h1 h2 hst hN hP hc hf r1 r2 hc8 hnd
 generalize N.length = ln at *
 go_enter Tryz.func58, Tryz.ntmps58
 go_wp2_with fail
 have hs2 : w.heap.size ≤ (w.setCell ⟨q9, k * 12 + 3, none⟩ (.bool true)).heap.size := by rw [size_set]; exact Nat.le_refl _
 generalize w.setCell ⟨q9, k * 12 + 3, none⟩ (.bool true) = w2 at *
 have HMR : Hid (w2.ownsRow B 164 2 (.slice P2 n2 c2) n2 (st.flatMap mE)) := by
  have h9 := HF.out.sr
  unfold SRt at h9
  rw [← H2.out] at h9
  exact h9
 have HM : Hid (∀ {wx w5 : World} {g cap : Nat}, Below w2.heap.size w2 wx → wx.grownBy w5 (Value.slice P2 n2 c2).ownBlock → w5.ownsRow B 164 2 (.slice (some ⟨g, 0, none⟩) (n2 + 1) cap) (n2 + 1) (st.flatMap mE ++ mE ⟨j, a.pg⟩) → FL W m mo B (o.PN, o.PX, o.PY) w (oR m o s.C) s (N.set k (ndA j a.pg false)) er cs l P1 c1 (st ++ [⟨j, a.pg⟩]) (some ⟨g, 0, none⟩) cap w5) := by
  intro wx w5 g cap h1 h2 h3
  rw [H2.out] at h2 h3
  exact HF.out.addS h1 h2 h3
 clear HF d0 d3 f3 t2
 go_region_law (go_loud (refine step_append_lies _ (by rfl) _ _ _ (by rfl) B 164 iM (.agg #[.int .i64 0, .int .i64 0]) 2 16 Tryz.underlying78 hiM yz0 yz1 yz2 rfl (by omega) (.slice P2 n2 c2) n2 (st.flatMap mE) (by rfl) (row_later HMR.out (below_one rfl rfl rfl rfl)) ⟨w2.heap.size, 0, none⟩ 1 1 (mE ⟨j, a.pg⟩) (by rfl) (by rfl) (World.news_of_block (cs := #[.int .i64 (j : Int), .int .i64 a.pg]) (t := 164) (fr := (0, 0)) (news_one (w := w2) (by rfl))) (mE_one _) (by omega) (by unfold maxLen; omega) (by omega) (by first | omega | (simp; done) | (simp; omega)) (w2.heap.size + 1) (by simp) ?_; intro g5 cap5 w5 hown hgrow hat hlt5; have HE := Lib.hid (HM.out (by exact below_one rfl rfl rfl rfl) hgrow hown); clear hown hgrow hat hlt5))
 all_goals
  have HD := Lib.hid (HE.out.det k hkT)
  go_wp2_with fail
  refine HD.out.mono ?_
  rintro e w6 ⟨⟨b, rfl⟩, HF6⟩
  go_wp2_with fail
  go_ret2
  exact ⟨P1, n1, c1, some ⟨g5, 0, none⟩, n2 + 1, cap5, _, ⟨H1.out, by rw [H2.out]; simp⟩, rfl, HF6.out, HNR.out⟩
theorem lt_of_cell {p : Addr} {v : Value} (h : w.cell? p = some v) : p.block < w.heap.size := World.block_lt_of_cell? _ _ h
theorem node_grown {wx w5 : World} {b n c : Nat} {P : Option Addr} {xs : List Value} (r : w.ownsRow B 160 4 (.slice P n c) n xs) (hb : Tg (· = 155) w b) (hx : Below w.heap.size w wx) (hg : wx.grownBy w5 (Value.slice P n c).ownBlock) (j : Nat) : w5.cell? ⟨b, j, none⟩ = w.cell? ⟨b, j, none⟩ := by
 have tn : Tn (fun k => blk P = some k) w w5 := Tn.grown hx (by rw [own_blk] at hg; exact hg)
 exact cell_blk (tn.block b hb.lt fun e => hb.two (tag_row r e) fun ty a b => by subst a; exact absurd b (by decide)) j
theorem rx_cell {w5 w6 w' : World} {b j : Nat} {ty : TypeId} {v : Value} (g : Go.Proofs.YtdpapnfjpefhkaaGreat.RX w6 w') (t : Tg (· = ty) w6 b) (ht : ty ≠ 68 ∧ ty ≠ 215 ∧ ty ≠ 178) (e : w5.cell? ⟨b, j, none⟩ = some v) (hb : Below w5.heap.size w5 w6) : w'.cell? ⟨b, j, none⟩ = some v := by
 obtain ⟨cs, ty', fr, e1, rfl⟩ := t
 have e2 : w'.heap[b]? = w6.heap[b]? := (g.at e1 ht).trans e1.symm
 exact (cell_blk (e2.trans (hb.block b (lt_of_cell (p := ⟨b, j, none⟩) e))) j).trans e
theorem rstop_any' {E : List On} {n : Nat} {S : List It} (h : RS W mo E 0 n S z0 w) (ok : Ok n S) (sl : S.length ≤ 999) (sp : ∀ z ∈ S, 0 ≤ z.id ∧ z.id < (E.length : Int)) (en : ∀ x ∈ E, x.ch = none ∧ x.kd = 4) (a : Int) : Calls Tryz.prog 84 #[.pointer (some ⟨mo, 0, none⟩), .int .i64 a] w fun e w' => (∃ b : Bool, ∃ r : Int, e = .returned (.tuple #[.bool b, .int .i64 r])) ∧ RS W mo E 0 n (del a S) z0 w' ∧ Go.Proofs.YtdpapnfjpefhkaaGreat.RX w w' ∧ Below W.heap.size w w' := by
 by_cases h1 : a < 0 ∨ (E.length : Int) ≤ a
 · rw [del_out sp h1]
   have F := rin_no h h1
   have HA := Lib.hid h
   clear h h1
   go_enter Tryz.func84, Tryz.ntmps84
   go_wp2_with fail
   refine F.mono ?_
   rintro e w1 ⟨rfl, rfl⟩
   go_wp2_with fail
   go_ret2
   exact ⟨⟨false, 4, rfl⟩, HA.out, RX.refl _, Below.refl _ _⟩
 · obtain ⟨i, rfl⟩ := Int.eq_ofNat_of_zero_le (show 0 ≤ a by omega)
   obtain ⟨y, hy⟩ : ∃ y, E[i]? = some y := ⟨_, List.getElem?_eq_getElem (by omega)⟩
   refine (rstop_nil h hy (en y (List.mem_of_getElem? hy)).1 ok (fun _ => rfl) (by omega)).mono ?_
   rintro e w' ⟨rfl, h2, h3, h4⟩
   rw [fput_z0] at h2
   exact ⟨⟨_, _, rfl⟩, h2, h3, h4⟩
theorem FL.end {c : Nat} (h : FL W m mo B pn w1 O s N er cs l P1 c1 st P2 c2 w) (hx : s.C[i]? = some x) (hc : x.ch = some c) (hcl : x.cl = false) (hrs : x.rs.length ≤ 1000) : Calls Tryz.prog 83 #[.pointer (some ⟨c, 0, none⟩)] w fun e w' => ∃ A n k, e = .returned (.slice A n k) ∧ n = (wks x).length ∧ Ch.RdK w' A n (wks x) ∧ FL W m mo B pn w1 O { s with C := s.C.set i (ended x er cs) } N er cs l P1 c1 st P2 c2 w' ∧ Tn (fun k => k = c) w w' ∧ Tg (· = 114) w c := by
 obtain ⟨o, hr, hp, hO⟩ := h.rm
 have hch := (hr.ch i x c hx hc).2
 refine (Ch.mEnd_go hch.2.2 rfl hcl (by show (0 : Nat) ≤ 1000; omega) hrs).mono ?_
 rintro e w' ⟨A, cap, rfl, hk, hmo⟩
 have hRH : RH w' c (chS (ended x er cs)) := RH.of_mo hmo rfl rfl
 obtain ⟨r1, r2, r3⟩ := hr.chan (y := ended x er cs) hx hc ⟨rfl, rfl⟩ (tn_ch hmo.2) hRH
 refine ⟨A, _, cap, rfl, rfl, hk, h.own (s' := { s with C := s.C.set i (ended x er cs) }) hr hO r1 hp (fun k hk => .inl ((r2 k).1 hk)) (RS.tn h.tm (fun k hk => hr.tag hk) r3) (Rm.of_tn r3), tn_ch hmo.2, hr.tc hx hc⟩
set_option maxHeartbeats 64000000 in
theorem fall_ctx {n c : Nat} (IH : FallP er cs W m mo B n) (hlt : s.T.length - k < n + 1) (hI : RI s) (hkT : k < s.T.length) (hg : ∀ j ∈ Tr.walk s.T k, GdR s j) (hz : s.K[k]? = some ⟨false, i⟩) (hx : s.C[i]? = some x) (hnd : x.nd = k) (hch : x.ch = some c) (her : x.er = 0) (hcl : x.cl = false) (hrs : x.rs.length ≤ 1000)
  (hr : RM W m mo s.T N s.C s.A o w) (hn : NR s.T s.C s.A N) (ht : RS W mo s.E 0 s.n s.S z0 w) (lr : LRt 160 B w P1 c1 er cs l) (sr : SRt 164 B w P2 c2 st) (hb : W.heap.size ≤ B ∧ B ≤ w.heap.size) (h1 : n1 = l.length) (h2 : n2 = st.length) (hl1 : l.length + (Tr.walk s.T k).length ≤ 100000) (hl2 : st.length + (Tr.walk s.T k).length ≤ 100000) :
  Calls Tryz.prog 58 #[pM' m, .int .i64 (k : Int), .int .i64 er, .int .i64 cs, .slice P1 n1 c1, .slice P2 n2 c2] w (FaP W m mo B (o.PN, o.PX, o.PY) w (oR m o s.C) (cfold er cs (Tr.walk s.T k) s).1 er cs (l ++ (cfold er cs (Tr.walk s.T k) s).2.1) (st ++ (cfold er cs (Tr.walk s.T k) s).2.2)) := by
 have hN := hn.c i x hx
 rw [hnd] at hN
 have hkN := (List.getElem?_eq_some_iff.1 hN).1
 have HNR := Lib.hid (hn.setC hI.ck hI.ak hx (y := ended x er cs) rfl)
 rw [hnd] at HNR
 obtain ⟨q9, hP, hq9, hc, hf⟩ := hr.nd hN
 have d0 := hc 0 (by decide)
 have d5 := hc 5 (by decide)
 have d4 := hc 4 (by decide)
 have d6 := hc 6 (by decide)
 have f5 := hf (k * 12 + 5)
 have f6 := hf (k * 12 + 6)
 simp only [nE, ndC, List.getElem?_cons_succ, List.getElem?_cons_zero, Nat.add_zero, her, hch, Option.isNone_some] at d0 d4 d5 d6
 obtain ⟨⟨-, -, t2, -, -⟩, -⟩ := hr.top
 rw [hP] at t2
 obtain ⟨r1, r2⟩ := hr.node (j := 5) (u := .int .i64 er) (n' := ndC i { x with er := er }) hN hP (by decide) rfl
 obtain ⟨r3, r4⟩ := r1.node (k := k) (j := 6) (u := .int .i64 cs) (n := ndC i { x with er := er }) (n' := ndC i (ended x er cs)) (by rw [List.getElem?_set_self hkN]) hP (by decide) rfl
 rw [List.set_set] at r3
 obtain ⟨q8, hP8, hq8, hc8, -⟩ := r3.nd (k := k) (n := ndC i (ended x er cs)) (by rw [List.getElem?_set_self hkN])
 rw [hP] at hP8; injection hP8 with hP8; injection hP8 with hP8; subst hP8
 have e1 := hc8 1 (by decide)
 have e11 := hc8 11 (by decide)
 simp only [nE, ndC, ended, List.getElem?_cons_succ, List.getElem?_cons_zero, hch] at e1 e11
 replace e11 : _ = some (Value.pointer (some ⟨c, 0, none⟩)) := e11
 have ht155 : Tg (· = 155) ((w.setCell ⟨q9, k * 12 + 5, none⟩ (.int .i64 er)).setCell ⟨q9, k * 12 + 6, none⟩ (.int .i64 cs)) q9 := r3.tn' (by rw [hP]; rfl)
 have HF : Hid (FL W m mo B (o.PN, o.PX, o.PY) w (oR m o s.C) s (N.set k (ndC i (ended x er cs))) er cs l P1 c1 st P2 c2 ((w.setCell ⟨q9, k * 12 + 5, none⟩ (.int .i64 er)).setCell ⟨q9, k * 12 + 6, none⟩ (.int .i64 cs))) := (FL.start hr ht lr sr hb).own hr (fun k hk => .inl hk) r3 rfl (fun k hk => .inl hk) (RS.tn ht (fun k hk => hr.tag hk) (r2.trans r4)) (Rm.of_tn (r2.trans r4))
 have b3 : (k : Int) < (N.length : Int) := by omega
 have b4 : (0 : Int) ≤ (k : Int) := by omega
 have hw0 : (Tr.walk s.T k).length ≠ 0 := by rw [walk_eq]; simp
 have b5 : n1 ≤ 99999 := by omega
 have H1 := Lib.hid h1
 have H2 := Lib.hid h2
 have HRI := Lib.hid hI
 have HG := Lib.hid hg
 have HX := Lib.hid (And.intro hz (And.intro hx (And.intro hnd (And.intro hch (And.intro hcl hrs)))))
 have hBs : B ≤ w.heap.size := hb.2
 have HLL := Lib.hid (And.intro hl1 hl2)
 have HIH := Lib.hid IH
 obtain ⟨iL, hiL, yz0, yz1, yz2⟩ := info_parts infRL
 have hPN : Hid ((o.PN, o.PX, o.PY).1 = some ⟨q9, 0, none⟩) := hP
 have HPX : Hid (∀ b, blk (o.PN, o.PX, o.PY).2.1 = some b ∨ blk (o.PN, o.PX, o.PY).2.2 = some b → b < w.heap.size) := fun b hb => hr.lt (hb.elim (fun h => .inr (.inr (.inr (.inl h)))) fun h => .inr (.inr (.inr (.inr (.inl h)))))
 have HNL : Hid (N[k]? = some (ndC i x)) := hN
 have hO' : Hid (∀ b, oR m o s.C b → b < w.heap.size) := fun b hb => hr.lt hb
 generalize oR m o s.C = O' at *
 generalize (o.PN, o.PX, o.PY) = pn at *
 clear hI hg hz hx hnd hcl hrs hr hn ht lr sr hb h1 h2 hl1 hl2 hN hP hc hf r1 r2 r3 r4 hc8 her IH hq8 hw0
 generalize N.length = ln at *
 go_enter Tryz.func58, Tryz.ntmps58
 go_wp2_with fail
 have hs2 : w.heap.size ≤ ((w.setCell ⟨q9, k * 12 + 5, none⟩ (.int .i64 er)).setCell ⟨q9, k * 12 + 6, none⟩ (.int .i64 cs)).heap.size := by rw [size_set, size_set]; exact Nat.le_refl _
 generalize (w.setCell ⟨q9, k * 12 + 5, none⟩ (.int .i64 er)).setCell ⟨q9, k * 12 + 6, none⟩ (.int .i64 cs) = w2 at *
 have HEN : Hid (∀ w3, Below w2.heap.size w2 w3 → Calls Tryz.prog 83 #[.pointer (some ⟨c, 0, none⟩)] w3 fun e w' => ∃ A n k9, e = .returned (.slice A n k9) ∧ Hid (n = (wks x).length ∧ Ch.RdK w' A n (wks x) ∧ FL W m mo B pn w O' { s with C := s.C.set i (ended x er cs) } (N.set k (ndC i (ended x er cs))) er cs l P1 c1 st P2 c2 w' ∧ w'.cell? ⟨q9, k * 12 + 1, none⟩ = some (.int .i64 (i : Int)) ∧ w'.cell? ⟨q9, k * 12 + 11, none⟩ = some (.pointer (some ⟨c, 0, none⟩)) ∧ w2.heap.size ≤ w'.heap.size ∧ Tg (· = 155) w' q9)) := by
  intro w3 hb3
  refine ((HF.out.later hb3).end HX.out.2.1 HX.out.2.2.2.1 HX.out.2.2.2.2.1 HX.out.2.2.2.2.2).mono ?_
  rintro e w' ⟨A, n, k9, rfl, g1, g2, g3, g4, g5⟩
  have tq : Tg (· = 155) w3 q9 := ht155.at (hb3.block _ ht155.lt)
  have hqc : w'.heap[q9]? = w3.heap[q9]? := g4.block q9 tq.lt (by rintro rfl; exact tq.two g5 (by rintro ty rfl; decide))
  have hq3 : w3.heap[q9]? = w2.heap[q9]? := hb3.block _ ht155.lt
  exact ⟨A, n, k9, rfl, g1, g2, g3, (cell_blk (hqc.trans hq3) _).trans e1, (cell_blk (hqc.trans hq3) _).trans e11, Nat.le_trans hb3.size g4.size, tq.at hqc⟩
 clear HF d0 d4 d5 d6 f5 f6 t2 ht155
 refine but_start 1000 (fun w' => w'.cell? ⟨q9, k * 12 + 1, none⟩ = some (.int .i64 (i : Int)) ∧ w'.cell? ⟨q9, k * 12 + 11, none⟩ = some (.pointer (some ⟨c, 0, none⟩))) (by kernel_rfl) ?_
 have hHeld := And.intro e1 e11
 change AnyBut _ _ _ _ _ _ 16 _ _ _
 refine tkT 0 rfl hHeld ?_
 refine tkT 1 rfl hHeld ?_
 refine tkT 2 rfl hHeld ?_
 refine tkT 3 rfl hHeld ?_
 refine tkT 4 rfl hHeld ?_
 refine tkT 5 rfl hHeld ?_
 refine tkT 6 rfl hHeld ?_
 refine tkT 7 rfl hHeld ?_
 refine tkT 8 rfl hHeld ?_
 refine tkT 9 rfl hHeld ?_
 refine tkT 10 rfl hHeld ?_
 try simp only [l1, l2, l3, Act.put, l4, l5, l6]
 refine but_one (i := 11) (by kernel_rfl) rfl ?_
 intro K hK
 go_simp
 go_at_call 83
 refine (HEN.out _ (by exact (Below.refl _ _).drew)).mono ?_
 rintro e w4 ⟨A4, n4, k4, rfl, h4⟩
 have HK4 := Lib.hid h4.out.2.2.2
 have hs4 : w2.heap.size ≤ w4.heap.size := h4.out.2.2.2.2.2.1
 obtain ⟨L, hmL, haL, hoL⟩ := h4.out.2.2.1.lr
 have eL : L.length = n1 := by rw [H1.out, ← hmL, List.length_map]
 have HML := Lib.hid hmL
 have HAL := Lib.hid haL
 have HEL := Lib.hid eL
 rw [eL] at hoL
 have HOL := Lib.hid hoL
 clear hmL haL eL hoL
 have hHeld2 := And.intro HK4.out.1 HK4.out.2.1
 refine hK _ _ (fun _ => hHeld2) ?_
 clear hK K hHeld
 have hHeld := hHeld2
 clear hHeld2
 refine tkT 12 rfl hHeld ?_
 try simp only [l1, l2, l3, Act.put, l4, l5, l6]
 refine but_one (i := 13) (by kernel_rfl) rfl ?_
 intro K hK
 go_simp
 have hHeld2 := And.intro (((below_al w4 (.cells #[.int .i64 (i : Int), .int .i64 er, .int .i64 cs, .slice A4 n4 k4] 160)).cell (p := ⟨q9, k * 12 + 1, none⟩) (lt_of_cell HK4.out.1)).trans HK4.out.1) (((below_al w4 (.cells #[.int .i64 (i : Int), .int .i64 er, .int .i64 cs, .slice A4 n4 k4] 160)).cell (p := ⟨q9, k * 12 + 11, none⟩) (lt_of_cell HK4.out.2.1)).trans HK4.out.2.1)
 refine hK _ _ (fun _ => hHeld2) ?_
 clear hK K hHeld
 have hHeld := hHeld2
 clear hHeld2
 try simp only [l1, l2, l3, Act.put, l4, l5, l6]
 refine but_one (i := 14) (by kernel_rfl) rfl ?_
 intro K hK
 refine step_append_lies _ (by rfl) _ _ _ (by rfl) B 160 iL (.agg #[.int .i64 0, .int .i64 0, .int .i64 0, .slice none 0 0]) 4 48 Tryz.underlying71 hiL yz0 yz1 yz2 rfl (by omega) (.slice P1 n1 c1) n1 (L.flatMap lE) (by rfl) (row_later HOL.out (below_al w4 _)) ⟨w4.heap.size, 0, none⟩ 1 1 (lE ⟨i, er, cs, wks x, A4, n4, k4⟩) (by rfl) (by rfl) (World.news_of_block (cs := #[.int .i64 (i : Int), .int .i64 er, .int .i64 cs, .slice A4 n4 k4]) (t := 160) (fr := (0, 0)) (heap_alloc_new w4 _)) (lE_one _) (by omega) (by unfold maxLen; omega) (by omega) (by simp; omega) (w4.heap.size + 1) (by simp) ?_
 intro g5 cap5 w5 hown hgrow hat hlt5
 have HE := Lib.hid (h4.out.2.2.1.addL (x := ⟨i, er, cs, wks x, A4, n4, k4⟩) (g := g5) (cap := cap5) (w' := w5) HML.out HAL.out (by rw [HEL.out]; exact HOL.out) ⟨rfl, rfl, h4.out.1⟩ h4.out.2.1 (below_al w4 _) (by rw [HEL.out]; exact hgrow) (by rw [HEL.out]; exact hown))
 have HC5 := Lib.hid (node_grown HOL.out HK4.out.2.2.2 (below_al w4 _) hgrow)
 clear hown hgrow hat hlt5
 have hHeld2 := And.intro ((HC5.out _).trans HK4.out.1) ((HC5.out _).trans HK4.out.2.1)
 refine hK _ _ (fun _ => hHeld2) ?_
 clear hK K hHeld
 have hHeld := hHeld2
 clear hHeld2
 refine tkT 15 rfl hHeld ?_
 try simp only [l1, l2, l3, Act.put, l4, l5, l6]
 refine but_done (by kernel_rfl) ?_
 try clear hHeld
 obtain ⟨o5, r5, p5, hO5⟩ := HE.out.rm
 obtain ⟨⟨y0, -, -, -, -⟩, -⟩ := r5.top
 obtain ⟨q7, hP7, -, hc7, -⟩ := r5.nd (k := k) (n := ndC i (ended x er cs)) (by rw [List.getElem?_set_self (List.getElem?_eq_some_iff.1 HNL.out).1])
 rw [show o5.PN = pn.1 from congrArg Prod.fst p5, hPN.out] at hP7; injection hP7 with hP7; injection hP7 with hP7; subst hP7
 have y10 := hc7 10 (by decide)
 simp only [nE, ndC, ended, List.getElem?_cons_succ, List.getElem?_cons_zero] at y10
 have HSTP : Hid (∀ w6, Below w5.heap.size w5 w6 → Calls Tryz.prog 84 #[.pointer (some ⟨mo, 0, none⟩), .int .i64 x.lp] w6 fun e w' => ∃ b : Value, e = .returned b ∧ Hid (FL W m mo B pn w O' { s with C := s.C.set i (ended x er cs), S := del x.lp s.S } (N.set k (ndC i (ended x er cs))) er cs (l ++ [(i, wks x)]) (some ⟨g5, 0, none⟩) cap5 st P2 c2 w') ∧ (w'.cell? ⟨m, 0, none⟩ = some (.pointer (some ⟨mo, 0, none⟩)) ∧ w'.cell? ⟨q9, k * 12 + 10, none⟩ = some (.int .i64 x.lp))) := by
  intro w6 hb6
  have h6 := HE.out.later hb6
  obtain ⟨o6, r6, p6, hO6⟩ := h6.rm
  refine (rstop_any' h6.tm HRI.out.ok HRI.out.sl HRI.out.sp HRI.out.en x.lp).mono ?_
  rintro e w' ⟨⟨b, r, rfl⟩, g1, g2, g3⟩
  exact ⟨_, rfl, h6.own (s' := { s with C := s.C.set i (ended x er cs), S := del x.lp s.S }) r6 hO6 (r6.byX g2 (r6.bel.trans g3)) p6 (fun k hk => .inl hk) g1 (Rm.of_rx g2), rx_cell g2 r6.tm (by decide) y0 hb6, rx_cell g2 (r6.tn' (by rw [show o6.PN = pn.1 from congrArg Prod.fst p6, hPN.out]; rfl)) (by decide) y10 hb6⟩
 clear r5 p5 hO5 hc7 HEN h4 HK4 HML HAL HEL HOL HC5
 by_cases hlp : 0 ≤ x.lp
 · go_wp2_with fail
   refine but_start 1000 (fun w' => w'.cell? ⟨m, 0, none⟩ = some (.pointer (some ⟨mo, 0, none⟩)) ∧ w'.cell? ⟨q9, k * 12 + 10, none⟩ = some (.int .i64 x.lp)) (by kernel_rfl) ?_
   have hHeld := And.intro y0 y10
   change AnyBut _ _ _ _ _ _ 9 _ _ _
   refine tkT 0 rfl hHeld ?_
   refine tkT 1 rfl hHeld ?_
   refine tkT 2 rfl hHeld ?_
   refine tkT 3 rfl hHeld ?_
   refine tkT 4 rfl hHeld ?_
   refine tkT 5 rfl hHeld ?_
   refine tkT 6 rfl hHeld ?_
   refine tkT 7 rfl hHeld ?_
   try simp only [l1, l2, l3, Act.put, l4, l5, l6]
   refine but_one (i := 8) (by kernel_rfl) rfl ?_
   intro K hK
   go_simp
   go_at_call 84
   refine (HSTP.out _ (by exact (Below.refl _ _).drew)).mono ?_
   rintro e w6 ⟨b6, rfl, HF6, HC6⟩
   have hHeld2 := HC6
   refine hK _ _ (fun _ => hHeld2) ?_
   clear hK K hHeld
   have hHeld := hHeld2
   clear hHeld2
   try simp only [l1, l2, l3, Act.put, l4, l5, l6]
   refine but_done (by kernel_rfl) ?_
   try clear hHeld
   obtain ⟨o6, r6, p6, hO6⟩ := HF6.out.rm
   have HKD : Hid (Calls Tryz.prog 85 #[.pointer (some ⟨m, 1, none⟩), .int .i64 (k : Int)] w6 (Tr.RowR (Tr.nz (Tr.kids s.T k)) w6)) := by
    have h9 : Calls Tryz.prog 85 #[.pointer (some ⟨m, 1, none⟩), .int .i64 (k : Int)] w6 (Tr.RowR (Tr.nz (Tr.mk s.T (k : Int) s.T.length)) w6) := Tr.mkids r6.tr HRI.out.tl (k : Int)
    rw [Tr.mk_kids HRI.out.wf k] at h9
    exact h9
   have hs6 : w.heap.size ≤ w6.heap.size := HF6.out.fr.1
   clear r6 p6 hO6
   go_wp2_with fail
   refine HKD.out.mono ?_
   rintro e w7 ⟨Pk, ck, nk, hnk, rfl, hrw, hbw⟩
   have HF7 := Lib.hid (HF6.out.later hbw.out)
   have HFK : Hid (FK W m mo B pn w O' s k er cs (l ++ [(i, wks x)]) st Pk ck 0 (n1 + 1) cap5 n2 c2 (some ⟨g5, 0, none⟩) P2 (N.set k (ndC i (ended x er cs))) w7) := by
    have e0 : cfold er cs (kf s k 0) (hit er cs s k) = ({ s with C := s.C.set i (ended x er cs), S := del x.lp s.S }, [], []) := by rw [hit_cx HX.out.1 HX.out.2.1]; rfl
    refine ⟨?_, ?_, row_low hrw.out (Nat.zero_le _), fun b hb => Nat.le_trans hs6 (row_lt hrw.out hb).1, HPX.out, ?_, ?_⟩
    · rw [e0]; simp only [List.append_nil]; exact HF7.out
    · rw [e0]; exact HNR.out
    · rw [e0, H1.out]; simp
    · rw [e0, H2.out]; simp
   have hnk9 : nk ≤ 1000 := by
    rw [hnk.out, Tr.nz_len]
    have h8 : (Tr.kids s.T k).length ≤ s.T.length := Nat.le_trans (List.length_filter_le _ _) (by simp)
    have h9 := HRI.out.tl
    omega
   clear HKD HF6 HF7 hrw hbw hs6
   go_wp2_with fail
   go_loopw [4, 5, 16] (fun s4 s5 s16 wr => ∃ (j n1 c1 n2 c2 : Nat) (P1 P2 : Option Addr) (N' : List Nd), j ≤ nk ∧ s4 = .slice P1 n1 c1 ∧ s5 = .slice P2 n2 c2 ∧ s16 = .int .i64 (j : Int) ∧ Hid (FK W m mo B pn w O' s k er cs (l ++ [(i, wks x)]) st Pk ck j n1 c1 n2 c2 P1 P2 N' wr)) (fun _ _ x _ => nk - (intOf x).toNat)
   case atStart => exact ⟨0, n1 + 1, cap5, n2, c2, some ⟨g5, 0, none⟩, P2, _, by omega, rfl, rfl, rfl, HFK.out⟩
   case round =>
    clear HFK
    obtain ⟨j, n1, c1, n2, c2, P1, P2, N', hj, rfl, rfl, rfl, hK⟩ := hrel
    by_cases hlt3 : j < nk
    · have b6 : (j : Int) < (nk : Int) := by omega
      have b7 : (0 : Int) ≤ (j : Int) := by omega
      obtain ⟨a, ha⟩ : ∃ a, (Tr.kids s.T k)[j]? = some a := ⟨_, List.getElem?_eq_getElem (by have := hnk.out; rw [Tr.nz_len] at this; omega)⟩
      obtain ⟨gk, hgk, _⟩ := row_form hK.out.kr (by rw [← hnk.out]; omega)
      have hcell := hK.out.kr.at hgk (i := j) (x := (a : Int)) (by rw [Tr.nz, List.getElem?_map, ha]; rfl)
      have HNX := Lib.hid (hK.out.next HIH.out hlt HRI.out hkT HG.out (by have := HLL.out.1; rw [List.length_append]; simp only [List.length_cons, List.length_nil]; omega) (by have := HLL.out.2; omega) ha)
      subst hgk
      clear ha hK
      go_wp2_with fail
      refine HNX.out.mono ?_
      rintro e w8 ⟨P1', n1', c1', P2', n2', c2', N'', rfl, HK8⟩
      clear HNX hcell
      go_wp2_with fail
      go_roundw
      case rel => exact ⟨j + 1, n1', c1', n2', c2', P1', P2', N'', by omega, rfl, rfl, by go_num, HK8.out⟩
      case measure => simp [intOf]; omega
    · obtain rfl : j = nk := by omega
      have hall := hK.out.all (by have := hnk.out; rw [Tr.nz_len] at this; omega)
      have hC : cfold er cs (Tr.walk s.T k) s = (ctT (cfold er cs (kf s k j) (hit er cs s k)).1 k, [(i, wks x)] ++ (cfold er cs (kf s k j) (hit er cs s k)).2.1, (cfold er cs (kf s k j) (hit er cs s k)).2.2) := by
       rw [hall, walk_eq, cfold_hit, clp_cx HX.out.1 HX.out.2.1, cmp_cx HX.out.1]; rfl
      have HD := Lib.hid (hK.out.fl.det k (by rw [(cfold_len er cs (kf s k j) (hit er cs s k)).1]; exact hkT))
      have HNR2 : Hid (NR (ctT (cfold er cs (kf s k j) (hit er cs s k)).1 k).T (cfold er cs (kf s k j) (hit er cs s k)).1.C (cfold er cs (kf s k j) (hit er cs s k)).1.A N') := by
       refine hK.out.nr.cutN fun j' a ha => ?_
       rw [(cfold_len er cs (kf s k j) (hit er cs s k)).2.2.1] at ha
       intro e9
       have h9 := HRI.out.ak j' a (by have h8 : (hit er cs s k).A = s.A := by rw [hit_cx HX.out.1 HX.out.2.1]
                                      rw [h8] at ha; exact ha)
       rw [e9, HX.out.1] at h9
       injection h9 with h9; injection h9 with h9 _; cases h9
      have HE12 : Hid (n1 = (l ++ (cfold er cs (Tr.walk s.T k) s).2.1).length ∧ n2 = (st ++ (cfold er cs (Tr.walk s.T k) s).2.2).length) := by
       rw [hC]
       exact ⟨by rw [← List.append_assoc]; exact hK.out.e1, hK.out.e2⟩
      have HCC := Lib.hid hC
      have HAS : Hid (l ++ ([(i, wks x)] ++ (cfold er cs (kf s k j) (hit er cs s k)).2.1) = l ++ [(i, wks x)] ++ (cfold er cs (kf s k j) (hit er cs s k)).2.1) := (List.append_assoc _ _ _).symm
      rw [hC] at HE12
      clear hall hC hK
      generalize cfold er cs (kf s k j) (hit er cs s k) = z at *
      go_wp2_with fail
      refine HD.out.mono ?_
      rintro e w9 ⟨⟨b, rfl⟩, HF9⟩
      go_wp2_with fail
      go_ret2
      rw [HCC.out]
      exact ⟨P1, n1, c1, P2, n2, c2, N', HE12.out, rfl, by rw [HAS.out]; exact HF9.out, HNR2.out⟩
 · have HF6 : Hid (FL W m mo B pn w O' { s with C := s.C.set i (ended x er cs), S := del x.lp s.S } (N.set k (ndC i (ended x er cs))) er cs (l ++ [(i, wks x)]) (some ⟨g5, 0, none⟩) cap5 st P2 c2 w5) := by
    have h9 := HE.out
    rw [del_out HRI.out.sp (.inl (by omega))]
    exact h9
   clear HSTP
   generalize hw56 : w5 = w6 at *
   obtain ⟨o6, r6, p6, hO6⟩ := HF6.out.rm
   have HKD : Hid (Calls Tryz.prog 85 #[.pointer (some ⟨m, 1, none⟩), .int .i64 (k : Int)] w6 (Tr.RowR (Tr.nz (Tr.kids s.T k)) w6)) := by
    have h9 : Calls Tryz.prog 85 #[.pointer (some ⟨m, 1, none⟩), .int .i64 (k : Int)] w6 (Tr.RowR (Tr.nz (Tr.mk s.T (k : Int) s.T.length)) w6) := Tr.mkids r6.tr HRI.out.tl (k : Int)
    rw [Tr.mk_kids HRI.out.wf k] at h9
    exact h9
   have hs6 : w.heap.size ≤ w6.heap.size := HF6.out.fr.1
   clear r6 p6 hO6
   go_wp2_with fail
   refine HKD.out.mono ?_
   rintro e w7 ⟨Pk, ck, nk, hnk, rfl, hrw, hbw⟩
   have HF7 := Lib.hid (HF6.out.later hbw.out)
   have HFK : Hid (FK W m mo B pn w O' s k er cs (l ++ [(i, wks x)]) st Pk ck 0 (n1 + 1) cap5 n2 c2 (some ⟨g5, 0, none⟩) P2 (N.set k (ndC i (ended x er cs))) w7) := by
    have e0 : cfold er cs (kf s k 0) (hit er cs s k) = ({ s with C := s.C.set i (ended x er cs), S := del x.lp s.S }, [], []) := by rw [hit_cx HX.out.1 HX.out.2.1]; rfl
    refine ⟨?_, ?_, row_low hrw.out (Nat.zero_le _), fun b hb => Nat.le_trans hs6 (row_lt hrw.out hb).1, HPX.out, ?_, ?_⟩
    · rw [e0]; simp only [List.append_nil]; exact HF7.out
    · rw [e0]; exact HNR.out
    · rw [e0, H1.out]; simp
    · rw [e0, H2.out]; simp
   have hnk9 : nk ≤ 1000 := by
    rw [hnk.out, Tr.nz_len]
    have h8 : (Tr.kids s.T k).length ≤ s.T.length := Nat.le_trans (List.length_filter_le _ _) (by simp)
    have h9 := HRI.out.tl
    omega
   clear HKD HF6 HF7 hrw hbw hs6
   go_wp2_with fail
   go_loopw [4, 5, 16] (fun s4 s5 s16 wr => ∃ (j n1 c1 n2 c2 : Nat) (P1 P2 : Option Addr) (N' : List Nd), j ≤ nk ∧ s4 = .slice P1 n1 c1 ∧ s5 = .slice P2 n2 c2 ∧ s16 = .int .i64 (j : Int) ∧ Hid (FK W m mo B pn w O' s k er cs (l ++ [(i, wks x)]) st Pk ck j n1 c1 n2 c2 P1 P2 N' wr)) (fun _ _ x _ => nk - (intOf x).toNat)
   case atStart => exact ⟨0, n1 + 1, cap5, n2, c2, some ⟨g5, 0, none⟩, P2, _, by omega, rfl, rfl, rfl, HFK.out⟩
   case round =>
    clear HFK
    obtain ⟨j, n1, c1, n2, c2, P1, P2, N', hj, rfl, rfl, rfl, hK⟩ := hrel
    by_cases hlt3 : j < nk
    · have b6 : (j : Int) < (nk : Int) := by omega
      have b7 : (0 : Int) ≤ (j : Int) := by omega
      obtain ⟨a, ha⟩ : ∃ a, (Tr.kids s.T k)[j]? = some a := ⟨_, List.getElem?_eq_getElem (by have := hnk.out; rw [Tr.nz_len] at this; omega)⟩
      obtain ⟨gk, hgk, _⟩ := row_form hK.out.kr (by rw [← hnk.out]; omega)
      have hcell := hK.out.kr.at hgk (i := j) (x := (a : Int)) (by rw [Tr.nz, List.getElem?_map, ha]; rfl)
      have HNX := Lib.hid (hK.out.next HIH.out hlt HRI.out hkT HG.out (by have := HLL.out.1; rw [List.length_append]; simp only [List.length_cons, List.length_nil]; omega) (by have := HLL.out.2; omega) ha)
      subst hgk
      clear ha hK
      go_wp2_with fail
      refine HNX.out.mono ?_
      rintro e w8 ⟨P1', n1', c1', P2', n2', c2', N'', rfl, HK8⟩
      clear HNX hcell
      go_wp2_with fail
      go_roundw
      case rel => exact ⟨j + 1, n1', c1', n2', c2', P1', P2', N'', by omega, rfl, rfl, by go_num, HK8.out⟩
      case measure => simp [intOf]; omega
    · obtain rfl : j = nk := by omega
      have hall := hK.out.all (by have := hnk.out; rw [Tr.nz_len] at this; omega)
      have hC : cfold er cs (Tr.walk s.T k) s = (ctT (cfold er cs (kf s k j) (hit er cs s k)).1 k, [(i, wks x)] ++ (cfold er cs (kf s k j) (hit er cs s k)).2.1, (cfold er cs (kf s k j) (hit er cs s k)).2.2) := by
       rw [hall, walk_eq, cfold_hit, clp_cx HX.out.1 HX.out.2.1, cmp_cx HX.out.1]; rfl
      have HD := Lib.hid (hK.out.fl.det k (by rw [(cfold_len er cs (kf s k j) (hit er cs s k)).1]; exact hkT))
      have HNR2 : Hid (NR (ctT (cfold er cs (kf s k j) (hit er cs s k)).1 k).T (cfold er cs (kf s k j) (hit er cs s k)).1.C (cfold er cs (kf s k j) (hit er cs s k)).1.A N') := by
       refine hK.out.nr.cutN fun j' a ha => ?_
       rw [(cfold_len er cs (kf s k j) (hit er cs s k)).2.2.1] at ha
       intro e9
       have h9 := HRI.out.ak j' a (by have h8 : (hit er cs s k).A = s.A := by rw [hit_cx HX.out.1 HX.out.2.1]
                                      rw [h8] at ha; exact ha)
       rw [e9, HX.out.1] at h9
       injection h9 with h9; injection h9 with h9 _; cases h9
      have HE12 : Hid (n1 = (l ++ (cfold er cs (Tr.walk s.T k) s).2.1).length ∧ n2 = (st ++ (cfold er cs (Tr.walk s.T k) s).2.2).length) := by
       rw [hC]
       exact ⟨by rw [← List.append_assoc]; exact hK.out.e1, hK.out.e2⟩
      have HCC := Lib.hid hC
      have HAS : Hid (l ++ ([(i, wks x)] ++ (cfold er cs (kf s k j) (hit er cs s k)).2.1) = l ++ [(i, wks x)] ++ (cfold er cs (kf s k j) (hit er cs s k)).2.1) := (List.append_assoc _ _ _).symm
      rw [hC] at HE12
      clear hall hC hK
      generalize cfold er cs (kf s k j) (hit er cs s k) = z at *
      go_wp2_with fail
      refine HD.out.mono ?_
      rintro e w9 ⟨⟨b, rfl⟩, HF9⟩
      go_wp2_with fail
      go_ret2
      rw [HCC.out]
      exact ⟨P1, n1, c1, P2, n2, c2, N', HE12.out, rfl, by rw [HAS.out]; exact HF9.out, HNR2.out⟩
theorem fall_call (er cs : Int) (W : World) (m mo B : Nat) : ∀ n, FallP er cs W m mo B n
 | 0 => fun k s N o l st P1 P2 n1 c1 n2 c2 w h => absurd h (by omega)
 | n + 1 => fun k s N o l st P1 P2 n1 c1 n2 c2 w hlt hI hkT hg hr hn ht lr sr hb h1 h2 hl1 hl2 => by
  obtain ⟨_, ⟨za, zi⟩, hz, hza, hzc⟩ := hg k (walk_head _ _)
  cases za with
  | true =>
   obtain ⟨a, ha, hnd, q, hT⟩ := hza rfl
   have hk0 : Tr.kids s.T k = [] := by
    rw [List.eq_nil_iff_forall_not_mem]
    intro j hj
    obtain ⟨i, hi⟩ := hI.pk j k (mem_kids.1 hj).1
    rw [hz] at hi
    injection hi with hi; injection hi with hi _; cases hi
   have hw : Tr.walk s.T k = [k] := by rw [walk_eq, hk0]; rfl
   have hc : cfold er cs (Tr.walk s.T k) s = (ctT s k, [], [⟨zi, a.pg⟩]) := by
    rw [hw]
    show (cst er cs s k, clp s k ++ [], cmp s k ++ []) = _
    rw [cst_af hz, clp_af hz, cmp_af hz ha]; rfl
   rw [hc]
   simp only [List.append_nil]
   exact fall_after hz ha hnd hT hr hn hI.ck hI.ak ht lr sr hb h1 h2 (by omega)
  | false =>
   obtain ⟨x, c, hx, hnd, hch, her, hcl, hrs⟩ := hzc rfl
   exact fall_ctx (fall_call er cs W m mo B n) hlt hI hkT hg hz hx hnd hch her hcl hrs hr hn ht lr sr hb h1 h2 hl1 hl2
end
end Go.Proofs.YtdpapnfjpefhkaaGreat
namespace Go.Proofs.YtdpapnfjpefhkaaGreat
open Go.RowKit Tr
set_option linter.unusedVariables false
set_option maxRecDepth 100000
section
variable {W w w' w'' wx w1 : World} {m mo g cap k i j : Nat} {T T' : TS} {N : List Nd} {C : List Cx} {A : List Af} {o : Lr} {n : Nd} {x : Cx} {a : Af}
theorem RM.frame {P : Option Addr} {ty jj : Nat} {v : Value} (h : RM W m mo T N C A o w) (hP : ∀ b, blk P = some b → oR m o C b ∧ Tg (· = ty) w b) (hty : ty = 155 ∨ ty = 3) (hx : Below w.heap.size w wx) (hg : wx.grownBy w1 (blk P)) :
  (w1.heap[m]? = w.heap[m]?) ∧ Tn (oR m o C) w (w1.setCell ⟨m, jj, none⟩ v) ∧ Below W.heap.size W (w1.setCell ⟨m, jj, none⟩ v) ∧ ∀ {Q : TypeId → Prop} {b : Nat}, Tg Q w b → b ≠ m → blk P ≠ some b → (w1.setCell ⟨m, jj, none⟩ v).heap[b]? = w.heap[b]? := by
 have T1 : Tn (fun k => blk P = some k) w w1 := Tn.grown hx hg
 have hm : w1.heap[m]? = w.heap[m]? := T1.block m (lt_of_blk h.tr.hm) fun e => (hP m e).2.not h.tr.hm (by rcases hty with rfl | rfl <;> decide)
 have T2 : Tn (oR m o C) w (w1.setCell ⟨m, jj, none⟩ v) := (T1.mono fun b hb => .inl (hP b hb).1).set (.inl (.inl rfl)) _
 refine ⟨hm, T2, h.bel.trans (T2.below h.bel.size fun b hb => h.low hb), fun {Q b} hb hne hn => ?_⟩
 rw [Below.heap_setCell _ _ _ _ (show b ≠ m from hne)]
 exact T1.block b hb.lt hn
theorem RM.addN (h : RM W m mo T N C A o w) (hx : Below w.heap.size w wx) (hg : wx.grownBy w1 (Value.slice o.PN N.length o.cN).ownBlock) (ho : w1.ownsRow 0 155 12 (.slice (some ⟨g, 0, none⟩) (N.length + 1) cap) (N.length + 1) (N.flatMap nE ++ nE n)) (hat : (Value.slice o.PN N.length o.cN).ownBlock = some g ∨ w.heap.size ≤ g) :
  (w1.cell? ⟨m, 2, none⟩ = some (.slice o.PN N.length o.cN) ∧ w1.frozen? ⟨m, 2, none⟩ = false) ∧ RM W m mo T (N ++ [n]) C A { o with PN := some ⟨g, 0, none⟩, cN := cap } (w1.setCell ⟨m, 2, none⟩ (.slice (some ⟨g, 0, none⟩) (N.length + 1) cap)) ∧
   Tn (oR m o C) w (w1.setCell ⟨m, 2, none⟩ (.slice (some ⟨g, 0, none⟩) (N.length + 1) cap)) ∧ ∀ k, oR m { o with PN := some ⟨g, 0, none⟩, cN := cap } C k → oR m o C k ∨ w.heap.size ≤ k := by
 rw [own_blk] at hg hat
 obtain ⟨hm, T2, hbw, nb⟩ := h.frame (jj := 2) (v := .slice (some ⟨g, 0, none⟩) (N.length + 1) cap) (fun b hb => ⟨.inr (.inr (.inl hb)), h.tn' hb⟩) (.inl rfl) hx hg
 have hm1 := hm.trans h.tr.hm
 have gm : g ≠ m := by
  rintro rfl
  rcases hat with e | e
  · exact (h.tn' e).two h.tm (by rintro ty rfl; decide)
  · have := lt_of_blk h.tr.hm; omega
 have el : (N ++ [n]).length = N.length + 1 := by simp
 refine ⟨⟨by rw [cell_of_row w1 m 2 _ _ _ hm1]; rfl, frozen_of_row w1 m 2 _ _ hm1⟩, ⟨hbw, ?_, ?_, row_keep h.rx fun b hb => nb (h.tx hb) (by rintro rfl; exact (h.tx hb).two h.tm (by rintro ty rfl; decide)) (fun e => (h.tx hb).two (h.tn' e) (by rintro ty rfl; decide)), row_keep h.ry fun b hb => nb (h.ty hb) (by rintro rfl; exact (h.ty hb).two h.tm (by rintro ty rfl; decide)) (fun e => (h.ty hb).two (h.tn' e) (by rintro ty rfl; decide)), h.lm, fun k hk => ?_, h.xy, fun i x c h1 h2 => ⟨(h.ch i x c h1 h2).1, (h.ch i x c h1 h2).2.keep T2.size (nb (h.tc h1 h2) (by rintro rfl; exact (h.tc h1 h2).two h.tm (by rintro ty rfl; decide)) (fun e => (h.tc h1 h2).two (h.tn' e) (by rintro ty rfl; decide))) fun b cs e => (nb (Q := (· = 103)) ⟨_, _, _, e, rfl⟩ (by rintro rfl; have := h.tm; exact (show Tg (· = 103) w _ from ⟨_, _, _, e, rfl⟩).two this (by rintro ty rfl; decide)) (fun e2 => (show Tg (· = 103) w b from ⟨_, _, _, e, rfl⟩).two (h.tn' e2) (by rintro ty rfl; decide))).trans e⟩, h.dj⟩, T2, fun k hk => ?_⟩
 · rw [el]
   refine ⟨by rw [heap_setCell_same w1 m 2 _ _ _ hm1]; rfl, row_keep h.tr.own fun b hb => nb (h.tq hb) (by rintro rfl; exact (h.tq hb).two h.tm (by rintro ty rfl; decide)) (fun e => (h.tq hb).two (h.tn' e) (by rintro ty rfl; decide))⟩
 · rw [el, List.flatMap_append, show ([n] : List Nd).flatMap nE = nE n from by simp]
   exact row_keep ho fun k hk => Below.heap_setCell _ _ _ _ (by rw [← blk_some hk]; exact gm)
 · rcases hk with hk | hk | hk
   · exact h.lo k (.inl hk)
   · rw [← blk_some hk]
     rcases hat with e | e
     · exact h.lo g (.inr (.inl e))
     · have := h.bel.size; omega
   · exact h.lo k (.inr (.inr hk))
 · rcases hk with hk | hk | hk | hk
   · exact .inl (.inl hk)
   · exact .inl (.inr (.inl hk))
   · rw [← blk_some hk]
     rcases hat with e | e
     · exact .inl (.inr (.inr (.inl e)))
     · exact .inr e
   · exact .inl (.inr (.inr (.inr hk)))
structure NX (W : World) (O : Nat → Prop) (w : World) (x : Cx) : Prop where
 c : ∀ c, x.ch = some c → W.heap.size ≤ c ∧ RH w c (chS x) ∧ ¬ O c
theorem RM.addX (h : RM W m mo T N C A o w) (hx : Below w.heap.size w wx) (hg : wx.grownBy w1 (Value.slice o.PX C.length o.cX).ownBlock) (ho : w1.ownsRow 0 3 1 (.slice (some ⟨g, 0, none⟩) (C.length + 1) cap) (C.length + 1) (xV C ++ [.int .i64 (x.nd : Int)])) (hat : (Value.slice o.PX C.length o.cX).ownBlock = some g ∨ w.heap.size ≤ g) (hc : NX W (oR m o C) w x) :
  (w1.cell? ⟨m, 3, none⟩ = some (.slice o.PX C.length o.cX) ∧ w1.frozen? ⟨m, 3, none⟩ = false) ∧ RM W m mo T N (C ++ [x]) A { o with PX := some ⟨g, 0, none⟩, cX := cap } (w1.setCell ⟨m, 3, none⟩ (.slice (some ⟨g, 0, none⟩) (C.length + 1) cap)) ∧
   Tn (oR m o C) w (w1.setCell ⟨m, 3, none⟩ (.slice (some ⟨g, 0, none⟩) (C.length + 1) cap)) ∧ ∀ k, oR m { o with PX := some ⟨g, 0, none⟩, cX := cap } (C ++ [x]) k → oR m o C k ∨ w.heap.size ≤ k ∨ x.ch = some k := by
 rw [own_blk] at hg hat
 obtain ⟨hm, T2, hbw, nb⟩ := h.frame (jj := 3) (v := .slice (some ⟨g, 0, none⟩) (C.length + 1) cap) (fun b hb => ⟨.inr (.inr (.inr (.inl hb))), h.tx hb⟩) (.inr rfl) hx hg
 have hm1 := hm.trans h.tr.hm
 have gm : g ≠ m := by
  rintro rfl
  rcases hat with e | e
  · exact (h.tx e).two h.tm (by rintro ty rfl; decide)
  · have := lt_of_blk h.tr.hm; omega
 have el : (C ++ [x]).length = C.length + 1 := by simp
 have n103 : ∀ (b : Nat) (cs : Array Value), w.heap[b]? = some (.cells cs 103 (0, 0)) → (w1.setCell ⟨m, 3, none⟩ (.slice (some ⟨g, 0, none⟩) (C.length + 1) cap)).heap[b]? = some (.cells cs 103 (0, 0)) := fun b cs e => (nb (Q := (· = 103)) ⟨_, _, _, e, rfl⟩ (by rintro rfl; have := h.tm; exact (show Tg (· = 103) w _ from ⟨_, _, _, e, rfl⟩).two this (by rintro ty rfl; decide)) (fun e2 => (show Tg (· = 103) w b from ⟨_, _, _, e, rfl⟩).two (h.tx e2) (by rintro ty rfl; decide))).trans e
 have csx : ∀ (j : Nat) (z : Cx), (C ++ [x])[j]? = some z → C[j]? = some z ∨ (j = C.length ∧ z = x) := fun j z hz => by
  rcases Nat.lt_or_ge j C.length with hl | hl
  · rw [List.getElem?_append_left hl] at hz; exact .inl hz
  · rw [List.getElem?_append_right hl] at hz
    have hj := (List.getElem?_eq_some_iff.1 hz).1
    have hj : j - C.length < 1 := hj
    obtain rfl : j = C.length := by omega
    rw [Nat.sub_self] at hz; cases hz
    exact .inr ⟨rfl, rfl⟩
 refine ⟨⟨by rw [cell_of_row w1 m 3 _ _ _ hm1]; rfl, frozen_of_row w1 m 3 _ _ hm1⟩, ⟨hbw, ?_, row_keep h.rn fun b hb => nb (h.tn' hb) (by rintro rfl; exact (h.tn' hb).two h.tm (by rintro ty rfl; decide)) (fun e => (h.tn' hb).two (h.tx e) (by rintro ty rfl; decide)), ?_, row_keep h.ry fun b hb => nb (h.ty hb) (by rintro rfl; exact (h.ty hb).two h.tm (by rintro ty rfl; decide)) (fun e => h.xy b e hb), h.lm, fun k hk => ?_, fun k hk => ?_, fun i z c h1 h2 => ?_, fun i j z1 z2 c h1 h2 h3 h4 => ?_⟩, T2, fun k hk => ?_⟩
 · rw [el]
   refine ⟨by rw [heap_setCell_same w1 m 3 _ _ _ hm1]; rfl, row_keep h.tr.own fun b hb => nb (h.tq hb) (by rintro rfl; exact (h.tq hb).two h.tm (by rintro ty rfl; decide)) (fun e => (h.tq hb).two (h.tx e) (by rintro ty rfl; decide))⟩
 · rw [el, show xV (C ++ [x]) = xV C ++ [.int .i64 (x.nd : Int)] from by simp [xV]]
   exact row_keep ho fun k hk => Below.heap_setCell _ _ _ _ (by rw [← blk_some hk]; exact gm)
 · rcases hk with hk | hk | hk | hk
   · exact h.lo k (.inl hk)
   · exact h.lo k (.inr (.inl hk))
   · rw [← blk_some hk]
     rcases hat with e | e
     · exact h.lo g (.inr (.inr (.inl e)))
     · have := h.bel.size; omega
   · exact h.lo k (.inr (.inr (.inr hk)))
 · rw [← blk_some hk]
   rcases hat with e | e
   · exact h.xy g e
   · intro e2
     have := (h.ty e2).lt; omega
 · rcases csx i z h1 with h1 | ⟨rfl, rfl⟩
   · exact ⟨(h.ch i z c h1 h2).1, (h.ch i z c h1 h2).2.keep T2.size (nb (h.tc h1 h2) (by rintro rfl; exact (h.tc h1 h2).two h.tm (by rintro ty rfl; decide)) (fun e => (h.tc h1 h2).two (h.tx e) (by rintro ty rfl; decide))) n103⟩
   · obtain ⟨c1, c2, c3⟩ := hc.c c h2
     obtain ⟨cs9, e9⟩ := c2.blk
     exact ⟨c1, c2.keep T2.size (nb (Q := (· = 114)) ⟨_, _, _, e9, rfl⟩ (by rintro rfl; exact c3 (.inl rfl)) (fun e => c3 (.inr (.inr (.inr (.inl e)))))) n103⟩
 · rcases csx i z1 h1 with h5 | ⟨rfl, rfl⟩
   · rcases csx j z2 h2 with h6 | ⟨rfl, rfl⟩
     · exact h.dj i j z1 z2 c h5 h6 h3 h4
     · exact absurd (.inr (.inr (.inr (.inr (.inr ⟨i, z1, h5, h3⟩))))) (hc.c c h4).2.2
   · rcases csx j z2 h2 with h6 | ⟨rfl, rfl⟩
     · exact absurd (.inr (.inr (.inr (.inr (.inr ⟨j, z2, h6, h4⟩))))) (hc.c c h3).2.2
     · rfl
 · rcases hk with hk | hk | hk | hk | hk | ⟨i, z, h1, h2⟩
   · exact .inl (.inl hk)
   · exact .inl (.inr (.inl hk))
   · exact .inl (.inr (.inr (.inl hk)))
   · rw [← blk_some hk]
     rcases hat with e | e
     · exact .inl (.inr (.inr (.inr (.inl e))))
     · exact .inr (.inl e)
   · exact .inl (.inr (.inr (.inr (.inr (.inl hk)))))
   · rcases csx i z h1 with h1 | ⟨rfl, rfl⟩
     · exact .inl (.inr (.inr (.inr (.inr (.inr ⟨i, z, h1, h2⟩)))))
     · exact .inr (.inr h2)
theorem RM.addY (h : RM W m mo T N C A o w) (hx : Below w.heap.size w wx) (hg : wx.grownBy w1 (Value.slice o.PY A.length o.cY).ownBlock) (ho : w1.ownsRow 0 3 1 (.slice (some ⟨g, 0, none⟩) (A.length + 1) cap) (A.length + 1) (yV A ++ [.int .i64 (a.nd : Int)])) (hat : (Value.slice o.PY A.length o.cY).ownBlock = some g ∨ w.heap.size ≤ g) :
  (w1.cell? ⟨m, 4, none⟩ = some (.slice o.PY A.length o.cY) ∧ w1.frozen? ⟨m, 4, none⟩ = false) ∧ RM W m mo T N C (A ++ [a]) { o with PY := some ⟨g, 0, none⟩, cY := cap } (w1.setCell ⟨m, 4, none⟩ (.slice (some ⟨g, 0, none⟩) (A.length + 1) cap)) ∧
   Tn (oR m o C) w (w1.setCell ⟨m, 4, none⟩ (.slice (some ⟨g, 0, none⟩) (A.length + 1) cap)) ∧ ∀ k, oR m { o with PY := some ⟨g, 0, none⟩, cY := cap } C k → oR m o C k ∨ w.heap.size ≤ k := by
 rw [own_blk] at hg hat
 obtain ⟨hm, T2, hbw, nb⟩ := h.frame (jj := 4) (v := .slice (some ⟨g, 0, none⟩) (A.length + 1) cap) (fun b hb => ⟨.inr (.inr (.inr (.inr (.inl hb)))), h.ty hb⟩) (.inr rfl) hx hg
 have hm1 := hm.trans h.tr.hm
 have gm : g ≠ m := by
  rintro rfl
  rcases hat with e | e
  · exact (h.ty e).two h.tm (by rintro ty rfl; decide)
  · have := lt_of_blk h.tr.hm; omega
 have el : (A ++ [a]).length = A.length + 1 := by simp
 have n103 : ∀ (b : Nat) (cs : Array Value), w.heap[b]? = some (.cells cs 103 (0, 0)) → (w1.setCell ⟨m, 4, none⟩ (.slice (some ⟨g, 0, none⟩) (A.length + 1) cap)).heap[b]? = some (.cells cs 103 (0, 0)) := fun b cs e => (nb (Q := (· = 103)) ⟨_, _, _, e, rfl⟩ (by rintro rfl; have := h.tm; exact (show Tg (· = 103) w _ from ⟨_, _, _, e, rfl⟩).two this (by rintro ty rfl; decide)) (fun e2 => (show Tg (· = 103) w b from ⟨_, _, _, e, rfl⟩).two (h.ty e2) (by rintro ty rfl; decide))).trans e
 refine ⟨⟨by rw [cell_of_row w1 m 4 _ _ _ hm1]; rfl, frozen_of_row w1 m 4 _ _ hm1⟩, ⟨hbw, ?_, row_keep h.rn fun b hb => nb (h.tn' hb) (by rintro rfl; exact (h.tn' hb).two h.tm (by rintro ty rfl; decide)) (fun e => (h.tn' hb).two (h.ty e) (by rintro ty rfl; decide)), row_keep h.rx fun b hb => nb (h.tx hb) (by rintro rfl; exact (h.tx hb).two h.tm (by rintro ty rfl; decide)) (fun e => h.xy b hb e), ?_, h.lm, fun k hk => ?_, fun k hk => ?_, fun i z c h1 h2 => ⟨(h.ch i z c h1 h2).1, (h.ch i z c h1 h2).2.keep T2.size (nb (h.tc h1 h2) (by rintro rfl; exact (h.tc h1 h2).two h.tm (by rintro ty rfl; decide)) (fun e => (h.tc h1 h2).two (h.ty e) (by rintro ty rfl; decide))) n103⟩, h.dj⟩, T2, fun k hk => ?_⟩
 · rw [el]
   refine ⟨by rw [heap_setCell_same w1 m 4 _ _ _ hm1]; rfl, row_keep h.tr.own fun b hb => nb (h.tq hb) (by rintro rfl; exact (h.tq hb).two h.tm (by rintro ty rfl; decide)) (fun e => (h.tq hb).two (h.ty e) (by rintro ty rfl; decide))⟩
 · rw [el, show yV (A ++ [a]) = yV A ++ [.int .i64 (a.nd : Int)] from by simp [yV]]
   exact row_keep ho fun k hk => Below.heap_setCell _ _ _ _ (by rw [← blk_some hk]; exact gm)
 · rcases hk with hk | hk | hk | hk
   · exact h.lo k (.inl hk)
   · exact h.lo k (.inr (.inl hk))
   · exact h.lo k (.inr (.inr (.inl hk)))
   · rw [← blk_some hk]
     rcases hat with e | e
     · exact h.lo g (.inr (.inr (.inr e)))
     · have := h.bel.size; omega
 · intro e2
   rw [← blk_some e2] at hk
   rcases hat with e | e
   · exact h.xy g hk e
   · have := (h.tx hk).lt; omega
 · rcases hk with hk | hk | hk | hk | hk | hk
   · exact .inl (.inl hk)
   · exact .inl (.inr (.inl hk))
   · exact .inl (.inr (.inr (.inl hk)))
   · exact .inl (.inr (.inr (.inr (.inl hk))))
   · rw [← blk_some hk]
     rcases hat with e | e
     · exact .inl (.inr (.inr (.inr (.inr (.inl e)))))
     · exact .inr e
   · exact .inl (.inr (.inr (.inr (.inr (.inr hk)))))
end
end Go.Proofs.YtdpapnfjpefhkaaGreat
namespace Go.Proofs.YtdpapnfjpefhkaaGreat
open Go.RowKit Tr
set_option linter.unusedVariables false
set_option maxRecDepth 100000
def bR (n : Nat) (x : Cx) : Array Value := #[.bool false, .int .i64 n, .int .i64 0, .bool false, .bool x.ch.isNone, .int .i64 x.er, .int .i64 x.cs, .int .i64 x.wh, .bool x.has, .bool x.own, .int .i64 x.lp, .pointer (cp x.ch)]
section
variable {W w w' w'' wx w1 : World} {m mo g cap k i j q b : Nat} {T T' : TS} {N : List Nd} {C : List Cx} {A : List Af} {o o' : Lr} {n : Nd} {x : Cx} {a : Af} {s : St} {O O' : Nat → Prop} {pr : Int} {l l2 : Bool}
theorem bR_cells {n : Nat} (h : w.heap[q]? = some (.cells (bR n x) 155 (0, 0))) : (w.cell? ⟨q, 0, none⟩ = some (.bool false) ∧ w.cell? ⟨q, 1, none⟩ = some (.int .i64 n) ∧ w.cell? ⟨q, 2, none⟩ = some (.int .i64 0) ∧ w.cell? ⟨q, 3, none⟩ = some (.bool false) ∧ w.cell? ⟨q, 4, none⟩ = some (.bool x.ch.isNone) ∧ w.cell? ⟨q, 5, none⟩ = some (.int .i64 x.er) ∧ w.cell? ⟨q, 6, none⟩ = some (.int .i64 x.cs) ∧ w.cell? ⟨q, 7, none⟩ = some (.int .i64 x.wh) ∧ w.cell? ⟨q, 8, none⟩ = some (.bool x.has) ∧ w.cell? ⟨q, 9, none⟩ = some (.bool x.own) ∧ w.cell? ⟨q, 10, none⟩ = some (.int .i64 x.lp) ∧ w.cell? ⟨q, 11, none⟩ = some (.pointer (cp x.ch))) ∧ ∀ j, w.frozen? ⟨q, j, none⟩ = false := by
 unfold bR at h
 refine ⟨⟨?_, ?_, ?_, ?_, ?_, ?_, ?_, ?_, ?_, ?_, ?_, ?_⟩, fun j => frozen_of_row w q j _ _ h⟩
 · rw [cell_of_row w q 0 _ _ _ h]; rfl
 · rw [cell_of_row w q 1 _ _ _ h]; rfl
 · rw [cell_of_row w q 2 _ _ _ h]; rfl
 · rw [cell_of_row w q 3 _ _ _ h]; rfl
 · rw [cell_of_row w q 4 _ _ _ h]; rfl
 · rw [cell_of_row w q 5 _ _ _ h]; rfl
 · rw [cell_of_row w q 6 _ _ _ h]; rfl
 · rw [cell_of_row w q 7 _ _ _ h]; rfl
 · rw [cell_of_row w q 8 _ _ _ h]; rfl
 · rw [cell_of_row w q 9 _ _ _ h]; rfl
 · rw [cell_of_row w q 10 _ _ _ h]; rfl
 · rw [cell_of_row w q 11 _ _ _ h]; rfl
theorem RM.out {u : Value} {ty : TypeId} {cs : Array Value} (h : RM W m mo T N C A o w) (hb : w.heap[b]? = some (.cells cs ty (0, 0))) (ht : ty ≠ 103) (hn : ¬ oR m o C b) (hW : W.heap.size ≤ b) : RM W m mo T N C A o (w.setCell ⟨b, j, none⟩ u) :=
 h.keep (by simp [World.setCell]) (fun k hk => Below.heap_setCell _ _ _ _ (by rintro rfl; exact hn hk)) (fun k c e => (Below.heap_setCell _ _ _ _ (by rintro rfl; rw [hb] at e; injection e with e; injection e with _ e _; exact ht e)).trans e) (h.bel.setCell (show W.heap.size ≤ (⟨b, j, none⟩ : Addr).block from hW) _)
theorem NX.keep (h : NX W O w x) (hO : ∀ k, O k → Tg TgR w k) (f : Tn O w w') (hs : ∀ k, O' k → O k ∨ w.heap.size ≤ k) : NX W O' w' x := ⟨fun c hc => by
 obtain ⟨c1, c2, c3⟩ := h.c c hc
 obtain ⟨cs, e⟩ := c2.blk
 have hl := lt_of_blk e
 refine ⟨c1, c2.keep f.size (f.block c hl c3) fun b cs2 e2 => (f.block b (lt_of_blk e2) fun hk => ?_).trans e2, fun hk => ?_⟩
 · exact (hO b hk).not e2 fun h3 => (tgr_no h3).2.2.2 rfl
 · rcases hs c hk with h1 | h1
   · exact c3 h1
   · omega⟩
theorem NX.none (hx : x.ch = none) : NX W O w x := ⟨fun c hc => by rw [hx] at hc; cases hc⟩
def RaP (W : World) (m mo : Nat) (T : TS) (N : List Nd) (C : List Cx) (A : List Af) (o : Lr) (x : Cx) (w w' : World) : Prop :=
 ∃ o', RM W m mo T N C A o' w' ∧ Tn (oR m o (C.dropLast)) w w' ∧ ∀ k, oR m o' C k → oR m o C.dropLast k ∨ w.heap.size ≤ k ∨ x.ch = some k
set_option maxHeartbeats 8000000 in
theorem radd_any' (h : RM W m mo T N C A o w) (hx : x.nd = T.length) (hp : -1 ≤ pr ∧ pr < (T.length : Int)) (hl : l2 = (l && decide (0 ≤ pr))) (hT : T.length < 1000) (hN : N.length ≤ 1000) (hC : C.length ≤ 1000) (hc : NX W (oR m o C) w x) :
  Calls Tryz.prog 55 #[pM' m, .int .i64 pr, .bool l, .agg (bR 0 x)] w fun e w' => e = .returned (.int .i64 (C.length : Int)) ∧ Hid (RaP W m mo (T ++ [(pr, l2)]) (N ++ [ndC C.length x]) (C ++ [x]) A o x w w') := by
 obtain ⟨i0, hi, hz0, hz1, hz2⟩ := info_parts infRC
 obtain ⟨i3, hi3, hy0, hy1, hy2⟩ := info_parts Tr.inf3
 have hW := h.bel.size
 have hB0 := below_al w (.cells (bR 0 x) 155)
 have h1 := h.later hB0
 have hnb : ¬ oR m o C w.heap.size := fun hk => by have := h.lt hk; omega
 have HC : Hid (Calls Tryz.prog 62 #[.pointer (some ⟨m, 1, none⟩), .int .i64 pr, .bool l] (w.alloc (.cells (bR 0 x) 155)) fun e w' => e = .returned (.tuple #[.int .i64 (T.length : Int), .int .i64 0]) ∧ ∃ o1, Hid (RM W m mo (T ++ [(pr, l2)]) N C A o1 w' ∧ (∀ k, oR m o1 C k → oR m o C k ∨ w.heap.size < k) ∧ Tn (oR m o C) w w' ∧ NX W (oR m o1 C) w' x ∧ w'.heap[w.heap.size]? = some (.cells (bR 0 x) 155 (0, 0)))) := by
  refine (Tr.madd_in h1.tr hT pr l l2 hp hl).mono ?_
  rintro e w' ⟨rfl, g⟩
  obtain ⟨o', r1, r2, r3, r4, r5, r6⟩ := h1.tree g.out
  have hs : ∀ k, oR m o' C k → oR m o C k ∨ w.heap.size < k := fun k hk => (r2 k hk).imp id fun h2 => by
   rw [World.size_alloc] at h2; omega
  have hT : Tn (oR m o C) w w' := (Tn.of_below hB0).trans r3
  exact ⟨rfl, o', r1, hs, hT, hc.keep (fun k hk => h.tag hk) hT fun k hk => (hs k hk).imp id Nat.le_of_lt, (r3.block _ (by simp) hnb).trans (heap_alloc_new w _)⟩
 have HO : Hid (∀ k, oR m o C k → k < w.heap.size) := fun k hk => h.lt hk
 have hm := h.lt (.inl rfl)
 clear h h1 hp hl hc hnb
 unfold bR at HC ⊢
 go_enter Tryz.func55, Tryz.ntmps55
 go_wp2_with fail
 refine HC.out.mono ?_
 rintro e w2 ⟨rfl, o1, hR⟩
 clear HC
 have hR1 := hR.out.1
 have hb2 := hR.out.2.2.2.2
 obtain ⟨⟨-, -, -, k3, -⟩, -⟩ := hR1.top
 obtain ⟨⟨-, x1, -⟩, xf⟩ := bR_cells hb2
 have f1 := xf 1
 clear xf hR1
 go_wp2_with fail
 have hnb1 : ¬ oR m o1 C w.heap.size := fun hk => by
  rcases hR.out.2.1 _ hk with h1 | h1
  · have := HO.out _ h1; omega
  · omega
 have e3 := heap_setCell_same w2 w.heap.size 1 _ _ (.int .i64 C.length) hb2
 have hRB : Hid (RM W m mo (T ++ [(pr, l2)]) N C A o1 (w2.setCell ⟨w.heap.size, 1, none⟩ (.int .i64 C.length)) ∧ (∀ k, oR m o1 C k → oR m o C k ∨ w.heap.size < k) ∧ Tn (oR m o C) w (w2.setCell ⟨w.heap.size, 1, none⟩ (.int .i64 C.length)) ∧ NX W (oR m o1 C) (w2.setCell ⟨w.heap.size, 1, none⟩ (.int .i64 C.length)) x ∧ (w2.setCell ⟨w.heap.size, 1, none⟩ (.int .i64 C.length)).heap[w.heap.size]? = some (.cells (bR C.length x) 155 (0, 0))) := by
  obtain ⟨r1, r2, r3, r4, r5⟩ := hR.out
  refine ⟨r1.out hb2 (by decide) hnb1 hW, r2, r3.set (.inr (Nat.le_refl _)) _, ⟨fun c hcc => ?_⟩, e3⟩
  obtain ⟨d1, d2, d3⟩ := r4.c c hcc
  refine ⟨d1, d2.keep (by simp [World.setCell]) (Below.heap_setCell _ _ _ _ ?_) fun b2 cs2 e2 => (Below.heap_setCell _ _ _ _ ?_).trans e2, d3⟩
  · show c ≠ w.heap.size
    rintro rfl
    obtain ⟨cs, e⟩ := d2.blk
    rw [hb2] at e; cases e
  · show b2 ≠ w.heap.size
    rintro rfl
    rw [hb2] at e2; cases e2
 clear e3 hnb1 hR hb2 k3 x1 f1
 generalize w2.setCell ⟨w.heap.size, 1, none⟩ (.int .i64 C.length) = w3 at *
 have hR3 := hRB.out.1
 have hb3 := hRB.out.2.2.2.2
 obtain ⟨⟨-, -, k2, -, -⟩, kf⟩ := hR3.top
 obtain ⟨⟨x0, x1, x2, x3, x4, x5, x6, x7, x8, x9, x10, x11⟩, -⟩ := bR_cells hb3
 have f2 := kf 2
 have hq3 := lt_of_blk hb3
 have hm3 := hR3.lt (.inl rfl)
 have HRN := Lib.hid hR3.rn
 have HE : Hid (∀ {wx w5 : World} {g cap : Nat}, Below w3.heap.size w3 wx → wx.grownBy w5 (Value.slice o1.PN N.length o1.cN).ownBlock → w5.ownsRow 0 155 12 (.slice (some ⟨g, 0, none⟩) (N.length + 1) cap) (N.length + 1) (N.flatMap nE ++ nE (ndC C.length x)) → ((Value.slice o1.PN N.length o1.cN).ownBlock = some g ∨ w3.heap.size ≤ g) →
   (w5.cell? ⟨m, 2, none⟩ = some (.slice o1.PN N.length o1.cN) ∧ w5.frozen? ⟨m, 2, none⟩ = false) ∧ Hid (∃ o2, RM W m mo (T ++ [(pr, l2)]) (N ++ [ndC C.length x]) C A o2 (w5.setCell ⟨m, 2, none⟩ (.slice (some ⟨g, 0, none⟩) (N.length + 1) cap)) ∧ (∀ k, oR m o2 C k → oR m o C k ∨ w.heap.size < k) ∧ Tn (oR m o C) w (w5.setCell ⟨m, 2, none⟩ (.slice (some ⟨g, 0, none⟩) (N.length + 1) cap)) ∧ NX W (oR m o2 C) (w5.setCell ⟨m, 2, none⟩ (.slice (some ⟨g, 0, none⟩) (N.length + 1) cap)) x ∧ (w5.setCell ⟨m, 2, none⟩ (.slice (some ⟨g, 0, none⟩) (N.length + 1) cap)).heap[w.heap.size]? = some (.cells (bR C.length x) 155 (0, 0)))) := by
  intro wx w5 g cap hx hg ho hat
  obtain ⟨r1, r2, r3, r4, r5⟩ := hRB.out
  obtain ⟨c1, c2, c3, c4⟩ := r1.addN hx hg ho hat
  have hs : ∀ k, oR m { o1 with PN := some ⟨g, 0, none⟩, cN := cap } C k → oR m o C k ∨ w.heap.size < k := fun k hk => by
   rcases c4 k hk with h1 | h1
   · exact r2 k h1
   · exact .inr (by omega)
  have hT3 : Tn (oR m o C) w (w5.setCell ⟨m, 2, none⟩ (.slice (some ⟨g, 0, none⟩) (N.length + 1) cap)) := r3.comp c3 fun k hk => (r2 k hk).imp id Nat.le_of_lt
  exact ⟨c1, _, c2, hs, hT3, r4.keep (fun k hk => r1.tag hk) c3 c4, (c3.block _ hq3 fun hk => by
   rcases r2 _ hk with h1 | h1
   · have := HO.out _ h1; omega
   · omega).trans r5⟩
 clear hRB hR3 hb3 kf
 go_region_law (go_loud (refine step_append_lies _ (by rfl) _ _ _ (by rfl) 0 155 i0 (.agg #[.bool false, .int .i64 0, .int .i64 0, .bool false, .bool false, .int .i64 0, .int .i64 0, .int .i64 0, .bool false, .bool false, .int .i64 0, .pointer none]) 12 80 Tryz.underlying150 hi hz0 hz1 hz2 rfl (by omega) (.slice o1.PN N.length o1.cN) N.length (N.flatMap nE) (by rfl) (row_later HRN.out (below_one rfl rfl rfl rfl)) ⟨w3.heap.size, 0, none⟩ 1 1 (nE (ndC C.length x)) (by rfl) (by rfl) (World.news_of_block (cs := #[.bool false, .int .i64 (C.length : Int), .int .i64 0, .bool false, .bool x.ch.isNone, .int .i64 x.er, .int .i64 x.cs, .int .i64 x.wh, .bool x.has, .bool x.own, .int .i64 x.lp, .pointer (cp x.ch)]) (t := 155) (fr := (0, 0)) (news_one (w := w3) (by rfl))) (nE_one (ndC C.length x)) (by omega) (by unfold maxLen; omega) (by omega) (by first | omega | (simp; done) | (simp; omega)) (w3.heap.size + 1) (by simp) ?_; intro g5 cap5 w5 hown hgrow hat hlt5; have HM := HE.out (g := g5) (cap := cap5) (by exact below_one rfl rfl rfl rfl) hgrow hown (hat.imp id (by omega)); have hc1 := HM.1.1; have hf1 := HM.1.2; have HD := HM.2; clear HM hown hgrow hat hlt5 k2 f2))
 all_goals
  clear HE hc1 hf1 x0 x1 x2 x3 x4 x5 x6 x7 x8 x9 x10 x11
  generalize w5.setCell ⟨m, 2, none⟩ (.slice (some ⟨g5, 0, none⟩) (N.length + 1) cap5) = w6 at *
  obtain ⟨o2, HD⟩ := HD.out
  have HD := Lib.hid HD
  have hR6 := HD.out.1
  have hb6 := HD.out.2.2.2.2
  obtain ⟨⟨-, -, -, k3, -⟩, kf⟩ := hR6.top
  obtain ⟨⟨-, y1, -⟩, -⟩ := bR_cells hb6
  have f3 := kf 3
  have hq6 := lt_of_blk hb6
  have hm6 := hR6.lt (.inl rfl)
  have HRX := Lib.hid hR6.rx
  have HE2 : Hid (∀ {wx w7 : World} {g cap : Nat}, Below w6.heap.size w6 wx → wx.grownBy w7 (Value.slice o2.PX C.length o2.cX).ownBlock → w7.ownsRow 0 3 1 (.slice (some ⟨g, 0, none⟩) (C.length + 1) cap) (C.length + 1) (xV C ++ [.int .i64 (T.length : Int)]) → ((Value.slice o2.PX C.length o2.cX).ownBlock = some g ∨ w6.heap.size ≤ g) →
    (w7.cell? ⟨m, 3, none⟩ = some (.slice o2.PX C.length o2.cX) ∧ w7.frozen? ⟨m, 3, none⟩ = false) ∧ (w7.setCell ⟨m, 3, none⟩ (.slice (some ⟨g, 0, none⟩) (C.length + 1) cap)).cell? ⟨w.heap.size, 1, none⟩ = some (.int .i64 C.length) ∧ Hid (RaP W m mo (T ++ [(pr, l2)]) (N ++ [ndC C.length x]) (C ++ [x]) A o x w (w7.setCell ⟨m, 3, none⟩ (.slice (some ⟨g, 0, none⟩) (C.length + 1) cap)))) := by
   intro wx w7 g cap hx' hg ho hat
   obtain ⟨r1, r2, r3, r4, r5⟩ := HD.out
   rw [← hx] at ho
   obtain ⟨c1, c2, c3, c4⟩ := r1.addX hx' hg ho hat r4
   refine ⟨c1, ?_, _, c2, ?_, fun k hk => ?_⟩
   · have e9 := (c3.block _ hq6 fun hk => by
      rcases r2 _ hk with h1 | h1
      · have := HO.out _ h1; omega
      · omega).trans r5
     exact (bR_cells e9).1.2.1
   · rw [List.dropLast_concat]
     exact r3.comp c3 fun k hk => (r2 k hk).imp id Nat.le_of_lt
   · rw [List.dropLast_concat]
     rcases c4 k hk with h1 | h1 | h1
     · exact (r2 k h1).imp id fun h => .inl (Nat.le_of_lt h)
     · have := r3.size; exact .inr (.inl (by omega))
     · exact .inr (.inr h1)
  clear HD hR6 hb6 kf
  go_wp2_with (at_builtin; go_loud (refine wpList_append_lies _ rfl _ _ 111 rfl 0 3 i3 _ 1 8 Tryz.underlying111 hi3 hy0 hy1 hy2 rfl (by omega) (.slice o2.PX C.length o2.cX) C.length (xV C) rfl (row_later HRX.out (below_al w6 _)) ⟨w6.heap.size, 0, none⟩ 1 1 [.int .i64 (T.length : Int)] rfl rfl (World.news_of_block (cs := #[.int .i64 (T.length : Int)]) (heap_alloc_new w6 _)) (int_cell _) (by omega) (by unfold maxLen; omega) (by omega) (by omega) (w6.heap.size + 1) (by first | (simp; done) | (simp; rfl)) ?_; intro g7 cap7 w7 hown hgrow hat hlt7; have HM := HE2.out (g := g7) (cap := cap7) (below_al w6 _) hgrow hown (hat.imp id (by omega)); have hc7 := HM.1.1; have hf7 := HM.1.2; have hr7 := HM.2.1; have HF := HM.2.2; clear HM hown hgrow hat hlt7 k3 f3))
  go_wp2_with fail
  go_ret
  exact ⟨rfl, HF⟩
end
end Go.Proofs.YtdpapnfjpefhkaaGreat
