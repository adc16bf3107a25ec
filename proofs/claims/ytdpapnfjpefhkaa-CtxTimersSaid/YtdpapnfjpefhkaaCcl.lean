/- What cancel of package ctx does. Conditions: each theorem's own premises. -/
import Derived.Test.YtdpapnfjpefhkaaClm
import Derived.Test.YtdpapnfjpefhkaaTmrm
namespace Go.Proofs.Ytdpapnfjpefhkaa
open Go.RowKit Tr
set_option linter.unusedVariables false
set_option maxRecDepth 100000

/-- Who was cancelled, what was started, and what the contexts have come to be. -/
def CaR (W : World) (t : Nat) (p : Option Nat) (s' : St) (O : Nat → Prop) (er cs : Int) (l : List Lap) (m : List Mp) (w : World) (e : Ending) (w' : World) : Prop :=
  ∃ P1 n1 c1 P2 n2 c2, Hid (n1 = l.length) ∧ Hid (n2 = m.length) ∧ e = .returned (.tuple #[.slice P1 n1 c1, .slice P2 n2 c2]) ∧ Hid (GS W t p s' O w w') ∧ Hid (LR w.heap.size w' P1 c1 er cs l) ∧ Hid (SR w.heap.size w' P2 c2 m)
section
variable {W w w' w'' wx w1 w2 : World} {t i n : Nat} {p : Option Nat} {O : Nat → Prop} {s : St} {x : Cx} {er cs : Int}
theorem LR.nil (B : Nat) (w : World) (er cs : Int) : LR B w none 0 er cs [] := ⟨[], rfl, fun x hx => by (cases hx), World.ownsRow_nil _ _ _ _⟩
theorem SR.nil (B : Nat) (w : World) : SR B w none 0 [] := World.ownsRow_nil _ _ _ _
theorem cancel_over (h : FS W t p s O w) (hx : s.C[i]? = some x) (he : x.er ≠ 0) : Calls Try.prog 37 #[pS t, .int .i64 (i : Int), .int .i64 er, .int .i64 cs] w (CaR W t p s O er cs [] [] w) := by
  have H := Lib.hid (over_any h hx)
  have HA := Lib.hid h
  have b1 : (x.er != 0) = true := bne_iff_ne.2 he
  rw [b1] at H
  clear h hx he b1
  go_enter Try.func37, Try.ntmps37
  go_wp2_with fail
  refine H.out.mono ?_
  rintro e w' ⟨rfl, rfl⟩
  go_wp2_with fail
  go_ret2
  exact ⟨_, _, _, _, _, _, rfl, rfl, rfl, HA.out.gs (Below.refl _ _), LR.nil _ _ _ _, SR.nil _ _⟩
theorem Good.all {ws : List Nat} {k : Nat} {j : Nat} (h : ∀ k ∈ ws.drop j, Good s k) (hj : ws[j]? = some k) (hn : ws.Nodup) : Good s k ∧ ∀ k' ∈ ws.drop (j + 1), Good (cst er cs s k) k' := by
  have hl := (List.getElem?_eq_some_iff.1 hj).1
  have e : ws.drop j = k :: ws.drop (j + 1) := by
    rw [List.drop_eq_getElem_cons hl, (List.getElem?_eq_some_iff.1 hj).2]
  rw [e] at h
  have hn2 : (ws.drop j).Nodup := hn.sublist (List.drop_sublist _ _)
  rw [e, List.nodup_cons] at hn2
  exact ⟨h k (by simp), fun k' hk => (h k' (by simp [hk])).next (h k (by simp)) (by rintro rfl; exact hn2.1 hk)⟩
theorem cfold_drop {ws : List Nat} {j k : Nat} (hj : ws[j]? = some k) (s : St) : cfold er cs (ws.drop j) s = ((cfold er cs (ws.drop (j + 1)) (cst er cs s k)).1, clp s k ++ (cfold er cs (ws.drop (j + 1)) (cst er cs s k)).2.1, cmp s k ++ (cfold er cs (ws.drop (j + 1)) (cst er cs s k)).2.2) := by
  have hl := (List.getElem?_eq_some_iff.1 hj).1
  rw [List.drop_eq_getElem_cons hl, (List.getElem?_eq_some_iff.1 hj).2]; rfl
/-- Detach, whoever is named. -/
theorem detach_any {F : Nat → Prop} {V : Nat → Value} {S : TS} (w : World) (h : TR F 0 V S w t) (hF : ∀ k, F k → k < w.heap.size) (k : Nat) (hk : k < S.length) : Calls Try.prog 44 #[.pointer (some ⟨t, 1, none⟩), .int .i64 (k : Int)] w fun e w' => (∃ b, e = .returned (.bool b)) ∧ Tr.Go F 0 V t (Tr.cut S k) w w' := by
  obtain ⟨⟨q, l⟩, hs⟩ : ∃ y, S[k]? = some y := ⟨_, List.getElem?_eq_getElem hk⟩
  cases l with
  | true =>
    obtain ⟨q', rfl⟩ := Int.eq_ofNat_of_zero_le ((h.wf k q true hs).2.2 rfl)
    refine (detach_yes w h hF k hs).mono ?_
    rintro e w' ⟨rfl, g⟩
    exact ⟨⟨_, rfl⟩, g⟩
  | false =>
    have e : Tr.cut S k = S := by
      rw [Tr.cut_some hs]
      apply List.ext_getElem?
      intro j
      rw [List.getElem?_set]
      by_cases c : k = j
      · subst c; rw [if_pos rfl, if_pos hk, hs]
      · rw [if_neg c]
    rw [e]
    refine (detach_off w h k hs).mono ?_
    rintro e w' ⟨rfl, b⟩
    exact ⟨⟨_, rfl⟩, (h.later b).mono fun k _ hk => .inl hk, .of_below b⟩
theorem FS.cut (h : FS W t p s O w) (k : Nat) (hk : k < s.T.length) : Calls Try.prog 44 #[.pointer (some ⟨t, 1, none⟩), .int .i64 (k : Int)] w fun e w' => (∃ b, e = .returned (.bool b)) ∧ GS W t p { s with T := Tr.cut s.T k } O w w' := by
  obtain ⟨⟨F, G, o, y, e⟩, m⟩ := h
  refine (detach_any w y.tr (fun k hk => (y.fF k hk).2.lt) k hk).mono ?_
  rintro e' w' ⟨hb, g⟩
  refine ⟨hb, ?_⟩
  obtain ⟨F', y', hs, tn⟩ := y.tree g
  refine FS.ctx y e m y' (fun k hk => ?_) (tn.mono fun b hb => .inl ((e b).2 (.f hb)))
  rcases hk with hk | hk | hk | hk | ⟨j, hk⟩
  · exact (hs k hk).imp (fun h => (e k).2 (.f h)) id
  · exact .inl ((e k).2 (.k hk))
  · exact .inl ((e k).2 (.c hk))
  · exact .inl ((e k).2 (.a hk))
  · exact .inl ((e k).2 (.g hk))
theorem FS.walk (h : FS W t p s O w) (k : Nat) (hk : k < s.T.length) : Calls Try.prog 52 #[.pointer (some ⟨t, 1, none⟩), .int .i64 (k : Int)] w (RowR (nz (Tr.walk s.T k)) w) := by
  obtain ⟨⟨F, G, o, y, e⟩, m⟩ := h
  exact walk_yes w y.tr (fun k hk => (y.fF k hk).2.lt) k hk
theorem FS.wf (h : FS W t p s O w) : WF s.T := by obtain ⟨⟨F, G, o, y, e⟩, m⟩ := h; exact y.tr.wf
theorem FS.tle (h : FS W t p s O w) : s.T.length ≤ 1000 := by obtain ⟨⟨F, G, o, y, e⟩, m⟩ := h; exact y.tr.le

/-- What stands at a number, for a walk. -/
theorem FS.k2 {k : Nat} {z : Kd} (h : FS W t p s O w) (hz : s.K[k]? = some z) : ∃ q cK, w.cell? ⟨t, 2, none⟩ = some (.slice (some ⟨q, 0, none⟩) s.K.length cK) ∧ q < w.heap.size ∧ w.cell? ⟨q, k * 2, none⟩ = some (.bool z.af) ∧ w.cell? ⟨q, k * 2 + 1, none⟩ = some (.int .i64 z.id) := by
  obtain ⟨⟨F, G, o, y, e⟩, m⟩ := h
  obtain ⟨q, hP, hq, h1, h2⟩ := y.kx hz
  exact ⟨q, _, by rw [← hP]; exact y.cells.2.1, hq, h1, h2⟩
theorem FS.a4 {k : Nat} {z : Af} (h : FS W t p s O w) (hz : s.A[k]? = some z) : ∃ q cA, w.cell? ⟨t, 4, none⟩ = some (.slice (some ⟨q, 0, none⟩) s.A.length cA) ∧ q < w.heap.size ∧ w.cell? ⟨q, k * 2, none⟩ = some (.int .i64 z.nd) ∧ w.cell? ⟨q, k * 2 + 1, none⟩ = some (.int .i64 z.pg) := by
  obtain ⟨⟨F, G, o, y, e⟩, m⟩ := h
  obtain ⟨q, hP, hq, h1, h2⟩ := y.ax hz
  exact ⟨q, _, by rw [← hP]; exact y.cells.2.2.2.1, hq, h1, h2⟩
/-- What is known ahead of each round. -/
structure CI (er cs : Int) (s : St) (ws : List Nat) (j : Nat) (s' : St) (l : List Lap) (m : List Mp) : Prop where
  eq : cfold er cs ws s = ((cfold er cs (ws.drop j) s').1, l ++ (cfold er cs (ws.drop j) s').2.1, m ++ (cfold er cs (ws.drop j) s').2.2)
  gd : ∀ k ∈ ws.drop j, Good s' k
  e : s'.E = s.E
  sl : s'.S.length ≤ s.S.length
  c : s'.C.length = s.C.length
  a : s'.A = s.A
  k : s'.K = s.K
  ll : l.length ≤ j
  ml : m.length ≤ j
theorem CI.start {ws' : List Nat} (hg : ∀ k ∈ ws', Good s k) : CI er cs s ws' 0 s [] [] := ⟨by simp, by simpa using hg, rfl, Nat.le_refl _, rfl, rfl, rfl, by simp, by simp⟩
theorem CI.next {ws : List Nat} {j k : Nat} {s' : St} {l : List Lap} {m : List Mp} (h : CI er cs s ws j s' l m) (hj : ws[j]? = some k) (hn : ws.Nodup) : Good s' k ∧ CI er cs s ws (j + 1) (cst er cs s' k) (l ++ clp s' k) (m ++ cmp s' k) := by
  obtain ⟨h1, h2⟩ := Good.all (er := er) (cs := cs) h.gd hj hn
  obtain ⟨e1, e2, e3, e4, e5, e6⟩ := cst_len (er := er) (cs := cs) s' k
  have hc : (clp s' k).length ≤ 1 := by unfold clp; split <;> (try split) <;> simp
  have hm : (cmp s' k).length ≤ 1 := by unfold cmp; split <;> (try split) <;> simp
  refine ⟨h1, ?_, h2, e2.trans h.e, Nat.le_trans e3 h.sl, e1.trans h.c, e5.trans h.a, e4.trans h.k, ?_, ?_⟩
  · rw [h.eq, cfold_drop hj]; simp
  · have := h.ll; rw [List.length_append]; omega
  · have := h.ml; rw [List.length_append]; omega
/-- Detach on the way. -/
theorem CL.cut {w1 : World} {ws : List Int} {Pw P1 P2 : Option Addr} {cw c1 c2 : Nat} {l : List Lap} {m : List Mp} (h : CL W w1 t p O ws Pw cw er cs s P1 c1 l P2 c2 m w) (k : Nat) (hk : k < s.T.length) :
    Calls Try.prog 44 #[.pointer (some ⟨t, 1, none⟩), .int .i64 (k : Int)] w fun e w' => (∃ b, e = .returned (.bool b)) ∧ CL W w1 t p O ws Pw cw er cs { s with T := Tr.cut s.T k } P1 c1 l P2 c2 m w' := by
  obtain ⟨O', f, hs⟩ := h.fs
  exact (f.cut k hk).mono fun e w' ⟨h1, h2⟩ => ⟨h1, h.go f hs h2⟩
/-- end on the way; a block of the call's own is kept. -/
theorem CL.endc {w1 w3 : World} {ws : List Int} {Pw P1 P2 : Option Addr} {cw c1 c2 b c : Nat} {l : List Lap} {m : List Mp} {bx : Array Value} (h : CL W w1 t p O ws Pw cw er cs s P1 c1 l P2 c2 m w) (hx : s.C[i]? = some x) (hc : x.ch = some c) (hcl : x.cl = false) (hr : x.rs.length ≤ 1000000) (hE : s.E.length ≤ 100000) (hl : s.S.length ≤ 1000) (hC : s.C.length ≤ 1000)
    (hb : w.heap.size = b) (hb3 : Below b (w.alloc (.cells bx 119)) w3) (h3 : (w.alloc (.cells bx 119)).heap.size ≤ w3.heap.size) (hbb : w3.heap[b]? = some (.cells bx 119 (0, 0))) :
    Calls Try.prog 53 #[pS t, .int .i64 (i : Int), .int .i64 er, .int .i64 cs] w3 fun e w' => ∃ A n c, e = .returned (.slice A n c) ∧ Hid (n = (wks x).length ∧ Ch.RdK w' A n (wks x) ∧ CL W w1 t p O ws Pw cw er cs { s with C := s.C.set i (ended x er cs), S := del x.lp s.S } P1 c1 l P2 c2 m w' ∧ w'.heap[b]? = some (.cells bx 119 (0, 0)) ∧ w3.heap.size ≤ w'.heap.size) := by
  subst hb
  have h' : CL W w1 t p O ws Pw cw er cs s P1 c1 l P2 c2 m w3 := h.later ((below_al w (.cells bx 119)).trans hb3)
  obtain ⟨O0, f0, hs0⟩ := h.fs
  have f3 := f0.later ((below_al w (.cells bx 119)).trans hb3)
  have hnb : ¬ O0 w.heap.size := fun hk => by have := f0.lt hk; omega
  refine (end_ctx er cs f3 hx hc hcl hr hE hl hC).mono ?_
  rintro e w' ⟨A, n, k, hn, rfl, h1, h2⟩
  refine ⟨A, n, k, rfl, hn.out, h1.out, h'.go f3 hs0 h2.out, ?_, ?_⟩
  · obtain ⟨O2, f2, hs2, fm2⟩ := h2.out
    exact fm2.2 _ _ _ _ hbb (by decide) hnb
  · obtain ⟨O2, f2, hs2, fm2⟩ := h2.out
    exact fm2.1

theorem kept_box {wx w5 : World} {B b n c ty : Nat} {bx : Array Value} {P : Option Addr} {sz : Nat} {xs : List Value} (hb : wx.heap[b]? = some (.cells bx 119 (0, 0))) (r : wx.ownsRow B ty sz (.slice P n c) n xs) (hn : ty ≠ 119) (hg : wx.grownBy w5 (Value.slice P n c).ownBlock) : w5.heap[b]? = some (.cells bx 119 (0, 0)) := by
  rw [own_blk] at hg
  exact (hg.block b (lt_of_blk hb) fun e => (tag_row r e.symm).not hb (by exact fun e => hn e.symm)).trans hb
theorem LR.low {B B' : Nat} {P : Option Addr} {c : Nat} {l : List Lap} (h : LR B w P c er cs l) (hB : B' ≤ B) : LR B' w P c er cs l := by
  obtain ⟨L, h1, h2, h3⟩ := h
  exact ⟨L, h1, h2, row_low h3 hB⟩
theorem CL.done {w1 : World} {ws : List Nat} {Pw P1 P2 : Option Addr} {cw c1 c2 n1 n2 j : Nat} {l : List Lap} {m : List Mp} {s' : St} (h : CL W w1 t p O (nz ws) Pw cw er cs s' P1 c1 l P2 c2 m w') (hi : CI er cs s ws j s' l m) (hj : ws.length ≤ j) (h1 : n1 = l.length) (h2 : n2 = m.length) (hb : Below w.heap.size w w1) (hO : ∀ k, O k → k < w.heap.size) :
    CaR W t p (cfold er cs ws s).1 O er cs (cfold er cs ws s).2.1 (cfold er cs ws s).2.2 w (.returned (.tuple #[.slice P1 n1 c1, .slice P2 n2 c2])) w' := by
  have e := hi.eq
  rw [List.drop_of_length_le hj] at e
  simp only [cfold, List.append_nil] at e
  rw [e]
  obtain ⟨⟨O', f, hs⟩, fm, wr, wn, lr, mr⟩ := h
  refine ⟨P1, n1, c1, P2, n2, c2, h1, h2, rfl, ⟨O', f, fun k hk => ?_, (Fm.of_below (O := O) hb).comp fm fun k hk => .inl hk⟩, lr.low hb.size, row_low mr hb.size⟩
  rcases hs k hk with h3 | h3
  · exact .inl h3
  · exact .inr (Nat.le_trans hb.size h3)

set_option maxHeartbeats 8000000 in
theorem cancel_go {er cs : Int} (h : FS W t p s O w) (hx : s.C[i]? = some x) (he : x.er = 0) (hnd : x.nd < s.T.length) (hg : ∀ k ∈ Tr.walk s.T x.nd, Good s k) (hE : s.E.length ≤ 100000) (hl : s.S.length ≤ 1000) (hC : s.C.length ≤ 1000) (hA : s.A.length ≤ 1000) (hK : s.K.length ≤ 1000) :
    Calls Try.prog 37 #[pS t, .int .i64 (i : Int), .int .i64 er, .int .i64 cs] w (CaR W t p (cfold er cs (Tr.walk s.T x.nd) s).1 O er cs (cfold er cs (Tr.walk s.T x.nd) s).2.1 (cfold er cs (Tr.walk s.T x.nd) s).2.2 w) := by
  have hi := (List.getElem?_eq_some_iff.1 hx).1
  have b1 : (i : Int) < (s.C.length : Int) := by omega
  have b2 : (0 : Int) ≤ (i : Int) := by omega
  have H := Lib.hid (over_any h hx)
  have b3 : (x.er != 0) = false := by rw [he]; rfl
  rw [b3] at H
  obtain ⟨PC, cC, h3, hr⟩ := h.c3
  obtain ⟨q, rfl, hq, x0, -⟩ := hr i x hx
  have ht := h.tlt
  have HA := Lib.hid h
  have HW : Hid (∀ w', Below w.heap.size w w' → Calls Try.prog 52 #[.pointer (some ⟨t, 1, none⟩), .int .i64 (x.nd : Int)] w' (RowR (nz (Tr.walk s.T x.nd)) w')) := fun w' hb => (h.later hb).walk x.nd hnd
  have KP : Hid (∀ w', Below w.heap.size w w' → w'.cell? ⟨t, 3, none⟩ = some (.slice (some ⟨q, 0, none⟩) s.C.length cC) ∧ w'.cell? ⟨q, i * 8, none⟩ = some (.int .i64 x.nd)) := fun w' hb => ⟨(hb.cell (p := ⟨t, 3, none⟩) ht).trans h3, (hb.cell (p := ⟨q, i * 8, none⟩) hq).trans x0⟩
  have HN : Hid ((Tr.walk s.T x.nd).Nodup ∧ (Tr.walk s.T x.nd).length ≤ 1000) := ⟨walk_once h.wf hnd, Nat.le_trans (walk_len h.wf hnd) h.tle⟩
  have HGD := Lib.hid hg
  have HSZ := Lib.hid (And.intro hE (And.intro hl (And.intro hC (And.intro hA hK))))
  clear hr hx hnd hg hE hl hC hA hK b3 he h
  go_enter Try.func37, Try.ntmps37
  go_wp2_with fail
  refine H.out.mono ?_
  rintro e w' ⟨rfl, rfl⟩
  clear H
  go_wp2_with fail
  refine but_start 1000 (fun w' => w'.cell? ⟨t, 3, none⟩ = some (.slice (some ⟨q, 0, none⟩) s.C.length cC) ∧ w'.cell? ⟨q, i * 8, none⟩ = some (.int .i64 x.nd)) (by kernel_rfl) ?_
  have hHeld := KP.out w.drew (Below.refl _ _).drew
  change AnyBut _ _ _ _ _ _ 14 _ _ _
  refine but_take (i := 0) (v := ?_) rfl (by kernel_rfl) (by kernel_rfl) (by kernel_rfl) (by kernel_rfl) (fun _ _ _ h => h) (Or.inl ⟨by first | kernel_rfl | rfl, ?_⟩) hHeld ?_
  rotate_left
  · intro w hSw
    (try dsimp only at hSw)
    go_split_ands
    go_simp
    try with_reducible rfl
  try simp only [List.getElem_toArray, List.getElem_cons_zero, Act.put, List.setIfInBounds_toArray, List.set_cons_zero, List.set_cons_succ]
  refine but_take (i := 1) (v := ?_) rfl (by kernel_rfl) (by kernel_rfl) (by kernel_rfl) (by kernel_rfl) (fun _ _ _ h => h) (Or.inl ⟨by first | kernel_rfl | rfl, ?_⟩) hHeld ?_
  rotate_left
  · intro w hSw
    (try dsimp only at hSw)
    go_split_ands
    go_simp
    try with_reducible rfl
  try simp only [List.getElem_toArray, List.getElem_cons_succ, List.getElem_cons_zero, Act.put, List.setIfInBounds_toArray, List.set_cons_zero, List.set_cons_succ]
  refine but_take (i := 2) (v := ?_) rfl (by kernel_rfl) (by kernel_rfl) (by kernel_rfl) (by kernel_rfl) (fun _ _ _ h => h) (Or.inl ⟨by first | kernel_rfl | rfl, ?_⟩) hHeld ?_
  rotate_left
  · intro w hSw
    (try dsimp only at hSw)
    go_split_ands
    go_simp
    try with_reducible rfl
  try simp only [List.getElem_toArray, List.getElem_cons_succ, List.getElem_cons_zero, Act.put, List.setIfInBounds_toArray, List.set_cons_zero, List.set_cons_succ]
  refine but_take (i := 3) (v := ?_) rfl (by kernel_rfl) (by kernel_rfl) (by kernel_rfl) (by kernel_rfl) (fun _ _ _ h => h) (Or.inl ⟨by first | kernel_rfl | rfl, ?_⟩) hHeld ?_
  rotate_left
  · intro w hSw
    (try dsimp only at hSw)
    go_split_ands
    go_simp
    try with_reducible rfl
  try simp only [List.getElem_toArray, List.getElem_cons_succ, List.getElem_cons_zero, Act.put, List.setIfInBounds_toArray, List.set_cons_zero, List.set_cons_succ]
  refine but_take (i := 4) (v := ?_) rfl (by kernel_rfl) (by kernel_rfl) (by kernel_rfl) (by kernel_rfl) (fun _ _ _ h => h) (Or.inl ⟨by first | kernel_rfl | rfl, ?_⟩) hHeld ?_
  rotate_left
  · intro w hSw
    (try dsimp only at hSw)
    go_split_ands
    go_simp
    try with_reducible rfl
  try simp only [List.getElem_toArray, List.getElem_cons_succ, List.getElem_cons_zero, Act.put, List.setIfInBounds_toArray, List.set_cons_zero, List.set_cons_succ]
  refine but_take (i := 5) (v := ?_) rfl (by kernel_rfl) (by kernel_rfl) (by kernel_rfl) (by kernel_rfl) (fun _ _ _ h => h) (Or.inl ⟨by first | kernel_rfl | rfl, ?_⟩) hHeld ?_
  rotate_left
  · intro w hSw
    (try dsimp only at hSw)
    go_split_ands
    go_simp
    try with_reducible rfl
  try simp only [List.getElem_toArray, List.getElem_cons_succ, List.getElem_cons_zero, Act.put, List.setIfInBounds_toArray, List.set_cons_zero, List.set_cons_succ]
  refine but_take (i := 6) (v := ?_) rfl (by kernel_rfl) (by kernel_rfl) (by kernel_rfl) (by kernel_rfl) (fun _ _ _ h => h) (Or.inl ⟨by first | kernel_rfl | rfl, ?_⟩) hHeld ?_
  rotate_left
  · intro w hSw
    (try dsimp only at hSw)
    go_split_ands
    go_simp
    try with_reducible rfl
  try simp only [List.getElem_toArray, List.getElem_cons_succ, List.getElem_cons_zero, Act.put, List.setIfInBounds_toArray, List.set_cons_zero, List.set_cons_succ]
  refine but_take (i := 7) (v := ?_) rfl (by kernel_rfl) (by kernel_rfl) (by kernel_rfl) (by kernel_rfl) (fun _ _ _ h => h) (Or.inl ⟨by first | kernel_rfl | rfl, ?_⟩) hHeld ?_
  rotate_left
  · intro w hSw
    (try dsimp only at hSw)
    go_split_ands
    go_simp
    try with_reducible rfl
  try simp only [List.getElem_toArray, List.getElem_cons_succ, List.getElem_cons_zero, Act.put, List.setIfInBounds_toArray, List.set_cons_zero, List.set_cons_succ]
  refine but_take (i := 8) (v := ?_) rfl (by kernel_rfl) (by kernel_rfl) (by kernel_rfl) (by kernel_rfl) (fun _ _ _ h => h) (Or.inl ⟨by first | kernel_rfl | rfl, ?_⟩) hHeld ?_
  rotate_left
  · intro w hSw
    (try dsimp only at hSw)
    go_split_ands
    go_simp
    try with_reducible rfl
  try simp only [List.getElem_toArray, List.getElem_cons_succ, List.getElem_cons_zero, Act.put, List.setIfInBounds_toArray, List.set_cons_zero, List.set_cons_succ]
  refine but_take (i := 9) (v := ?_) rfl (by kernel_rfl) (by kernel_rfl) (by kernel_rfl) (by kernel_rfl) (fun _ _ _ h => h) (Or.inl ⟨by first | kernel_rfl | rfl, ?_⟩) hHeld ?_
  rotate_left
  · intro w hSw
    (try dsimp only at hSw)
    go_split_ands
    go_simp
    try with_reducible rfl
  try simp only [List.getElem_toArray, List.getElem_cons_succ, List.getElem_cons_zero, Act.put, List.setIfInBounds_toArray, List.set_cons_zero, List.set_cons_succ]
  refine but_take (i := 10) (v := ?_) rfl (by kernel_rfl) (by kernel_rfl) (by kernel_rfl) (by kernel_rfl) (fun _ _ _ h => h) (Or.inl ⟨by first | kernel_rfl | rfl, ?_⟩) hHeld ?_
  rotate_left
  · intro w hSw
    (try dsimp only at hSw)
    go_split_ands
    go_simp
    try with_reducible rfl
  try simp only [List.getElem_toArray, List.getElem_cons_succ, List.getElem_cons_zero, Act.put, List.setIfInBounds_toArray, List.set_cons_zero, List.set_cons_succ]
  refine but_take (i := 13) (v := ?_) rfl (by kernel_rfl) (by kernel_rfl) (by kernel_rfl) (by kernel_rfl) (fun _ _ _ h => h) (Or.inl ⟨by first | kernel_rfl | rfl, ?_⟩) hHeld ?_
  rotate_left
  · intro w hSw
    (try dsimp only at hSw)
    go_split_ands
    go_simp
    try with_reducible rfl
  try simp only [List.getElem_toArray, List.getElem_cons_succ, List.getElem_cons_zero, Act.put, List.setIfInBounds_toArray, List.set_cons_zero, List.set_cons_succ]
  refine but_one (i := 11) (by kernel_rfl) rfl ?_
  intro K hK
  go_simp
  go_at_call 52
  refine (HW.out _ (by first | exact Below.refl _ _ | exact (Below.refl _ _).drew | (repeat' (first | exact Below.refl _ _ | (with_reducible assumption) | refine Below.drew ?_ | refine Below.alloc ?_ (by first | omega | (simp <;> omega)) _)))).mono ?_
  rintro e w1 ⟨Pw, cw, nw, hnw, rfl, hrw, hbw⟩
  have hb1 := hbw.out
  have hHeld2 := KP.out w1 ((Below.refl _ _).drew.trans (hb1.mono (by simp)))
  refine hK _ _ (fun _ => hHeld2) ?_
  clear hK K hHeld
  have hHeld := hHeld2
  clear hHeld2
  try simp only [List.getElem_toArray, List.getElem_cons_succ, List.getElem_cons_zero, Act.put, List.setIfInBounds_toArray, List.set_cons_zero, List.set_cons_succ]
  refine but_take (i := 12) (v := ?_) rfl (by kernel_rfl) (by kernel_rfl) (by kernel_rfl) (by kernel_rfl) (fun _ _ _ h => h) (Or.inl ⟨by first | kernel_rfl | rfl, ?_⟩) hHeld ?_
  rotate_left
  · intro w hSw
    (try dsimp only at hSw)
    go_split_ands
    go_simp
    try with_reducible rfl
  try simp only [List.getElem_toArray, List.getElem_cons_succ, List.getElem_cons_zero, Act.put, List.setIfInBounds_toArray, List.set_cons_zero, List.set_cons_succ]
  refine but_done (by kernel_rfl) ?_
  try clear hHeld
  clear x0 h3 KP HW
  have HB1 : Hid (Below w.heap.size w w1) := (Below.refl _ _).drew.trans (hb1.mono (by simp))
  generalize hws : Tr.walk s.T x.nd = ws at *
  have HW1 : Hid (W.heap.size ≤ w1.heap.size) := Nat.le_trans HA.out.bel.size HB1.out.size
  have HCL : Hid (CL W w1 t p O (nz ws) Pw cw er cs s none 0 [] none 0 [] w1) := ⟨⟨O, HA.out.later HB1.out, fun k hk => .inl hk⟩, Fm.refl _ _, row_low hrw.out (Nat.zero_le _), fun k hk => ⟨(row_lt hrw.out hk).2, fun h9 => by
    have := HA.out.lt h9
    have := (row_lt hrw.out hk).1
    have : w.drew.heap.size = w.heap.size := rfl
    omega⟩, LR.nil _ _ _ _, SR.nil _ _⟩
  have HCI : Hid (CI er cs s ws 0 s [] []) := CI.start HGD.out
  have hn9 : nw ≤ 1000 := by rw [hnw.out, nz_len]; exact HN.out.2
  clear hrw hbw hb1 hq ht hws HGD b1 b2 hi
  go_wp2_with fail
  go_loopw [8, 9, 29] (fun s8 s9 s29 wr => ∃ (j n1 c1 n2 c2 : Nat) (P1 P2 : Option Addr) (s' : St) (l : List Lap) (m : List Mp), j ≤ nw ∧ s29 = .int .i64 j ∧ s8 = .slice P1 n1 c1 ∧ s9 = .slice P2 n2 c2 ∧ Hid (n1 = l.length ∧ n2 = m.length ∧ CL W w1 t p O (nz ws) Pw cw er cs s' P1 c1 l P2 c2 m wr ∧ CI er cs s ws j s' l m)) (fun _ _ x _ => nw - (intOf x).toNat)
  case atStart => exact ⟨0, 0, 0, 0, 0, none, none, s, [], [], by omega, rfl, rfl, rfl, rfl, rfl, HCL.out, HCI.out⟩
  case round =>
    clear HCL HCI
    obtain ⟨j, n1, c1, n2, c2, P1, P2, s', l, m, hj, rfl, rfl, rfl, hR⟩ := hrel
    by_cases hlt : j < nw
    · have b3 : (j : Int) < (nw : Int) := by omega
      have b4 : (0 : Int) ≤ (j : Int) := by omega
      obtain ⟨k, hk⟩ : ∃ k, ws[j]? = some k := ⟨_, List.getElem?_eq_getElem (by have := hnw.out; rw [nz_len] at this; omega)⟩
      obtain ⟨g1, hI⟩ := hR.out.2.2.2.next hk HN.out.1
      obtain ⟨hkT, ⟨za, zi⟩, hz, hza, hzc⟩ := g1
      obtain ⟨gw, hgw, _⟩ := row_form hR.out.2.2.1.wr (by rw [← hnw.out]; omega)
      have hcell := hR.out.2.2.1.wr.at hgw (i := j) (x := (k : Int)) (by rw [nz, List.getElem?_map, hk]; rfl)
      have HCUT := Lib.hid (hR.out.2.2.1.cut k hkT)
      have HI := Lib.hid hI
      have HZ := Lib.hid hz
      have HZA := Lib.hid hza
      have HZC := Lib.hid hzc
      have HL1 : Hid (n1 = l.length ∧ n2 = m.length ∧ l.length ≤ j ∧ m.length ≤ j) := ⟨hR.out.1, hR.out.2.1, hR.out.2.2.2.ll, hR.out.2.2.2.ml⟩
      have HB : Hid (s'.E.length ≤ 100000 ∧ s'.S.length ≤ 1000 ∧ s'.C.length ≤ 1000 ∧ s'.A.length ≤ 1000 ∧ s'.K.length ≤ 1000) := by
        have q := hR.out.2.2.2
        have z := HSZ.out
        exact ⟨by rw [q.e]; exact z.1, Nat.le_trans q.sl z.2.1, by rw [q.c]; exact z.2.2.1, by rw [q.a]; exact z.2.2.2.1, by rw [q.k]; exact z.2.2.2.2⟩
      subst hgw
      clear hR hI hz hza hzc hk
      go_wp2_with fail
      refine HCUT.out.mono ?_
      rintro e w2 ⟨⟨b9, rfl⟩, hC2⟩
      have HC2 := Lib.hid hC2
      obtain ⟨O2, f2, -⟩ := hC2.fs
      have ht2 := f2.tlt
      have bk1 : (0 : Int) ≤ (k : Int) := by omega
      have bk2 : (k : Int) < (s'.K.length : Int) := by have := (List.getElem?_eq_some_iff.1 HZ.out).1; omega
      obtain ⟨qk, cK, k2, hqk, ka, ki⟩ := f2.k2 (k := k) HZ.out
      have HF2 := Lib.hid f2
      clear hC2 f2 HCUT hcell
      have hj9 : j ≤ 1000 := by omega
      have hn1 : n1 ≤ 1000 := by have := HL1.out; omega
      have hn2 : n2 ≤ 1000 := by have := HL1.out; omega
      cases za with
      | true =>
        obtain ⟨a, ha⟩ := HZA.out rfl
        have bz1 : (0 : Int) ≤ (zi : Int) := by omega
        have bz2 : (zi : Int) < (s'.A.length : Int) := by have := (List.getElem?_eq_some_iff.1 ha).1; omega
        obtain ⟨qa, cA, k4, hqa, -, ap⟩ := HF2.out.a4 (k := zi) ha
        obtain ⟨iM, hiM, yz0, yz1, yz2⟩ := info_parts infM
        have HMR : Hid (w2.ownsRow w1.heap.size 57 2 (.slice P2 n2 c2) n2 (m.flatMap mE)) := by
          have h9 := HC2.out.mr
          unfold SR at h9
          rw [← HL1.out.2.1] at h9
          exact h9
        have HM : Hid (∀ {wx w5 : World} {g cap : Nat}, Below w2.heap.size w2 wx → wx.grownBy w5 (Value.slice P2 n2 c2).ownBlock → w5.ownsRow w1.heap.size 57 2 (.slice (some ⟨g, 0, none⟩) (n2 + 1) cap) (n2 + 1) (m.flatMap mE ++ mE ⟨zi, a.pg⟩) → CL W w1 t p O (nz ws) (some ⟨gw, 0, none⟩) cw er cs { s' with T := Tr.cut s'.T k } P1 c1 l (some ⟨g, 0, none⟩) cap (m ++ [⟨zi, a.pg⟩]) w5) := by
          intro wx w5 g cap h1 h2 h3
          rw [HL1.out.2.1] at h2 h3
          exact HC2.out.addM (x := ⟨zi, a.pg⟩) HW1.out h1 h2 h3
        have HS1 : Hid (w1.heap.size ≤ w2.heap.size) := HC2.out.fm.1
        have HI2 : Hid (CI er cs s ws (j + 1) { s' with T := Tr.cut s'.T k } l (m ++ [⟨zi, a.pg⟩])) := by
          have h9 := HI.out
          rw [cst_af HZ.out, clp_af HZ.out, cmp_af HZ.out ha, List.append_nil] at h9
          exact h9
        clear ha HC2 HF2 HI HZ HZA HZC HB
        go_wp2_with fail
        have hs1 := HS1.out
        go_region_law (go_loud (refine step_append_lies _ (by rfl) _ _ _ (by rfl) w1.heap.size 57 iM (.agg #[.int .i64 0, .int .i64 0]) 2 16 Try.underlying36 hiM yz0 yz1 yz2 rfl (by omega) (.slice P2 n2 c2) n2 (m.flatMap mE) (by rfl) (row_later HMR.out (below_two rfl rfl rfl rfl)) ⟨w2.heap.size + 1, 0, none⟩ 1 1 (mE ⟨zi, a.pg⟩) (by rfl) (by rfl) (World.news_of_block (cs := #[.int .i64 (zi : Int), .int .i64 a.pg]) (t := 57) (fr := (0, 0)) (news_two (w := w2) (by rfl))) (mE_one _) (by omega) (by unfold maxLen; omega) (by omega) (by first | omega | (simp; done) | (simp; omega)) (w2.heap.size + 2) (by simp) ?_; intro g5 cap5 w5 hown hgrow hat hlt5; have HE := Lib.hid (HM.out (by exact below_two rfl rfl rfl rfl) hgrow hown); clear hown hgrow hat hlt5))
        all_goals
          go_wp2_with fail
          go_roundw
          case rel => exact ⟨j + 1, n1, c1, n2 + 1, cap5, P1, some ⟨g5, 0, none⟩, _, _, _, by omega, by go_num, rfl, rfl, HL1.out.1, by simp [HL1.out.2.1], HE.out, HI2.out⟩
          case measure => simp [intOf]; omega
      | false =>
        obtain ⟨y, ch, hy, hynd, hych, hycl, hyrs⟩ := HZC.out rfl
        obtain ⟨iL, hiL, yz0, yz1, yz2⟩ := info_parts infL
        have HI2 : Hid (CI er cs s ws (j + 1) { s' with T := Tr.cut s'.T k, C := s'.C.set zi (ended y er cs), S := del y.lp s'.S } (l ++ [(zi, wks y)]) m) := by
          have h9 := HI.out
          rw [cst_cx HZ.out hy, clp_cx HZ.out hy, cmp_cx HZ.out, List.append_nil] at h9
          exact h9
        go_wp2_with fail
        have HEN : Hid (∀ w3, Below (w2.alloc (.cells #[.bool false, .int .i64 (zi : Int)] 119)).heap.size (w2.alloc (.cells #[.bool false, .int .i64 (zi : Int)] 119)) w3 → Calls Try.prog 53 #[pS t, .int .i64 (zi : Int), .int .i64 er, .int .i64 cs] w3 fun e w' => ∃ A n c, e = .returned (.slice A n c) ∧ Hid (n = (wks y).length ∧ Ch.RdK w' A n (wks y) ∧ CL W w1 t p O (nz ws) (some ⟨gw, 0, none⟩) cw er cs { s' with T := Tr.cut s'.T k, C := s'.C.set zi (ended y er cs), S := del y.lp s'.S } P1 c1 l P2 c2 m w' ∧ w'.heap[w2.heap.size]? = some (.cells #[.bool false, .int .i64 (zi : Int)] 119 (0, 0)) ∧ w3.heap.size ≤ w'.heap.size)) := by
          intro w3 hb
          exact HC2.out.endc (x := y) hy hych hycl hyrs HB.out.1 HB.out.2.1 HB.out.2.2.1 rfl (hb.mono (by simp)) hb.size ((hb.block _ (by simp)).trans (heap_alloc_new w2 _))
        have KPB : Hid (∀ w', Below (w2.alloc (.cells #[.bool false, .int .i64 (zi : Int)] 119)).heap.size (w2.alloc (.cells #[.bool false, .int .i64 (zi : Int)] 119)) w' → w'.cell? ⟨w2.heap.size, 1, none⟩ = some (.int .i64 (zi : Int))) := fun w' hb => by
          rw [cell_of_row w' w2.heap.size 1 _ _ _ ((hb.block _ (by simp)).trans (heap_alloc_new w2 _))]; rfl
        clear HC2 HF2 HI HZ HZA HZC HB hy hynd hych hycl hyrs k2 hqk ka ki ht2
        generalize w2.alloc (.cells #[.bool false, .int .i64 (zi : Int)] 119) = w3 at *
        generalize w2.heap.size = b at *
        refine but_start 1000 (fun w' => w'.cell? ⟨b, 1, none⟩ = some (.int .i64 (zi : Int))) (by kernel_rfl) ?_
        have hHeld := KPB.out w3.drew (Below.refl _ _).drew
        change AnyBut _ _ _ _ _ _ 15 _ _ _
        refine but_take (i := 0) (v := ?_) rfl (by kernel_rfl) (by kernel_rfl) (by kernel_rfl) (by kernel_rfl) (fun _ _ _ h => h) (Or.inl ⟨by first | kernel_rfl | rfl, ?_⟩) hHeld ?_
        rotate_left
        · intro w hSw
          (try dsimp only at hSw)
          go_split_ands
          go_simp
          try with_reducible rfl
        try simp only [List.getElem_toArray, List.getElem_cons_zero, Act.put, List.setIfInBounds_toArray, List.set_cons_zero, List.set_cons_succ]
        refine but_take (i := 1) (v := ?_) rfl (by kernel_rfl) (by kernel_rfl) (by kernel_rfl) (by kernel_rfl) (fun _ _ _ h => h) (Or.inl ⟨by first | kernel_rfl | rfl, ?_⟩) hHeld ?_
        rotate_left
        · intro w hSw
          (try dsimp only at hSw)
          go_split_ands
          go_simp
          try with_reducible rfl
        try simp only [List.getElem_toArray, List.getElem_cons_succ, List.getElem_cons_zero, Act.put, List.setIfInBounds_toArray, List.set_cons_zero, List.set_cons_succ]
        refine but_take (i := 2) (v := ?_) rfl (by kernel_rfl) (by kernel_rfl) (by kernel_rfl) (by kernel_rfl) (fun _ _ _ h => h) (Or.inl ⟨by first | kernel_rfl | rfl, ?_⟩) hHeld ?_
        rotate_left
        · intro w hSw
          (try dsimp only at hSw)
          go_split_ands
          go_simp
          try with_reducible rfl
        try simp only [List.getElem_toArray, List.getElem_cons_succ, List.getElem_cons_zero, Act.put, List.setIfInBounds_toArray, List.set_cons_zero, List.set_cons_succ]
        refine but_take (i := 3) (v := ?_) rfl (by kernel_rfl) (by kernel_rfl) (by kernel_rfl) (by kernel_rfl) (fun _ _ _ h => h) (Or.inl ⟨by first | kernel_rfl | rfl, ?_⟩) hHeld ?_
        rotate_left
        · intro w hSw
          (try dsimp only at hSw)
          go_split_ands
          go_simp
          try with_reducible rfl
        try simp only [List.getElem_toArray, List.getElem_cons_succ, List.getElem_cons_zero, Act.put, List.setIfInBounds_toArray, List.set_cons_zero, List.set_cons_succ]
        refine but_take (i := 4) (v := ?_) rfl (by kernel_rfl) (by kernel_rfl) (by kernel_rfl) (by kernel_rfl) (fun _ _ _ h => h) (Or.inl ⟨by first | kernel_rfl | rfl, ?_⟩) hHeld ?_
        rotate_left
        · intro w hSw
          (try dsimp only at hSw)
          go_split_ands
          go_simp
          try with_reducible rfl
        try simp only [List.getElem_toArray, List.getElem_cons_succ, List.getElem_cons_zero, Act.put, List.setIfInBounds_toArray, List.set_cons_zero, List.set_cons_succ]
        refine but_take (i := 5) (v := ?_) rfl (by kernel_rfl) (by kernel_rfl) (by kernel_rfl) (by kernel_rfl) (fun _ _ _ h => h) (Or.inl ⟨by first | kernel_rfl | rfl, ?_⟩) hHeld ?_
        rotate_left
        · intro w hSw
          (try dsimp only at hSw)
          go_split_ands
          go_simp
          try with_reducible rfl
        try simp only [List.getElem_toArray, List.getElem_cons_succ, List.getElem_cons_zero, Act.put, List.setIfInBounds_toArray, List.set_cons_zero, List.set_cons_succ]
        refine but_take (i := 6) (v := ?_) rfl (by kernel_rfl) (by kernel_rfl) (by kernel_rfl) (by kernel_rfl) (fun _ _ _ h => h) (Or.inl ⟨by first | kernel_rfl | rfl, ?_⟩) hHeld ?_
        rotate_left
        · intro w hSw
          (try dsimp only at hSw)
          go_split_ands
          go_simp
          try with_reducible rfl
        try simp only [List.getElem_toArray, List.getElem_cons_succ, List.getElem_cons_zero, Act.put, List.setIfInBounds_toArray, List.set_cons_zero, List.set_cons_succ]
        refine but_take (i := 7) (v := ?_) rfl (by kernel_rfl) (by kernel_rfl) (by kernel_rfl) (by kernel_rfl) (fun _ _ _ h => h) (Or.inl ⟨by first | kernel_rfl | rfl, ?_⟩) hHeld ?_
        rotate_left
        · intro w hSw
          (try dsimp only at hSw)
          go_split_ands
          go_simp
          try with_reducible rfl
        try simp only [List.getElem_toArray, List.getElem_cons_succ, List.getElem_cons_zero, Act.put, List.setIfInBounds_toArray, List.set_cons_zero, List.set_cons_succ]
        refine but_take (i := 8) (v := ?_) rfl (by kernel_rfl) (by kernel_rfl) (by kernel_rfl) (by kernel_rfl) (fun _ _ _ h => h) (Or.inl ⟨by first | kernel_rfl | rfl, ?_⟩) hHeld ?_
        rotate_left
        · intro w hSw
          (try dsimp only at hSw)
          go_split_ands
          go_simp
          try with_reducible rfl
        try simp only [List.getElem_toArray, List.getElem_cons_succ, List.getElem_cons_zero, Act.put, List.setIfInBounds_toArray, List.set_cons_zero, List.set_cons_succ]
        refine but_take (i := 9) (v := ?_) rfl (by kernel_rfl) (by kernel_rfl) (by kernel_rfl) (by kernel_rfl) (fun _ _ _ h => h) (Or.inl ⟨by first | kernel_rfl | rfl, ?_⟩) hHeld ?_
        rotate_left
        · intro w hSw
          (try dsimp only at hSw)
          go_split_ands
          go_simp
          try with_reducible rfl
        try simp only [List.getElem_toArray, List.getElem_cons_succ, List.getElem_cons_zero, Act.put, List.setIfInBounds_toArray, List.set_cons_zero, List.set_cons_succ]
        refine but_one (i := 10) (by kernel_rfl) rfl ?_
        intro K hK
        go_simp
        go_at_call 53
        refine (HEN.out _ (by first | exact Below.refl _ _ | exact (Below.refl _ _).drew | (repeat' (first | exact Below.refl _ _ | (with_reducible assumption) | refine Below.drew ?_ | refine Below.alloc ?_ (by first | omega | (simp <;> omega)) _)))).mono ?_
        rintro e w4 ⟨A4, n4, k4, rfl, h4⟩
        obtain ⟨L, hmL, haL, hoL⟩ := h4.out.2.2.1.lr
        have eL : L.length = n1 := by rw [HL1.out.1, ← hmL, List.length_map]
        have hb4 : b < w4.heap.size := lt_of_blk h4.out.2.2.2.1
        have hs4 : w1.heap.size ≤ w4.heap.size := h4.out.2.2.1.fm.1
        have HML := Lib.hid hmL
        have HAL := Lib.hid haL
        have HEL := Lib.hid eL
        rw [eL] at hoL
        have HOL := Lib.hid hoL
        clear hmL haL eL hoL
        have hHeld2 := (show w4.cell? ⟨b, 1, none⟩ = some (.int .i64 (zi : Int)) from by rw [cell_of_row w4 b 1 _ _ _ h4.out.2.2.2.1]; rfl)
        refine hK _ _ (fun _ => hHeld2) ?_
        clear hK K hHeld
        have hHeld := hHeld2
        clear hHeld2
        try simp only [List.getElem_toArray, List.getElem_cons_succ, List.getElem_cons_zero, Act.put, List.setIfInBounds_toArray, List.set_cons_zero, List.set_cons_succ]
        refine but_take (i := 11) (v := ?_) rfl (by kernel_rfl) (by kernel_rfl) (by kernel_rfl) (by kernel_rfl) (fun _ _ _ h => h) (Or.inl ⟨by first | kernel_rfl | rfl, ?_⟩) hHeld ?_
        rotate_left
        · intro w hSw
          (try dsimp only at hSw)
          go_split_ands
          go_simp
          try with_reducible rfl
        try simp only [List.getElem_toArray, List.getElem_cons_succ, List.getElem_cons_zero, Act.put, List.setIfInBounds_toArray, List.set_cons_zero, List.set_cons_succ]
        refine but_one (i := 12) (by kernel_rfl) rfl ?_
        intro K hK
        go_simp
        have hHeld2 := (((below_al w4 (.cells #[.int .i64 (zi : Int), .int .i64 er, .int .i64 cs, .slice A4 n4 k4] 41)).cell (p := ⟨b, 1, none⟩) hb4).trans (show w4.cell? ⟨b, 1, none⟩ = some (.int .i64 (zi : Int)) from by rw [cell_of_row w4 b 1 _ _ _ h4.out.2.2.2.1]; rfl))
        refine hK _ _ (fun _ => hHeld2) ?_
        clear hK K hHeld
        have hHeld := hHeld2
        clear hHeld2
        try simp only [List.getElem_toArray, List.getElem_cons_succ, List.getElem_cons_zero, Act.put, List.setIfInBounds_toArray, List.set_cons_zero, List.set_cons_succ]
        refine but_one (i := 13) (by kernel_rfl) rfl ?_
        intro K hK
        refine step_append_lies _ (by rfl) _ _ _ (by rfl) w1.heap.size 41 iL (.agg #[.int .i64 0, .int .i64 0, .int .i64 0, .slice none 0 0]) 4 48 Try.underlying33 hiL yz0 yz1 yz2 rfl (by omega) (.slice P1 n1 c1) n1 (L.flatMap lE) (by rfl) (row_later HOL.out (below_al w4 _)) ⟨w4.heap.size, 0, none⟩ 1 1 (lE ⟨zi, er, cs, wks y, A4, n4, k4⟩) (by rfl) (by rfl) (World.news_of_block (cs := #[.int .i64 (zi : Int), .int .i64 er, .int .i64 cs, .slice A4 n4 k4]) (t := 41) (fr := (0, 0)) (heap_alloc_new w4 _)) (lE_one _) (by omega) (by unfold maxLen; omega) (by omega) (by simp; omega) (w4.heap.size + 1) (by simp) ?_
        intro g5 cap5 w5 hown hgrow hat hlt5
        have hbx5 := kept_box (((below_al w4 _).block b hb4).trans h4.out.2.2.2.1) (row_later HOL.out (below_al w4 _)) (by decide) hgrow
        have HE := Lib.hid (h4.out.2.2.1.addL (x := ⟨zi, er, cs, wks y, A4, n4, k4⟩) HW1.out HML.out HAL.out (by rw [HEL.out]; exact HOL.out) ⟨rfl, rfl, h4.out.1⟩ h4.out.2.1 (below_al w4 _) (by rw [HEL.out]; exact hgrow) (by rw [HEL.out]; exact hown))
        clear hown hgrow hat hlt5
        have hHeld2 := (show w5.cell? ⟨b, 1, none⟩ = some (.int .i64 (zi : Int)) from by rw [cell_of_row w5 b 1 _ _ _ hbx5]; rfl)
        refine hK _ _ (fun _ => hHeld2) ?_
        clear hK K hHeld
        have hHeld := hHeld2
        clear hHeld2
        try simp only [List.getElem_toArray, List.getElem_cons_succ, List.getElem_cons_zero, Act.put, List.setIfInBounds_toArray, List.set_cons_zero, List.set_cons_succ]
        refine but_take (i := 14) (v := ?_) rfl (by kernel_rfl) (by kernel_rfl) (by kernel_rfl) (by kernel_rfl) (fun _ _ _ h => h) (Or.inl ⟨by first | kernel_rfl | rfl, ?_⟩) hHeld ?_
        rotate_left
        · intro w hSw
          (try dsimp only at hSw)
          go_split_ands
          go_simp
          try with_reducible rfl
        try simp only [List.getElem_toArray, List.getElem_cons_succ, List.getElem_cons_zero, Act.put, List.setIfInBounds_toArray, List.set_cons_zero, List.set_cons_succ]
        refine but_done (by kernel_rfl) ?_
        try clear hHeld
        go_wp2_with fail
        go_roundw
        case rel => exact ⟨j + 1, n1 + 1, cap5, n2, c2, some ⟨g5, 0, none⟩, P2, _, _, _, by omega, by go_num, rfl, rfl, by simp [HL1.out.1], HL1.out.2.1, HE.out, HI2.out⟩
        case measure => simp [intOf]; omega
    · obtain rfl : j = nw := by omega
      have HE : Hid (CaR W t p (cfold er cs ws s).1 O er cs (cfold er cs ws s).2.1 (cfold er cs ws s).2.2 w (.returned (.tuple #[.slice P1 n1 c1, .slice P2 n2 c2])) wr) := by
        exact hR.out.2.2.1.done hR.out.2.2.2 (by have := hnw.out; rw [nz_len] at this; omega) hR.out.1 hR.out.2.1 HB1.out (fun k hk => HA.out.lt hk)
      clear hR
      go_wp2_with fail
      go_ret2
      exact HE.out
end
end Go.Proofs.Ytdpapnfjpefhkaa
