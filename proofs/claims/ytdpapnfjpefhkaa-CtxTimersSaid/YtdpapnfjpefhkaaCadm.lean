/- What hang and add of package ctx do. Conditions: each theorem's own premises.
What add of package ctx does. Conditions: each theorem's own premises.
What end of package ctx does, and Stop of whatever timers. Conditions: each theorem's own premises. -/
import Derived.Test.YtdpapnfjpefhkaaCtom
namespace Go.Proofs.Ytdpapnfjpefhkaa
open Go.RowKit Tr
set_option linter.unusedVariables false
set_option maxRecDepth 100000
/-- Since w the contexts alone have turned; their blocks are those of O and X. -/
def CZ (W : World) (t : Nat) (p : Option Nat) (T : TS) (K : List Kd) (C : List Cx) (A : List Af) (O X : Nat → Prop) (w w' : World) : Prop :=
  ∃ F G o, CY W t p T K C A F G o w' ∧ (∀ k, ow F G o k → O k ∨ X k) ∧ Tn O w w'
theorem kE_one (x : Kd) : ∀ u ∈ kE x, u.oneCell' = true := by intro u hu; simp [kE] at hu; rcases hu with rfl | rfl <;> rfl
theorem cE_one (x : Cx) : ∀ u ∈ cE x, u.oneCell' = true := by intro u hu; simp [cE] at hu; rcases hu with rfl | rfl | rfl | rfl | rfl | rfl | rfl | rfl <;> rfl
theorem aE_one (x : Af) : ∀ u ∈ aE x, u.oneCell' = true := by intro u hu; simp [aE] at hu; rcases hu with rfl | rfl <;> rfl
theorem infK : (Try.prog.info? 119).map (fun i => (i.zero, i.size, i.bytes)) = some (some (.agg #[.bool false, .int .i64 0]), 2, 16) := by kernel_rfl
theorem infC : (Try.prog.info? 92).map (fun i => (i.zero, i.size, i.bytes)) = some (some (.agg #[.int .i64 0, .pointer none, .int .i64 0, .int .i64 0, .int .i64 0, .bool false, .bool false, .int .i64 0]), 8, 56) := by kernel_rfl
theorem infA : (Try.prog.info? 121).map (fun i => (i.zero, i.size, i.bytes)) = some (some (.agg #[.int .i64 0, .int .i64 0]), 2, 16) := by kernel_rfl
section
variable {W w w' w'' wx w1 w2 : World} {t g cap i n : Nat} {p : Option Nat} {T T' : TS} {K : List Kd} {C : List Cx} {A : List Af} {F : Nat → Prop} {G : Nat → Nat → Prop} {o : Lo} {k : Nat} {x y : Cx} {O X X' : Nat → Prop} {s : St}
theorem CZ.start (y : CY W t p T K C A F G o w) (hO : ∀ k, O k ↔ ow F G o k) (X : Nat → Prop) : CZ W t p T K C A O X w w := ⟨F, G, o, y, fun k hk => .inl ((hO k).2 hk), Tn.refl _ _⟩
theorem CZ.later (h : CZ W t p T K C A O X w w') (b : Below w'.heap.size w' w'') : CZ W t p T K C A O X w w'' := by
  obtain ⟨F, G, o, y, hs, tn⟩ := h
  exact ⟨F, G, o, y.later b, hs, tn.later b⟩
theorem CZ.bel (h : CZ W t p T K C A O X w w') : Below W.heap.size W w' := by obtain ⟨F, G, o, y, _⟩ := h; exact y.bel
theorem CZ.tn (h : CZ W t p T K C A O X w w') : Tn O w w' := by obtain ⟨F, G, o, y, _, tn⟩ := h; exact tn
theorem CZ.mono (h : CZ W t p T K C A O X w w') (i : ∀ k, X k → X' k) : CZ W t p T K C A O X' w w' := by
  obtain ⟨F, G, o, y, hs, tn⟩ := h
  exact ⟨F, G, o, y, fun k hk => (hs k hk).imp id (i k), tn⟩
theorem CZ.from (h : CZ W t p T K C A O X w w') (b : Below w''.heap.size w'' w) : CZ W t p T K C A O X w'' w' := by
  obtain ⟨F, G, o, y, hs, tn⟩ := h
  exact ⟨F, G, o, y, hs, (Tn.of_below b).trans tn⟩
/-- What a call on the tree leaves. -/
theorem CZ.tree (y : CY W t p T K C A F G o w') (hs : ∀ k, ow F G o k → O k ∨ X k) (tn : Tn O w w') (hX : ∀ k, w'.heap.size ≤ k → X k) (hn : ∀ k, X k → w.heap.size ≤ k)
    (g : Tr.Go F 0 (vS p (.slice o.PK K.length o.cK) (.slice o.PC C.length o.cC) (.slice o.PA A.length o.cA)) t T' w' w'') : CZ W t p T' K C A O X w w'' := by
  obtain ⟨F', h1, h2, h3⟩ := y.tree g
  refine ⟨F', G, o, h1, fun k hk => ?_, tn.comp h3 fun b hb => ?_⟩
  · rcases hk with hk | hk | hk | hk | ⟨i, hk⟩
    · rcases h2 k hk with h4 | h4
      · exact hs k (.f h4)
      · exact .inr (hX k h4)
    · exact hs k (.k hk)
    · exact hs k (.c hk)
    · exact hs k (.a hk)
    · exact hs k (.g hk)
  · exact (hs b (.f hb)).imp id (hn b)
theorem FS.ctx' {T : TS} {K : List Kd} {C : List Cx} {A : List Af} (h : FS W t p s O w) (z : CZ W t p T K C A O X w w') (hX : ∀ k, X k → w.heap.size ≤ k) : GS W t p { s with T := T, K := K, C := C, A := A } O w w' := by
  obtain ⟨⟨F, G, o, y, e⟩, m⟩ := h
  obtain ⟨F', G', o', y', hs, tn⟩ := z
  exact FS.ctx y e m y' (fun k hk => (hs k hk).imp id (hX k)) tn
/-- hang's append. -/
theorem CY.stepK (y : CY W t p T K C A F G o w) (hO : ∀ k, O k ↔ ow F G o k) (z : Kd) (hx : Below w.heap.size w wx) (hg : wx.grownBy w1 (Value.slice o.PK K.length o.cK).ownBlock)
    (ho : w1.ownsRow 0 119 2 (.slice (some ⟨g, 0, none⟩) (K.length + 1) cap) (K.length + 1) (K.flatMap kE ++ kE z)) (hat : (Value.slice o.PK K.length o.cK).ownBlock = some g ∨ w.heap.size ≤ g) :
    CZ W t p T (K ++ [z]) C A O (fun k => w.heap.size ≤ k) w (w1.setCell ⟨t, 2, none⟩ (.slice (some ⟨g, 0, none⟩) (K.length + 1) cap)) := by
  obtain ⟨h1, h2⟩ := y.addK z hx hg ho hat
  rw [own_blk] at hat
  refine ⟨_, _, _, h1, fun k hk => ?_, h2.mono fun b hb => .inl ((hO b).2 hb)⟩
  rcases hk with hk | hk | hk | hk | ⟨i, hk⟩
  · exact .inl ((hO k).2 (.f hk))
  · have := blk_some hk
    subst this
    exact hat.imp (fun e => (hO g).2 (.k e)) id
  · exact .inl ((hO k).2 (.c hk))
  · exact .inl ((hO k).2 (.a hk))
  · exact .inl ((hO k).2 (.g hk))
theorem CY.stepA (y : CY W t p T K C A F G o w) (hO : ∀ k, ow F G o k → O k ∨ X k) (tn : Tn O w' w) (hX : ∀ k, w.heap.size ≤ k → X k) (hn : ∀ k, X k → w'.heap.size ≤ k) (z : Af) (hx : Below w.heap.size w wx) (hg : wx.grownBy w1 (Value.slice o.PA A.length o.cA).ownBlock)
    (ho : w1.ownsRow 0 121 2 (.slice (some ⟨g, 0, none⟩) (A.length + 1) cap) (A.length + 1) (A.flatMap aE ++ aE z)) (hat : (Value.slice o.PA A.length o.cA).ownBlock = some g ∨ w.heap.size ≤ g) :
    CZ W t p T K C (A ++ [z]) O X w' (w1.setCell ⟨t, 4, none⟩ (.slice (some ⟨g, 0, none⟩) (A.length + 1) cap)) := by
  obtain ⟨h1, h2⟩ := y.addA z hx hg ho hat
  rw [own_blk] at hat
  refine ⟨_, _, _, h1, fun k hk => ?_, tn.comp h2 fun b hb => (hO b hb).imp id (hn b)⟩
  rcases hk with hk | hk | hk | hk | ⟨i, hk⟩
  · exact hO k (.f hk)
  · exact hO k (.k hk)
  · exact hO k (.c hk)
  · have := blk_some hk
    subst this
    rcases hat with e | e
    · exact hO g (.a e)
    · exact .inr (hX g e)
  · exact hO k (.g hk)
theorem CY.stepC {Gc : Nat → Prop} (y : CY W t p T K C A F G o w) (hO : ∀ k, ow F G o k → O k ∨ X k) (tn : Tn O w' w) (hX : ∀ k, w.heap.size ≤ k → X k) (hG : ∀ k, Gc k → X k) (hn : ∀ k, X k → w'.heap.size ≤ k ∨ Gc k) (hc : NC W (ow F G o) Gc w x) (hx : Below w.heap.size w wx) (hg : wx.grownBy w1 (Value.slice o.PC C.length o.cC).ownBlock)
    (ho : w1.ownsRow 0 92 8 (.slice (some ⟨g, 0, none⟩) (C.length + 1) cap) (C.length + 1) (C.flatMap cE ++ cE x)) (hat : (Value.slice o.PC C.length o.cC).ownBlock = some g ∨ w.heap.size ≤ g) :
    CZ W t p T K (C ++ [x]) A O X w' (w1.setCell ⟨t, 3, none⟩ (.slice (some ⟨g, 0, none⟩) (C.length + 1) cap)) := by
  obtain ⟨h1, h2⟩ := y.addC x hx hg ho hat hc
  rw [own_blk] at hat
  refine ⟨_, _, _, h1, fun k hk => ?_, tn.comp h2 fun b hb => ?_⟩
  · rcases hk with hk | hk | hk | hk | ⟨i, hk⟩
    · exact hO k (.f hk)
    · exact hO k (.k hk)
    · have := blk_some hk
      subst this
      rcases hat with e | e
      · exact hO g (.c e)
      · exact .inr (hX g e)
    · exact hO k (.a hk)
    · unfold gN at hk
      by_cases e : i = C.length
      · simp only [if_pos e] at hk; exact .inr (hG k hk)
      · simp only [if_neg e] at hk; exact hO k (.g hk)
  · rcases hO b hb with h3 | h3
    · exact .inl h3
    · rcases hn b h3 with h4 | h4
      · exact .inr h4
      · exact absurd hb (hc.no h4).2
/-- What hang does. -/
def HgR (W : World) (t : Nat) (p : Option Nat) (T T' : TS) (K : List Kd) (C : List Cx) (A : List Af) (O : Nat → Prop) (w : World) (e : Ending) (w' : World) : Prop := e = .returned (.int .i64 (T.length : Int)) ∧ CZ W t p T' K C A O (fun k => w.heap.size ≤ k) w w' ∧ w'.cell? ⟨t, 4, none⟩ = w.cell? ⟨t, 4, none⟩

/-- hang, under a context. -/
theorem hang_ctx (l : Bool) (z : Kd) (y : CY W t p T K C A F G o w) (hO : ∀ k, O k ↔ ow F G o k) (hx : C[i]? = some x) (hnd : x.nd < T.length) (hT : T.length < 1000) (hK : K.length ≤ 1000) :
    Calls Try.prog 43 #[pS t, .int .i64 (i : Int), .bool l, .agg #[.bool z.af, .int .i64 z.id]] w (HgR W t p T (T ++ [((x.nd : Int), l)]) (K ++ [z]) C A O w) := by
  have hi := (List.getElem?_eq_some_iff.1 hx).1
  have b1 : (i : Int) < (C.length : Int) := by omega
  have b2 : (0 : Int) ≤ (i : Int) := by omega
  have b3 : ((i : Int) != -1) = true := bne_iff_ne.2 (by omega)
  obtain ⟨i0, hi0, hz0, hz1, hz2⟩ := info_parts infK
  obtain ⟨c0, c2, c3, c4, cf⟩ := y.cells
  obtain ⟨q, hP, hq, ⟨x0, -⟩, -⟩ := y.cx hx
  rw [hP] at c3
  have f2 := cf 2
  have ht := y.lt (.f (o := o) (G := G) y.ft)
  have HY := Lib.hid y
  have HO := Lib.hid hO
  have HND := Lib.hid hnd
  have HT := Lib.hid hT
  have HS : Hid (∀ {wx w1 : World} {g cap : Nat}, Below w.heap.size w wx → wx.grownBy w1 (Value.slice o.PK K.length o.cK).ownBlock → w1.ownsRow 0 119 2 (.slice (some ⟨g, 0, none⟩) (K.length + 1) cap) (K.length + 1) (K.flatMap kE ++ kE z) → ((Value.slice o.PK K.length o.cK).ownBlock = some g ∨ w.heap.size ≤ g) → CZ W t p T (K ++ [z]) C A O (fun k => w.heap.size ≤ k) w (w1.setCell ⟨t, 2, none⟩ (.slice (some ⟨g, 0, none⟩) (K.length + 1) cap))) := fun a b c d => y.stepK hO z a b c d
  clear y hO c0 c4 cf hnd hP hx hi hT
  go_enter Try.func43, Try.ntmps43
  go_wp2_with fail
  go_region_law (go_loud (refine step_append_lies _ (by rfl) _ _ _ (by rfl) 0 119 i0 (.agg #[.bool false, .int .i64 0]) 2 16 Try.underlying85 hi0 hz0 hz1 hz2 rfl (by omega) (.slice o.PK K.length o.cK) K.length (K.flatMap kE) (by rfl) (row_later HY.out.rk (below_two rfl rfl rfl rfl)) ⟨w.heap.size + 1, 0, none⟩ 1 1 (kE z) (by rfl) (by rfl) (World.news_of_block (cs := #[.bool z.af, .int .i64 z.id]) (t := 119) (fr := (0, 0)) (news_two (w := w) (by rfl))) (kE_one z) (by omega) (by unfold maxLen; omega) (by omega) (by first | omega | (simp; done) | (simp; omega)) (w.heap.size + 2) (by simp) ?_; intro q2 cap w1 hown hgrow hat hlt1; have HM := HY.out.midK (by exact below_two rfl rfl rfl rfl) hgrow; have HE := Lib.hid (HS.out (by exact below_two rfl rfl rfl rfl) hgrow hown (hat.imp id (by omega))); have hc1 := HM.2.2.1; have hf1 := HM.2.2.2; have HE4 := Lib.hid ((World.cell?_setCell_other (w := w1) (a := ⟨t, 2, none⟩) (b := ⟨t, 4, none⟩) (v := .slice (some ⟨q2, 0, none⟩) (K.length + 1) cap) (by simp)).trans (cell_blk HM.2.1 4)); clear HM hown hgrow hat hlt1 c2 f2))
  all_goals
    generalize w1.setCell ⟨t, 2, none⟩ (.slice (some ⟨q2, 0, none⟩) (K.length + 1) cap) = w2 at *
    clear hc1 hf1 c3 hq x0 b1 b2 b3 HS HY HO
    obtain ⟨F2, G2, o2, y2, hs2, tn2⟩ := HE.out
    have HZ : Hid (∀ T' w3, Tr.Go F2 0 (vS p (.slice o2.PK (K ++ [z]).length o2.cK) (.slice o2.PC C.length o2.cC) (.slice o2.PA A.length o2.cA)) t T' w2 w3 → CZ W t p T' (K ++ [z]) C A O (fun k => w.heap.size ≤ k) w w3 ∧ w3.cell? ⟨t, 4, none⟩ = w.cell? ⟨t, 4, none⟩) := fun T' w3 g => ⟨CZ.tree y2 hs2 tn2 (fun k hk => Nat.le_trans tn2.size hk) (fun k hk => hk) g, by
      obtain ⟨P5, c5, h5⟩ := g.1.blk
      have e5 : w3.cell? ⟨t, 4, none⟩ = some (.slice o2.PA A.length o2.cA) := by rw [cell_of_row w3 t 4 _ _ _ h5]; rfl
      rw [e5, ← HE4.out]
      exact y2.cells.2.2.2.1.symm⟩
    have H2 := Lib.hid y2.tr
    clear HE HE4 y2 hs2 tn2
    cases l
    · go_wp2_with fail
      refine (Tr.add_off w2 H2.out HT.out x.nd HND.out).mono ?_
      rintro e w3 ⟨rfl, g⟩
      have H3 := Lib.hid (HZ.out _ _ g)
      clear g HZ H2
      go_wp2_with fail
      go_ret
      exact ⟨rfl, H3.out⟩
    · go_wp2_with fail
      refine (Tr.add_hung w2 H2.out HT.out x.nd HND.out).mono ?_
      rintro e w3 ⟨rfl, g⟩
      have H3 := Lib.hid (HZ.out _ _ g)
      clear g HZ H2
      go_wp2_with fail
      go_ret
      exact ⟨rfl, H3.out⟩
/-- hang, under nobody. -/
theorem hang_root (z : Kd) (y : CY W t p T K C A F G o w) (hO : ∀ k, O k ↔ ow F G o k) (hT : T.length < 1000) (hK : K.length ≤ 1000) :
    Calls Try.prog 43 #[pS t, .int .i64 (-1), .bool false, .agg #[.bool z.af, .int .i64 z.id]] w (HgR W t p T (T ++ [(-1, false)]) (K ++ [z]) C A O w) := by
  obtain ⟨i0, hi0, hz0, hz1, hz2⟩ := info_parts infK
  obtain ⟨c0, c2, c3, c4, cf⟩ := y.cells
  have f2 := cf 2
  have ht := y.lt (.f (o := o) (G := G) y.ft)
  have HY := Lib.hid y
  have HO := Lib.hid hO
  have HT := Lib.hid hT
  have HS : Hid (∀ {wx w1 : World} {g cap : Nat}, Below w.heap.size w wx → wx.grownBy w1 (Value.slice o.PK K.length o.cK).ownBlock → w1.ownsRow 0 119 2 (.slice (some ⟨g, 0, none⟩) (K.length + 1) cap) (K.length + 1) (K.flatMap kE ++ kE z) → ((Value.slice o.PK K.length o.cK).ownBlock = some g ∨ w.heap.size ≤ g) → CZ W t p T (K ++ [z]) C A O (fun k => w.heap.size ≤ k) w (w1.setCell ⟨t, 2, none⟩ (.slice (some ⟨g, 0, none⟩) (K.length + 1) cap))) := fun a b c d => y.stepK hO z a b c d
  clear y hO c0 c3 c4 cf hT
  go_enter Try.func43, Try.ntmps43
  go_wp2_with fail
  go_region_law (go_loud (refine step_append_lies _ (by rfl) _ _ _ (by rfl) 0 119 i0 (.agg #[.bool false, .int .i64 0]) 2 16 Try.underlying85 hi0 hz0 hz1 hz2 rfl (by omega) (.slice o.PK K.length o.cK) K.length (K.flatMap kE) (by rfl) (row_later HY.out.rk (below_two rfl rfl rfl rfl)) ⟨w.heap.size + 1, 0, none⟩ 1 1 (kE z) (by rfl) (by rfl) (World.news_of_block (cs := #[.bool z.af, .int .i64 z.id]) (t := 119) (fr := (0, 0)) (news_two (w := w) (by rfl))) (kE_one z) (by omega) (by unfold maxLen; omega) (by omega) (by first | omega | (simp; done) | (simp; omega)) (w.heap.size + 2) (by simp) ?_; intro q2 cap w1 hown hgrow hat hlt1; have HM := HY.out.midK (by exact below_two rfl rfl rfl rfl) hgrow; have HE := Lib.hid (HS.out (by exact below_two rfl rfl rfl rfl) hgrow hown (hat.imp id (by omega))); have hc1 := HM.2.2.1; have hf1 := HM.2.2.2; have HE4 := Lib.hid ((World.cell?_setCell_other (w := w1) (a := ⟨t, 2, none⟩) (b := ⟨t, 4, none⟩) (v := .slice (some ⟨q2, 0, none⟩) (K.length + 1) cap) (by simp)).trans (cell_blk HM.2.1 4)); clear HM hown hgrow hat hlt1 c2 f2))
  all_goals
    generalize w1.setCell ⟨t, 2, none⟩ (.slice (some ⟨q2, 0, none⟩) (K.length + 1) cap) = w2 at *
    clear hc1 hf1 HS HY HO
    obtain ⟨F2, G2, o2, y2, hs2, tn2⟩ := HE.out
    have HZ : Hid (∀ T' w3, Tr.Go F2 0 (vS p (.slice o2.PK (K ++ [z]).length o2.cK) (.slice o2.PC C.length o2.cC) (.slice o2.PA A.length o2.cA)) t T' w2 w3 → CZ W t p T' (K ++ [z]) C A O (fun k => w.heap.size ≤ k) w w3 ∧ w3.cell? ⟨t, 4, none⟩ = w.cell? ⟨t, 4, none⟩) := fun T' w3 g => ⟨CZ.tree y2 hs2 tn2 (fun k hk => Nat.le_trans tn2.size hk) (fun k hk => hk) g, by
      obtain ⟨P5, c5, h5⟩ := g.1.blk
      have e5 : w3.cell? ⟨t, 4, none⟩ = some (.slice o2.PA A.length o2.cA) := by rw [cell_of_row w3 t 4 _ _ _ h5]; rfl
      rw [e5, ← HE4.out]
      exact y2.cells.2.2.2.1.symm⟩
    have H2 := Lib.hid y2.tr
    clear HE HE4 y2 hs2 tn2
    go_wp2_with fail
    refine (Tr.add_root w2 H2.out HT.out false).mono ?_
    rintro e w3 ⟨rfl, g⟩
    have H3 := Lib.hid (HZ.out _ _ g)
    clear g HZ H2
    go_wp2_with fail
    go_ret
    exact ⟨rfl, H3.out⟩
end
end Go.Proofs.Ytdpapnfjpefhkaa
namespace Go.Proofs.Ytdpapnfjpefhkaa
open Go.RowKit Tr
set_option linter.unusedVariables false
set_option maxRecDepth 100000
section
variable {W w w' w'' wx w1 w2 : World} {t g cap i n : Nat} {p : Option Nat} {T T' : TS} {K K' : List Kd} {C : List Cx} {A : List Af} {F : Nat → Prop} {G : Nat → Nat → Prop} {o : Lo} {k : Nat} {x y : Cx} {O X X' Gc : Nat → Prop} {s : St}
theorem below_one {w wx : World} {o1 : Obj} (hh : wx.heap = (w.alloc o1).heap) (h1 : wx.os = w.os) (h2 : wx.tape = w.tape) (h3 : wx.output = w.output) : Below w.heap.size w wx :=
  ⟨h1, h2, h3, by rw [hh]; simp, fun k hk => by rw [hh]; exact Below.heap_alloc _ _ k hk⟩
theorem news_one {w wx : World} {cs : Array Value} {t : TypeId} (hh : wx.heap = (w.alloc (.cells cs t)).heap) : wx.heap[w.heap.size]? = some (.cells cs t (0, 0)) := by
  rw [hh]; exact heap_alloc_new w (.cells cs t)
/-- The new one, with its place and no timer. -/
def nw (x : Cx) (n : Nat) : Cx := { x with nd := n, lp := -1 }
def bxC (x : Cx) : Array Value := #[.int .i64 x.nd, .pointer (cp x.ch), .int .i64 x.er, .int .i64 x.cs, .int .i64 x.wh, .bool x.has, .bool x.own, .int .i64 x.lp]
theorem bx_cells {w : World} {b : Nat} {x : Cx} (h : w.heap[b]? = some (.cells (bxC x) 92 (0, 0))) : (w.cell? ⟨b, 0, none⟩ = some (.int .i64 x.nd) ∧ w.cell? ⟨b, 1, none⟩ = some (.pointer (cp x.ch)) ∧ w.cell? ⟨b, 2, none⟩ = some (.int .i64 x.er) ∧ w.cell? ⟨b, 3, none⟩ = some (.int .i64 x.cs) ∧ w.cell? ⟨b, 4, none⟩ = some (.int .i64 x.wh) ∧ w.cell? ⟨b, 5, none⟩ = some (.bool x.has) ∧ w.cell? ⟨b, 6, none⟩ = some (.bool x.own) ∧ w.cell? ⟨b, 7, none⟩ = some (.int .i64 x.lp)) ∧ ∀ j, w.frozen? ⟨b, j, none⟩ = false := by
  unfold bxC at h
  refine ⟨⟨?_, ?_, ?_, ?_, ?_, ?_, ?_, ?_⟩, fun j => frozen_of_row w b j _ _ h⟩
  · rw [cell_of_row w b 0 _ _ _ h]; rfl
  · rw [cell_of_row w b 1 _ _ _ h]; rfl
  · rw [cell_of_row w b 2 _ _ _ h]; rfl
  · rw [cell_of_row w b 3 _ _ _ h]; rfl
  · rw [cell_of_row w b 4 _ _ _ h]; rfl
  · rw [cell_of_row w b 5 _ _ _ h]; rfl
  · rw [cell_of_row w b 6 _ _ _ h]; rfl
  · rw [cell_of_row w b 7 _ _ _ h]; rfl
/-- A block that is none of its own is written. -/
theorem CZ.out {b j : Nat} {u : Value} (h : CZ W t p T K C A O X w w') (hb : ¬ O b) (hx : ¬ X b) (hW : w.heap.size ≤ b) (hw : W.heap.size ≤ w.heap.size) : CZ W t p T K C A O X w (w'.setCell ⟨b, j, none⟩ u) := by
  obtain ⟨F, G, o, y, hs, tn⟩ := h
  refine ⟨F, G, o, y.keep (fun k hk => Below.heap_setCell _ _ _ _ ?_) (y.bel.setCell (show W.heap.size ≤ (⟨b, j, none⟩ : Addr).block from Nat.le_trans hw hW) u), hs, tn.set (.inr hW) u⟩
  intro e
  have e : k = b := e
  subst e
  rcases hs k hk with h1 | h1
  · exact hb h1
  · exact hx h1
theorem NC.keep (h : NC W O Gc w x) (hk : ∀ k, Gc k → w'.heap[k]? = w.heap[k]?) : NC W O Gc w' x := ⟨fun e => (h.cc e).keep fun k h1 => hk k h1, h.no, h.has⟩
/-- What add does. -/
def AdR (W : World) (t : Nat) (p : Option Nat) (T' : TS) (K : List Kd) (C : List Cx) (A : List Af) (n : Nat) (O Gc : Nat → Prop) (x : Cx) (w : World) (e : Ending) (w' : World) : Prop :=
  e = .returned (.int .i64 (C.length : Int)) ∧ CZ W t p T' K (C ++ [nw x n]) A O (fun k => Gc k ∨ w.heap.size ≤ k) w w'

theorem AdR.of {b : Nat} (n : Nat) (hO : ∀ k, O k → k < w.heap.size) (hc : NC W O Gc w x) (hw : W.heap.size ≤ w.heap.size) (hb : w.heap.size = b) (z : CZ W t p T' K C A O (fun k => w.heap.size + 1 ≤ k) (w.alloc (.cells (bxC x) 92)) w2) :
    w2.heap[b]? = some (.cells (bxC x) 92 (0, 0)) ∧ CZ W t p T' K C A O (fun k => w.heap.size + 1 ≤ k) w ((w2.setCell ⟨b, 0, none⟩ (.int .i64 n)).setCell ⟨b, 7, none⟩ (.int .i64 (-1))) ∧ NC W O Gc ((w2.setCell ⟨b, 0, none⟩ (.int .i64 n)).setCell ⟨b, 7, none⟩ (.int .i64 (-1))) (nw x n) ∧
      ((w2.setCell ⟨b, 0, none⟩ (.int .i64 n)).setCell ⟨b, 7, none⟩ (.int .i64 (-1))).heap[b]? = some (.cells (bxC (nw x n)) 92 (0, 0)) := by
  subst hb
  have tn := z.tn
  have hn : ¬ O w.heap.size := fun h => by have := hO _ h; omega
  have e2 : w2.heap[w.heap.size]? = some (.cells (bxC x) 92 (0, 0)) := (tn.block _ (by simp) hn).trans (heap_alloc_new w _)
  have e3 := heap_setCell_same w2 w.heap.size 0 _ _ (.int .i64 n) e2
  have e4 := heap_setCell_same _ w.heap.size 7 _ _ (.int .i64 (-1)) e3
  refine ⟨e2, ((z.from (below_al w _)).out hn (by omega) (Nat.le_refl _) hw).out hn (by omega) (Nat.le_refl _) hw, ⟨fun e => ?_, hc.no, hc.has⟩, e4⟩
  refine ((hc.cc e).keep fun k hk => ?_)
  have hl := hc.lt hk
  have hne : k ≠ w.heap.size := by omega
  rw [Below.heap_setCell _ _ _ _ (by exact hne), Below.heap_setCell _ _ _ _ (by exact hne), tn.block k (by simp; omega) (hc.no hk).2]
  exact Below.heap_alloc _ _ k hl
set_option maxHeartbeats 4000000 in
theorem cadd_any {pr : Int} {l : Bool} (y : CY W t p T K C A F G o w) (hO : ∀ k, O k ↔ ow F G o k) (hc : NC W O Gc w x) (hC : C.length ≤ 1000)
    (hg : ∀ w2, Below w.heap.size w w2 → Calls Try.prog 43 #[pS t, .int .i64 pr, .bool l, .agg #[.bool false, .int .i64 (C.length : Int)]] w2 fun e w' => e = .returned (.int .i64 (T.length : Int)) ∧ CZ W t p T' K' C A O (fun k => w2.heap.size ≤ k) w2 w') :
    Calls Try.prog 32 #[pS t, .int .i64 pr, .bool l, cG x] w (AdR W t p T' K' C A T.length O Gc x w) := by
  obtain ⟨c0, c2, c3, c4, cf⟩ := y.cells
  obtain ⟨i0, hi0, hz0, hz1, hz2⟩ := info_parts infC
  have hOl : ∀ k, O k → k < w.heap.size := fun k hk => y.lt ((hO k).1 hk)
  have ht := hOl t ((hO t).2 (.f y.ft))
  have hw := y.bel.size
  have HG := Lib.hid (hg (w.alloc (.cells (bxC x) 92)) (below_al _ _))
  have HA : Hid (∀ b w2, w.heap.size = b → CZ W t p T' K' C A O (fun k => w.heap.size + 1 ≤ k) (w.alloc (.cells (bxC x) 92)) w2 → _) := fun b w2 hb z => AdR.of (b := b) T.length hOl hc hw hb z
  have HOL := Lib.hid hOl
  have HGL : Hid (∀ k, Gc k → k < w.heap.size) := fun k hk => hc.lt hk
  clear hg y hO hc c0 c2 c4 cf hOl
  unfold cG bxC at *
  go_enter Try.func32, Try.ntmps32
  go_wp2_with fail
  refine HG.out.mono ?_
  rintro e w2 ⟨rfl, z⟩
  rw [World.size_alloc] at z
  obtain ⟨e2, z4, n4, b4⟩ := HA.out _ _ rfl z
  have bc := bx_cells (x := x) e2
  obtain ⟨⟨x0, -, -, -, -, -, -, x7⟩, xf⟩ := bc
  have f0 := xf 0
  have f7 := xf 7
  have HZ := Lib.hid z4
  have HN := Lib.hid n4
  have HB := Lib.hid b4
  clear z z4 n4 b4 e2 xf HA HG c3
  go_wp2_with fail
  generalize hw4 : (w2.setCell ⟨w.heap.size, 0, none⟩ (.int .i64 T.length)).setCell ⟨w.heap.size, 7, none⟩ (.int .i64 (-1)) = w4 at *
  clear hw4 x0 x7 f0 f7
  obtain ⟨F4, G4, o4, y4, hs4, tn4⟩ := HZ.out
  have hsz4 := tn4.size
  have hb4 : w.heap.size < w4.heap.size := lt_of_blk HB.out
  obtain ⟨-, -, c3, -, cf⟩ := y4.cells
  have f3 := cf 3
  obtain ⟨⟨q0, q1, q2, q3, q4, q5, q6, q7⟩, -⟩ := bx_cells (x := nw x T.length) HB.out
  have ht4 : t < w4.heap.size := by omega
  have HY := Lib.hid y4
  have HN4 : Hid (NC W (ow F4 G4 o4) Gc w4 (nw x T.length)) := ⟨HN.out.cc, fun {k} hk => ⟨(HN.out.no hk).1, fun h => by
    rcases hs4 k h with h1 | h1
    · exact (HN.out.no hk).2 h1
    · have := HGL.out k hk; omega⟩, HN.out.has⟩
  have HE4 : Hid (∀ {wx w1 : World} {g cap : Nat}, Below w4.heap.size w4 wx → wx.grownBy w1 (Value.slice o4.PC C.length o4.cC).ownBlock → w1.ownsRow 0 92 8 (.slice (some ⟨g, 0, none⟩) (C.length + 1) cap) (C.length + 1) (C.flatMap cE ++ cE (nw x T.length)) → ((Value.slice o4.PC C.length o4.cC).ownBlock = some g ∨ w4.heap.size ≤ g) →
      CZ W t p T' K' (C ++ [nw x T.length]) A O (fun k => Gc k ∨ w.heap.size ≤ k) w (w1.setCell ⟨t, 3, none⟩ (.slice (some ⟨g, 0, none⟩) (C.length + 1) cap))) := fun a b c d => y4.stepC (fun k hk => (hs4 k hk).imp id fun h => .inr (by omega)) tn4 (fun k hk => .inr (by omega)) (fun k hk => .inl hk) (fun k hk => hk.symm) HN4.out a b c d
  clear HZ HN HN4 y4 hs4 tn4 cf hw HOL HGL
  generalize hz : nw x T.length = z at *
  have HZE := Lib.hid hz
  clear hz
  go_region_law (go_loud (refine step_append_lies _ (by rfl) _ _ _ (by rfl) 0 92 i0 (.agg #[.int .i64 0, .pointer none, .int .i64 0, .int .i64 0, .int .i64 0, .bool false, .bool false, .int .i64 0]) 8 56 Try.underlying86 hi0 hz0 hz1 hz2 rfl (by omega) (.slice o4.PC C.length o4.cC) C.length (C.flatMap cE) (by rfl) (row_later HY.out.rc (below_one rfl rfl rfl rfl)) ⟨w4.heap.size, 0, none⟩ 1 1 (cE z) (by rfl) (by rfl) (World.news_of_block (cs := #[.int .i64 z.nd, .pointer (cp z.ch), .int .i64 z.er, .int .i64 z.cs, .int .i64 z.wh, .bool z.has, .bool z.own, .int .i64 z.lp]) (t := 92) (fr := (0, 0)) (news_one (w := w4) (by rfl))) (cE_one z) (by omega) (by unfold maxLen; omega) (by omega) (by first | omega | (simp; done) | (simp; omega)) (w4.heap.size + 1) (by simp) ?_; intro q2 cap w1 hown hgrow hat hlt1; have HM := HY.out.midC (by exact below_one rfl rfl rfl rfl) hgrow; have HE := Lib.hid (HE4.out (by exact below_one rfl rfl rfl rfl) hgrow hown (hat.imp id (by omega))); have hc1 := HM.2.2.1; have hf1 := HM.2.2.2; clear HM hown hgrow hat hlt1 c3 f3))
  all_goals
    go_wp2_with fail
    go_ret
    refine ⟨rfl, ?_⟩
    rw [HZE.out]
    exact HE.out
end
end Go.Proofs.Ytdpapnfjpefhkaa
namespace Go.Proofs.Ytdpapnfjpefhkaa
open Go.RowKit Tr
set_option linter.unusedVariables false
set_option maxRecDepth 100000
section
variable {W w w' w'' wx w1 w2 : World} {t i n : Nat} {p : Option Nat} {O : Nat → Prop} {s : St} {x : Cx} {E : List On} {S : List It}
abbrev pT? (p : Option Nat) : Value := .pointer (cp p)
theorem fput_z0 (k : Int) : fput z0 k 0 = z0 := by funext y; unfold fput z0; split <;> rfl
theorem tlen_nil (w : World) : Calls Try.prog 101 #[.pointer none] w fun e w' => e = .returned (.int .i64 0) ∧ w = w' := by
  go_enter Try.func101, Try.ntmps101
  go_wp2
  go_ret
  exact ⟨rfl, rfl⟩
set_option maxHeartbeats 4000000 in
theorem tget_nil (k : Int) (w : World) : Calls Try.prog 91 #[.pointer none, .int .i64 k] w (GtR zO w) := by
  by_cases b1 : k < 0
  · go_enter Try.func91, Try.ntmps91
    go_wp2_with fail
    refine bodyPost_ret (v := .agg #[.int .i64 0, .int .i64 0, .pointer none, .int .i64 0]) ?_ rfl ⟨rfl, ?_⟩
    · rw [results_cell_row rfl _ _ w.heap.size 114 #[.int .i64 0, .int .i64 0, .pointer none, .int .i64 0] (0, 0) _ rfl (heap_alloc_new w _) Try.underlying114 rfl (by kernel_rfl)]
    · first | exact below_al _ _ | (repeat' (first | exact below_al _ _ | refine Below.alloc ?_ (by omega) _))
  · have b2 : 0 ≤ k := by omega
    go_enter Try.func91, Try.ntmps91
    go_wp2_with fail
    refine (tlen_nil _).mono ?_
    rintro e w' ⟨rfl, rfl⟩
    go_wp2_with fail
    refine bodyPost_ret (v := .agg #[.int .i64 0, .int .i64 0, .pointer none, .int .i64 0]) ?_ rfl ⟨rfl, ?_⟩
    · rw [results_cell_row rfl _ _ w.heap.size 114 #[.int .i64 0, .int .i64 0, .pointer none, .int .i64 0] (0, 0) _ rfl (heap_alloc_new w _) Try.underlying114 rfl (by kernel_rfl)]
    · first | exact below_al _ _ | (repeat' (first | exact below_al _ _ | refine Below.alloc ?_ (by omega) _))
theorem tkind_nil (k : Int) (w : World) : Calls Try.prog 80 #[.pointer none, .int .i64 k] w fun e w' => e = .returned (.int .i64 0) ∧ Below w.heap.size w w' := by
  have HG := Lib.hid (tget_nil k w)
  have hfd := fd0 zO
  go_enter Try.func80, Try.ntmps80
  go_wp2_with fail
  refine HG.out.mono ?_
  rintro e w' ⟨rfl, hb⟩
  have HB := Lib.hid hb
  clear hb HG
  go_wp2_with fail
  go_ret
  exact ⟨rfl, HB.out⟩
theorem tstop_nil (k : Int) (w : World) : Calls Try.prog 68 #[.pointer none, .int .i64 k] w fun e w' => e = .returned (.tuple #[.bool false, .int .i64 4]) ∧ Below w.heap.size w w' := by
  have HG := Lib.hid (tkind_nil k w)
  go_enter Try.func68, Try.ntmps68
  go_wp2_with fail
  refine HG.out.mono ?_
  rintro e w' ⟨rfl, hb⟩
  have HB := Lib.hid hb
  clear hb HG
  go_wp2_with fail
  go_ret2
  exact ⟨rfl, HB.out⟩
/-- What timers do, if there are any. -/
def TmR (W : World) (p : Option Nat) (E : List On) (n : Nat) (S : List It) (w w' : World) : Prop := TMs W p E n S w' ∧ Below W.heap.size W w' ∧ OZ w w' ∧ w.heap.size ≤ w'.heap.size
theorem del_out {k : Int} (h : ∀ x ∈ S, 0 ≤ x.id ∧ x.id < (E.length : Int)) (hk : k < 0 ∨ (E.length : Int) ≤ k) : del k S = S := by
  unfold del
  rw [List.filter_eq_self]
  intro x hx
  have := h x hx
  simp; omega
/-- Stop of whatever was made, or not. -/
theorem tstop_any (k : Int) (m : TMs W p E n S w) (hb : Below W.heap.size W w) (hE : E.length ≤ 100000) (hl : S.length ≤ 1000) : Calls Try.prog 68 #[.pointer (cp p), .int .i64 k] w fun e w' => (∃ b r, e = .returned (.tuple #[.bool b, .int .i64 r])) ∧ TmR W p E n (del k S) w w' := by
  cases p with
  | none =>
    obtain ⟨rfl, rfl, rfl⟩ := m
    refine (tstop_nil k w).mono ?_
    rintro e w' ⟨rfl, h⟩
    exact ⟨⟨_, _, rfl⟩, ⟨rfl, rfl, rfl⟩, hb.trans (h.mono hb.size), OZ.of_below h, h.size⟩
  | some ts =>
    obtain ⟨h, h1, h2⟩ := m
    by_cases hk : k < 0 ∨ (E.length : Int) ≤ k
    · rw [del_out h1 hk]
      refine (stop_none h hk).mono ?_
      rintro e w' ⟨rfl, h3, h4⟩
      exact ⟨⟨_, _, rfl⟩, ⟨h3, h1, h2⟩, h3.bel, h4, h4.1⟩
    · obtain ⟨i, rfl⟩ : ∃ i : Nat, k = (i : Int) := Int.eq_ofNat_of_zero_le (by omega)
      have hx : E[i]? = some (E[i]'(by omega)) := List.getElem?_eq_getElem _
      obtain ⟨hc, hk4⟩ := h2 _ (List.mem_of_getElem? hx)
      refine (stop_set h hx (Drp.none hc) (by rw [hk4]; decide) hE hl).mono ?_
      rintro e w' ⟨rfl, h3, h4⟩
      rw [fput_z0] at h3
      exact ⟨⟨_, _, rfl⟩, ⟨h3, fun x hx => h1 x (del_mem.1 hx).1, h2⟩, h3.bel, h4, h4.1⟩
/-- One that is done. -/
def ended (x : Cx) (er cs : Int) : Cx := { x with er := er, cs := cs, cl := true, rs := [] }
/-- Who is woken by its end. -/
def wks (x : Cx) : List Ch.Wk := Ch.tot (chS x)
/-- What end leaves: who is woken, and the context done, its timer stopped. -/
def EnR (W : World) (t : Nat) (p : Option Nat) (s : St) (O : Nat → Prop) (i : Nat) (x : Cx) (er cs : Int) (w : World) (e : Ending) (w' : World) : Prop :=
  ∃ A n c, Hid (n = (wks x).length) ∧ e = .returned (.slice A n c) ∧ Hid (Ch.RdK w' A n (wks x)) ∧ Hid (GS W t p { s with C := s.C.set i (ended x er cs), S := del x.lp s.S } O w w')
theorem FS.ended {c : Nat} (h : FS W t p s O w) (hx : s.C[i]? = some x) (hc : x.ch = some c) (hcl : x.cl = false) (hr : x.rs.length ≤ 1000000) : Calls Try.prog 69 #[.pointer (some ⟨c, 0, none⟩)] w fun e w' => ∃ A k, e = .returned (.slice A (wks x).length k) ∧ Ch.RdK w' A (wks x).length (wks x) ∧ GS W t p { s with C := s.C.set i { x with cl := true, rs := [] } } O w w' := by
  obtain ⟨⟨F, G, o, y, e⟩, m⟩ := h
  refine (Ch.end_any (y.ch i x c hx hc) rfl hcl (by simp [chS]) hr).mono ?_
  rintro e' w' ⟨A, k, rfl, h1, h2⟩
  refine ⟨A, k, rfl, h1, ?_⟩
  have g : Ch.Go (G i) c (chS { x with cl := true, rs := [] }) w w' := h2
  obtain ⟨G', y', hs, tn⟩ := y.chan (y := { x with cl := true, rs := [] }) hx hc rfl rfl g
  refine FS.ctx y e m y' (fun k hk => ?_) (tn.mono fun b hb => .inl ((e b).2 hb))
  rcases hk with hk | hk | hk | hk | ⟨j, hk⟩
  · exact .inl ((e k).2 (.f hk))
  · exact .inl ((e k).2 (.k hk))
  · exact .inl ((e k).2 (.c hk))
  · exact .inl ((e k).2 (.a hk))
  · rcases hs j k hk with h3 | h3
    · exact .inl ((e k).2 (.g h3))
    · exact .inr h3
theorem Tg.oz {ty : TypeId} {k : Nat} (h : Tg (· = ty) w k) (ho : OthZ ty) (z : OZ w w') : w'.heap[k]? = w.heap[k]? := by
  obtain ⟨cs, ty', fr, e, rfl⟩ := h
  rw [e]; exact z.2 k cs _ fr e ho
/-- Its error and its cause are written. -/
theorem FS.errs (h : FS W t p s O w) (hx : s.C[i]? = some x) : ∃ q, (∃ cC, w.cell? ⟨t, 3, none⟩ = some (.slice (some ⟨q, 0, none⟩) s.C.length cC)) ∧ q < w.heap.size ∧ (w.cell? ⟨q, i * 8 + 2, none⟩ = some (.int .i64 x.er) ∧ w.cell? ⟨q, i * 8 + 3, none⟩ = some (.int .i64 x.cs)) ∧ (∀ j, w.frozen? ⟨q, j, none⟩ = false) ∧
    ∀ er cs, GS W t p { s with C := s.C.set i { x with er := er, cs := cs } } O w ((w.setCell ⟨q, i * 8 + 2, none⟩ (.int .i64 er)).setCell ⟨q, i * 8 + 3, none⟩ (.int .i64 cs)) ∧
      Tg (· = 92) ((w.setCell ⟨q, i * 8 + 2, none⟩ (.int .i64 er)).setCell ⟨q, i * 8 + 3, none⟩ (.int .i64 cs)) q ∧
      ((w.setCell ⟨q, i * 8 + 2, none⟩ (.int .i64 er)).setCell ⟨q, i * 8 + 3, none⟩ (.int .i64 cs)).cell? ⟨t, 0, none⟩ = some (.pointer (cp p)) ∧
      ∀ w3 : World, w3.heap[q]? = ((w.setCell ⟨q, i * 8 + 2, none⟩ (.int .i64 er)).setCell ⟨q, i * 8 + 3, none⟩ (.int .i64 cs)).heap[q]? → w3.cell? ⟨q, i * 8 + 7, none⟩ = some (.int .i64 x.lp) ∧ w3.cell? ⟨q, i * 8 + 1, none⟩ = some (.pointer (cp x.ch)) := by
  obtain ⟨⟨F, G, o, y, e⟩, m⟩ := h
  obtain ⟨q, hP, hq, ⟨-, -, x2, x3, -⟩, hf⟩ := y.cx hx
  have hl := (List.getElem?_eq_some_iff.1 hx).1
  refine ⟨q, ⟨_, by rw [← hP]; exact y.cells.2.2.1⟩, hq, ⟨x2, x3⟩, hf, fun er cs => ?_⟩
  obtain ⟨y1, t1⟩ := y.setx (y := { x with er := er }) hx hP 2 (by omega) (.int .i64 er) rfl rfl rfl
  obtain ⟨y2, t2⟩ := y1.setx (x := { x with er := er }) (y := { x with er := er, cs := cs }) (by rw [List.getElem?_set_self hl]) hP 3 (by omega) (.int .i64 cs) rfl rfl rfl
  rw [List.set_set] at y2
  refine ⟨FS.ctx y e m y2 (fun k hk => .inl ((e k).2 hk)) ((t1.trans t2).mono fun b hb => .inl ((e b).2 hb)), tag_row y2.rc (by rw [hP]; rfl), y2.cells.1, fun w3 h3 => ?_⟩
  obtain ⟨q', hP', -, ⟨-, c1, -, -, -, -, -, c7⟩, -⟩ := y2.cx (i := i) (x := { x with er := er, cs := cs }) (by rw [List.getElem?_set_self hl])
  rw [hP] at hP'
  injection hP' with hP'; injection hP' with hP'; subst hP'
  exact ⟨(cell_blk h3 _).trans c7, (cell_blk h3 _).trans c1⟩
set_option maxHeartbeats 4000000 in
theorem end_ctx {c : Nat} (er cs : Int) (h : FS W t p s O w) (hx : s.C[i]? = some x) (hc : x.ch = some c) (hcl : x.cl = false) (hr : x.rs.length ≤ 1000000) (hE : s.E.length ≤ 100000) (hl : s.S.length ≤ 1000) (hC : s.C.length ≤ 1000) :
    Calls Try.prog 53 #[pS t, .int .i64 (i : Int), .int .i64 er, .int .i64 cs] w (EnR W t p s O i x er cs w) := by
  have hi := (List.getElem?_eq_some_iff.1 hx).1
  have b1 : (i : Int) < (s.C.length : Int) := by omega
  have b2 : (0 : Int) ≤ (i : Int) := by omega
  obtain ⟨q, ⟨cC, h3⟩, hq, ⟨x2, x3⟩, hf, hg⟩ := h.errs hx
  have f2 := hf (i * 8 + 2)
  have f3 := hf (i * 8 + 3)
  obtain ⟨g1, tg, ct, cq⟩ := hg er cs
  have HG := Lib.hid g1
  have HT := Lib.hid tg
  have HC := Lib.hid cq
  have HX := Lib.hid hx
  have HN := Lib.hid hc
  have HL := Lib.hid (And.intro hE hl)
  clear hg g1 tg cq hf hx h hE hl
  go_enter Try.func53, Try.ntmps53
  go_wp2_with fail
  generalize (w.setCell ⟨q, i * 8 + 2, none⟩ (.int .i64 er)).setCell ⟨q, i * 8 + 3, none⟩ (.int .i64 cs) = w2 at *
  obtain ⟨O2, fs2, hs2, fm2⟩ := HG.out
  have hq2 := HT.out.lt
  have ht2 := fs2.tlt
  obtain ⟨c7, c1⟩ := HC.out w2 rfl
  have HF := Lib.hid fs2
  have HS := Lib.hid (And.intro hs2 fm2)
  have HST : Hid (∀ w3, Below w2.heap.size w2 w3 → Calls Try.prog 68 #[.pointer (cp p), .int .i64 x.lp] w3 fun e w' => (∃ b r, e = .returned (.tuple #[.bool b, .int .i64 r])) ∧ GS W t p { s with C := s.C.set i { x with er := er, cs := cs }, S := del x.lp s.S } O2 w2 w' ∧ OZ w2 w') := by
    intro w3 hb
    have f3 := HF.out.later hb
    refine (tstop_any x.lp f3.2 f3.bel HL.out.1 HL.out.2).mono ?_
    rintro e w' ⟨h1, h2, h3, h4, h5⟩
    exact ⟨h1, GS.from hb (f3.tms h2 h3 h4), (OZ.of_below hb).trans h4⟩
  clear fs2 hs2 fm2 x2 x3 f2 f3 h3 c1 hq HG
  go_region_with (go_at_call 68; go_loud (refine (HST.out _ (by first | exact Below.refl _ _ | exact (Below.refl _ _).drew | exact below_drewN _ _)).mono ?_; rintro e w3 ⟨⟨b9, r9, rfl⟩, g3, oz3⟩; have HG3 := Lib.hid g3; have HO3 := Lib.hid oz3; clear g3 oz3))
  all_goals
    have c1 : w3.cell? ⟨q, i * 8 + 1, none⟩ = some (.pointer (some ⟨c, 0, none⟩)) := by
      have h9 := (HC.out w3 (HT.out.oz (by decide) HO3.out)).2
      rw [HN.out] at h9
      exact h9
    have HEN : Hid (Calls Try.prog 69 #[.pointer (some ⟨c, 0, none⟩)] w3 (EnR W t p s O i x er cs w)) := by
      obtain ⟨O3, fs3, hs3, fm3⟩ := HG3.out
      refine (fs3.ended (x := { x with er := er, cs := cs }) (by show (s.C.set i _)[i]? = _; rw [List.getElem?_set_self hi]) HN.out hcl hr).mono ?_
      rintro e w4 ⟨A, k, rfl, h1, h2⟩
      refine ⟨A, _, k, rfl, rfl, h1, ?_⟩
      have h3 := GS.comp HS.out.1 HS.out.2 (GS.comp hs3 fm3 h2)
      rw [List.set_set] at h3
      exact h3
    clear HC HT HG3 HF HS HST ct c7 hq2 ht2 hC hi b1 b2 HO3 HX HN HL hc hcl hr
    go_wp2_with fail
    refine HEN.out.mono ?_
    rintro e w4 ⟨A, n, k, hn, rfl, h1, h2⟩
    go_wp2_with fail
    go_ret
    exact ⟨A, n, k, hn, rfl, h1, h2⟩
end
end Go.Proofs.Ytdpapnfjpefhkaa
