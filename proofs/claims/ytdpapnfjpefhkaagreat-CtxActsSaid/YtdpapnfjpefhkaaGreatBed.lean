/- A bed: contexts of the program, and the document's own, side by side. No condition but those that each names. -/
import Derived.Test.YtdpapnfjpefhkaaGreatRdlm
import Derived.Test.YtdpapnfjpefhkaaGreatCdlm
namespace Go.Proofs.YtdpapnfjpefhkaaGreat
open Go.RowKit Tr
set_option linter.unusedVariables false
set_option maxRecDepth 100000
def KP (w w' : World) : Prop := w.heap.size ≤ w'.heap.size ∧ ∀ (k : Nat) (cs : Array Value) (ty : TypeId) (fr : Nat × Nat), w.heap[k]? = some (.cells cs ty fr) → OthZ ty → ¬ TgO ty → w'.heap[k]? = some (.cells cs ty fr)
def KD (w w' : World) : Prop := w.heap.size ≤ w'.heap.size ∧ ∀ (k : Nat) (cs : Array Value) (ty : TypeId) (fr : Nat × Nat), w.heap[k]? = some (.cells cs ty fr) → ¬ TgR ty → (ty ≠ 68 ∧ ty ≠ 215 ∧ ty ≠ 178) → w'.heap[k]? = some (.cells cs ty fr)
def KB (w w' : World) : Prop := w.heap.size ≤ w'.heap.size ∧ ∀ (k : Nat) (cs : Array Value) (ty : TypeId) (fr : Nat × Nat), w.heap[k]? = some (.cells cs ty fr) → (OthZ ty ∧ ¬ TgO ty ∧ ¬ TgR ty ∧ ty ≠ 68 ∧ ty ≠ 215 ∧ ty ≠ 178) → w'.heap[k]? = some (.cells cs ty fr)
theorem KP.kb {w w' : World} (h : KP w w') : KB w w' := ⟨h.1, fun k cs ty fr e g => h.2 k cs ty fr e g.1 g.2.1⟩
theorem KD.kb {w w' : World} (h : KD w w') : KB w w' := ⟨h.1, fun k cs ty fr e g => h.2 k cs ty fr e g.2.2.1 g.2.2.2⟩
theorem KB.trans {u v w : World} (h : KB u v) (g : KB v w) : KB u w := ⟨Nat.le_trans h.1 g.1, fun k cs ty fr e t => g.2 k cs ty fr (h.2 k cs ty fr e t) t⟩
theorem KB.of_below {w w' : World} (h : Below w.heap.size w w') : KB w w' := ⟨h.size, fun k cs ty fr e _ => (h.block k (lt_of_blk e)).trans e⟩
theorem KB.refl (w : World) : KB w w := ⟨Nat.le_refl _, fun _ _ _ _ e _ => e⟩
def TgB (ty : TypeId) : Prop := OthZ ty ∧ ¬ TgO ty ∧ ¬ TgR ty ∧ ty ≠ 68 ∧ ty ≠ 215 ∧ ty ≠ 178
theorem KB.at {w w' : World} {k : Nat} (h : KB w w') (t : Tg TgB w k) : w'.heap[k]? = w.heap[k]? := by
 obtain ⟨cs, ty, fr, e, hp⟩ := t
 rw [h.2 k cs ty fr e hp, e]
instance (ty : TypeId) : Decidable (TgO ty) := inferInstanceAs (Decidable (_ ∨ _))
instance (ty : TypeId) : Decidable (TgR ty) := inferInstanceAs (Decidable (_ ∨ _))
instance (ty : TypeId) : Decidable (TgB ty) := inferInstanceAs (Decidable (_ ∧ _))
section
variable {W w w' w'' w1 : World} {t ts m mo b k R R' R1 R2 : Nat} {p : Option Nat} {O O2 O' : Nat → Prop} {s s2 s' : St} {d d1 d2 d' : St} {now : Int}
theorem RC.keepG (h : RC W m mo s2 O2 w) (f : Fm O w w') (hO : ∀ k, O k → Tg TgO w k) (hb : Below W.heap.size W w') (dis : ∀ k, O k → ¬ O2 k) : RC W m mo s2 O2 w' := by
 obtain ⟨⟨N, o, hr, r, e⟩, t⟩ := h
 have key : ∀ (k : Nat) (cs : Array Value) (ty : TypeId) (fr : Nat × Nat), w.heap[k]? = some (.cells cs ty fr) → OthZ ty → ¬ TgO ty → w'.heap[k]? = some (.cells cs ty fr) := fun k cs ty fr e1 h1 h2 => f.2 k cs ty fr e1 h1 fun hk => (hO k hk).not e1 h2
 refine ⟨⟨N, o, hr.keep f.1 (fun k hk => ?_) (fun k cs e1 => key k cs 103 _ e1 (by decide) (by decide)) hb, r, e⟩, t.keepT fun k cs ty fr e1 h1 => key k cs ty fr e1 (by rcases h1 with h1 | h1 | h1 <;> subst h1 <;> decide) (by rcases h1 with h1 | h1 | h1 <;> subst h1 <;> decide)⟩
 obtain ⟨cs, ty, fr, e1, h1⟩ := hr.tag hk
 rw [e1]
 exact f.2 k cs ty fr e1 (by rcases h1 with h1 | h1 | h1 | h1 | h1 <;> subst h1 <;> decide) fun h2 => dis k h2 ((e k).2 hk)
theorem FS.keepR (h : FS W t p s O w) (f : Rm O2 w w') (hb : Below W.heap.size W w') (dis : ∀ k, O k → ¬ O2 k) (hO2 : ∀ k, O2 k → Tg TgR w k) : FS W t p s O w' := by
 obtain ⟨⟨F, G, o, y, e⟩, mm⟩ := h
 refine ⟨⟨F, G, o, y.keep (fun k hk => ?_) hb, e⟩, mm.tm hb fun j hj hi => ?_⟩
 · obtain ⟨cs, ty, fr, e1, h1⟩ := y.tag hk
   rw [e1]
   exact f.cells e1 (dis k ((e k).2 hk)) (by rcases h1 with h1 | h1 | h1 | h1 | h1 | h1 | h1 | h1 | h1 <;> subst h1 <;> decide)
 · rcases hi with ⟨cs, ty, fr, e1, h1⟩ | ⟨es, cl, e1⟩
   · rw [e1]
     have h2 : ty = 228 ∨ ty = 203 ∨ ty = 146 ∨ ty = 171 := by
      by_cases a1 : ty = 228
      · exact .inl a1
      by_cases a2 : ty = 203
      · exact .inr (.inl a2)
      by_cases a3 : ty = 146
      · exact .inr (.inr (.inl a3))
      by_cases a4 : ty = 171
      · exact .inr (.inr (.inr a4))
      exact absurd ⟨a1, a2, a3, a4⟩ h1
     exact f.cells e1 (fun hk => (hO2 j hk).not e1 (by rcases h2 with h2 | h2 | h2 | h2 <;> subst h2 <;> decide)) (by rcases h2 with h2 | h2 | h2 | h2 <;> subst h2 <;> decide)
   · rw [e1]
     exact f.2 j _ e1 (fun hk => by obtain ⟨cs, ty, fr, e2, _⟩ := hO2 j hk; rw [e1] at e2; cases e2) fun cs fr => ⟨(fun h => by cases h), (fun h => by cases h), (fun h => by cases h)⟩
structure BM (W : World) (b ts t mo m : Nat) (now : Int) (R1 R2 : Nat) (d1 d2 : St) (w : World) : Prop where
 ex : ∃ s s2 O O2, FS W t (some ts) s O w ∧ RC W m mo s2 O2 w ∧ eS s = d1 ∧ eS s2 = d2 ∧ IX R1 s ∧ IX R2 s2 ∧ ∀ k, O k → ¬ O2 k
 bed : w.heap[b]? = some (.cells #[.pointer (some ⟨ts, 0, none⟩), .pointer (some ⟨t, 0, none⟩), .pointer (some ⟨mo, 0, none⟩), .pointer (some ⟨m, 0, none⟩), .int .i64 now] 39 (0, 0))
 hb : W.heap.size ≤ b
theorem BM.bel (h : BM W b ts t mo m now R1 R2 d1 d2 w) : Below W.heap.size W w := by obtain ⟨s, s2, O, O2, f, _⟩ := h.ex; exact f.bel
theorem BM.cells (h : BM W b ts t mo m now R1 R2 d1 d2 w) : (w.cell? ⟨b, 0, none⟩ = some (.pointer (some ⟨ts, 0, none⟩)) ∧ w.cell? ⟨b, 1, none⟩ = some (.pointer (some ⟨t, 0, none⟩)) ∧ w.cell? ⟨b, 2, none⟩ = some (.pointer (some ⟨mo, 0, none⟩)) ∧ w.cell? ⟨b, 3, none⟩ = some (.pointer (some ⟨m, 0, none⟩)) ∧ w.cell? ⟨b, 4, none⟩ = some (.int .i64 now)) ∧ ∀ j, w.frozen? ⟨b, j, none⟩ = false := by
 have h := h.bed
 refine ⟨⟨?_, ?_, ?_, ?_, ?_⟩, fun j => frozen_of_row w b j _ _ h⟩
 · rw [cell_of_row w b 0 _ _ _ h]; rfl
 · rw [cell_of_row w b 1 _ _ _ h]; rfl
 · rw [cell_of_row w b 2 _ _ _ h]; rfl
 · rw [cell_of_row w b 3 _ _ _ h]; rfl
 · rw [cell_of_row w b 4 _ _ _ h]; rfl
theorem BM.later (h : BM W b ts t mo m now R1 R2 d1 d2 w) (hb : Below w.heap.size w w') : BM W b ts t mo m now R1 R2 d1 d2 w' := by
 obtain ⟨s, s2, O, O2, f, r, e⟩ := h.ex
 exact ⟨⟨s, s2, O, O2, f.later hb, r.later hb, e⟩, (hb.block b (lt_of_blk h.bed)).trans h.bed, h.hb⟩
theorem BM.prog {f : Nat} {a : Array Value} {Q : Ending → World → Prop} (h : BM W b ts t mo m now R1 R2 d1 d2 w) (hc : ∀ s O, FS W t (some ts) s O w → IX R1 s → eS s = d1 → Calls Tryz.prog f a w fun e w' => Q e w' ∧ ∃ s', GS W t (some ts) s' O w w' ∧ IX R' s' ∧ eS s' = d') :
  Calls Tryz.prog f a w fun e w' => Q e w' ∧ BM W b ts t mo m now R' R2 d' d2 w' ∧ KP w w' := by
 obtain ⟨s, s2, O, O2, fs, rc, e1, e2, i1, i2, dis⟩ := h.ex
 refine (hc s O fs i1 e1).mono ?_
 rintro e w' ⟨hQ, s', ⟨O', fs', hs, fm⟩, i', e'⟩
 refine ⟨hQ, ⟨⟨s', s2, O', O2, fs', rc.keepG fm (fun k hk => fs.tag hk) fs'.bel dis, e', e2, i', i2, fun k hk h2 => ?_⟩, fm.2 b _ 39 _ h.bed (by decide) (fun hk => (fs.tag hk).not h.bed (by decide)), h.hb⟩, fm.1, fun k cs ty fr e3 h3 h4 => fm.2 k cs ty fr e3 h3 fun hk => (fs.tag hk).not e3 h4⟩
 rcases hs k hk with h1 | h1
 · exact dis k h1 h2
 · have := rc.lt h2; omega
theorem BM.doc {f : Nat} {a : Array Value} {Q : Ending → World → Prop} (h : BM W b ts t mo m now R1 R2 d1 d2 w) (hc : ∀ s O, RC W m mo s O w → IX R2 s → eS s = d2 → Calls Tryz.prog f a w fun e w' => Q e w' ∧ ∃ s', RG W m mo s' O w w' ∧ IX R' s' ∧ eS s' = d') :
  Calls Tryz.prog f a w fun e w' => Q e w' ∧ BM W b ts t mo m now R1 R' d1 d' w' ∧ KD w w' := by
 obtain ⟨s, s2, O, O2, fs, rc, e1, e2, i1, i2, dis⟩ := h.ex
 refine (hc s2 O2 rc i2 e2).mono ?_
 rintro e w' ⟨hQ, s', ⟨O', rc', hs, fm⟩, i', e'⟩
 refine ⟨hQ, ⟨⟨s, s', O, O', fs.keepR fm rc'.bel dis (fun k hk => rc.tag hk), rc', e1, e', i1, i', fun k hk h2 => ?_⟩, fm.cells h.bed (fun hk => (rc.tag hk).not h.bed (by decide)) (by decide), h.hb⟩, fm.1, fun k cs ty fr e3 h3 h4 => fm.cells e3 (fun hk => (rc.tag hk).not e3 h3) h4⟩
 rcases hs k h2 with h1 | h1
 · exact dis k hk h1
 · have := fs.lt hk; omega
end
end Go.Proofs.YtdpapnfjpefhkaaGreat
