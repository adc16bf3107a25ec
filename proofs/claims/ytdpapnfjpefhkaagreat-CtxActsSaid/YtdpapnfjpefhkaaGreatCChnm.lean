/- A channel in memory: its block, its ring, its two queues; what carries it. No condition.
What the smaller calls of package chanq do: give, Send, Put, Drop, New, Timed, Signal, Len, Cap, Closed, Can. Conditions: each theorem's own premises. -/
import Derived.Test.YtdpapnfjpefhkaaGreatCRng
import Derived.Test.YtdpapnfjpefhkaaGreatCMemm
import Derived.Maps.OwnSet
namespace Go.Proofs.YtdpapnfjpefhkaaGreat.Ch
open Go.RowKit
set_option linter.unusedVariables false
set_option maxRecDepth 100000
def Wf (x : Int) : Prop := (Lit.int .i64 x).wf = true
structure CS where
 kd : Nat
 cl : Bool
 sz : Nat
 l : List Int
 ss : List Wt
 rs : List Wt
def CS.q (s : CS) : Bool → List Wt
 | true => s.ss
 | false => s.rs
def CS.sq (s : CS) : Bool → List Wt → CS
 | true, l => { s with ss := l }
 | false, l => { s with rs := l }
def pk : Bool → Ns → Ns → Ns
 | true, ns, _ => ns
 | false, _, ms => ms
def vp (ro : Option (Nat × Nat)) : Option Addr := ro.map fun m => ⟨m.1, 0, none⟩
def RX (w : World) (sz : Nat) (l : List Int) : Option (Nat × Nat) → Prop
 | none => sz = 0 ∧ l = []
 | some m => RG w m.1 m.2 sz l
def rF (k : Nat) : Option (Nat × Nat) → Prop
 | none => False
 | some m => k = m.1 ∨ k = m.2
def cB (kd : Nat) (cl : Bool) (V : Option Addr) (ns ms : Ns) : Array Value := #[.int .i64 kd, .bool cl, .pointer V, .pointer (adr (hd ns none)), .pointer (adr (lst ns none)), .int .i64 ns.length, .pointer (adr (hd ms none)), .pointer (adr (lst ms none)), .int .i64 ms.length]
def rst (kd : Nat) (cl : Bool) (V : Option Addr) (os : Ns) : Rs := ⟨.int .i64 kd, .bool cl, .pointer V, .pointer (adr (hd os none)), .pointer (adr (lst os none)), .int .i64 os.length⟩
def own (c : Nat) (ro : Option (Nat × Nat)) (ns ms : Ns) (k : Nat) : Prop := k = c ∨ rF k ro ∨ (∃ m ∈ ns, m.1 = k) ∨ ∃ m ∈ ms, m.1 = k
structure CX (w : World) (c : Nat) (ro : Option (Nat × Nat)) (ns ms : Ns) (s : CS) : Prop where
 hb : w.heap[c]? = some (.cells (cB s.kd s.cl (vp ro) ns ms) 185 (0, 0))
 s1 : Sg w none ns none
 s2 : Sg w none ms none
 nd : ((ns ++ ms).map (·.1)).Nodup
 rx : RX w s.sz s.l ro
 es : ns.map (·.2) = s.ss
 er : ms.map (·.2) = s.rs
 kd : s.kd ≤ 2
 sz : s.sz ≤ 64
 wf : ∀ b, ∀ x ∈ s.q b, Wf x.t
theorem nd_two {ns ms : Ns} : ((ns ++ ms).map (·.1)).Nodup ↔ (ns.map (·.1)).Nodup ∧ (ms.map (·.1)).Nodup ∧ ∀ m ∈ ns, ∀ k ∈ ms, m.1 ≠ k.1 := by
 simp only [List.map_append, List.nodup_append, List.mem_map]
 constructor
 · rintro ⟨h1, h2, h3⟩; exact ⟨h1, h2, fun m hm k hk => h3 _ ⟨m, hm, rfl⟩ _ ⟨k, hk, rfl⟩⟩
 · rintro ⟨h1, h2, h3⟩
   refine ⟨h1, h2, ?_⟩
   rintro _ ⟨m, hm, rfl⟩ _ ⟨k, hk, rfl⟩
   exact h3 m hm k hk
def IsC (w : World) (k : Nat) : Prop := ∃ cs t, w.heap[k]? = some (.cells cs t (0, 0)) ∧ (t = 185 ∨ t = 237 ∨ t = 3 ∨ t = 221)
theorem isc_lt {w : World} {k : Nat} (h : IsC w k) : k < w.heap.size := by obtain ⟨_, _, h, _⟩ := h; exact lt_of_blk h
theorem not_isc {w : World} {k : Nat} {cs : Array Value} {t : TypeId} {fr : Nat × Nat} (h : w.heap[k]? = some (.cells cs t fr)) (ht : t ≠ 185 ∧ t ≠ 237 ∧ t ≠ 3 ∧ t ≠ 221) : ¬ IsC w k := by
 rintro ⟨cs', t', h1, h2⟩
 rw [h] at h1
 cases h1
 rcases h2 with h2 | h2 | h2 | h2
 · exact ht.1 h2
 · exact ht.2.1 h2
 · exact ht.2.2.1 h2
 · exact ht.2.2.2 h2
theorem tag_ne {w : World} {a b : Nat} {cs ds : Array Value} {t u : TypeId} {f g : Nat × Nat} (h : w.heap[a]? = some (.cells cs t f)) (k : w.heap[b]? = some (.cells ds u g)) (hn : t ≠ u) : a ≠ b := by
 rintro rfl; rw [h] at k; cases k; exact hn rfl
section
variable {w w' : World} {c : Nat} {ro : Option (Nat × Nat)} {ns ms : Ns} {s : CS}
theorem CX.n1 (h : CX w c ro ns ms s) : ∀ m ∈ ns, ∃ cs, w.heap[m.1]? = some (.cells cs 221 (0, 0)) := Sg.tag _ _ _ h.s1
theorem CX.n2 (h : CX w c ro ns ms s) : ∀ m ∈ ms, ∃ cs, w.heap[m.1]? = some (.cells cs 221 (0, 0)) := Sg.tag _ _ _ h.s2
theorem CX.rt (h : CX w c ro ns ms s) : ∀ k, rF k ro → ∃ cs t, w.heap[k]? = some (.cells cs t (0, 0)) ∧ (t = 237 ∨ t = 3) := fun k hk => by
 cases ro with
 | none => exact hk.elim
 | some m =>
  obtain ⟨f, ps, hr⟩ := h.rx
  rcases hk with rfl | rfl
  · exact ⟨_, _, hr.ha, .inl rfl⟩
  · exact ⟨_, _, hr.hp, .inr rfl⟩
theorem CX.tag (h : CX w c ro ns ms s) {k : Nat} (hk : own c ro ns ms k) : IsC w k := by
 rcases hk with rfl | hk | ⟨m, hm, rfl⟩ | ⟨m, hm, rfl⟩
 · exact ⟨_, _, h.hb, .inl rfl⟩
 · obtain ⟨cs, t, h1, h2⟩ := h.rt k hk
   exact ⟨cs, t, h1, by rcases h2 with h2 | h2 <;> simp [h2]⟩
 · obtain ⟨cs, h1⟩ := h.n1 m hm
   exact ⟨cs, _, h1, by simp⟩
 · obtain ⟨cs, h1⟩ := h.n2 m hm
   exact ⟨cs, _, h1, by simp⟩
theorem RX.keep {sz : Nat} {l : List Int} (h : RX w sz l ro) (k : ∀ b, rF b ro → w'.heap[b]? = w.heap[b]?) : RX w' sz l ro := by
 cases ro with
 | none => exact h
 | some m => exact RG.keep h (k _ (.inl rfl)) (k _ (.inr rfl))
theorem CX.keep (h : CX w c ro ns ms s) (k : ∀ b, own c ro ns ms b → w'.heap[b]? = w.heap[b]?) : CX w' c ro ns ms s :=
 ⟨by rw [k c (.inl rfl)]; exact h.hb, Sg.keep _ _ _ (fun m hm => k _ (.inr (.inr (.inl ⟨m, hm, rfl⟩)))) h.s1, Sg.keep _ _ _ (fun m hm => k _ (.inr (.inr (.inr ⟨m, hm, rfl⟩)))) h.s2, h.nd, h.rx.keep (fun b hb => k b (.inr (.inl hb))), h.es, h.er, h.kd, h.sz, h.wf⟩
theorem CX.lq (h : CX w c ro ns ms s) : ∀ b, LQ w b c (rst s.kd s.cl (vp ro) (pk (!b) ns ms)) (pk b ns ms)
 | true => ⟨h.hb, h.s1, (nd_two.1 h.nd).1⟩
 | false => ⟨h.hb, h.s2, (nd_two.1 h.nd).2.1⟩
theorem CX.len (h : CX w c ro ns ms s) : ∀ b, (pk b ns ms).map (·.2) = s.q b
 | true => h.es
 | false => h.er
theorem CX.c0 (h : CX w c ro ns ms s) : w.cell? ⟨c, 0, none⟩ = some (.int .i64 s.kd) := by rw [cell_of_row w c 0 _ _ _ h.hb]; rfl
theorem CX.c1 (h : CX w c ro ns ms s) : w.cell? ⟨c, 1, none⟩ = some (.bool s.cl) := by rw [cell_of_row w c 1 _ _ _ h.hb]; rfl
theorem CX.c2 (h : CX w c ro ns ms s) : w.cell? ⟨c, 2, none⟩ = some (.pointer (vp ro)) := by rw [cell_of_row w c 2 _ _ _ h.hb]; rfl
theorem CX.fz (h : CX w c ro ns ms s) (i : Nat) : w.frozen? ⟨c, i, none⟩ = false := frozen_of_row w c i _ _ h.hb
theorem CX.turn (h : CX w c ro ns ms s) {ns' : Ns} (b : Bool) (q : LQ w' b c (rst s.kd s.cl (vp ro) (pk (!b) ns ms)) ns') (t : Tn (qF c (pk b ns ms)) w w') (hs : ∀ m ∈ ns', m ∈ pk b ns ms ∨ w.heap.size ≤ m.1) (hw : ∀ m ∈ ns', Wf m.2.t) :
  CX w' c ro (pk b ns' ns) (pk b ms ns') (s.sq b (ns'.map (·.2))) := by
 obtain ⟨n1, n2, n3⟩ := nd_two.1 h.nd
 have hr : RX w' s.sz s.l ro := h.rx.keep fun k hk => by
  obtain ⟨cs, t', h1, h2⟩ := h.rt k hk
  refine t.block k (lt_of_blk h1) ?_
  have ht : t' ≠ 185 ∧ t' ≠ 221 := by rcases h2 with rfl | rfl <;> decide
  rintro (rfl | ⟨m, hm, rfl⟩)
  · exact tag_ne h1 h.hb ht.1 rfl
  · cases b with
    | true => obtain ⟨_, h3⟩ := h.n1 m hm; exact tag_ne h1 h3 ht.2 rfl
    | false => obtain ⟨_, h3⟩ := h.n2 m hm; exact tag_ne h1 h3 ht.2 rfl
 cases b with
 | true =>
  refine ⟨q.hq, q.sg, Sg.keep _ _ _ (fun m hm => ?_) h.s2, nd_two.2 ⟨q.nd, n2, fun m hm k hk => ?_⟩, hr, rfl, h.er, h.kd, h.sz, fun b x hx => ?_⟩
  · obtain ⟨_, h3⟩ := h.n2 m hm
    refine t.block _ (lt_of_blk h3) ?_
    rintro (e | ⟨k, hk, e⟩)
    · exact tag_ne h3 h.hb (by decide) e
    · exact n3 k hk m hm e
  · rcases hs m hm with h1 | h1
    · exact n3 m h1 k hk
    · obtain ⟨_, h3⟩ := h.n2 k hk
      have := lt_of_blk h3; omega
  · cases b with
    | true => obtain ⟨m, hm, rfl⟩ := List.mem_map.1 hx; exact hw m hm
    | false => exact h.wf false x hx
 | false =>
  refine ⟨q.hq, Sg.keep _ _ _ (fun m hm => ?_) h.s1, q.sg, nd_two.2 ⟨n1, q.nd, fun m hm k hk => ?_⟩, hr, h.es, rfl, h.kd, h.sz, fun b x hx => ?_⟩
  · obtain ⟨_, h3⟩ := h.n1 m hm
    refine t.block _ (lt_of_blk h3) ?_
    rintro (e | ⟨k, hk, e⟩)
    · exact tag_ne h3 h.hb (by decide) e
    · exact n3 m hm k hk e.symm
  · rcases hs k hk with h1 | h1
    · exact n3 m hm k h1
    · obtain ⟨_, h3⟩ := h.n1 m hm
      have := lt_of_blk h3; omega
  · cases b with
    | true => exact h.wf true x hx
    | false => obtain ⟨m, hm, rfl⟩ := List.mem_map.1 hx; exact hw m hm
theorem CX.ring {m : Nat × Nat} {l : List Int} (h : CX w c (some m) ns ms s) (r : RG w' m.1 m.2 s.sz l) (o : Only m.1 m.2 w w') : CX w' c (some m) ns ms { s with l := l } := by
 obtain ⟨f, ps, hr⟩ := h.rx
 have k : ∀ (b : Nat) (cs : Array Value) (t : TypeId), w.heap[b]? = some (.cells cs t (0, 0)) → t ≠ 237 ∧ t ≠ 3 → w'.heap[b]? = w.heap[b]? := fun b cs t h1 h2 => o.block b (tag_ne h1 hr.ha h2.1) (tag_ne h1 hr.hp h2.2)
 refine ⟨by rw [k _ _ _ h.hb (by decide)]; exact h.hb, Sg.keep _ _ _ (fun m hm => ?_) h.s1, Sg.keep _ _ _ (fun m hm => ?_) h.s2, h.nd, r, h.es, h.er, h.kd, h.sz, h.wf⟩
 · obtain ⟨_, h3⟩ := h.n1 m hm; exact k _ _ _ h3 (by decide)
 · obtain ⟨_, h3⟩ := h.n2 m hm; exact k _ _ _ h3 (by decide)
theorem CX.shut (h : CX w c ro ns ms s) : CX (w.setCell ⟨c, 1, none⟩ (.bool true)) c ro ns ms { s with cl := true } := by
 have k : ∀ (b : Nat) (cs : Array Value) (t : TypeId), w.heap[b]? = some (.cells cs t (0, 0)) → t ≠ 185 → (w.setCell ⟨c, 1, none⟩ (.bool true)).heap[b]? = w.heap[b]? := fun b cs t h1 h2 => Below.heap_setCell _ _ _ _ (tag_ne h1 h.hb h2)
 refine ⟨by rw [heap_setCell_same w c 1 _ _ _ h.hb]; rfl, Sg.keep _ _ _ (fun m hm => ?_) h.s1, Sg.keep _ _ _ (fun m hm => ?_) h.s2, h.nd, h.rx.keep (fun b hb => ?_), h.es, h.er, h.kd, h.sz, h.wf⟩
 · obtain ⟨_, h3⟩ := h.n1 m hm; exact k _ _ _ h3 (by decide)
 · obtain ⟨_, h3⟩ := h.n2 m hm; exact k _ _ _ h3 (by decide)
 · obtain ⟨cs, t, h1, h2⟩ := h.rt b hb; exact k _ _ _ h1 (by rcases h2 with rfl | rfl <;> decide)
end
def CH (w : World) (F : Nat → Prop) (c : Nat) (s : CS) : Prop := ∃ ro ns ms, (∀ k, F k ↔ own c ro ns ms k) ∧ CX w c ro ns ms s
def Go (F : Nat → Prop) (c : Nat) (s : CS) (w w' : World) : Prop := ∃ F', CH w' F' c s ∧ (∀ b, F' b → F b ∨ w.heap.size ≤ b) ∧ Tn F w w'
section
variable {w w' w'' : World} {c : Nat} {F F' : Nat → Prop} {s s' : CS}
theorem CH.tag (h : CH w F c s) {k : Nat} (hk : F k) : IsC w k := by obtain ⟨ro, ns, ms, hF, h⟩ := h; exact h.tag ((hF k).1 hk)
theorem CH.lt (h : CH w F c s) {k : Nat} (hk : F k) : k < w.heap.size := isc_lt (h.tag hk)
theorem CH.has (h : CH w F c s) : F c := by obtain ⟨ro, ns, ms, hF, h⟩ := h; exact (hF c).2 (.inl rfl)
theorem CH.keep (h : CH w F c s) (k : ∀ b, F b → w'.heap[b]? = w.heap[b]?) : CH w' F c s := by
 obtain ⟨ro, ns, ms, hF, h⟩ := h
 exact ⟨ro, ns, ms, hF, h.keep fun b hb => k b ((hF b).2 hb)⟩
theorem CH.later (h : CH w F c s) (hb : Below w.heap.size w w') : CH w' F c s := h.keep fun b k => hb.block b (h.lt k)
theorem CH.kd (h : CH w F c s) : s.kd ≤ 2 := by obtain ⟨ro, ns, ms, hF, h⟩ := h; exact h.kd
theorem CH.sz (h : CH w F c s) : s.sz ≤ 64 := by obtain ⟨ro, ns, ms, hF, h⟩ := h; exact h.sz
theorem CH.wf (h : CH w F c s) : ∀ b, ∀ x ∈ s.q b, Wf x.t := by obtain ⟨ro, ns, ms, hF, h⟩ := h; exact h.wf
theorem CH.c0 (h : CH w F c s) : w.cell? ⟨c, 0, none⟩ = some (.int .i64 s.kd) := by obtain ⟨ro, ns, ms, hF, h⟩ := h; exact h.c0
theorem CH.c1 (h : CH w F c s) : w.cell? ⟨c, 1, none⟩ = some (.bool s.cl) := by obtain ⟨ro, ns, ms, hF, h⟩ := h; exact h.c1
theorem CH.fz (h : CH w F c s) (i : Nat) : w.frozen? ⟨c, i, none⟩ = false := by obtain ⟨ro, ns, ms, hF, h⟩ := h; exact h.fz i
theorem Go.here (h : CH w F c s) : Go F c s w w := ⟨F, h, fun b hb => .inl hb, Tn.refl _ _⟩
theorem Go.later (g : Go F c s w w') (hb : Below w'.heap.size w' w'') : Go F c s w w'' := by
 obtain ⟨F', h, hs, t⟩ := g
 exact ⟨F', h.later hb, hs, t.later hb⟩
theorem Go.draws (g : Go F c s w w') (hh : w''.heap = w'.heap) (h1 : w''.os = w'.os) (h2 : w''.tape = w'.tape) (h3 : w''.output = w'.output) : Go F c s w w'' := by
 obtain ⟨F', h, hs, t⟩ := g
 exact ⟨F', h.keep (fun b _ => by rw [hh]), hs, t.draws hh h1 h2 h3⟩
theorem Go.comp (t : Tn F w w') (hs : ∀ b, F' b → F b ∨ w.heap.size ≤ b) (g : Go F' c s w' w'') : Go F c s w w'' := by
 obtain ⟨G, h, hs2, t2⟩ := g
 refine ⟨G, h, fun b hb => ?_, t.comp t2 hs⟩
 rcases hs2 b hb with h1 | h1
 · exact hs b h1
 · exact .inr (Nat.le_trans t.size h1)
theorem Go.from (hb : Below w.heap.size w w') (g : Go F c s w' w'') : Go F c s w w'' := Go.comp (Tn.of_below hb) (fun b h => .inl h) g
theorem Go.tn (g : Go F c s w w') : Tn F w w' := by obtain ⟨_, _, _, t⟩ := g; exact t
theorem Go.other (h : CH w F c s') (g : Go F c s w w') {k : Nat} (hk : k < w.heap.size) (hn : ¬ IsC w k) : w'.heap[k]? = w.heap[k]? := g.tn.block k hk fun hf => hn (h.tag hf)
theorem Go.below {B : Nat} (g : Go F c s w w') (hB : B ≤ w.heap.size) (hF : ∀ b, F b → B ≤ b) : Below B w w' := g.tn.below hB hF
end
section
variable {w : World} {c : Nat} {F : Nat → Prop} {s : CS}
theorem pk_len {ns ms : Ns} {ro : Option (Nat × Nat)} (h : CX w c ro ns ms s) (b : Bool) : (pk b ns ms).length = (s.q b).length := by rw [← h.len b, List.length_map]
theorem own_turn {ro : Option (Nat × Nat)} {ns ms ns' : Ns} (b : Bool) (hs : ∀ m ∈ ns', m ∈ pk b ns ms ∨ w.heap.size ≤ m.1) : ∀ k, own c ro (pk b ns' ns) (pk b ms ns') k → own c ro ns ms k ∨ w.heap.size ≤ k := by
 intro k hk
 cases b
 · rcases hk with hk | hk | hk | ⟨m, hm, rfl⟩
   · exact .inl (.inl hk)
   · exact .inl (.inr (.inl hk))
   · exact .inl (.inr (.inr (.inl hk)))
   · exact (hs m hm).imp (fun h => .inr (.inr (.inr ⟨m, h, rfl⟩))) id
 · rcases hk with hk | hk | ⟨m, hm, rfl⟩ | hk
   · exact .inl (.inl hk)
   · exact .inl (.inr (.inl hk))
   · exact (hs m hm).imp (fun h => .inr (.inr (.inl ⟨m, h, rfl⟩))) id
   · exact .inl (.inr (.inr (.inr hk)))
theorem qF_own {ro : Option (Nat × Nat)} {ns ms : Ns} (b : Bool) : ∀ k, qF c (pk b ns ms) k → own c ro ns ms k := by
 rintro k (rfl | hk)
 · exact .inl rfl
 · cases b
   · exact .inr (.inr (.inr hk))
   · exact .inr (.inr (.inl hk))
theorem CH.turned {ro : Option (Nat × Nat)} {ns ms : Ns} {w' : World} (hF : ∀ k, F k ↔ own c ro ns ms k) (h : CX w c ro ns ms s) {ns' : Ns} (b : Bool) (q : LQ w' b c (rst s.kd s.cl (vp ro) (pk (!b) ns ms)) ns') (t : Tn (qF c (pk b ns ms)) w w') (hs : ∀ m ∈ ns', m ∈ pk b ns ms ∨ w.heap.size ≤ m.1) (hw : ∀ m ∈ ns', Wf m.2.t) :
  Go F c (s.sq b (ns'.map (·.2))) w w' :=
 ⟨_, ⟨ro, _, _, fun k => Iff.rfl, h.turn b q t hs hw⟩, fun k hk => (own_turn b hs k hk).imp (hF k).2 id, t.mono fun k hk => .inl ((hF k).2 (qF_own b k hk))⟩
theorem sq_same (b : Bool) : s.sq b (s.q b) = s := by cases b <;> rfl
theorem ch_pop_none (h : CH w F c s) (b : Bool) (hl : s.q b = []) : Calls Tryz.prog 110 #[.pointer (some ⟨c, off b, none⟩)] w fun e w' => e = .returned (.tuple #[wG ⟨0, 0, 0⟩, .bool false]) ∧ Go F c s w w' := by
 obtain ⟨ro, ns, ms, hF, h⟩ := h
 have hq := h.lq b
 have e := h.len b
 rw [hl] at e
 have e0 : pk b ns ms = [] := List.map_eq_nil_iff.1 e
 have hg := fun w' q t => CH.turned (w' := w') hF h (ns' := []) b q t (by simp) (by simp)
 rw [e0] at hq hg
 refine (pop_none hq).mono ?_
 rintro e w' ⟨rfl, q, t⟩
 refine ⟨rfl, ?_⟩
 have := hg w' q t
 rw [List.map_nil, ← hl, sq_same] at this
 exact this
theorem ch_pop_some {x : Wt} {r : List Wt} (h : CH w F c s) (b : Bool) (hl : s.q b = x :: r) (hn : r.length ≤ 1000000) : Calls Tryz.prog 110 #[.pointer (some ⟨c, off b, none⟩)] w fun e w' => e = .returned (.tuple #[wG x, .bool true]) ∧ Go F c (s.sq b r) w w' := by
 have hwf := h.wf b
 obtain ⟨ro, ns, ms, hF, h⟩ := h
 have hq := h.lq b
 have e := h.len b
 rw [hl] at e hwf
 obtain ⟨⟨a, x'⟩, r', e0⟩ : ∃ m r', pk b ns ms = m :: r' := by
  cases hp : pk b ns ms with
  | nil => rw [hp] at e; simp at e
  | cons m r' => exact ⟨m, r', rfl⟩
 rw [e0] at e
 simp only [List.map_cons, List.cons.injEq] at e
 obtain ⟨rfl, rfl⟩ := e
 have hg := fun w' q t => CH.turned (w' := w') hF h (ns' := r') b q t (by rw [e0]; exact fun m hm => .inl (List.mem_cons_of_mem _ hm)) (fun m hm => hwf _ (List.mem_cons_of_mem _ (List.mem_map.2 ⟨m, hm, rfl⟩)))
 rw [e0] at hq hg
 rw [List.length_map] at hn
 refine (pop_some hq hn).mono ?_
 rintro e w' ⟨rfl, q, t⟩
 exact ⟨rfl, hg w' q t⟩
theorem ch_push (x : Wt) (h : CH w F c s) (b : Bool) (hx : Wf x.t) (hn : (s.q b).length ≤ 1000000) : Calls Tryz.prog 72 #[.pointer (some ⟨c, off b, none⟩), wG x] w fun e w' => (∃ k, e = .returned (.int .i64 k)) ∧ Go F c (s.sq b (s.q b ++ [x])) w w' := by
 have hwf := h.wf b
 obtain ⟨ro, ns, ms, hF, h⟩ := h
 have e := h.len b
 refine (push_any x (h.lq b) (by rw [pk_len h]; exact hn)).mono ?_
 rintro e' w' ⟨rfl, k, hk, q, t⟩
 refine ⟨⟨_, rfl⟩, ?_⟩
 have := CH.turned (w' := w') hF h (ns' := pk b ns ms ++ [(k, x)]) b q t (fun m hm => ?_) (fun m hm => ?_)
 · rw [List.map_append, e] at this
   exact this
 · rcases List.mem_append.1 hm with h1 | h1
   · exact .inl h1
   · simp at h1; subst h1; exact .inr hk
 · rcases List.mem_append.1 hm with h1 | h1
   · exact hwf _ (by rw [← e]; exact List.mem_map.2 ⟨m, h1, rfl⟩)
   · simp at h1; subst h1; exact hx
theorem ch_line (h : CH w F c s) (b : Bool) : Calls Tryz.prog 71 #[.pointer (some ⟨c, 0, none⟩), .bool b] w fun e w' => e = .returned (.pointer (some ⟨c, off b, none⟩)) ∧ w = w' := by
 have c0 := h.c0
 clear h
 cases b
 all_goals
  go_enter Tryz.func71, Tryz.ntmps71
  go_wp2
  go_ret
  exact ⟨rfl, rfl⟩
theorem CH.ring (h : CH w F c s) : ∃ V, w.cell? ⟨c, 2, none⟩ = some (.pointer V) ∧
  (Calls Tryz.prog 93 #[.pointer V] w fun e w' => e = .returned (.int .i64 s.l.length) ∧ w = w') ∧
  (Calls Tryz.prog 94 #[.pointer V] w fun e w' => e = .returned (.int .i64 s.sz) ∧ w = w') ∧
  (Calls Tryz.prog 138 #[.pointer V] w fun e w' => e = .returned (.int .i64 s.l.length) ∧ Go F c { s with l := [] } w w') ∧
  True ∧
  True ∧
  (∀ v, s.l.length < s.sz → Calls Tryz.prog 111 #[.pointer V, .int .i64 v] w fun e w' => e = .returned (.bool true) ∧ Go F c { s with l := s.l ++ [v] } w w') ∧
  (∀ v, s.l.length = s.sz → Calls Tryz.prog 111 #[.pointer V, .int .i64 v] w fun e w' => e = .returned (.bool false) ∧ Go F c s w w') := by
 have h0 := h
 obtain ⟨ro, ns, ms, hF, h⟩ := h
 obtain ⟨kd, cl, sz, l, ss, rs⟩ := s
 refine ⟨vp ro, h.c2, ?_⟩
 have hz := h.sz
 have hx := h.rx
 simp only at hz hx ⊢
 cases ro with
 | none =>
  obtain ⟨h1, h2⟩ := hx
  subst h1 h2
  refine ⟨rlen_nil w, rsize_nil w, (rclear_nil w).mono ?_, trivial, trivial, fun v hl => ?_, fun v _ => (rpush_nil v w).mono ?_⟩
  · rintro e w' ⟨rfl, rfl⟩; exact ⟨rfl, Go.here h0⟩
  · simp at hl
  · rintro e w' ⟨rfl, n, rfl⟩; exact ⟨rfl, (Go.here h0).draws rfl rfl rfl rfl⟩
 | some m =>
  have go : ∀ w' l', RG w' m.1 m.2 sz l' → Only m.1 m.2 w w' → Go F c ⟨kd, cl, sz, l', ss, rs⟩ w w' := fun w' l' r o =>
   ⟨_, ⟨some m, ns, ms, fun k => Iff.rfl, h.ring r o⟩, fun k hk => .inl ((hF k).2 hk), o.tn ((hF _).2 (.inr (.inl (.inl rfl)))) ((hF _).2 (.inr (.inl (.inr rfl))))⟩
  refine ⟨rlen_any w hx, rsize_any w hx, (rclear_any w hx).mono ?_, trivial, trivial, fun v hl => (rpush_room v w hx hz hl).mono ?_, fun v hl => (rpush_full v w hx hl).mono ?_⟩
  · rintro e w' ⟨rfl, r, o⟩; exact ⟨rfl, go w' _ r o⟩
  · rintro e w' ⟨rfl, r, o⟩; exact ⟨rfl, go w' _ r o⟩
  · rintro e w' ⟨rfl, r, o⟩; exact ⟨rfl, go w' _ r o⟩
end
end Go.Proofs.YtdpapnfjpefhkaaGreat.Ch
namespace Go.Proofs.YtdpapnfjpefhkaaGreat.Ch
open Go.RowKit
set_option linter.unusedVariables false
set_option maxRecDepth 100000
structure Wk where
 t : Int
 c : Int
 v : Int
 ok : Bool
 pn : Bool
def kA (x : Wk) : Array Value := #[.int .i64 x.t, .int .i64 x.c, .int .i64 x.v, .bool x.ok, .bool x.pn]
def RdK (w : World) (A : Option Addr) (n : Nat) (l : List Wk) : Prop := l.length = n ∧ (0 < n → ∃ b cs, A = some ⟨b, 0, none⟩ ∧ w.heap[b]? = some (.cells cs 208 (0, 0)) ∧
 ∀ i x, l[i]? = some x → w.cell? ⟨b, i * 5, none⟩ = some (.int .i64 x.t) ∧ w.cell? ⟨b, i * 5 + 1, none⟩ = some (.int .i64 x.c) ∧ w.cell? ⟨b, i * 5 + 2, none⟩ = some (.int .i64 x.v) ∧ w.cell? ⟨b, i * 5 + 3, none⟩ = some (.bool x.ok) ∧ w.cell? ⟨b, i * 5 + 4, none⟩ = some (.bool x.pn))
theorem RdK.keep {w w' : World} {A : Option Addr} {n : Nat} {l : List Wk} (h : RdK w A n l) (k : ∀ (b : Nat) (cs : Array Value), w.heap[b]? = some (.cells cs 208 (0, 0)) → w'.heap[b]? = w.heap[b]?) : RdK w' A n l :=
 ⟨h.1, fun h0 => by
  obtain ⟨b, cs, e, hb, hc⟩ := h.2 h0
  refine ⟨b, cs, e, (k b cs hb).trans hb, fun i x hx => ?_⟩
  obtain ⟨c0, c1, c2, c3, c4⟩ := hc i x hx
  have hk := k b cs hb
  exact ⟨(cell_blk hk _).trans c0, (cell_blk hk _).trans c1, (cell_blk hk _).trans c2, (cell_blk hk _).trans c3, (cell_blk hk _).trans c4⟩⟩
theorem RdK.later {w w' : World} {A : Option Addr} {n : Nat} {l : List Wk} (h : RdK w A n l) (hb : Below w.heap.size w w') : RdK w' A n l := h.keep fun b cs e => hb.block b (lt_of_blk e)
theorem RdK.go {w w' : World} {A : Option Addr} {n c : Nat} {l : List Wk} {F : Nat → Prop} {s s' : CS} (h : RdK w A n l) (hc : CH w F c s) (g : Go F c s' w w') : RdK w' A n l := h.keep fun b cs e => g.other hc (lt_of_blk e) (not_isc e (by decide))
theorem RdK.nil (w : World) (A : Option Addr) : RdK w A 0 [] := ⟨rfl, fun h => absurd h (by omega)⟩
end Go.Proofs.YtdpapnfjpefhkaaGreat.Ch
