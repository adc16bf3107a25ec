/- The document's own channel in memory: a block of seven cells, three slices. No condition.
The document's own channel: send, Send, Put. Conditions: each theorem's own premises. -/
import Derived.Test.YtdpapnfjpefhkaaGreatCAllm
import Derived.Test.YtdpapnfjpefhkaaGreatCCtrm
namespace Go.Proofs.YtdpapnfjpefhkaaGreat.Ch
open Go.RowKit
set_option linter.unusedVariables false
set_option maxRecDepth 100000
def Ro (w : World) (ok : Nat → Prop) (a : Option Addr) (n c s : Nat) (xs : List Value) : Prop :=
 n ≤ c ∧ c ≤ 9223372036854775807 ∧ xs.length = n * s ∧ (0 < n → ∃ b off, a = some ⟨b, off, none⟩ ∧ b < w.heap.size ∧ ok b ∧ (∃ cs ty, w.heap[b]? = some (.cells cs ty (0, 0)) ∧ ty = if s = 1 then 3 else 103) ∧ ∀ j u, xs[j]? = some u → w.cell? ⟨b, off + j, none⟩ = some u)
section
variable {w w' : World} {ok ok' : Nat → Prop} {a : Option Addr} {n c s : Nat} {xs : List Value}
theorem Ro.keep (h : Ro w ok a n c s xs) (hs : w.heap.size ≤ w'.heap.size) (k : ∀ b, b < w.heap.size → ok b → w'.heap[b]? = w.heap[b]?) : Ro w' ok a n c s xs :=
 ⟨h.1, h.2.1, h.2.2.1, fun h0 => by
  obtain ⟨b, off, e, hl, ho, hc⟩ := h.2.2.2 h0
  exact ⟨b, off, e, by omega, ho, (by obtain ⟨⟨cs, ty, t1, t2⟩, _⟩ := hc; exact ⟨cs, ty, (k b hl ho).trans t1, t2⟩), fun j u hu => (cell_blk (k b hl ho) _).trans (hc.2 j u hu)⟩⟩
theorem Ro.mono (h : Ro w ok a n c s xs) (k : ∀ b, b < w.heap.size → ok b → ok' b) : Ro w ok' a n c s xs :=
 ⟨h.1, h.2.1, h.2.2.1, fun h0 => by
  obtain ⟨b, off, e, hl, ho, hc⟩ := h.2.2.2 h0
  exact ⟨b, off, e, hl, k b hl ho, hc⟩⟩
theorem Ro.later (h : Ro w ok a n c s xs) (hb : Below w.heap.size w w') : Ro w' ok a n c s xs := h.keep hb.size fun b hl _ => hb.block b hl
theorem Ro.rd (h : Ro w ok a n c s xs) : Rd w w.heap.size a n s xs :=
 ⟨h.2.2.1, fun h0 => by
  obtain ⟨b, off, e, hl, _, hc⟩ := h.2.2.2 h0
  exact ⟨b, off, e, hl, hc.2⟩⟩
theorem Ro.nil (w : World) (ok : Nat → Prop) (a : Option Addr) (s c : Nat) (hc : c ≤ 9223372036854775807) : Ro w ok a 0 c s [] := ⟨by omega, hc, by simp, fun h => absurd h (by omega)⟩
theorem own_tag0 {base e : Nat} {v : Value} (h : w.ownsRow base e s v n xs) {b : Nat} (hb : v.ownBlock = some b) : ∃ cs, w.heap[b]? = some (.cells cs e (0, 0)) := by
 rcases h.2 with ⟨rfl, rfl⟩ | ⟨g, cap, cur, rfl, hg, hc, _⟩
 · cases hb
 · cases hb; exact ⟨cur, hc⟩
theorem Ro.of_own {base e : Nat} (h : w.ownsRow base e s (.slice a n c) n xs) (k : ∀ b, base ≤ b → ok b) (he : e = if s = 1 then 3 else 103 := by decide) : Ro w ok a n c s xs := by
 obtain ⟨a', c', e1, h1, h2⟩ := own_cap h
 cases e1
 refine ⟨h1, h2, h.1, fun hn => ?_⟩
 obtain ⟨g, cap, hv, hb, hlt⟩ := h.form hn
 cases hv
 obtain ⟨cs, ht⟩ := own_tag0 h (b := g) rfl
 exact ⟨g, 0, rfl, hlt, k g hb, ⟨cs, e, ht, he⟩, fun j u hu => by rw [Nat.zero_add, h.cellAt j (by rw [← h.1]; exact (List.getElem?_eq_some_iff.1 hu).1)]; exact hu⟩
end
def mB (s : CS) (vb vs vr : Value) : Array Value := #[.int .i64 s.sz, .bool (s.kd == 1), .bool (s.kd == 2), .bool s.cl, vb, vs, vr]
structure MX (w : World) (ok : Nat → Prop) (m : Nat) (s : CS) (b q r : Option Addr × Nat) : Prop where
 hb : w.heap[m]? = some (.cells (mB s (.slice b.1 s.l.length b.2) (.slice q.1 s.ss.length q.2) (.slice r.1 s.rs.length r.2)) 114 (0, 0))
 rb : Ro w ok b.1 s.l.length b.2 1 (iV s.l)
 rq : Ro w ok q.1 s.ss.length q.2 3 (flW s.ss)
 rr : Ro w ok r.1 s.rs.length r.2 3 (flW s.rs)
 no : ¬ ok m
def MD (w : World) (ok : Nat → Prop) (m : Nat) (s : CS) : Prop := ∃ b q r, MX w ok m s b q r
section
variable {w w' : World} {ok ok' : Nat → Prop} {m : Nat} {s : CS} {b q r : Option Addr × Nat}
theorem MX.c0 (h : MX w ok m s b q r) : w.cell? ⟨m, 0, none⟩ = some (.int .i64 s.sz) := by rw [cell_of_row w m 0 _ _ _ h.hb]; rfl
theorem MX.c1 (h : MX w ok m s b q r) : w.cell? ⟨m, 1, none⟩ = some (.bool (s.kd == 1)) := by rw [cell_of_row w m 1 _ _ _ h.hb]; rfl
theorem MX.c2 (h : MX w ok m s b q r) : w.cell? ⟨m, 2, none⟩ = some (.bool (s.kd == 2)) := by rw [cell_of_row w m 2 _ _ _ h.hb]; rfl
theorem MX.c3 (h : MX w ok m s b q r) : w.cell? ⟨m, 3, none⟩ = some (.bool s.cl) := by rw [cell_of_row w m 3 _ _ _ h.hb]; rfl
theorem MX.c4 (h : MX w ok m s b q r) : w.cell? ⟨m, 4, none⟩ = some (.slice b.1 s.l.length b.2) := by rw [cell_of_row w m 4 _ _ _ h.hb]; rfl
theorem MX.c5 (h : MX w ok m s b q r) : w.cell? ⟨m, 5, none⟩ = some (.slice q.1 s.ss.length q.2) := by rw [cell_of_row w m 5 _ _ _ h.hb]; rfl
theorem MX.c6 (h : MX w ok m s b q r) : w.cell? ⟨m, 6, none⟩ = some (.slice r.1 s.rs.length r.2) := by rw [cell_of_row w m 6 _ _ _ h.hb]; rfl
theorem MX.fz (h : MX w ok m s b q r) (i : Nat) : w.frozen? ⟨m, i, none⟩ = false := frozen_of_row w m i _ _ h.hb
theorem MX.lt (h : MX w ok m s b q r) : m < w.heap.size := lt_of_blk h.hb
theorem MX.later (h : MX w ok m s b q r) (hb : Below w.heap.size w w') : MX w' ok m s b q r := ⟨(hb.block m h.lt).trans h.hb, h.rb.later hb, h.rq.later hb, h.rr.later hb, h.no⟩
theorem MX.mono (h : MX w ok m s b q r) (k : ∀ b, b < w.heap.size → ok b → ok' b) (hn : ¬ ok' m) : MX w ok' m s b q r := ⟨h.hb, h.rb.mono k, h.rq.mono k, h.rr.mono k, hn⟩
theorem MX.keep (h : MX w ok m s b q r) (hs : w.heap.size ≤ w'.heap.size) (h1 : w'.heap[m]? = w.heap[m]?) (k : ∀ b, b < w.heap.size → ok b → w'.heap[b]? = w.heap[b]?) : MX w' ok m s b q r := ⟨h1.trans h.hb, h.rb.keep hs k, h.rq.keep hs k, h.rr.keep hs k, h.no⟩
theorem Ro.set {w : World} {ok : Nat → Prop} {a : Option Addr} {n c k i m : Nat} {xs : List Value} (h : Ro w ok a n c k xs) (hm : ¬ ok m) (v : Value) : Ro (w.setCell ⟨m, i, none⟩ v) ok a n c k xs :=
 h.keep (by rw [size_set]; exact Nat.le_refl _) fun b _ ho => Below.heap_setCell _ _ _ _ (by rintro rfl; exact hm ho)
theorem MX.setQ {l : List Wt} {q' : Option Addr × Nat} (h : MX w ok m s b q r) (hr : Ro w ok q'.1 l.length q'.2 3 (flW l)) : MX (w.setCell ⟨m, 5, none⟩ (.slice q'.1 l.length q'.2)) ok m { s with ss := l } b q' r :=
 ⟨by rw [heap_setCell_same w m 5 _ _ _ h.hb]; rfl, h.rb.set h.no _, hr.set h.no _, h.rr.set h.no _, h.no⟩
theorem MX.setR {l : List Wt} {r' : Option Addr × Nat} (h : MX w ok m s b q r) (hr : Ro w ok r'.1 l.length r'.2 3 (flW l)) : MX (w.setCell ⟨m, 6, none⟩ (.slice r'.1 l.length r'.2)) ok m { s with rs := l } b q r' :=
 ⟨by rw [heap_setCell_same w m 6 _ _ _ h.hb]; rfl, h.rb.set h.no _, h.rq.set h.no _, hr.set h.no _, h.no⟩
theorem MX.setC (h : MX w ok m s b q r) : MX (w.setCell ⟨m, 3, none⟩ (.bool true)) ok m { s with cl := true } b q r :=
 ⟨by rw [heap_setCell_same w m 3 _ _ _ h.hb]; rfl, h.rb.set h.no _, h.rq.set h.no _, h.rr.set h.no _, h.no⟩
theorem MD.later (h : MD w ok m s) (hb : Below w.heap.size w w') : MD w' ok m s := by obtain ⟨b, q, r, h⟩ := h; exact ⟨b, q, r, h.later hb⟩
theorem MD.lt (h : MD w ok m s) : m < w.heap.size := by obtain ⟨b, q, r, h⟩ := h; exact h.lt
theorem MD.mono (h : MD w ok m s) (k : ∀ b, b < w.heap.size → ok b → ok' b) (hn : ¬ ok' m) : MD w ok' m s := by obtain ⟨b, q, r, h⟩ := h; exact ⟨b, q, r, h.mono k hn⟩
theorem MD.keep (h : MD w ok m s) (hs : w.heap.size ≤ w'.heap.size) (h1 : w'.heap[m]? = w.heap[m]?) (k : ∀ b, b < w.heap.size → ok b → w'.heap[b]? = w.heap[b]?) : MD w' ok m s := by obtain ⟨b, q, r, h⟩ := h; exact ⟨b, q, r, h.keep hs h1 k⟩
def okN (ok : Nat → Prop) (N : Nat) (b : Nat) : Prop := ok b ∨ N ≤ b
def Mo (ok : Nat → Prop) (m : Nat) (s : CS) (w w' : World) : Prop := MD w' (okN ok w.heap.size) m s ∧ Tn (fun k => k = m) w w'
theorem Mo.same (h : MD w ok m s) : Mo ok m s w w := ⟨h.mono (fun b _ ho => .inl ho) (fun hn => by
 obtain ⟨b, q, r, hx⟩ := h
 rcases hn with hn | hn
 · exact hx.no hn
 · have := hx.lt; omega), Tn.refl _ _⟩
theorem Mo.later {w'' : World} (h : Mo ok m s w w') (hb : Below w'.heap.size w' w'') : Mo ok m s w w'' := ⟨h.1.later hb, h.2.later hb⟩
theorem Mo.draws {w'' : World} (h : Mo ok m s w w') (hh : w''.heap = w'.heap) (h1 : w''.os = w'.os) (h2 : w''.tape = w'.tape) (h3 : w''.output = w'.output) : Mo ok m s w w'' :=
 h.later ⟨h1, h2, h3, by rw [hh]; exact Nat.le_refl _, fun k _ => by rw [hh]⟩
end
end Go.Proofs.YtdpapnfjpefhkaaGreat.Ch
namespace Go.Proofs.YtdpapnfjpefhkaaGreat.Ch
open Go.RowKit
set_option linter.unusedVariables false
set_option maxRecDepth 100000
section
variable {w : World} {ok : Nat → Prop} {m : Nat} {s : CS}
set_option maxRecDepth 100000 in
set_option maxHeartbeats 4000000 in
set_option maxRecDepth 100000 in
set_option maxHeartbeats 4000000 in
set_option maxRecDepth 100000 in
set_option maxRecDepth 100000 in
set_option maxHeartbeats 4000000 in
theorem MX.k1 {b q r : Option Addr × Nat} {k : Nat} (h : MX w ok m s b q r) (hk : s.kd = k) : w.cell? ⟨m, 1, none⟩ = some (.bool (k == 1)) := by rw [← hk]; exact h.c1
theorem MX.k2 {b q r : Option Addr × Nat} {k : Nat} (h : MX w ok m s b q r) (hk : s.kd = k) : w.cell? ⟨m, 2, none⟩ = some (.bool (k == 2)) := by rw [← hk]; exact h.c2
theorem MX.k3 {b q r : Option Addr × Nat} {k : Bool} (h : MX w ok m s b q r) (hk : s.cl = k) : w.cell? ⟨m, 3, none⟩ = some (.bool k) := by rw [← hk]; exact h.c3
end
end Go.Proofs.YtdpapnfjpefhkaaGreat.Ch
