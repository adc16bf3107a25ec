/- A channel beside a row of numbers of the law's own; what ChanOrder keeps. Conditions: each theorem's own premises. -/
import Derived.Test.YtnldodpmfkekbaaSgW
import Derived.Test.YtnldodpmfkekbaaOpn
namespace Go.Proofs.Ytnldodpmfkekbaa
open Go.RowKit
set_option linter.unusedVariables false

def gV (g : Nat) : List Value := (List.range g).map fun i : Nat => .int .i64 ((i : Int) + 1)
theorem gV_len (g : Nat) : (gV g).length = g := by simp [gV]
theorem gV_succ (g : Nat) : gV g ++ [.int .i64 ((g : Int) + 1)] = gV (g + 1) := by simp [gV, List.range_succ]
theorem gV_at {g i : Nat} (h : i < g) : (gV g)[i]? = some (.int .i64 ((i : Int) + 1)) := by simp [gV, h]
theorem own_keepV {w w' : World} {base n sz : Nat} {e : TypeId} {v : Value} {xs : List Value} (h : w.ownsRow base e sz v n xs) (k : ∀ b, v.ownBlock = some b → w'.heap[b]? = w.heap[b]?) : w'.ownsRow base e sz v n xs := by
  refine ⟨h.1, ?_⟩
  rcases h.2 with hn | ⟨g, cap, cur, q1, q2, q3, q4⟩
  · exact .inl hn
  · exact .inr ⟨g, cap, cur, q1, q2, by rw [k g (by rw [q1]; rfl)]; exact q3, q4⟩
/-- Block c is a channel that is s; v is a row of the numbers 1 to g; they share nothing. -/
structure OS (W : World) (c g : Nat) (v : Value) (s : CS) (w : World) : Prop where
  bel : Below W.heap.size W w
  ch : ∃ F, CH w F c s ∧ (∀ b, F b → W.heap.size ≤ b) ∧ ∀ b, v.ownBlock = some b → ¬ F b
  row : w.ownsRow W.heap.size 3 1 v g (gV g)
section
variable {W w w' : World} {c g : Nat} {v v' : Value} {s s' : CS}
theorem OS.lt (h : OS W c g v s w) {b : Nat} (hb : v.ownBlock = some b) : b < w.heap.size := (h.row.lt b hb).2
theorem OS.later (h : OS W c g v s w) (hb : Below w.heap.size w w') : OS W c g v s w' := by
  obtain ⟨h0, ⟨F, h1, h2, h3⟩, h4⟩ := h
  exact ⟨h0.trans (hb.mono h0.size), ⟨F, h1.later hb, h2, h3⟩, own_keepV h4 fun b e => hb.block b (h4.lt b e).2⟩
theorem OS.draws (h : OS W c g v s w) (hh : w'.heap = w.heap) (h1 : w'.os = w.os) (h2 : w'.tape = w.tape) (h3 : w'.output = w.output) : OS W c g v s w' :=
  h.later ⟨h1, h2, h3, by rw [hh]; exact Nat.le_refl _, fun k _ => by rw [hh]⟩
theorem OS.at (h : OS W c g v s w) : ∃ F, CH w F c s ∧ ∀ s' w', Go F c s' w w' → OS W c g v s' w' ∧ Kp w w' := by
  obtain ⟨h0, ⟨F, h1, h2, h3⟩, h4⟩ := h
  refine ⟨F, h1, fun s' w' gg => ⟨⟨h0.trans (gg.below h0.size h2), ?_, own_keepV h4 fun b e => gg.tn.block b (h4.lt b e).2 (h3 b e)⟩, gg.tn.size, fun k hk hn => gg.other h1 hk hn⟩⟩
  obtain ⟨F', hc', hs, t⟩ := gg
  refine ⟨F', hc', fun b hb => ?_, fun b e hb => ?_⟩
  · rcases hs b hb with hf | hf
    · exact h2 b hf
    · have := h0.size; omega
  · rcases hs b hb with hf | hf
    · exact h3 b e hf
    · have := (h4.lt b e).2; omega
theorem OS.grow (h : OS W c g v s w) {g' : Nat} (hg : w.grownBy w' v.ownBlock) (row : w'.ownsRow W.heap.size 3 1 v' g' (gV g')) (ho : ∀ b, v'.ownBlock = some b → v.ownBlock = some b ∨ b = w.heap.size) : OS W c g' v' s w' := by
  obtain ⟨h0, ⟨F, h1, h2, h3⟩, h4⟩ := h
  refine ⟨below_app h0 (Nat.le_refl _) h0.size h4 hg, ⟨F, h1.keep fun b hb => hg.block b (h1.lt hb) fun e => h3 b e.symm hb, h2, fun b e hb => ?_⟩, row⟩
  rcases ho b e with h9 | h9
  · exact h3 b h9 hb
  · have := h1.lt hb; omega
variable {ws : List Wk} {d : Bool} {n : Nat}
theorem os_send (x : Int) (h : OS W c g v s w) (hk : s.kd = 0) (hc : s.cl = false) (hn : s.rs.length ≤ 1000000) (hg : gv s x = (s', ws, d)) (hl : ws.length = n) :
    Calls Try.prog 16 #[.pointer (some ⟨c, 0, none⟩), .int .i64 x] w fun e w' => ∃ A cap, e = .returned (.tuple #[.bool d, .slice A n cap, .int .i64 0]) ∧ RdK w' A n ws ∧ OS W c g v s' w' ∧ Kp w w' := by
  subst hl
  obtain ⟨F, hch, bk⟩ := h.at
  refine (send_any x hch hk hc hn).mono ?_
  rw [hg]
  rintro e w' ⟨A, cap, rfl, hr, g⟩
  exact ⟨A, cap, rfl, hr, bk _ _ g⟩
theorem os_recv {x : Int} {ok : Bool} (h : OS W c g v s w) (hn : s.ss.length ≤ 1000000) (hg : rc s = (s', x, ok, d, ws)) (hl : ws.length = n) :
    Calls Try.prog 18 #[.pointer (some ⟨c, 0, none⟩)] w fun e w' => ∃ A cap, e = .returned (.tuple #[.int .i64 x, .bool ok, .bool d, .slice A n cap]) ∧ RdK w' A n ws ∧ OS W c g v s' w' ∧ Kp w w' := by
  subst hl
  obtain ⟨F, hch, bk⟩ := h.at
  refine (recv_any hch hn).mono ?_
  rw [hg]
  rintro e w' ⟨A, cap, rfl, hr, g⟩
  exact ⟨A, cap, rfl, hr, bk _ _ g⟩
theorem os_wait (x : Wt) (b : Bool) {r : Int} (hx : Wf x.t) (h : OS W c g v s w) (hn : ∀ b, (s.q b).length ≤ 1000000) (hg : wt s x b = (s', r)) :
    Calls Try.prog 17 #[.pointer (some ⟨c, 0, none⟩), wG x, .bool b] w fun e w' => e = .returned (.int .i64 r) ∧ OS W c g v s' w' ∧ Kp w w' := by
  obtain ⟨F, hch, bk⟩ := h.at
  refine (wait_any x b hx hch hn).mono ?_
  rw [hg]
  rintro e w' ⟨rfl, g⟩
  exact ⟨rfl, bk _ _ g⟩
theorem os_len (h : OS W c g v s w) : Calls Try.prog 19 #[.pointer (some ⟨c, 0, none⟩)] w fun e w' => e = .returned (.int .i64 (if s.kd = 1 then 0 else s.l.length)) ∧ w = w' := by
  obtain ⟨F, hch, _⟩ := h.at
  exact len_chan hch
theorem os_waiting (b : Bool) (h : OS W c g v s w) (hn : (s.q b).length ≤ 1000000) : Calls Try.prog 20 #[.pointer (some ⟨c, 0, none⟩), .bool b] w (AllR (s.q b) w) := by
  obtain ⟨F, hch, _⟩ := h.at
  exact waiting_any b hch hn
end

/-! What was sent, and what is left. -/
def lI (g m : Nat) : List Int := (List.range m).map fun i : Nat => (g : Int) + (i : Int) + 1
def sI (p q : Nat) : List Wt := (List.range q).map fun i : Nat => ⟨1000 + ((p : Int) + (i : Int) + 1), 0, (p : Int) + (i : Int) + 1⟩
theorem lI_len (g m : Nat) : (lI g m).length = m := by simp [lI]
theorem sI_len (p q : Nat) : (sI p q).length = q := by simp [sI]
theorem lI_zero (g : Nat) : lI g 0 = [] := rfl
theorem sI_zero (g : Nat) : sI g 0 = [] := rfl
theorem lI_snoc (g m : Nat) (x : Int) (h : x = (g : Int) + (m : Int) + 1) : lI g m ++ [x] = lI g (m + 1) := by subst h; simp [lI, List.range_succ]
theorem sI_snoc (p q : Nat) (x : Int) (h : x = (p : Int) + (q : Int) + 1) : sI p q ++ [⟨1000 + x, 0, x⟩] = sI p (q + 1) := by subst h; simp [sI, List.range_succ]
theorem lI_cons (g m : Nat) : lI g (m + 1) = ((g : Int) + 1) :: lI (g + 1) m := by
  unfold lI
  rw [List.range_succ_eq_map, List.map_cons, List.map_map]
  congr 1
  simp
  intro a _
  omega
theorem sI_cons (p q : Nat) : sI p (q + 1) = ⟨1000 + ((p : Int) + 1), 0, (p : Int) + 1⟩ :: sI (p + 1) q := by
  unfold sI
  rw [List.range_succ_eq_map, List.map_cons, List.map_map]
  congr 1
  simp
  intro a _
  omega
def oS9 (sz g m q : Nat) (rs : List Wt) : CS := ⟨0, false, sz, lI g m, sI (g + m) q, rs⟩
/-- S were sent, N wait or waited to receive, g were received. -/
structure IV (sz S N g m q : Nat) (rs : List Wt) : Prop where
  sum : S = g + m + q
  le : m ≤ sz
  full : q ≠ 0 → m = sz
  none : rs ≠ [] → m = 0 ∧ q = 0
  rl : rs.length ≤ N
  rt : ∀ x ∈ rs, x.t < 1000
theorem IV.start (sz : Nat) : IV sz 0 0 0 0 0 [] := ⟨rfl, by omega, by simp, by simp, by simp, by simp⟩
theorem IV.meet {sz S N g m q : Nat} {x : Wt} {r : List Wt} (h : IV sz S N g m q (x :: r)) : m = 0 ∧ q = 0 ∧ S = g ∧ x.t < 1000 ∧ IV sz (S + 1) N (g + 1) 0 0 r := by
  obtain ⟨rfl, rfl⟩ := h.none (by simp)
  have := h.sum
  have := h.rl
  simp at this
  exact ⟨rfl, rfl, by omega, h.rt x (List.mem_cons_self ..), ⟨by omega, by omega, by simp, fun _ => ⟨rfl, rfl⟩, by omega, fun y hy => h.rt y (List.mem_cons_of_mem _ hy)⟩⟩
theorem IV.put {sz S N g m q : Nat} (h : IV sz S N g m q []) (hm : m < sz) : q = 0 ∧ IV sz (S + 1) N g (m + 1) 0 [] := by
  have hq : q = 0 := by
    by_cases h0 : q = 0
    · exact h0
    · have := h.full h0; omega
  subst hq
  exact ⟨rfl, ⟨by have := h.sum; omega, by omega, by simp, by simp, by simp, by simp⟩⟩
theorem IV.wait {sz S N g m q : Nat} (h : IV sz S N g m q []) (hm : ¬ m < sz) : m = sz ∧ IV sz (S + 1) N g m (q + 1) [] := by
  have e : m = sz := by have := h.le; omega
  exact ⟨e, ⟨by have := h.sum; omega, h.le, fun _ => e, by simp, by simp, by simp⟩⟩
theorem IV.take {sz S N g m : Nat} {rs : List Wt} (h : IV sz S N g (m + 1) 0 rs) : rs = [] ∧ IV sz S N (g + 1) m 0 [] := by
  have hr : rs = [] := by
    by_cases h0 : rs = []
    · exact h0
    · have := (h.none h0).1; omega
  subst hr
  exact ⟨rfl, ⟨by have := h.sum; omega, by have := h.le; omega, by simp, by simp, by simp, by simp⟩⟩
theorem IV.next {sz S N g m q : Nat} {rs : List Wt} (h : IV sz S N g (m + 1) (q + 1) rs) : rs = [] ∧ IV sz S N (g + 1) (m + 1) q [] := by
  have hr : rs = [] := by
    by_cases h0 : rs = []
    · exact h0
    · have := (h.none h0).1; omega
  subst hr
  exact ⟨rfl, ⟨by have := h.sum; omega, h.le, fun _ => h.full (by omega), by simp, by simp, by simp⟩⟩
theorem IV.hand {sz S N g q : Nat} {rs : List Wt} (h : IV sz S N g 0 (q + 1) rs) : rs = [] ∧ IV sz S N (g + 1) 0 q [] := by
  have hr : rs = [] := by
    by_cases h0 : rs = []
    · exact h0
    · have := (h.none h0).2; omega
  subst hr
  exact ⟨rfl, ⟨by have := h.sum; omega, h.le, fun _ => h.full (by omega), by simp, by simp, by simp⟩⟩
theorem IV.come {sz S N g : Nat} {rs : List Wt} {x : Wt} (h : IV sz S N g 0 0 rs) (hx : x.t < 1000) : IV sz S (N + 1) g 0 0 (rs ++ [x]) :=
  ⟨h.sum, h.le, by simp, fun _ => ⟨rfl, rfl⟩, by have := h.rl; simp; omega, fun y hy => by
    rcases List.mem_append.1 hy with hy | hy
    · exact h.rt y hy
    · simp at hy; subst hy; exact hx⟩
theorem gv_o1 (sz g : Nat) (x : Wt) (r : List Wt) (v : Int) : gv (oS9 sz g 0 0 (x :: r)) v = (oS9 sz (g + 1) 0 0 r, [⟨x.t, x.c, v, true, false⟩], true) := rfl
theorem gv_o2 (sz g m : Nat) (v : Int) (hm : m < sz) (hv : v = (g : Int) + (m : Int) + 1) : gv (oS9 sz g m 0 []) v = (oS9 sz g (m + 1) 0 [], [], true) := by
  unfold gv oS9
  simp only [lI_len, if_pos hm, lI_snoc g m v hv]
  rfl
theorem gv_o3 (sz g q : Nat) (v : Int) : gv (oS9 sz g sz q []) v = (oS9 sz g sz q [], [], false) := by
  unfold gv oS9
  simp only [lI_len, Nat.lt_irrefl, if_false]
theorem wt_o3 (sz g q : Nat) (v : Int) (hv : v = (g : Int) + (sz : Int) + (q : Int) + 1) : wt (oS9 sz g sz q []) ⟨1000 + v, 0, v⟩ true = (oS9 sz g sz (q + 1) [], 0) := by
  have e := sI_snoc (g + sz) q v (by rw [hv]; push_cast; rfl)
  simp [wt, fr, meet, CS.q, CS.sq, oS9, lI_len, e]
theorem rc_o1 (sz g m : Nat) (rs : List Wt) : rc (oS9 sz g (m + 1) 0 rs) = (oS9 sz (g + 1) m 0 rs, (g : Int) + 1, true, true, []) := by
  unfold rc oS9
  rw [lI_cons, sI_zero, sI_zero]
theorem rc_o2 (sz g m q : Nat) (rs : List Wt) : rc (oS9 sz g (m + 1) (q + 1) rs) = (oS9 sz (g + 1) (m + 1) q rs, (g : Int) + 1, true, true, [⟨1000 + (((g + (m + 1) : Nat) : Int) + 1), 0, 0, true, false⟩]) := by
  unfold rc oS9
  rw [lI_cons, sI_cons]
  simp only
  rw [lI_snoc (g + 1) m _ (by push_cast; omega), show g + 1 + (m + 1) = g + (m + 1) + 1 by omega]
theorem rc_o3 (sz g q : Nat) (rs : List Wt) : rc (oS9 sz g 0 (q + 1) rs) = (oS9 sz (g + 1) 0 q rs, (g : Int) + 1, true, true, [⟨1000 + ((g : Int) + 1), 0, 0, true, false⟩]) := by
  unfold rc oS9
  rw [lI_zero, sI_cons]
  rfl
theorem rc_o4 (sz g : Nat) (rs : List Wt) : rc (oS9 sz g 0 0 rs) = (oS9 sz g 0 0 rs, 0, false, false, []) := rfl
theorem wt_o4 (sz g : Nat) (rs : List Wt) (x : Wt) : wt (oS9 sz g 0 0 rs) x false = (oS9 sz g 0 0 (rs ++ [x]), 0) := rfl
end Go.Proofs.Ytnldodpmfkekbaa
