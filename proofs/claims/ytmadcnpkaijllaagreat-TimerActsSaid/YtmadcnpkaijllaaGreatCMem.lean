/- The document's own channel: met, end, Close, End. Conditions: each theorem's own premises.
Several channels of a law's own, side by side, and what each call does among them. Conditions: each theorem's own premises.
A set of timers in memory; what carries it. No condition. -/
import Derived.Test.YtmadcnpkaijllaaGreatCPcm
import Derived.Deep.CutRange
import Derived.Test.YtmadcnpkaijllaaGreatCMx
import Derived.Test.YtmadcnpkaijllaaGreatCMr
import Derived.Test.YtmadcnpkaijllaaGreatQarm
namespace Go.Proofs.YtmadcnpkaijllaaGreat.Ch
open Go.RowKit
set_option linter.unusedVariables false
set_option maxRecDepth 100000

theorem okN_no' {ok : Nat → Prop} {N m : Nat} (h : ¬ ok m) (hm : m < N) : ¬ okN ok N m := fun hn => by rcases hn with hn | hn; exact h hn; omega
section
variable {W w w' : World} {ok : Nat → Prop} {m : Nat} {s : CS} {b q r : Option Addr × Nat} {v v' : Value} {acc acc' : List Wk}
end
section
variable {w : World} {ok : Nat → Prop} {m : Nat} {s : CS}
/-! Close, End. -/
/-! Drop. -/
theorem mDrop_not (h : MD w ok m s) (hk : s.kd ≠ 1 ∨ s.l = []) : Calls Tryz.prog 60 #[.pointer (some ⟨m, 0, none⟩)] w fun e w' => e = .returned (.bool false) ∧ w = w' := by
  obtain ⟨b, q, r, hx⟩ := h
  have c1 := hx.c1
  have c4 := hx.c4
  clear hx
  by_cases h2 : s.kd = 1
  · have hc : s.l = [] := by rcases hk with hk | hk; exact absurd h2 hk; exact hk
    rw [h2] at c1
    rw [hc] at c4
    have c1' : w.cell? ⟨m, 1, none⟩ = some (.bool true) := c1
    simp only [List.length_nil] at c4
    clear hk c1
    go_enter Tryz.func60, Tryz.ntmps60
    go_wp2
    go_ret
    exact ⟨rfl, rfl⟩
  · have c1' : w.cell? ⟨m, 1, none⟩ = some (.bool false) := by rw [show (s.kd == 1) = false by simpa using h2] at c1; exact c1
    clear hk c1 h2
    go_enter Tryz.func60, Tryz.ntmps60
    go_wp2
    go_ret
    exact ⟨rfl, rfl⟩
theorem mDrop_go (h : MD w ok m s) (hk : s.kd = 1) (hl : s.l ≠ []) : Calls Tryz.prog 60 #[.pointer (some ⟨m, 0, none⟩)] w fun e w' => e = .returned (.bool true) ∧ Mo ok m { s with l := [] } w w' := by
  obtain ⟨b, q, r, hx⟩ := h
  have c1 : w.cell? ⟨m, 1, none⟩ = some (.bool true) := hx.k1 hk
  have c4 := hx.c4
  have f4 := hx.fz 4
  have hml := hx.lt
  have hp : 0 < s.l.length := List.length_pos_iff.2 hl
  have p1 : ((s.l.length : Int) == 0) = false := by rw [beq_eq_false_iff_ne]; omega
  have p2 : ¬ (s.l.length : Int) = 0 := by omega
  have p3 : ¬ s.l.length = 0 := by omega
  have HT : Hid (Mo ok m { s with l := [] } w (w.setCell ⟨m, 4, none⟩ (.slice none 0 0))) :=
    ⟨⟨(none, 0), q, r, (hx.setB (l := []) (b' := (none, 0)) (Ro.nil _ _ _ _ _ (by omega))).mono (fun b _ ho => .inl ho) (okN_no' hx.no hml)⟩, (Tn.refl (fun k => k = m) w).set (.inl rfl) _⟩
  clear hx hl hp
  go_enter Tryz.func60, Tryz.ntmps60
  go_wp2_with fail
  go_ret
  exact ⟨rfl, HT.out⟩
theorem mDrop_nil (w : World) : Calls Tryz.prog 60 #[.pointer none] w fun e w' => e = .returned (.bool false) ∧ w = w' := by
  go_enter Tryz.func60, Tryz.ntmps60
  go_wp2
  go_ret
  exact ⟨rfl, rfl⟩
end
end Go.Proofs.YtmadcnpkaijllaaGreat.Ch
namespace Go.Proofs.YtmadcnpkaijllaaGreat.Ch
open Go.RowKit
set_option linter.unusedVariables false
set_option maxRecDepth 100000

/-- Nothing has turned but channels' blocks, and new ones. -/
def Kp (w w' : World) : Prop := w.heap.size ≤ w'.heap.size ∧ ∀ k, k < w.heap.size → ¬ IsC w k → w'.heap[k]? = w.heap[k]?
theorem Kp.refl (w : World) : Kp w w := ⟨Nat.le_refl _, fun _ _ _ => rfl⟩
theorem Kp.of_below {w w' : World} (h : Below w.heap.size w w') : Kp w w' := ⟨h.size, fun k hk _ => h.block k hk⟩
theorem Kp.at {w w' : World} (h : Kp w w') {k : Nat} {cs : Array Value} {t : TypeId} {f : Nat × Nat} (hk : w.heap[k]? = some (.cells cs t f)) (ht : t ≠ 115 ∧ t ≠ 153 ∧ t ≠ 3 ∧ t ≠ 157) : w'.heap[k]? = some (.cells cs t f) :=
  (h.2 k (lt_of_blk hk) (not_isc hk ht)).trans hk
theorem RdK.kp {w w' : World} {A : Option Addr} {n : Nat} {l : List Wk} (h : RdK w A n l) (k : Kp w w') : RdK w' A n l := h.keep fun b cs e => k.2 b (lt_of_blk e) (not_isc e (by decide))

/-- Nothing of a channel's, of the program's or of the document's, has turned. -/
def Tg (w w' : World) : Prop := w.heap.size ≤ w'.heap.size ∧ ∀ (b : Nat) (cs : Array Value) (ty : TypeId) (fr : Nat × Nat), w.heap[b]? = some (.cells cs ty fr) → (ty = 115 ∨ ty = 153 ∨ ty = 3 ∨ ty = 157 ∨ ty = 134 ∨ ty = 87) → w'.heap[b]? = some (.cells cs ty fr)
section
variable {W w w' : World} {ok : Nat → Prop} {m : Nat} {t : CS} {a : Option Addr} {n c k : Nat} {xs : List Value} {B C : List Nat} {S T : List CS} {F : Nat → Prop}
theorem Ro.tg (h : Ro w ok a n c k xs) (g : Tg w w') : Ro w' ok a n c k xs :=
  ⟨h.1, h.2.1, h.2.2.1, fun h0 => by
    obtain ⟨b, off, e, hl, ho, ⟨cs, ty, t1, t2⟩, hc⟩ := h.2.2.2 h0
    have hb := g.2 b cs ty _ t1 (by rcases t2 with rfl | rfl <;> simp)
    exact ⟨b, off, e, by have := g.1; omega, ho, ⟨cs, ty, hb, t2⟩, fun j u hu => (cell_blk (hb.trans t1.symm) _).trans (hc j u hu)⟩⟩
theorem MD.tg (h : MD w ok m t) (g : Tg w w') : MD w' ok m t := by
  obtain ⟨b, q, r, h⟩ := h
  exact ⟨b, q, r, ⟨g.2 m _ _ _ h.hb (by simp), h.rb.tg g, h.rq.tg g, h.rr.tg g, h.no⟩⟩
theorem CH.tg {c : Nat} {s : CS} {F : Nat → Prop} (h : CH w F c s) (g : Tg w w') : CH w' F c s := h.keep fun b hf => by
  obtain ⟨cs, ty, e1, e2⟩ := h.tag hf
  rw [e1]
  exact g.2 b cs ty _ e1 (by rcases e2 with rfl | rfl | rfl | rfl <;> simp)
theorem PC.tg (h : PC W B S C T F w) (g : Tg w w') (hb : Below W.heap.size W w') : PC W B S C T F w' := by
  obtain ⟨h0, h1, ⟨G, g1, g2, g3, g4⟩, h3, h4, h5, h6⟩ := h
  exact ⟨hb, h1, ⟨G, fun i c s e1 e2 => (g1 i c s e1 e2).tg g, g2, g3, g4⟩, h3, h4, fun i m t e1 e2 => ⟨(h5 i m t e1 e2).1, (h5 i m t e1 e2).2.tg g⟩, h6⟩
/-- One more of the document's own. -/
theorem PC.addM (h : PC W B S C T F w) (hm : ∀ ok : Nat → Prop, ¬ ok w.heap.size → MD w' ok w.heap.size t) (hb : Below w.heap.size w w') : PC W B S (C ++ [w.heap.size]) (T ++ [t]) F w' := by
  have hbel := h.bel
  have hCl : ∀ n ∈ C, n < w.heap.size := fun n hn => by obtain ⟨cs, h9⟩ := h.cblk hn; exact lt_of_blk h9
  have h2 := h.later hb
  refine ⟨h2.bel, h2.low, h2.ch, h2.eb, by simp [h.ec], fun j n u hj hu => ?_, ?_⟩
  · rcases snoc_at hj with ⟨q1, q2⟩ | ⟨rfl, rfl⟩
    · rcases snoc_at hu with ⟨r1, r2⟩ | ⟨r1, _⟩
      · obtain ⟨k1, k2⟩ := h.md j n u q2 r2
        refine ⟨k1, (k2.mono (fun b hb ho => ⟨ho.1, fun hb2 => ?_⟩) (fun h9 => h9.2 (by simp [List.mem_of_getElem? q2]))).later hb⟩
        rcases List.mem_append.1 hb2 with hb2 | hb2
        · exact ho.2 hb2
        · simp at hb2; omega
      · have := h.ec; omega
    · rcases snoc_at hu with ⟨r1, _⟩ | ⟨_, rfl⟩
      · have := h.ec; omega
      · exact ⟨hbel.size, hm _ fun h9 => h9.2 (by simp)⟩
  · rw [List.nodup_append]
    exact ⟨h.nc, by simp, fun a ha b hb e => by simp at hb; subst hb; subst e; have := hCl _ ha; omega⟩
end
/-- Channels of the call's own, each with what it is; the document's own beside them. -/
def MS (W : World) (RC : List Nat) (RT : List CS) (L : List (Nat × CS)) (w : World) : Prop := ∃ F, PC W (L.map (·.1)) (L.map (·.2)) RC RT F w
section
variable {W w w' : World} {RC : List Nat} {RT : List CS} {L : List (Nat × CS)} {i c : Nat} {s s' : CS}
theorem MS.bel (h : MS W RC RT L w) : Below W.heap.size W w := by obtain ⟨F, h⟩ := h; exact h.bel
theorem MS.nil (W : World) : MS W [] [] [] W := ⟨_, PC.nil W⟩
theorem MS.at (h : MS W RC RT L w) (hi : L[i]? = some (c, s)) : ∃ F, CH w F c s ∧ ∀ s' w', Go F c s' w w' → MS W RC RT (L.set i (c, s')) w' ∧ Kp w w' := by
  obtain ⟨F, h⟩ := h
  have h1 : (L.map (·.1))[i]? = some c := by simp [hi]
  have h2 : (L.map (·.2))[i]? = some s := by simp [hi]
  obtain ⟨Fi, hc, k⟩ := h.chan h1 h2
  refine ⟨Fi, hc, fun s' w' g => ⟨?_, g.tn.size, fun b hb hn => g.other hc hb hn⟩⟩
  obtain ⟨F', p, _, _⟩ := k s' w' g
  refine ⟨F', ?_⟩
  have e1 : (L.set i (c, s')).map (·.1) = L.map (·.1) := by
    rw [List.map_set]
    exact List.ext_getElem? fun j => by
      by_cases e : j = i
      · subst e
        rw [List.getElem?_set_self (by have := (List.getElem?_eq_some_iff.1 h1).1; exact this), h1]
      · rw [List.getElem?_set_ne (fun h => e h.symm)]
  have e2 : (L.set i (c, s')).map (·.2) = (L.map (·.2)).set i s' := by rw [List.map_set]
  rw [e1, e2]
  exact p
theorem MS.later (h : MS W RC RT L w) (hb : Below w.heap.size w w') : MS W RC RT L w' := by
  obtain ⟨F, h⟩ := h
  exact ⟨F, h.later hb⟩
theorem MS.alloc (h : MS W RC RT L w) (o : Obj) : MS W RC RT L (w.alloc o) := h.later (below_al w o)
theorem MS.drewN (h : MS W RC RT L w) (n : Nat) : MS W RC RT L (w.drewN n) := h.later ⟨rfl, rfl, rfl, Nat.le_refl _, fun _ _ => rfl⟩
theorem MS.add (h : MS W RC RT L w) (m : Mk c s w w') : MS W RC RT (L ++ [(c, s)]) w' := by
  obtain ⟨F, h⟩ := h
  obtain ⟨F', p, _, _⟩ := h.add m
  exact ⟨F', by simpa using p⟩
theorem MS.tg (h : MS W RC RT L w) (g : Tg w w') (hb : Below W.heap.size W w') : MS W RC RT L w' := by
  obtain ⟨F, h⟩ := h
  exact ⟨F, h.tg g hb⟩
/-- The document's own turns. -/
theorem MS.ref {m : Nat} {t : CS} (h : MS W RC RT L w) (hb : RC[i]? = some m) (hi : RT[i]? = some t) : ∃ ok, MD w ok m t ∧ ∀ t' w', Mo ok m t' w w' → MS W RC (RT.set i t') L w' ∧ Tn (fun k => k = m) w w' := by
  obtain ⟨F, h⟩ := h
  obtain ⟨ok, hm, k⟩ := h.model hb hi
  refine ⟨ok, hm, fun t' w' g => ⟨?_, g.2⟩⟩
  obtain ⟨F', p, _, _⟩ := k t' w' g
  exact ⟨F', p⟩
theorem MS.addM {t : CS} (h : MS W RC RT L w) (hm : ∀ ok : Nat → Prop, ¬ ok w.heap.size → MD w' ok w.heap.size t) (hb : Below w.heap.size w w') : MS W (RC ++ [w.heap.size]) (RT ++ [t]) L w' := by
  obtain ⟨F, h⟩ := h
  exact ⟨F, h.addM hm hb⟩
theorem MS.rblk {m : Nat} (h : MS W RC RT L w) (hm : m ∈ RC) : ∃ cs, w.heap[m]? = some (.cells cs 134 (0, 0)) := by
  obtain ⟨F, h⟩ := h
  exact h.cblk hm

/-! The calls. -/
theorem ms_timed (h : MS W RC RT L w) : Calls Tryz.prog 79 #[] w fun e w' => ∃ c, e = .returned (.pointer (some ⟨c, 0, none⟩)) ∧ MS W RC RT (L ++ [(c, ⟨1, false, 1, [], [], []⟩)]) w' ∧ Kp w w' := by
  refine (timed_any w).mono ?_
  rintro e w' ⟨c, rfl, m⟩
  exact ⟨c, rfl, h.add m, .of_below m.bel⟩
variable {ws : List Wk} {d : Bool} {n : Nat}
theorem ms_recv {v : Int} {ok : Bool} (h : MS W RC RT L w) (hi : L[i]? = some (c, s)) (hn : s.ss.length ≤ 1000000) (hg : rc s = (s', v, ok, d, ws)) (hl : ws.length = n) :
    Calls Tryz.prog 26 #[.pointer (some ⟨c, 0, none⟩)] w fun e w' => ∃ A cap, e = .returned (.tuple #[.int .i64 v, .bool ok, .bool d, .slice A n cap]) ∧ RdK w' A n ws ∧ MS W RC RT (L.set i (c, s')) w' ∧ Kp w w' := by
  subst hl
  obtain ⟨F, hch, bk⟩ := h.at hi
  refine (recv_any hch hn).mono ?_
  rw [hg]
  rintro e w' ⟨A, cap, rfl, hr, g⟩
  exact ⟨A, cap, rfl, hr, bk _ _ g⟩
theorem ms_wait (x : Wt) (b : Bool) {r : Int} (hx : Wf x.t) (h : MS W RC RT L w) (hi : L[i]? = some (c, s)) (hn : ∀ b, (s.q b).length ≤ 1000000) (hg : wt s x b = (s', r)) :
    Calls Tryz.prog 31 #[.pointer (some ⟨c, 0, none⟩), wG x, .bool b] w fun e w' => e = .returned (.int .i64 r) ∧ MS W RC RT (L.set i (c, s')) w' ∧ Kp w w' := by
  obtain ⟨F, hch, bk⟩ := h.at hi
  refine (wait_any x b hx hch hn).mono ?_
  rw [hg]
  rintro e w' ⟨rfl, g⟩
  exact ⟨rfl, bk _ _ g⟩
theorem ms_can (b : Bool) (h : MS W RC RT L w) (hi : L[i]? = some (c, s)) : Calls Tryz.prog 15 #[.pointer (some ⟨c, 0, none⟩), .bool b] w fun e w' => e = .returned (.bool (can s b)) ∧ ∃ n, w' = w.drewN n := by
  obtain ⟨F, hch, _⟩ := h.at hi
  exact can_any b hch
theorem ms_put (v : Int) (h : MS W RC RT L w) (hi : L[i]? = some (c, s)) (hk : s.kd = 1) (hn : s.rs.length ≤ 1000000) (hg : gv s v = (s', ws, d)) (hl : ws.length = n) :
    Calls Tryz.prog 43 #[.pointer (some ⟨c, 0, none⟩), .int .i64 v] w fun e w' => ∃ A cap, e = .returned (.tuple #[.slice A n cap, .bool d]) ∧ RdK w' A n ws ∧ MS W RC RT (L.set i (c, s')) w' ∧ Kp w w' := by
  subst hl
  obtain ⟨F, hch, bk⟩ := h.at hi
  refine (put_any v hch hk hn).mono ?_
  rw [hg]
  rintro e w' ⟨A, cap, rfl, hr, g⟩
  exact ⟨A, cap, rfl, hr, bk _ _ g⟩
theorem ms_put_kind (v : Int) (h : MS W RC RT L w) (hi : L[i]? = some (c, s)) (hk : s.kd ≠ 1) :
    Calls Tryz.prog 43 #[.pointer (some ⟨c, 0, none⟩), .int .i64 v] w fun e w' => e = .returned (.tuple #[.slice none 0 0, .bool false]) ∧ w = w' := by
  obtain ⟨F, hch, _⟩ := h.at hi
  exact put_kind v hch hk
theorem ms_drop (h : MS W RC RT L w) (hi : L[i]? = some (c, s)) (hk : s.kd = 1) :
    Calls Tryz.prog 78 #[.pointer (some ⟨c, 0, none⟩)] w fun e w' => e = .returned (.bool (decide (0 < s.l.length))) ∧ MS W RC RT (L.set i (c, { s with l := [] })) w' ∧ Kp w w' := by
  obtain ⟨F, hch, bk⟩ := h.at hi
  refine (drop_any hch hk).mono ?_
  rintro e w' ⟨rfl, g⟩
  exact ⟨rfl, bk _ _ g⟩
theorem ms_drop_kind (h : MS W RC RT L w) (hi : L[i]? = some (c, s)) (hk : s.kd ≠ 1) :
    Calls Tryz.prog 78 #[.pointer (some ⟨c, 0, none⟩)] w fun e w' => e = .returned (.bool false) ∧ w = w' := by
  obtain ⟨F, hch, _⟩ := h.at hi
  exact drop_kind hch hk
theorem ms_len (h : MS W RC RT L w) (hi : L[i]? = some (c, s)) : Calls Tryz.prog 39 #[.pointer (some ⟨c, 0, none⟩)] w fun e w' => e = .returned (.int .i64 (if s.kd = 1 then 0 else s.l.length)) ∧ w = w' := by
  obtain ⟨F, hch, _⟩ := h.at hi
  exact len_chan hch
theorem ms_cap (h : MS W RC RT L w) (hi : L[i]? = some (c, s)) : Calls Tryz.prog 40 #[.pointer (some ⟨c, 0, none⟩)] w fun e w' => e = .returned (.int .i64 (if s.kd = 1 then 0 else s.sz)) ∧ w = w' := by
  obtain ⟨F, hch, _⟩ := h.at hi
  exact cap_chan hch
end
end Go.Proofs.YtmadcnpkaijllaaGreat.Ch
namespace Go.Proofs.YtmadcnpkaijllaaGreat
open Go.RowKit Ch
set_option linter.unusedVariables false
set_option maxRecDepth 100000

/-- Another block, by its tag. -/
def OthZ (ty : TypeId) : Prop := ty ≠ 161 ∧ ty ≠ 139 ∧ ty ≠ 66 ∧ ty ≠ 101 ∧ ty ≠ 115 ∧ ty ≠ 153 ∧ ty ≠ 3 ∧ ty ≠ 157 ∧ ty ≠ 134 ∧ ty ≠ 87
instance (ty : TypeId) : Decidable (OthZ ty) := inferInstanceAs (Decidable (_ ∧ _))
/-- No other block has turned. -/
def OZ (w w' : World) : Prop := ∀ (k : Nat) (cs : Array Value) (ty : TypeId) (fr : Nat × Nat), w.heap[k]? = some (.cells cs ty fr) → OthZ ty → w'.heap[k]? = some (.cells cs ty fr)
theorem OZ.refl (w : World) : OZ w w := fun _ _ _ _ h _ => h
theorem OZ.trans {u v w : World} (h : OZ u v) (k : OZ v w) : OZ u w := fun i cs ty fr h1 h2 => k i cs ty fr (h i cs ty fr h1 h2) h2
theorem OZ.of_below {w w' : World} (h : Below w.heap.size w w') : OZ w w' := fun k cs ty fr h1 _ => (h.block k (lt_of_blk h1)).trans h1
theorem OY.oz {w w' : World} (h : OY w w') : OZ w w' := fun k cs ty fr h1 h2 => h k cs ty fr h1 h2.1 h2.2.1 h2.2.2.1
theorem Ch.Kp.oz {w w' : World} (h : Kp w w') : OZ w w' := fun k cs ty fr h1 h2 => h.at h1 ⟨h2.2.2.2.2.1, h2.2.2.2.2.2.1, h2.2.2.2.2.2.2.1, h2.2.2.2.2.2.2.2.1⟩
/-- The timers' own blocks, by what they are. -/
def IsT (w : World) (j : Nat) : Prop := (∃ cs ty fr, w.heap[j]? = some (.cells cs ty fr) ∧ (ty = 161 ∨ ty = 139 ∨ ty = 66)) ∨ ∃ es cl, w.heap[j]? = some (.map es cl)
section
variable {RC : List Nat} {RT : List CS} {W w w' : World} {B t n : Nat} {vA vL : Value} {S : List It} {g : Int → Int} {L : List (Nat × CS)}
theorem TU.keep (h : TU B t vA vL n S g w) (k : ∀ j, j < w.heap.size → IsT w j → w'.heap[j]? = w.heap[j]?) : TU B t vA vL n S g w' := by
  rcases h with ⟨h, r⟩ | ⟨o, b, c, p, N, hN, h⟩
  · exact .inl ⟨⟨h.1, (k t (lt_of_blk h.2) (.inl ⟨_, _, _, h.2, by simp⟩)).trans h.2⟩, r⟩
  · refine .inr ⟨o, b, c, p, N, hN, ?_⟩
    refine ⟨h.hg.keep (k o h.hg.lo ?_) (k b h.hg.lb (.inr h.hg.tb)) (fun j hj => k j (h.hg.lp hj).2 ?_), (k t h.lt (.inl ⟨_, _, _, h.ht, by simp⟩)).trans h.ht, h.pm.keep (k c h.pm.lt (.inr h.pm.blk)), h.ok, h.gt, h.gc, h.ne⟩
    · obtain ⟨cs, fr, e⟩ := h.hg.to
      exact .inl ⟨_, _, _, e, by simp⟩
    · obtain ⟨cs, fr, e⟩ := h.hg.tp hj
      exact .inl ⟨_, _, _, e, by simp⟩
theorem not_ist_c {j : Nat} (h : IsT w j) : ¬ IsC w j := by
  rcases h with ⟨cs, ty, fr, h1, h2⟩ | ⟨es, cl, h1⟩
  · refine not_isc h1 ?_
    rcases h2 with rfl | rfl | rfl <;> decide
  · rintro ⟨cs, ty, h3, _⟩
    rw [h1] at h3; cases h3
theorem TU.kp (h : TU B t vA vL n S g w) (k : Kp w w') : TU B t vA vL n S g w' := h.keep fun j hj hi => k.2 j hj (not_ist_c hi)
/-- Nothing but rows of one tag has turned. -/
def Ex (ty : TypeId) (w w' : World) : Prop := w.heap.size ≤ w'.heap.size ∧ ∀ j, j < w.heap.size → (∀ cs fr, w.heap[j]? ≠ some (.cells cs ty fr)) → w'.heap[j]? = w.heap[j]?
theorem TU.ex (h : TU B t vA vL n S g w) (k : Ex 101 w w') : TU B t vA vL n S g w' := h.keep fun j hj hi => k.2 j hj fun cs fr e => by
  rcases hi with ⟨cs', ty, fr', h1, h2⟩ | ⟨es, cl, h1⟩
  · rw [e] at h1; injection h1 with h1; injection h1 with _ h1 _; subst h1
    rcases h2 with h2 | h2 | h2 <;> exact absurd h2 (by decide)
  · rw [e] at h1; cases h1
theorem Ch.MS.ex {ty : TypeId} (h : MS W RC RT L w) (k : Ex ty w w') (hb : Below W.heap.size W w') (ht : ty ≠ 115 ∧ ty ≠ 153 ∧ ty ≠ 3 ∧ ty ≠ 157 ∧ ty ≠ 134 ∧ ty ≠ 87) : MS W RC RT L w' :=
  h.tg ⟨k.1, fun b cs ty' fr e1 e2 => (k.2 b (lt_of_blk e1) fun cs9 fr9 e9 => by
    rw [e1] at e9; injection e9 with e9; injection e9 with _ e9 _; subst e9
    obtain ⟨t1, t2, t3, t4, t5, t6⟩ := ht
    rcases e2 with e2 | e2 | e2 | e2 | e2 | e2
    · exact t1 e2
    · exact t2 e2
    · exact t3 e2
    · exact t4 e2
    · exact t5 e2
    · exact t6 e2).trans e1⟩ hb
theorem Ch.MS.oy (h : MS W RC RT L w) (k : OY w w') (hs : w.heap.size ≤ w'.heap.size) (hb : Below W.heap.size W w') : MS W RC RT L w' :=
  h.tg ⟨hs, fun b cs ty fr e1 e2 => k b cs ty fr e1 (by rcases e2 with rfl | rfl | rfl | rfl | rfl | rfl <;> decide) (by rcases e2 with rfl | rfl | rfl | rfl | rfl | rfl <;> decide) (by rcases e2 with rfl | rfl | rfl | rfl | rfl | rfl <;> decide)⟩ hb
theorem OY.row {B e s n c : Nat} {P : Option Addr} {xs : List Value} (h : OY w w') (r : w.ownsRow B e s (.slice P n c) n xs) (h1 : e ≠ 161) (h2 : e ≠ 139) (h3 : e ≠ 66) : w'.ownsRow B e s (.slice P n c) n xs :=
  row_keep r fun k hk => by
    obtain ⟨cs, fr, ht⟩ := row_tag r hk
    rw [ht]; exact h k cs e fr ht h1 h2 h3
theorem Ch.Kp.rowz {B e s n c : Nat} {P : Option Addr} {xs : List Value} (h : Kp w w') (r : w.ownsRow B e s (.slice P n c) n xs) (he : e ≠ 115 ∧ e ≠ 153 ∧ e ≠ 3 ∧ e ≠ 157) : w'.ownsRow B e s (.slice P n c) n xs :=
  row_keep r fun k hk => by
    obtain ⟨cs, fr, ht⟩ := row_tag r hk
    rw [ht]; exact h.at ht he
/-- The slice of all, and how many are limited, are others. -/
theorem TU.setA (h : TU B t vA vL n S g w) (u : Value) : TU B t u vL n S g (w.setCell ⟨t, 0, none⟩ u) := by
  have key : ∀ k, k ≠ t → (w.setCell ⟨t, 0, none⟩ u).heap[k]? = w.heap[k]? := fun k hk => Below.heap_setCell _ _ _ _ (by exact hk)
  rcases h with ⟨h, r⟩ | ⟨o, b, c, p, N, hN, h⟩
  · exact .inl ⟨⟨h.1, heap_setCell_same w t 0 _ _ u h.2⟩, r⟩
  · obtain ⟨⟨a1, a2, a3⟩, a4, a5, a6⟩ := h.apart
    exact .inr ⟨o, b, c, p, N, hN, ⟨h.hg.keep (key o a1.symm) (key b a2.symm) (fun k hk => key k fun e => a3 (by rw [← e]; exact hk)), heap_setCell_same w t 0 _ _ u h.ht, h.pm.keep (key c a6.symm), h.ok, h.gt, h.gc, h.ne⟩⟩
theorem TU.setL (h : TU B t vA vL n S g w) (u : Value) : TU B t vA u n S g (w.setCell ⟨t, 3, none⟩ u) := by
  have key : ∀ k, k ≠ t → (w.setCell ⟨t, 3, none⟩ u).heap[k]? = w.heap[k]? := fun k hk => Below.heap_setCell _ _ _ _ (by exact hk)
  rcases h with ⟨h, r⟩ | ⟨o, b, c, p, N, hN, h⟩
  · exact .inl ⟨⟨h.1, heap_setCell_same w t 3 _ _ u h.2⟩, r⟩
  · obtain ⟨⟨a1, a2, a3⟩, a4, a5, a6⟩ := h.apart
    exact .inr ⟨o, b, c, p, N, hN, ⟨h.hg.keep (key o a1.symm) (key b a2.symm) (fun k hk => key k fun e => a3 (by rw [← e]; exact hk)), heap_setCell_same w t 3 _ _ u h.ht, h.pm.keep (key c a6.symm), h.ok, h.gt, h.gc, h.ne⟩⟩
end

/-- One that was made: its kind, its data, its channel's block, how often it was armed. -/
structure On where
  kd : Int
  dt : Int
  ch : Option Nat
  gn : Int
abbrev cp (c : Option Nat) : Option Addr := c.map fun k => ⟨k, 0, none⟩
def oE (x : On) : List Value := [.int .i64 x.kd, .int .i64 x.dt, .pointer (cp x.ch), .int .i64 x.gn]
theorem oE_len (x : On) : (oE x).length = 4 := rfl
def oV (l : List On) : List Value := l.flatMap oE
theorem oV_len (l : List On) : (oV l).length = l.length * 4 := flat_len oE 4 oE_len l
theorem oV_at {l : List On} {i : Nat} {x : On} (h : l[i]? = some x) (j : Nat) (hj : j < 4) : (oV l)[i * 4 + j]? = (oE x)[j]? := flat_at oE 4 oE_len l i x h j hj
theorem oV_snoc (l : List On) (x : On) : oV l ++ oE x = oV (l ++ [x]) := by simp [oV]
theorem oE_one (x : On) : ∀ u ∈ oE x, u.oneCell' = true := by intro u hu; simp [oE] at hu; rcases hu with rfl | rfl | rfl | rfl <;> rfl
theorem oV_set {l : List On} {i : Nat} {x : On} (h : l[i]? = some x) (y : Int) : (oV l).set (i * 4 + 3) (.int .i64 y) = oV (l.set i { x with gn := y }) := by
  have hi := (List.getElem?_eq_some_iff.1 h).1
  apply List.ext_getElem?
  intro j
  by_cases hj : j < l.length * 4
  · have e1 : j / 4 < l.length := by omega
    have e2 : j = j / 4 * 4 + j % 4 := by omega
    have e3 : j % 4 < 4 := by omega
    generalize j / 4 = q at *
    generalize j % 4 = r at *
    subst e2
    have hq : l[q]? = some l[q] := List.getElem?_eq_getElem e1
    by_cases e : q = i
    · subst e
      rw [h] at hq
      injection hq with hq
      have hy : (l.set q { x with gn := y })[q]? = some { x with gn := y } := by simp [hi]
      rw [oV_at hy r e3]
      by_cases e4 : r = 3
      · subst e4
        rw [List.getElem?_set_self (by rw [oV_len]; omega)]
        rfl
      · rw [List.getElem?_set_ne (by omega), oV_at h r e3]
        have : r = 0 ∨ r = 1 ∨ r = 2 := by omega
        rcases this with rfl | rfl | rfl <;> rfl
    · have hy : (l.set i { x with gn := y })[q]? = some l[q] := by rw [List.getElem?_set_ne (fun e9 => e e9.symm)]; exact hq
      rw [oV_at hy r e3, List.getElem?_set_ne (by omega), oV_at hq r e3]
  · rw [List.getElem?_eq_none (by rw [List.length_set, oV_len]; omega), List.getElem?_eq_none (by rw [oV_len, List.length_set]; omega)]

/-- Block t is a set: E were made, m of them limited; armed are S, by n armings so far, with periods g; the channels are L. -/
structure SS (W : World) (RC : List Nat) (RT : List CS) (t : Nat) (E : List On) (m n : Nat) (S : List It) (g : Int → Int) (L : List (Nat × CS)) (w : World) : Prop where
  ms : MS W RC RT L w
  tu : ∃ P c, TU W.heap.size t (.slice P E.length c) (.int .i64 m) n S g w ∧ w.ownsRow W.heap.size 101 4 (.slice P E.length c) E.length (oV E)
def SZ (W : World) (RC : List Nat) (RT : List CS) (t : Nat) (E : List On) (m n : Nat) (S : List It) (g : Int → Int) (L : List (Nat × CS)) (v : Value) (w : World) (e : Ending) (w' : World) : Prop :=
  e = .returned v ∧ SS W RC RT t E m n S g L w' ∧ OZ w w'
section
variable {RC : List Nat} {RT : List CS} {W w w' w'' : World} {t m n n' i j c : Nat} {E E' : List On} {S S' : List It} {g g' : Int → Int} {L L' : List (Nat × CS)} {v : Value} {e : Ending} {x : On} {s s' : CS}
theorem SS.bel (h : SS W RC RT t E m n S g L w) : Below W.heap.size W w := h.ms.bel
theorem SS.ok (h : SS W RC RT t E m n S g L w) : Ok n S := by obtain ⟨P, c, h1, h2⟩ := h.tu; exact h1.ok
theorem SS.wf (h : SS W RC RT t E m n S g L w) {x : It} (hx : x ∈ S) : Wf x.id := by obtain ⟨P, c, h1, h2⟩ := h.tu; exact h1.wf hx
theorem SS.later (h : SS W RC RT t E m n S g L w) (hb : Below w.heap.size w w') : SS W RC RT t E m n S g L w' := by
  obtain ⟨h0, P, c, h1, h2⟩ := h
  exact ⟨h0.later hb, P, c, h1.later hb, row_later h2 hb⟩
theorem SS.box (h : SS W RC RT t E m n S g L w) (u : Obj) : SS W RC RT t E m n S g L (w.alloc u) := h.later (below_al w u)
theorem SS.drewN (h : SS W RC RT t E m n S g L w) (q : Nat) : SS W RC RT t E m n S g L (w.drewN q) := h.later (below_drewN w q)
theorem SS.sz (h : SS W RC RT t E m n S g L w) (hr : e = .returned v ∧ Below w.heap.size w w') : SZ W RC RT t E m n S g L v w e w' := ⟨hr.1, h.later hr.2, OZ.of_below hr.2⟩
theorem SS.same (h : SS W RC RT t E m n S g L w) (hr : e = .returned v ∧ w = w') : SZ W RC RT t E m n S g L v w e w' := by obtain ⟨rfl, rfl⟩ := hr; exact ⟨rfl, h, OZ.refl _⟩
theorem SZ.from (hb : Below w.heap.size w w') (h : SZ W RC RT t E m n S g L v w' e w'') : SZ W RC RT t E m n S g L v w e w'' := ⟨h.1, h.2.1, (OZ.of_below hb).trans h.2.2⟩
theorem SZ.but {u : Value} (h : SZ W RC RT t E m n S g L v w e w') : SZ W RC RT t E m n S g L u w (.returned u) w' := ⟨rfl, h.2⟩
theorem SZ.after (h : OZ w w') (k : SZ W RC RT t E m n S g L v w' e w'') : SZ W RC RT t E m n S g L v w e w'' := ⟨k.1, k.2.1, h.trans k.2.2⟩
theorem SZ.then (k : SZ W RC RT t E m n S g L v w e w') (hb : Below w'.heap.size w' w'') : SZ W RC RT t E m n S g L v w e w'' := ⟨k.1, k.2.1.later hb, k.2.2.trans (OZ.of_below hb)⟩
theorem SS.lt (h : SS W RC RT t E m n S g L w) : t < w.heap.size := by
  obtain ⟨h0, P, c, h1, h2⟩ := h
  obtain ⟨hB, u, v, hb⟩ := h1.blk
  exact lt_of_blk hb
/-- Its own cells. -/
theorem SS.cells (h : SS W RC RT t E m n S g L w) : ∃ P c, w.cell? ⟨t, 0, none⟩ = some (.slice P E.length c) ∧ w.cell? ⟨t, 3, none⟩ = some (.int .i64 m) ∧ w.frozen? ⟨t, 0, none⟩ = false ∧ w.frozen? ⟨t, 3, none⟩ = false ∧
    ∀ i x, E[i]? = some x → ∃ q, P = some ⟨q, 0, none⟩ ∧ q < w.heap.size ∧ (w.cell? ⟨q, i * 4, none⟩ = some (.int .i64 x.kd) ∧ w.cell? ⟨q, i * 4 + 1, none⟩ = some (.int .i64 x.dt) ∧ w.cell? ⟨q, i * 4 + 2, none⟩ = some (.pointer (cp x.ch)) ∧ w.cell? ⟨q, i * 4 + 3, none⟩ = some (.int .i64 x.gn)) ∧ (∀ k, w.frozen? ⟨q, k, none⟩ = false) ∧
      ∀ y, SS W RC RT t (E.set i { x with gn := y }) m n S g L (w.setCell ⟨q, i * 4 + 3, none⟩ (.int .i64 y)) ∧ OZ w (w.setCell ⟨q, i * 4 + 3, none⟩ (.int .i64 y)) := by
  obtain ⟨h0, P, c, h1, h2⟩ := h
  obtain ⟨hB, u, v, hb⟩ := h1.blk
  refine ⟨P, c, by rw [cell_of_row w t 0 _ _ _ hb]; rfl, by rw [cell_of_row w t 3 _ _ _ hb]; rfl, frozen_of_row w t 0 _ _ hb, frozen_of_row w t 3 _ _ hb, fun i x hx => ?_⟩
  have hi := (List.getElem?_eq_some_iff.1 hx).1
  obtain ⟨q, hP, hle⟩ := row_form h2 (by omega)
  subst hP
  have hc : ∀ j, j < 4 → w.cell? ⟨q, i * 4 + j, none⟩ = (oE x)[j]? := fun j hj => by
    rw [h2.cellAt (i * 4 + j) (by omega)]
    exact oV_at hx j hj
  refine ⟨q, rfl, (row_lt h2 rfl).2, ⟨hc 0 (by omega), hc 1 (by omega), hc 2 (by omega), hc 3 (by omega)⟩, fun k => h2.frozenAt k, fun y => ?_⟩
  obtain ⟨cs, fr, hq⟩ := row_tag h2 rfl
  have hqB := (row_lt h2 rfl).1
  have ex : Ex 101 w (w.setCell ⟨q, i * 4 + 3, none⟩ (.int .i64 y)) := ⟨by simp [World.setCell], fun j hj hn => Below.heap_setCell _ _ _ _ (show j ≠ q by rintro rfl; exact hn _ _ hq)⟩
  have r := (h2.stored (i * 4 + 3) (.int .i64 y)).1
  rw [oV_set hx] at r
  refine ⟨⟨h0.ex ex (h0.bel.setCell (show W.heap.size ≤ (⟨q, i * 4 + 3, none⟩ : Addr).block from hqB) _) (by decide), some ⟨q, 0, none⟩, c, ?_, ?_⟩, fun k cs' ty fr' e1 e2 => ?_⟩
  · rw [List.length_set]; exact h1.ex ex
  · rw [List.length_set]; exact r
  · rw [ex.2 k (lt_of_blk e1) fun cs9 fr9 e9 => ?_]
    · exact e1
    · rw [e1] at e9; injection e9 with e9; injection e9 with _ e9 _; exact e2.2.2.2.1 e9
/-- One more: what an append and the store behind it leave. -/
theorem SS.added {wy w1 : World} {gB cap cc : Nat} {P : Option Addr} (h : SS W RC RT t E m n S g L w) (hc0 : w.cell? ⟨t, 0, none⟩ = some (.slice P E.length cc)) (hy : Below w.heap.size w wy)
    (ho : w1.ownsRow W.heap.size 101 4 (.slice (some ⟨gB, 0, none⟩) (E.length + 1) cap) (E.length + 1) (oV E ++ oE x)) (hg : wy.grownBy w1 (Value.slice P E.length cc).ownBlock) (hat : (Value.slice P E.length cc).ownBlock = some gB ∨ w.heap.size ≤ gB) :
    SS W RC RT t (E ++ [x]) m n S g L (w1.setCell ⟨t, 0, none⟩ (.slice (some ⟨gB, 0, none⟩) (E.length + 1) cap)) ∧ OZ w (w1.setCell ⟨t, 0, none⟩ (.slice (some ⟨gB, 0, none⟩) (E.length + 1) cap)) := by
  rw [own_blk] at hg hat
  obtain ⟨h0, P', c', h1, h2⟩ := h
  obtain ⟨hB, u, v, hb⟩ := h1.blk
  have e0 : w.cell? ⟨t, 0, none⟩ = some (.slice P' E.length c') := by rw [cell_of_row w t 0 _ _ _ hb]; rfl
  rw [hc0] at e0
  injection e0 with e0; injection e0 with e0 _ e1
  subst e0; subst e1
  have hs := hy.size
  have hsz : w.heap.size ≤ w1.heap.size := by have := hg.size; omega
  have ex : Ex 101 w w1 := ⟨hsz, fun j hj hn => (hg.block j (by omega) (fun e => by
    obtain ⟨cs, fr, hq⟩ := row_tag h2 e.symm
    exact hn _ _ hq)).trans (hy.block j hj)⟩
  have hW := h0.bel
  have hbel : Below W.heap.size W w1 :=
    ⟨(hg.os.trans hy.os).trans hW.os, (hg.tape.trans hy.tape).trans hW.tape, (hg.output.trans hy.output).trans hW.output, by have := hW.size; omega, fun k hk =>
      ((hg.block k (by have := hW.size; omega) (fun e => by have := (row_lt h2 e.symm).1; omega)).trans (hy.block k (by have := hW.size; omega))).trans (hW.block k hk)⟩
  have hb1 : w1.heap[t]? = some (.cells #[.slice P E.length cc, u, v, .int .i64 m] 66 (0, 0)) := (ex.2 t (lt_of_blk hb) fun cs fr e9 => by
    rw [hb] at e9; injection e9 with e9; injection e9 with _ e9 _; exact absurd e9 (by decide)).trans hb
  obtain ⟨cs, fr, hq⟩ := row_tag ho rfl
  have htg : t ≠ gB := by
    rintro rfl
    rw [hb1] at hq; injection hq with hq; injection hq with _ hq _; exact absurd hq (by decide)
  have key : ∀ k, k ≠ t → (w1.setCell ⟨t, 0, none⟩ (.slice (some ⟨gB, 0, none⟩) (E.length + 1) cap)).heap[k]? = w1.heap[k]? := fun k hk => Below.heap_setCell _ _ _ _ (by exact hk)
  have ex2 : Ex 66 w1 (w1.setCell ⟨t, 0, none⟩ (.slice (some ⟨gB, 0, none⟩) (E.length + 1) cap)) := ⟨by simp [World.setCell], fun j hj hn => key j (by rintro rfl; exact hn _ _ hb1)⟩
  have e5 : (E ++ [x]).length = E.length + 1 := by simp
  refine ⟨⟨((h0.ex ex hbel (by decide)).ex ex2 (hbel.setCell (show W.heap.size ≤ (⟨t, 0, none⟩ : Addr).block from hB) _) (by decide)), some ⟨gB, 0, none⟩, cap, ?_, ?_⟩, fun k cs' ty fr' a1 a2 => ?_⟩
  · rw [e5]; exact (h1.ex ex).setA _
  · rw [e5, ← oV_snoc]
    refine row_keep ho fun k hk => ?_
    injection hk with hk; subst hk
    exact key _ htg.symm
  · have a3 := ex.2 k (lt_of_blk a1) fun cs9 fr9 e9 => by
      rw [a1] at e9; injection e9 with e9; injection e9 with _ e9 _; exact a2.2.2.2.1 e9
    rw [key k ?_, a3]
    · exact a1
    · rintro rfl
      rw [a1] at a3; rw [hb1] at a3; injection a3 with a3; injection a3 with _ a3 _; exact a2.2.2.1 a3.symm
/-- The limited ones are others. -/
theorem SS.lim (h : SS W RC RT t E m n S g L w) (m' : Nat) : SS W RC RT t E m' n S g L (w.setCell ⟨t, 3, none⟩ (.int .i64 m')) ∧ OZ w (w.setCell ⟨t, 3, none⟩ (.int .i64 m')) := by
  obtain ⟨h0, P, c, h1, h2⟩ := h
  obtain ⟨hB, u, v, hb⟩ := h1.blk
  have key : ∀ k, k ≠ t → (w.setCell ⟨t, 3, none⟩ (.int .i64 m')).heap[k]? = w.heap[k]? := fun k hk => Below.heap_setCell _ _ _ _ (by exact hk)
  have ex2 : Ex 66 w (w.setCell ⟨t, 3, none⟩ (.int .i64 m')) := ⟨by simp [World.setCell], fun j hj hn => key j (by rintro rfl; exact hn _ _ hb)⟩
  refine ⟨⟨h0.ex ex2 (h0.bel.setCell (show W.heap.size ≤ (⟨t, 3, none⟩ : Addr).block from hB) _) (by decide), P, c, h1.setL _, row_keep h2 fun k hk => key k ?_⟩, fun k cs' ty fr' a1 a2 => (key k ?_).trans a1⟩
  · rintro rfl
    obtain ⟨cs, fr, hq⟩ := row_tag h2 hk
    rw [hb] at hq; injection hq with hq; injection hq with _ hq _; exact absurd hq (by decide)
  · rintro rfl
    rw [hb] at a1; injection a1 with a1; injection a1 with _ a1 _; exact a2.2.2.1 a1.symm
/-- A new set. -/
theorem SS.new (hb : Below W.heap.size W w) : SS W [] [] w.heap.size [] 0 0 [] (fun _ => 0) [] (w.alloc (.cells #[.slice none 0 0, .pointer none, .map none, .int .i64 0] 66)) := by
  have h1 := heap_alloc_new w (.cells #[.slice none 0 0, .pointer none, .map none, .int .i64 0] 66)
  have hb1 := hb.trans ((below_al w (.cells #[.slice none 0 0, .pointer none, .map none, .int .i64 0] 66)).mono hb.size)
  exact ⟨(MS.nil W).later hb1, none, 0, .inl ⟨⟨hb.size, h1⟩, rfl, rfl, rfl⟩, World.ownsRow_nil _ _ _ _⟩
/-- What the timers do. -/
theorem SS.tim (h : SS W RC RT t E m n S g L w) {f : Nat} {args : Array Value} (hc : ∀ vA, TU W.heap.size t vA (.int .i64 m) n S g w → Calls Tryz.prog f args w (XU W.heap.size t vA (.int .i64 m) n' S' g' v w)) : Calls Tryz.prog f args w (SZ W RC RT t E m n' S' g' L v w) := by
  obtain ⟨h0, P, c, h1, h2⟩ := h
  exact (hc _ h1).mono fun e w' r => ⟨r.1, ⟨h0.oy r.2.2.2 r.2.2.1.size (h0.bel.trans r.2.2.1), P, c, r.2.1, r.2.2.2.row h2 (by decide) (by decide) (by decide)⟩, r.2.2.2.oz⟩
/-- What a channel does. -/
theorem SS.chan (h : SS W RC RT t E m n S g L w) (h1 : MS W RC RT L' w') (h2 : Kp w w') : SS W RC RT t E m n S g L' w' ∧ OZ w w' := by
  obtain ⟨h0, P, c, h3, h4⟩ := h
  exact ⟨⟨h1, P, c, h3.kp h2, h2.rowz h4 (by decide)⟩, h2.oz⟩
end
end Go.Proofs.YtmadcnpkaijllaaGreat
