/- Channels of a law's own, and each call on them. Conditions: each theorem's own premises. -/
import Derived.Test.YtmcacmbllpphiaaDd
import Derived.Test.YtmcacmbllpphiaaCls
import Derived.Test.YtmcacmbllpphiaaMul
namespace Go.Proofs.Ytmcacmbllpphiaa
open Go.RowKit
set_option linter.unusedVariables false

def ZS (W : World) (B : List Nat) (S : List CS) (w : World) : Prop := ∃ F, PC W B S [] [] F w
/-- What is no channel's, nor the document's own, stays. -/
def Ko (w w' : World) : Prop := w.heap.size ≤ w'.heap.size ∧ ∀ (k : Nat) (cs : Array Value) (t : TypeId) (f : Nat × Nat), w.heap[k]? = some (.cells cs t f) → Oth t → w'.heap[k]? = some (.cells cs t f)
theorem Ko.refl (w : World) : Ko w w := ⟨Nat.le_refl _, fun _ _ _ _ h _ => h⟩
theorem Ko.trans {u v w : World} (h : Ko u v) (k : Ko v w) : Ko u w := ⟨Nat.le_trans h.1 k.1, fun b cs t f e o => k.2 b cs t f (h.2 b cs t f e o) o⟩
theorem Ko.of_below {w w' : World} (h : Below w.heap.size w w') : Ko w w' := ⟨h.size, fun k cs t f e _ => (h.block k (lt_of_blk e)).trans e⟩
section
variable {W w w' : World} {B : List Nat} {S S' : List CS} {F : Nat → Prop} {i c : Nat} {s s' : CS}
theorem PN.zs (h : PC W B S [] [] F w) (k : PN W B S' [] [] F w w') : ZS W B S' w' ∧ Ko w w' := by
  obtain ⟨F', k1, k2, k3⟩ := k
  exact ⟨⟨F', k1⟩, k3.1, fun b cs t f e o => h.row k3 e o⟩
theorem ZS.nil (W : World) : ZS W [] [] W := ⟨_, PC.nil W⟩
theorem ZS.bel (h : ZS W B S w) : Below W.heap.size W w := by obtain ⟨F, h⟩ := h; exact h.bel
theorem ZS.later (h : ZS W B S w) (hb : Below w.heap.size w w') : ZS W B S w' := by obtain ⟨F, h⟩ := h; exact ⟨F, h.later hb⟩
theorem ZS.alloc (h : ZS W B S w) (o : Obj) : ZS W B S (w.alloc o) := h.later (below_al w o)
theorem ZS.drewN (h : ZS W B S w) (n : Nat) : ZS W B S (w.drewN n) := h.later (below_drewN (Below.refl _ _) n)
theorem ZS.at (h : ZS W B S w) (hb : B[i]? = some c) (hs : S[i]? = some s) : ∃ Fi, CH w Fi c s ∧ ∀ s' w', Go Fi c s' w w' → ZS W B (S.set i s') w' ∧ Ko w w' := by
  obtain ⟨F, h⟩ := h
  obtain ⟨Fi, hc, bk⟩ := h.chan hb hs
  exact ⟨Fi, hc, fun s' w' g => PN.zs h (bk s' w' g)⟩
theorem ZS.add (h : ZS W B S w) (m : Mk c s w w') : ZS W (B ++ [c]) (S ++ [s]) w' ∧ Ko w w' := by
  obtain ⟨F, h⟩ := h
  obtain ⟨F', h', _, hb⟩ := h.add m
  exact ⟨⟨F', h'⟩, Ko.of_below hb⟩
theorem RdX.ko {t : TypeId} {A : Option Addr} {n : Nat} {l : List Ca} (h : RdX t B w A n l) (ht : Oth t) (k : Ko w w') : RdX t B w' A n l := h.keep fun b cs e => k.2 _ _ _ _ e ht
theorem RdK.ko {A : Option Addr} {n : Nat} {l : List Wk} (h : RdK w A n l) (k : Ko w w') : RdK w' A n l := h.keep fun b cs e => (k.2 _ _ _ _ e o75).trans e.symm

theorem zs_new (h : ZS W B S w) (n : Nat) (hn : n ≤ 64) : Calls Try.prog 22 #[.int .i64 n] w fun e w' => ∃ c, e = .returned (.tuple #[.pointer (some ⟨c, 0, none⟩), .int .i64 0]) ∧ ZS W (B ++ [c]) (S ++ [⟨0, false, n, [], [], []⟩]) w' ∧ Ko w w' := by
  refine (new_yes n w hn).mono ?_
  rintro e w' ⟨c, rfl, m⟩
  exact ⟨c, rfl, h.add m⟩
theorem zs_timed (h : ZS W B S w) : Calls Try.prog 28 #[] w fun e w' => ∃ c, e = .returned (.pointer (some ⟨c, 0, none⟩)) ∧ ZS W (B ++ [c]) (S ++ [⟨1, false, 1, [], [], []⟩]) w' ∧ Ko w w' := by
  refine (timed_any w).mono ?_
  rintro e w' ⟨c, rfl, m⟩
  exact ⟨c, rfl, h.add m⟩
variable {ws : List Wk} {d : Bool} {n : Nat}
theorem zs_send (v : Int) (h : ZS W B S w) (hB : B[i]? = some c) (hi : S[i]? = some s) (hk : s.kd = 0) (hc : s.cl = false) (hn : s.rs.length ≤ 1000000) (hg : gv s v = (s', ws, d)) (hl : ws.length = n) :
    Calls Try.prog 23 #[.pointer (some ⟨c, 0, none⟩), .int .i64 v] w fun e w' => ∃ A cap, e = .returned (.tuple #[.bool d, .slice A n cap, .int .i64 0]) ∧ RdK w' A n ws ∧ ZS W B (S.set i s') w' ∧ Ko w w' := by
  subst hl
  obtain ⟨F, hch, bk⟩ := h.at hB hi
  refine (send_any v hch hk hc hn).mono ?_
  rw [hg]
  rintro e w' ⟨A, cap, rfl, hr, g⟩
  exact ⟨A, cap, rfl, hr, bk _ _ g⟩
theorem zs_close (h : ZS W B S w) (hB : B[i]? = some c) (hi : S[i]? = some s) (hk : s.kd = 0) (hc : s.cl = false) (hn : s.ss.length ≤ 1000000) (hm : s.rs.length ≤ 1000000) (ht : tot s = ws) (hl : ws.length = n) :
    Calls Try.prog 27 #[.pointer (some ⟨c, 0, none⟩)] w fun e w' => ∃ A cap, e = .returned (.tuple #[.slice A n cap, .int .i64 0]) ∧ RdK w' A n ws ∧ ZS W B (S.set i (done s)) w' ∧ Ko w w' := by
  subst hl
  obtain ⟨F, hch, bk⟩ := h.at hB hi
  refine (close_any hch hk hc hn hm).mono ?_
  rw [← ht]
  rintro e w' ⟨A, cap, rfl, hr, g⟩
  exact ⟨A, cap, rfl, hr, bk _ _ g⟩
theorem zs_len (h : ZS W B S w) (hB : B[i]? = some c) (hi : S[i]? = some s) : Calls Try.prog 26 #[.pointer (some ⟨c, 0, none⟩)] w fun e w' => e = .returned (.int .i64 (if s.kd = 1 then 0 else s.l.length)) ∧ w = w' := by
  obtain ⟨F, hch, _⟩ := h.at hB hi
  exact len_chan hch
theorem zs_waiting (b : Bool) (h : ZS W B S w) (hB : B[i]? = some c) (hi : S[i]? = some s) (hn : (s.q b).length ≤ 1000000) : Calls Try.prog 24 #[.pointer (some ⟨c, 0, none⟩), .bool b] w (AllR (s.q b) w) := by
  obtain ⟨F, hch, _⟩ := h.at hB hi
  exact waiting_any b hch hn
variable {A : Option Addr} {l : List Ca} {m : Nat} {r : Re} {code : Int}
theorem zs_do {cap : Nat} (df : Bool) (draw task : Int) (hT : Wf task) (h : ZS W B S w) (hb : BN 100 S) (hl : RdX 65 B w A n l) (hn : n ≤ 1000) (hg : doS S l df draw task = (S', r, ws, code)) (hm : ws.length = m) :
    Calls Try.prog 16 #[.slice A n cap, .bool df, .int .i64 draw, .int .i64 task] w fun e w' => ∃ A cap, e = .returned (.tuple #[reG r, .slice A m cap, .int .i64 code]) ∧ RdK w' A m ws ∧ ZS W B S' w' ∧ Ko w w' := by
  subst hm
  obtain ⟨F, h⟩ := h
  refine (Do_any df draw task hT h hb hl hn).mono ?_
  rw [hg]
  rintro e w' ⟨A, cap, rfl, hr, g⟩
  exact ⟨A, cap, rfl, hr, PN.zs h g⟩
theorem zs_leave {cap : Nat} {k : Int} (t : Int) (h : ZS W B S w) (hb : BN 100 S) (hl : RdX 65 B w A n l) (hn : n ≤ 1000) (hg : lvS S l t l.length = (S', k)) : Calls Try.prog 20 #[.slice A n cap, .int .i64 t] w fun e w' => e = .returned (.int .i64 k) ∧ ZS W B S' w' ∧ Ko w w' := by
  obtain ⟨F, h⟩ := h
  refine (leave_any t h hb hl hn).mono ?_
  rw [hg]
  rintro e w' ⟨rfl, g⟩
  exact ⟨rfl, PN.zs h g⟩
theorem zs_ready {cap : Nat} {r : List Nat} (h : ZS W B S w) (hb : BN 1000 S) (hl : RdX 65 B w A n l) (hn : n ≤ 1000) (hg : rdy S l l.length = r) (hm : r.length = m) : Calls Try.prog 14 #[.slice A n cap] w fun e w' => ∃ A cap, e = .returned (.slice A m cap) ∧ Rd w' w'.heap.size A m 1 (nI r) ∧ ZS W B S w' ∧ Ko w w' := by
  subst hm
  obtain ⟨F, h⟩ := h
  refine (ready_any h hb hl hn).mono ?_
  rw [← hg]
  rintro e w' ⟨A, cap, rfl, hr, g⟩
  exact ⟨A, cap, rfl, hr, PN.zs h g⟩
end
/-! Slices of cases that a law makes. -/
def caF (B : List Nat) (l : List Ca) : List Value := l.flatMap (caV B)
theorem caF_len (B : List Nat) (l : List Ca) : (caF B l).length = l.length * 3 := flat_len (caV B) 3 (caV_len B) l
theorem caF_app (B : List Nat) (a b : List Ca) : caF B (a ++ b) = caF B a ++ caF B b := by unfold caF; rw [List.flatMap_append]
theorem caF_one (B : List Nat) (l : List Ca) : ∀ u ∈ caF B l, u.oneCell' = true := by
  intro u hu
  unfold caF at hu
  obtain ⟨x, _, hx⟩ := List.mem_flatMap.1 hu
  simp [caV] at hx
  rcases hx with rfl | rfl | rfl <;> rfl
theorem inf65 : (Try.prog.info? 65).map (fun i => (i.zero, i.size, i.bytes)) = some (some (.agg #[.pointer none, .bool false, .int .i64 0]), 3, 24) := by kernel_rfl
theorem RdX.of_own {t : TypeId} {w : World} {base n : Nat} {v : Value} {B : List Nat} {l : List Ca} (hn : l.length = n) (h : w.ownsRow base t 3 v n (caF B l)) : ∃ A cap, v = .slice A n cap ∧ RdX t B w A n l := by
  rcases h.2 with ⟨rfl, h0⟩ | ⟨g, cap, cur, rfl, q2, q3, q4⟩
  · refine ⟨none, 0, by rw [h0], hn, fun hp => absurd hp (by omega)⟩
  · refine ⟨_, cap, rfl, hn, fun hp => ⟨g, 0, _, rfl, q3, fun i x hx => ?_⟩⟩
    have hi : i < l.length := (List.getElem?_eq_some_iff.1 hx).1
    have hc : ∀ j u, j < 3 → (caV B x)[j]? = some u → w.cell? ⟨g, 0 + i * 3 + j, none⟩ = some u := fun j u hj hu => by
      rw [Nat.zero_add, h.cellAt (i * 3 + j) (by omega)]
      exact (flat_at (caV B) 3 (caV_len B) l i x hx j hj).trans hu
    exact ⟨hc 0 _ (by omega) rfl, hc 1 _ (by omega) rfl, hc 2 _ (by omega) rfl⟩
/-- Written out. -/
theorem RdX.lit (t : TypeId) (B : List Nat) (w : World) (cs : Array Value) (l : List Ca) (h : cs.toList = caF B l) (N n : Nat) (hN : N = w.heap.size) (hn : l.length = n) : RdX t B (w.alloc (.cells cs t)) (some ⟨N, 0, none⟩) n l := by
  subst hN hn
  have hb := heap_alloc_new w (.cells cs t)
  refine ⟨rfl, fun _ => ⟨w.heap.size, 0, cs, rfl, hb, fun i x hx => ?_⟩⟩
  have hc : ∀ j u, j < 3 → (caV B x)[j]? = some u → (w.alloc (.cells cs t)).cell? ⟨w.heap.size, 0 + i * 3 + j, none⟩ = some u := fun j u hj hu => by
    rw [cell_of_row _ _ _ _ _ _ hb, Nat.zero_add, ← Array.getElem?_toList, h]
    exact (flat_at (caV B) 3 (caV_len B) l i x hx j hj).trans hu
  exact ⟨hc 0 _ (by omega) rfl, hc 1 _ (by omega) rfl, hc 2 _ (by omega) rfl⟩
theorem ints_yes (A A' : Option Addr) (n c c' : Nat) (l : List Nat) (w : World) (h : Rd w w.heap.size A n 1 (nI l)) (h' : Rd w w.heap.size A' n 1 (nI l)) (hn : n ≤ 9223372036854775807) :
    Calls Try.prog 13 #[.slice A n c, .slice A' n c'] w fun e w' => e = .returned (.bool true) ∧ ∃ m, w' = w.drewN m := by
  have HL : Hid (l.length = n) := by have := h.1; rw [nI_len] at this; show _ = _; omega
  replace h := Lib.hid h
  replace h' := Lib.hid h'
  go_enter Try.func13, Try.ntmps13
  go_wp2
  go_loopw [5] (fun i wr => ∃ k : Nat, k ≤ n ∧ i = .int .i64 k ∧ ∃ m, wr = w.drewN m) (fun i _ => n - (intOf i).toNat)
  case atStart => exact ⟨0, by omega, rfl, 0, rfl⟩
  case round =>
    obtain ⟨k, hk, rfl, m, rfl⟩ := hrel
    by_cases hlt : k < n
    · have hky : k < l.length := by rw [HL.out]; exact hlt
      obtain ⟨b, o, e1, hb, hc⟩ := h.out.2 (by omega)
      obtain ⟨b', o', e2, hb', hc'⟩ := h'.out.2 (by omega)
      subst e1 e2
      have c0 := hc k _ (nI_at (List.getElem?_eq_getElem hky))
      have d0 := hc' k _ (nI_at (List.getElem?_eq_getElem hky))
      generalize l[k]'hky = x at *
      have q1 : (k : Int) < (n : Int) := by omega
      have q2 : 0 ≤ (k : Int) := by omega
      have q3 : (n : Int) ≤ 9223372036854775807 := by omega
      clear hc hc' hky hb hb'
      go_wp2_with fail
      go_quiet (fail)
      go_wp2_with fail
      go_roundw
      case rel => exact ⟨k + 1, by omega, by go_num, _, rfl⟩
      case measure => simp [intOf]; omega
    · obtain rfl : k = n := by omega
      go_wp2_with fail
      go_ret
      exact ⟨rfl, _, rfl⟩
end Go.Proofs.Ytmcacmbllpphiaa
