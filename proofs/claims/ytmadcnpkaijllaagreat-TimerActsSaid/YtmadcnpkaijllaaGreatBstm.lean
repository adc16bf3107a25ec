/- Both sides stop one, arm it anew, and fire one. Conditions: each theorem's own premises.
fired: two alike. Conditions: each theorem's own premises. -/
import Derived.Test.YtmadcnpkaijllaaGreatInvm
import Derived.Test.YtmadcnpkaijllaaGreatSrsm
import Derived.Test.YtmadcnpkaijllaaGreatCPcm
namespace Go.Proofs.YtmadcnpkaijllaaGreat
open Go.RowKit Ch
set_option linter.unusedVariables false
set_option maxRecDepth 100000
section
variable {W w w' w'' w1 w2 : World} {b t mo m n k q i j c f r : Nat} {B RC : List Nat} {X X' : List Oc} {T T' : List CS} {S S' : List It} {g g' : Int → Int} {now d p a : Int} {x : Oc} {s s' : CS} {v : Value} {e : Ending} {bb : Bool}
/-- What each channel is. -/
def Tk (k : Nat) (s : CS) : Prop := s.kd = 1 ∧ s.sz = 1 ∧ s.cl = false ∧ s.ss = [] ∧ s.l.length ≤ 1 ∧ s.rs.length ≤ k
theorem Tk.set (h : ∀ s ∈ T, Tk k s) (hs : Tk k s) (j : Nat) : ∀ y ∈ T.set j s, Tk k y := fun y hy => by
  rcases List.mem_or_eq_of_mem_set hy with h1 | rfl
  · exact h y h1
  · exact hs
/-- Both channels of one that was made. -/
theorem BD.chan (h : BD W b t mo B RC X T m n S g now w) (iv : Iv k q X T m n S g now) (hx : X[i]? = some x) : x.q = none ∨ ∃ j c c' s, x.q = some j ∧ B[j]? = some c ∧ RC[j]? = some c' ∧ T[j]? = some s ∧ (on B x).ch = some c ∧ (on RC x).ch = some c' ∧ Tk k s := by
  cases hq : x.q with
  | none => exact .inl rfl
  | some j =>
    have hj := iv.ch x (List.mem_of_getElem? hx) j hq
    obtain ⟨c, h1, h2⟩ := on_ch h.eB hq hj
    obtain ⟨c', h3, h4⟩ := on_ch h.eC hq hj
    exact .inr ⟨j, c, c', T[j], rfl, h1, h3, List.getElem?_eq_getElem hj, h2, h4, iv.ts _ (List.getElem_mem hj)⟩
theorem drop_both (h : BD W b t mo B RC X T m n S g now w) (iv : Iv k q X T m n S g now) (hx : X[i]? = some x) :
    ∃ T' bb, Drp (B.zip T) (on B x) (B.zip T') bb ∧ RDrp RC T (on RC x) T' bb ∧ T'.length = T.length ∧ ∀ s ∈ T', Tk k s := by
  rcases h.chan iv hx with hq | ⟨j, c, c', s, hq, hB, hC, hT, e1, e2, hs⟩
  · exact ⟨T, false, Drp.none (on_none hq), ⟨.inl ⟨on_none hq, rfl, rfl⟩⟩, rfl, iv.ts⟩
  · refine ⟨T.set j { s with l := [] }, decide (0 < s.l.length), ?_, ⟨.inr ⟨c', j, s, e2, hC, hT, hs.1, rfl, rfl⟩⟩, by simp, Tk.set (s := { s with l := [] }) iv.ts ⟨hs.1, hs.2.1, hs.2.2.1, hs.2.2.2.1, by show 0 ≤ 1; omega, hs.2.2.2.2.2⟩ j⟩
    rw [← zip_set hB]
    exact Drp.chan e1 (zip_at hB hT) hs.1
/-- Both answer alike, and have come to be alike. -/
theorem pair_sz {c9 : Int} {m' n' : Nat} {xs : List Value} (hv : isB v) (h : BD W b t mo B RC X T m n S g now w)
    (pk : Calls Tryz.prog f (pS t :: xs).toArray w (SZ W RC T t (X'.map (on B)) m' n' S' g' (B.zip T') (.tuple #[v, .int .i64 c9]) w))
    (rk : ∀ w', RS W mo (X.map (on RC)) m n S g w' → ∀ L, MS W RC T L w' → Calls Tryz.prog r (pM mo :: xs).toArray w' (RV W RC T' mo (X'.map (on RC)) m' n' S' g' L (.tuple #[v, .int .i64 c9]) w'))
    (hT : T'.length = T.length) (iv : Iv (k + 1) 0 X' T' m' n' S' g' now) : Pr2 isB W b t mo k now f r xs w := by
  refine ⟨v, c9, hv, pk.mono ?_⟩
  intro e w1 hz
  refine ⟨hz.1, hz.2.2.bc h.cb, hz.2.2.fz, fun w' hb => ?_⟩
  have hs2 := hz.2.1.later hb
  refine (rk w' ((h.rs.oz hz.2.2).later hb) _ hs2.ms).mono ?_
  intro e w2 hr
  exact ⟨hr.1, ⟨B, RC, X', T', m', n', S', g', now, ⟨hs2.ry hr.2.2.2 hr.2.2.1, hr.2.1, by rw [hT]; exact h.eB, by rw [hT]; exact h.eC, hr.2.2.2.bc ((hz.2.2.bc h.cb).later hb), h.lo⟩, iv⟩, hr.2.2.2.fz, hr.2.2.2.bc ((hz.2.2.bc h.cb).later hb)⟩
theorem kd_ne (iv : Iv k q X T m n S g now) (hx : X[i]? = some x) (B : List Nat) : (on B x).kd ≠ 0 := by
  have := (iv.kd x (List.mem_of_getElem? hx)).1
  unfold on; simp only; omega
/-- Stop. -/
theorem pair_stop (h : BD W b t mo B RC X T m n S g now w) (iv : Iv k 0 X T m n S g now) (hk : k ≤ 120) : Pr2 isB W b t mo k now 10 21 [.int .i64 a] w := by
  have hX := iv.xl
  have hS := iv.inv.len
  by_cases ha : a < 0 ∨ (X.length : Int) ≤ a
  · exact pair_sz ⟨false, rfl⟩ h (stop_none h.ss (by rw [on_len]; exact ha)) (fun w' h1 L h2 => rstop_none h1 h2 (by rw [on_len]; exact ha)) rfl iv.up
  · obtain ⟨i, rfl⟩ : ∃ i : Nat, a = (i : Int) := ⟨a.toNat, by omega⟩
    have hi : i < X.length := by omega
    have hx : X[i]? = some X[i] := List.getElem?_eq_getElem hi
    obtain ⟨T', bb, h1, h2, h3, h4⟩ := drop_both h iv hx
    have u := iv.up
    exact pair_sz (X' := X) (T' := T') (m' := m) (n' := n) ⟨_, rfl⟩ h (stop_set h.ss (on_at hx) h1 (kd_ne iv hx B) (by rw [on_len]; omega) (by omega))
      (fun w' k1 L k2 => rstop_set k1 k2 (on_at hx) h2 iv.inv.ok (iv.inv.nz i) (by omega)) h3
      ⟨u.kd, fun y hy j hj => by rw [h3]; exact iv.ch y hy j hj, fun s hs => ⟨(h4 s hs).1, (h4 s hs).2.1, (h4 s hs).2.2.1, (h4 s hs).2.2.2.1, (h4 s hs).2.2.2.2.1, by have := (h4 s hs).2.2.2.2.2; omega⟩, iv.inv.del, u.m64, u.nn, u.xl, iv.now⟩
theorem on_up (B : List Nat) (hx : X[i]? = some x) : (X.set i { x with gn := x.gn + 1 }).map (on B) = (X.map (on B)).set i (up (on B x)) := by
  rw [List.map_set]; rfl
/-- Reset. -/
theorem pair_reset (h : BD W b t mo B RC X T m n S g now w) (iv : Iv k 0 X T m n S g now) (hk : k ≤ 120) : Pr2 isB W b t mo k now 13 22 [.int .i64 a, .int .i64 now, .int .i64 d] w := by
  have hX := iv.xl
  have hS := iv.inv.len
  have hN := iv.nn
  by_cases ha : a < 0 ∨ (X.length : Int) ≤ a
  · exact pair_sz ⟨false, rfl⟩ h (reset_none h.ss (by rw [on_len]; exact ha)) (fun w' h1 L h2 => rreset_none h1 h2 (by rw [on_len]; exact ha)) rfl iv.up
  · obtain ⟨i, rfl⟩ : ∃ i : Nat, a = (i : Int) := ⟨a.toNat, by omega⟩
    have hi : i < X.length := by omega
    have hx : X[i]? = some X[i] := List.getElem?_eq_getElem hi
    generalize X[i] = x at hx
    obtain ⟨k1, k2, k3⟩ := iv.kd x (List.mem_of_getElem? hx)
    by_cases ho : DueOk x.kd now d
    · by_cases h4 : x.kd = 4
      · rw [h4] at ho
        exact pair_sz ⟨false, rfl⟩ h (reset_kind h.ss (on_at hx) h4 ho) (fun w' h1 L h2 => rreset_kind h1 h2 (on_at hx) h4 ho) rfl iv.up
      · obtain ⟨T', bb, h1, h2, h3, h5⟩ := drop_both h iv hx
        have u := iv.up
        have hn : (X.set i { x with gn := x.gn + 1 }).length = X.length := by simp
        refine pair_sz (X' := X.set i { x with gn := x.gn + 1 }) (T' := T') (m' := m) (n' := n + 1) (S' := ins ⟨i, wn now d, (n : Int) + 1⟩ (del i S)) (g' := fput g i (per x.kd d)) (v := .bool (decide ((i : Int) ∈ ids S) || bb)) (c9 := 0) ⟨_, rfl⟩ h ?_ (fun w' q1 L q2 => ?_) h3
          ⟨fun y hy => ?_, fun y hy j hj => ?_, fun s hs => ⟨(h5 s hs).1, (h5 s hs).2.1, (h5 s hs).2.2.1, (h5 s hs).2.2.2.1, (h5 s hs).2.2.2.2.1, by have := (h5 s hs).2.2.2.2.2; omega⟩, ?_, u.m64, by omega, by rw [hn]; exact u.xl, iv.now⟩
        · rw [on_up B hx]
          exact reset_ok h.ss (on_at hx) h1 (kd_ne iv hx B) h4 ho k2 (by show x.gn ≤ 1000000; omega) (by rw [on_len]; omega) (by omega) (by omega)
        · rw [on_up RC hx]
          exact rreset_ok q1 q2 (on_at hx) h2 h4 ho iv.inv.ok (iv.inv.nz i) k2 (by show x.gn ≤ 1000000; omega) (by omega) (by omega)
        · rcases List.mem_or_eq_of_mem_set hy with hy | rfl
          · exact u.kd y hy
          · exact ⟨k1, by show 0 ≤ x.gn + 1; omega, by show x.gn + 1 ≤ ((k + 1 : Nat) : Int); omega⟩
        · rw [h3]
          rcases List.mem_or_eq_of_mem_set hy with hy | rfl
          · exact iv.ch y hy j hj
          · exact iv.ch x (List.mem_of_getElem? hx) j hj
        · rw [hn]
          exact iv.inv.arm (wn_fit d ho.1) (per_fit x.kd d) ⟨by omega, by omega⟩
    · exact pair_sz ⟨false, rfl⟩ h (reset_bad h.ss (on_at hx) (kd_ne iv hx B) ho) (fun w' h1 L h2 => rreset_bad h1 h2 (on_at hx) ho) rfl iv.up
end
end Go.Proofs.YtmadcnpkaijllaaGreat
namespace Go.Proofs.YtmadcnpkaijllaaGreat
open Go.RowKit Ch
set_option linter.unusedVariables false
set_option maxRecDepth 100000
set_option maxHeartbeats 8000000 in
theorem fired_yes {w : World} {A A' : Option Addr} {n k k' : Nat} {ws : List Wk} {id kd wh at_ dt : Int} {b : Bool} (h : RdK w A n ws) (h' : RdK w A' n ws) (hn : n ≤ 1000000) :
    Calls Tryz.prog 24 #[vF id kd wh at_ dt A n k b, vF id kd wh at_ dt A' n k' b] w fun e w' => e = .returned (.bool true) ∧ Below w.heap.size w w' := by
  have hb : ∀ o1 o2, Below w.heap.size w ((w.alloc o1).alloc o2) := fun o1 o2 => (below_al w o1).trans ((below_al _ o2).mono (by rw [World.size_alloc]; omega))
  have F := fun o1 o2 => wakes_yes A A' n k k' ws ((w.alloc o1).alloc o2) (h.keep fun b cs e => (hb o1 o2).block b (lt_of_blk e)) (h'.keep fun b cs e => (hb o1 o2).block b (lt_of_blk e)) hn
  have HB := Lib.hid hb
  clear h h' hb hn
  unfold vF
  cases b
  all_goals
    go_enter Tryz.func24, Tryz.ntmps24
    go_wp2_with (go_at_call 29; (with_reducible refine (F _ _).mono ?_); rintro e w' ⟨rfl, q, rfl⟩)
    go_ret
    exact ⟨rfl, Ch.below_drewN (HB.out _ _) _⟩
end Go.Proofs.YtmadcnpkaijllaaGreat
