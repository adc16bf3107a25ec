/- Recv receives. Conditions: each theorem's own premises.
Slices that read as a row of waits; append onto a row of the call's own. No condition.
All tells all in order, in a row of its own: Waiting; the laws' own helpers Waits and Round. Conditions: each theorem's own premises. -/
import Derived.Test.YtmadcnpkaijllaaGreatCChnm
import Derived.Maps.AppendAt
namespace Go.Proofs.YtmadcnpkaijllaaGreat.Ch
open Go.RowKit
set_option linter.unusedVariables false
set_option maxRecDepth 100000

theorem results_tmp4 {fn : Func} {t u v x : Tmp} (h : fn.results = #[.tmp t, .tmp u, .tmp v, .tmp x]) (tmps : Array Value) (P : Program) (w : World) :
    (results fn tmps).run P w = .ok (.tuple #[tmps.getD t undef, tmps.getD u undef, tmps.getD v undef, tmps.getD x undef]) w := by
  simp [results, h]
section
variable {w : World} {c : Nat} {F : Nat → Prop} {s : CS}
theorem tn_same {F : Nat → Prop} {w w' : World} (hh : w'.heap = w.heap) (h1 : w'.os = w.os) (h2 : w'.tape = w.tape) (h3 : w'.output = w.output) : Tn F w w' := (Tn.refl F w).draws hh h1 h2 h3
/-- What is received. -/
def rc (s : CS) : CS × Int × Bool × Bool × List Wk := match s.l, s.ss with
  | v :: l, [] => ({ s with l := l }, v, true, true, [])
  | v :: l, x :: r => ({ s with l := l ++ [x.v], ss := r }, v, true, true, [⟨x.t, x.c, 0, true, false⟩])
  | [], x :: r => ({ s with ss := r }, x.v, true, true, [⟨x.t, x.c, 0, true, false⟩])
  | [], [] => (s, 0, false, s.cl, [])
def RcR (F : Nat → Prop) (c : Nat) (g : CS × Int × Bool × Bool × List Wk) (w : World) (e : Ending) (w' : World) : Prop :=
  ∃ A cap, e = .returned (.tuple #[.int .i64 g.2.1, .bool g.2.2.1, .bool g.2.2.2.1, .slice A g.2.2.2.2.length cap]) ∧ RdK w' A g.2.2.2.2.length g.2.2.2.2 ∧ Go F c g.1 w w'
theorem recv_any (h : CH w F c s) (hn : s.ss.length ≤ 1000000) : Calls Tryz.prog 26 #[.pointer (some ⟨c, 0, none⟩)] w (RcR F c (rc s) w) := by
  obtain ⟨V, c2, _, _, _, hpn, hps, _⟩ := h.ring
  have hle := h.le
  have c0 := h.c0
  cases hl : s.l with
  | nil =>
    have HP := Lib.hid (hpn hl)
    cases hss : s.ss with
    | nil =>
      have e : rc s = (s, 0, false, s.cl, []) := by unfold rc; rw [hl, hss]
      rw [e]
      have HQ : Hid (s.q true = []) := hss
      clear hpn hps h hn hle hl hss e
      go_enter Tryz.func26, Tryz.ntmps26
      go_wp2_with fail
      refine HP.out.mono ?_
      rintro e w1 ⟨rfl, F1, hc1, hs1, t1⟩
      have HC1 := Lib.hid hc1
      have HS1 := Lib.hid hs1
      have HT1 := Lib.hid t1
      have c0 := hc1.c0
      clear hc1 hs1 t1 HP
      go_wp2_with fail
      refine (ch_pop_none HC1.out true HQ.out).mono ?_
      rintro e w2 ⟨rfl, F2, hc2, hs2, t2⟩
      have HC2 := Lib.hid (hc2.later (below_al w2 (.cells #[.int .i64 0, .int .i64 0, .int .i64 0] 87)))
      have G := Lib.hid (Go.comp HT1.out HS1.out ⟨F2, hc2, hs2, t2⟩)
      have c1 := HC2.out.c1
      clear hc2 hs2 t2 HT1 HS1 HC1
      unfold wG
      go_wp2_with fail
      go_quiet (fail)
      go_wp2_with fail
      refine bodyPost_ret (results_tmp4 rfl _ _ _) rfl ?_
      exact ⟨none, 0, rfl, RdK.nil _ _, (G.out.later (below_al _ _)).draws rfl rfl rfl rfl⟩
    | cons x r =>
      have e : rc s = ({ s with ss := r }, x.v, true, true, [⟨x.t, x.c, 0, true, false⟩]) := by unfold rc; rw [hl, hss]
      rw [e]
      have HQ : Hid (s.q true = x :: r) := hss
      have HN : Hid (r.length ≤ 1000000) := by rw [hss] at hn; simp at hn; show _ ≤ _; omega
      clear hpn hps h hn hle hl hss e
      go_enter Tryz.func26, Tryz.ntmps26
      go_wp2_with fail
      refine HP.out.mono ?_
      rintro e w1 ⟨rfl, F1, hc1, hs1, t1⟩
      have HC1 := Lib.hid hc1
      have HS1 := Lib.hid hs1
      have HT1 := Lib.hid t1
      have c0 := hc1.c0
      clear hc1 hs1 t1 HP
      go_wp2_with fail
      refine (ch_pop_some HC1.out true HQ.out HN.out).mono ?_
      rintro e w2 ⟨rfl, g⟩
      have G := Lib.hid (Go.comp HT1.out HS1.out g)
      clear g HT1 HS1 HC1
      unfold wG
      go_wp2_with fail
      go_region
      go_wp2_with fail
      refine bodyPost_ret (results_tmp4 rfl _ _ _) rfl ?_
      exact ⟨some ⟨_, 0, none⟩, 1, rfl, (RdK.one _ ⟨x.t, x.c, 0, true, false⟩ _ (by simp)).keep (fun _ _ h => rfl), ((G.out.later (below_al _ _)).later (below_al _ _)).draws rfl rfl rfl rfl⟩
  | cons v l =>
    have HP := Lib.hid (hps v l hl)
    cases hss : s.ss with
    | nil =>
      have e : rc s = ({ s with l := l }, v, true, true, []) := by unfold rc; rw [hl, hss]
      rw [e]
      have HQ : Hid (({ s with l := l } : CS).q true = []) := hss
      clear hpn hps h hn hle hl hss e
      go_enter Tryz.func26, Tryz.ntmps26
      go_wp2_with fail
      refine HP.out.mono ?_
      rintro e w1 ⟨rfl, F1, hc1, hs1, t1⟩
      have HC1 := Lib.hid hc1
      have HS1 := Lib.hid hs1
      have HT1 := Lib.hid t1
      have c0 := hc1.c0
      clear hc1 hs1 t1 HP
      go_wp2_with fail
      refine (ch_pop_none HC1.out true HQ.out).mono ?_
      rintro e w2 ⟨rfl, g⟩
      have G := Lib.hid (Go.comp HT1.out HS1.out g)
      clear g HT1 HS1 HC1
      unfold wG
      go_wp2_with fail
      refine bodyPost_ret (results_tmp4 rfl _ _ _) rfl ?_
      exact ⟨none, 0, rfl, RdK.nil _ _, G.out.later (below_al _ _)⟩
    | cons x r =>
      have e : rc s = ({ s with l := l ++ [x.v], ss := r }, v, true, true, [⟨x.t, x.c, 0, true, false⟩]) := by unfold rc; rw [hl, hss]
      rw [e]
      have HQ : Hid (({ s with l := l } : CS).q true = x :: r) := hss
      have HN : Hid (r.length ≤ 1000000) := by rw [hss] at hn; simp at hn; show _ ≤ _; omega
      have HL : Hid (l.length < s.sz) := by rw [hl] at hle; simp at hle; show _ < _; omega
      clear hpn hps h hn hle hl hss e
      go_enter Tryz.func26, Tryz.ntmps26
      go_wp2_with fail
      refine HP.out.mono ?_
      rintro e w1 ⟨rfl, F1, hc1, hs1, t1⟩
      have HC1 := Lib.hid hc1
      have HS1 := Lib.hid hs1
      have HT1 := Lib.hid t1
      have c0 := hc1.c0
      clear hc1 hs1 t1 HP
      go_wp2_with fail
      refine (ch_pop_some HC1.out true HQ.out HN.out).mono ?_
      rintro e w2 ⟨rfl, F2, hc2, hs2, t2⟩
      have HC2 : Hid (CH (w2.alloc (.cells #[.int .i64 x.t, .int .i64 x.c, .int .i64 x.v] 87)) F2 c ⟨s.kd, s.cl, s.sz, l, r, s.rs⟩) := hc2.later (below_al w2 _)
      have hg1 : ∀ sx w3, Go F2 c sx (w2.alloc (.cells #[.int .i64 x.t, .int .i64 x.c, .int .i64 x.v] 87)) w3 → Go F c sx w w3 := fun sx w3 g => Go.comp HT1.out HS1.out (Go.comp t2 hs2 g.early)
      have HG1 := Lib.hid hg1
      have hk : (w2.alloc (.cells #[.int .i64 x.t, .int .i64 x.c, .int .i64 x.v] 87)).heap[w2.heap.size]? = some (.cells #[.int .i64 x.t, .int .i64 x.c, .int .i64 x.v] 87 (0, 0)) := heap_alloc_new _ _
      have HNI := Lib.hid (not_isc hk (by decide))
      have HK := Lib.hid hk
      have HZ := Lib.hid (lt_of_blk hk)
      clear hc2 hs2 t2 HT1 HS1 HC1 hg1 hk
      obtain ⟨V2, c2', _, _, _, _, _, hpush, _⟩ := HC2.out.ring
      have HPU : Hid (∀ w3 : World, w3.heap = (w2.alloc (.cells #[.int .i64 x.t, .int .i64 x.c, .int .i64 x.v] 87)).heap → w3.os = w2.os → w3.tape = w2.tape → w3.output = w2.output → Calls Tryz.prog 66 #[.pointer V2, .int .i64 x.v] w3 fun e w' => e = .returned (.bool true) ∧ Go F c ⟨s.kd, s.cl, s.sz, l ++ [x.v], r, s.rs⟩ w w' ∧ Hid (w'.heap[w2.heap.size]? = some (.cells #[.int .i64 x.t, .int .i64 x.c, .int .i64 x.v] 87 (0, 0)))) := by
        intro w3 e1 e2 e3 e4
        obtain ⟨V3, c3, _, _, _, _, _, hp3, _⟩ := (HC2.out.keep (w' := w3) fun _ _ => by rw [e1]).ring
        have hV : V3 = V2 := by
          have h9 := (cell_blk (w := w2.alloc (.cells #[.int .i64 x.t, .int .i64 x.c, .int .i64 x.v] 87)) (w' := w3) (b := c) (by rw [e1]) 2).symm.trans c3
          rw [c2'] at h9
          injection h9 with h9; injection h9 with h9; exact h9.symm
        subst hV
        refine (hp3 x.v HL.out).mono ?_
        rintro e w4 ⟨rfl, g⟩
        have hk3 : w3.heap[w2.heap.size]? = some (.cells #[.int .i64 x.t, .int .i64 x.c, .int .i64 x.v] 87 (0, 0)) := by rw [e1]; exact HK.out
        exact ⟨rfl, HG1.out _ _ (Go.comp (tn_same e1 e2 e3 e4) (fun b hb => .inl hb) g), (g.other (HC2.out.keep (w' := w3) fun _ _ => by rw [e1]) (lt_of_blk hk3) (not_isc hk3 (by decide))).trans hk3⟩
      clear HG1 HC2 HK hpush
      unfold wG
      go_wp2_with fail
      go_region_with (go_at_call 66; go_loud (refine (HPU.out _ (by rfl) (by rfl) (by rfl) (by rfl)).mono ?_; rintro e w4 ⟨rfl, g, hk4⟩; have G := Lib.hid g; have a0 := cell_of_row w4 w2.heap.size 0 _ _ _ hk4.out; have a1 := cell_of_row w4 w2.heap.size 1 _ _ _ hk4.out; simp only [List.getElem?_toArray, List.getElem?_cons_succ, List.getElem?_cons_zero] at a0 a1; clear g hk4 HPU))
      all_goals
        go_wp2_with fail
        go_region
        go_wp2_with fail
        refine bodyPost_ret (results_tmp4 rfl _ _ _) rfl ?_
        exact ⟨some ⟨_, 0, none⟩, 1, rfl, (RdK.one _ ⟨x.t, x.c, 0, true, false⟩ _ (by simp)).keep (fun _ _ h => rfl), (G.out.later (below_al _ _)).draws rfl rfl rfl rfl⟩
end
end Go.Proofs.YtmadcnpkaijllaaGreat.Ch
namespace Go.Proofs.YtmadcnpkaijllaaGreat.Ch
open Go.RowKit
set_option linter.unusedVariables false
set_option maxRecDepth 100000

/-- A slice of n elements, s cells each, reads as the row xs, below block B. -/
def Rd (w : World) (B : Nat) (A : Option Addr) (n s : Nat) (xs : List Value) : Prop :=
  xs.length = n * s ∧ (0 < n → ∃ b off, A = some ⟨b, off, none⟩ ∧ b < B ∧ ∀ j u, xs[j]? = some u → w.cell? ⟨b, off + j, none⟩ = some u)

theorem Rd.keep {w w' : World} {B B' : Nat} {A : Option Addr} {n s : Nat} {xs : List Value} (h : Rd w B A n s xs) (hB : B ≤ B') (hb : ∀ b, b < B → w'.heap[b]? = w.heap[b]?) : Rd w' B' A n s xs :=
  ⟨h.1, fun h0 => by
    obtain ⟨b, off, e, hl, hc⟩ := h.2 h0
    exact ⟨b, off, e, by omega, fun j u hu => (cell_blk (hb b hl) _).trans (hc j u hu)⟩⟩
theorem Rd.later {w w' : World} {A : Option Addr} {n s : Nat} {xs : List Value} (h : Rd w w.heap.size A n s xs) (hb : Below w.heap.size w w') : Rd w' w'.heap.size A n s xs :=
  h.keep hb.size fun b hl => hb.block b hl
theorem Rd.nil (w : World) (B s : Nat) (A : Option Addr) : Rd w B A 0 s [] := ⟨by simp, fun h => absurd h (by omega)⟩
theorem Rd.of_own {w : World} {base e s n c : Nat} {A : Option Addr} {xs : List Value} (h : w.ownsRow base e s (.slice A n c) n xs) : Rd w w.heap.size A n s xs := by
  refine ⟨h.1, fun hn => ?_⟩
  obtain ⟨g, cap, hv, _, hlt⟩ := h.form hn
  have hA : A = some ⟨g, 0, none⟩ := by injection hv
  subst hA
  exact ⟨g, 0, rfl, hlt, fun j u hu => by rw [Nat.zero_add, h.cellAt j (by rw [← h.1]; exact (List.getElem?_eq_some_iff.1 hu).1)]; exact hu⟩
/-- A row in a new block. -/
theorem Rd.new (w : World) (cs : Array Value) (n s : Nat) (t : TypeId) (h : cs.size = n * s) : Rd (w.alloc (.cells cs t)) (w.alloc (.cells cs t)).heap.size (some ⟨w.heap.size, 0, none⟩) n s cs.toList := by
  refine ⟨by simpa using h, fun _ => ⟨w.heap.size, 0, rfl, by simp, fun j u hu => ?_⟩⟩
  rw [Nat.zero_add, World.cell?_alloc_at _ _ _ _ rfl]
  simpa using hu

theorem flat_len {α : Type} (f : α → List Value) (s : Nat) (hs : ∀ x, (f x).length = s) : ∀ l : List α, (l.flatMap f).length = l.length * s
  | [] => by simp
  | a :: l => by rw [List.flatMap_cons, List.length_append, hs, flat_len f s hs l, List.length_cons]; rw [Nat.add_mul]; omega
theorem flat_at {α : Type} (f : α → List Value) (s : Nat) (hs : ∀ x, (f x).length = s) : ∀ (l : List α) (i : Nat) (x : α), l[i]? = some x → ∀ j, j < s → (l.flatMap f)[i * s + j]? = (f x)[j]?
  | [], i, x, h, _, _ => by simp at h
  | a :: l, 0, x, h, j, hj => by
    simp at h; subst h
    rw [List.flatMap_cons, Nat.zero_mul, Nat.zero_add, List.getElem?_append_left (by rw [hs]; exact hj)]
  | a :: l, i + 1, x, h, j, hj => by
    rw [List.flatMap_cons, List.getElem?_append_right (by rw [hs, Nat.add_mul]; omega), hs, ← flat_at f s hs l i x (by simpa using h) j hj]
    congr 1
    rw [Nat.add_mul]; omega
theorem flat_mem {α : Type} (f : α → List Value) (s : Nat) (hs : ∀ x, (f x).length = s) (h0 : 0 < s) (l : List α) (j : Nat) (u : Value) (hu : (l.flatMap f)[j]? = some u) : ∃ i k x, j = i * s + k ∧ k < s ∧ l[i]? = some x ∧ (f x)[k]? = some u := by
  have hj : j < l.length * s := by rw [← flat_len f s hs]; exact (List.getElem?_eq_some_iff.1 hu).1
  have hi : j / s < l.length := Nat.div_lt_of_lt_mul (by rw [Nat.mul_comm]; exact hj)
  have hk : j % s < s := Nat.mod_lt _ h0
  have ej : j = j / s * s + j % s := by rw [Nat.mul_comm]; exact (Nat.div_add_mod j s).symm
  refine ⟨j / s, j % s, l[j / s]'hi, ej, hk, List.getElem?_eq_getElem hi, ?_⟩
  rw [← flat_at f s hs l _ _ (List.getElem?_eq_getElem hi) _ hk, ← ej]; exact hu
/-- A slice whose elements lie where they say. -/
theorem Rd.mk {α : Type} {f : α → List Value} {w : World} {b off n s : Nat} {l : List α} (hs : ∀ x, (f x).length = s) (h0 : 0 < s) (hn : l.length = n) (hb : b < w.heap.size)
    (h : ∀ i x, l[i]? = some x → ∀ k u, (f x)[k]? = some u → w.cell? ⟨b, off + i * s + k, none⟩ = some u) : Rd w w.heap.size (some ⟨b, off, none⟩) n s (l.flatMap f) := by
  refine ⟨by rw [flat_len f s hs, hn], fun _ => ⟨b, off, rfl, hb, fun j u hu => ?_⟩⟩
  obtain ⟨i, k, x, rfl, _, hx, hk⟩ := flat_mem f s hs h0 l j u hu
  rw [← Nat.add_assoc]
  exact h i x hx k u hk
theorem Rd.at {α : Type} {f : α → List Value} {w : World} {B n s : Nat} {A : Option Addr} {l : List α} (hs : ∀ x, (f x).length = s) (h : Rd w B A n s (l.flatMap f)) (h0 : 0 < n) :
    ∃ b off, A = some ⟨b, off, none⟩ ∧ b < B ∧ ∀ i x, l[i]? = some x → ∀ j, j < s → ∀ u, (f x)[j]? = some u → w.cell? ⟨b, off + i * s + j, none⟩ = some u := by
  obtain ⟨b, off, e, hl, hc⟩ := h.2 h0
  refine ⟨b, off, e, hl, fun i x hx j hj u hu => ?_⟩
  rw [Nat.add_assoc]
  exact hc _ _ ((flat_at f s hs l i x hx j hj).trans hu)


theorem own_cap {w : World} {base : Nat} {e : TypeId} {size n : Nat} {v : Value} {xs : List Value} (h : w.ownsRow base e size v n xs) : ∃ a c, v = .slice a n c ∧ n ≤ c ∧ c ≤ 9223372036854775807 := by
  rcases h.2 with ⟨rfl, rfl⟩ | ⟨g, cap, cur, rfl, _, _, h1, h2, _⟩
  · exact ⟨none, 0, rfl, by omega, by omega⟩
  · exact ⟨_, _, rfl, h1, h2⟩
section
variable {P : Program} {w : World}
theorem app_nil {base t ty e size n c : Nat} {i : TypeInfo} {v : Value} {xs : List Value} (ht : P.underlying t = some (.slice e)) (hi : P.info? e = some i) (ho : w.ownsRow base e size v n xs) : (Builtin.append_ #[t, t] ty #[v, .slice none 0 c]).run P w = .ok v w := by
  rcases ho.2 with ⟨rfl, rfl⟩ | ⟨g, cap, cur, rfl, _, _, hc, _⟩ <;> simp [Builtin.append_, run_underlying ht, sizeOf, typeInfo, Builtin.lenOf, Builtin.firstCells, storeCells, *]
theorem app_run {base t ty e size bytes n m c B : Nat} {i : TypeInfo} {z v : Value} {xs news : List Value} {A : Option Addr} (ht : P.underlying t = some (.slice e)) (hi : P.info? e = some i) (hz : i.zero = some z) (hs : i.size = size) (hby : i.bytes = bytes)
    (hzs : z.cells.size = size) (hp : 0 < size) (ho : w.ownsRow base e size v n xs) (hr : Rd w B A m size news) (h1 : ∀ u ∈ news, u.oneCell' = true) (h63 : n + m ≤ maxLen) (hb : (n + m) * bytes ≤ 140737488355328) (hbase : base ≤ w.heap.size) :
    ∃ v' w', (Builtin.append_ #[t, t] ty #[v, .slice A m c]).run P w = .ok v' w' ∧ w'.ownsRow base e size v' (n + m) (xs ++ news) ∧ w.grownBy w' v.ownBlock := by
  rcases Nat.eq_zero_or_pos m with h0 | h0
  · subst h0
    have hn : news = [] := List.eq_nil_of_length_eq_zero (by rw [hr.1, Nat.zero_mul])
    subst hn
    cases A with
    | none => exact ⟨v, w, app_nil ht hi ho, by rw [Nat.add_zero, List.append_nil]; exact ho, World.grownBy.refl _ _⟩
    | some a =>
      obtain ⟨v', w', r1, r2, r3, _⟩ := run_append_own_at (P := P) w base t ty e i z size bytes ht hi hz hs hby hzs hp v n xs ho a 0 c [] (by simp) (fun j u hu => by simp at hu) h1 h63 hb hbase
      exact ⟨v', w', r1, r2, r3⟩
  · obtain ⟨b, off, rfl, _, hc⟩ := hr.2 h0
    have hc' : ∀ j u, news[j]? = some u → w.cell? ((⟨b, off, none⟩ : Addr).add j) = some u := fun j u hu => by
      have h9 : (⟨b, off, none⟩ : Addr).add j = ⟨b, off + j, none⟩ := by unfold Addr.add; split <;> simp_all
      rw [h9]; exact hc j u hu
    obtain ⟨v', w', r1, r2, r3, _⟩ := run_append_own_at (P := P) w base t ty e i z size bytes ht hi hz hs hby hzs hp v n xs ho _ m c news hr.1 hc' h1 h63 hb hbase
    exact ⟨v', w', r1, r2, r3⟩
theorem app_wp {ops : Array Oper} {rest : List Oper} {o : Oper} {a : Act} {Q : Exit → Act → World → Prop} (hgd : o.guard = none) (s x : Operand) (t : TypeId) (hop : o.op = .call { callee := .builtin .append, args := #[s, x], argTypes := #[t, t] })
    (base e size bytes : Nat) (i : TypeInfo) (z : Value) (ht : P.underlying t = some (.slice e)) (hi : P.info? e = some i) (hz : i.zero = some z) (hs : i.size = size) (hby : i.bytes = bytes) (hzs : z.cells.size = size) (hp : 0 < size)
    (v : Value) (n : Nat) (xs : List Value) (hv : a.eval s = v) (ho : w.ownsRow base e size v n xs) (B : Nat) (A : Option Addr) (m c : Nat) (news : List Value) (hx : a.eval x = .slice A m c) (hr : Rd w B A m size news)
    (h1 : ∀ u ∈ news, u.oneCell' = true) (h63 : n + m ≤ maxLen) (hb : (n + m) * bytes ≤ 140737488355328) (hbase : base ≤ w.heap.size)
    (hK : ∀ v' w', w'.ownsRow base e size v' (n + m) (xs ++ news) → w.grownBy w' v.ownBlock → wpList P ops Q rest (a.put o.dst v') w') : wpList P ops Q (o :: rest) a w := by
  refine wpList_plain hgd fun K hK' => ?_
  obtain ⟨v', w', r1, r2, r3⟩ := app_run (P := P) (w := w) (ty := o.type) (c := c) ht hi hz hs hby hzs hp ho hr h1 h63 hb hbase
  unfold Oper.wp execOp
  simp only [hop, resolve, invoke, builtin, Sem.run_bind, Sem.run_pure, Result.andThen_ok, List.map_toArray, List.map_cons, List.map_nil, hv, hx, r1]
  exact hK' _ _ (hK v' w' r2 r3)
end
theorem app_want {P : Program} {w : World} {ops : Array Oper} {rest : List Oper} {o : Oper} {a : Act} {Q : Exit → Act → World → Prop} (hw : Region.wanted o (yielded ops a.tmps) = true) (s x : Operand) (t : TypeId) (hop : o.op = .call { callee := .builtin .append, args := #[s, x], argTypes := #[t, t] })
    (base e size bytes : Nat) (i : TypeInfo) (z : Value) (ht : P.underlying t = some (.slice e)) (hi : P.info? e = some i) (hz : i.zero = some z) (hs : i.size = size) (hby : i.bytes = bytes) (hzs : z.cells.size = size) (hp : 0 < size)
    (v : Value) (n : Nat) (xs : List Value) (hv : a.eval s = v) (ho : w.ownsRow base e size v n xs) (B : Nat) (A : Option Addr) (m c : Nat) (news : List Value) (hx : a.eval x = .slice A m c) (hr : Rd w B A m size news)
    (h1 : ∀ u ∈ news, u.oneCell' = true) (h63 : n + m ≤ maxLen) (hb : (n + m) * bytes ≤ 140737488355328) (hbase : base ≤ w.heap.size)
    (hK : ∀ v' w', w'.ownsRow base e size v' (n + m) (xs ++ news) → w.grownBy w' v.ownBlock → wpList P ops Q rest (a.put o.dst v') w') : wpList P ops Q (o :: rest) a w := by
  refine BigFrame.wpList_want hw fun K hK' => ?_
  obtain ⟨v', w', r1, r2, r3⟩ := app_run (P := P) (w := w) (ty := o.type) (c := c) ht hi hz hs hby hzs hp ho hr h1 h63 hb hbase
  unfold Oper.wp execOp
  simp only [hop, resolve, invoke, builtin, Sem.run_bind, Sem.run_pure, Result.andThen_ok, List.map_toArray, List.map_cons, List.map_nil, hv, hx, r1]
  exact hK' _ _ (hK v' w' r2 r3)

/-- An empty row that the call made. -/
theorem own_empty (w : World) (e size base N : Nat) (hN : N = w.heap.size) (hb : base ≤ w.heap.size) : (w.alloc (.cells #[] e)).ownsRow base e size (.slice (some ⟨N, 0, none⟩) 0 0) 0 [] := by
  subst hN
  exact World.ownsRow_lit w #[] 0 hb (by unfold maxLen; omega) (by simp)
theorem below_app {B : Nat} {W w w' : World} {base e size n : Nat} {v : Value} {xs : List Value} (hb : Below B W w) (hB : B ≤ base) (hs : B ≤ w.heap.size) (ho : w.ownsRow base e size v n xs) (hg : w.grownBy w' v.ownBlock) : Below B W w' :=
  hb.grown hg hs (fun k hk => Nat.le_trans hB (ho.lt k hk).1)


/-- append as one step of a region that draws. -/
theorem step_app {P : Program} {w : World} {ops : Array Oper} {o : Oper} {a : Act} {K : Act → World → Prop} {Q : Exit → Act → World → Prop} {E : Prop} (hgd : o.guard = none) (s x : Operand) (t : TypeId) (hop : o.op = .call { callee := .builtin .append, args := #[s, x], argTypes := #[t, t] })
    (base e size bytes : Nat) (i : TypeInfo) (z : Value) (ht : P.underlying t = some (.slice e)) (hi : P.info? e = some i) (hz : i.zero = some z) (hs : i.size = size) (hby : i.bytes = bytes) (hzs : z.cells.size = size) (hp : 0 < size)
    (v : Value) (n : Nat) (xs : List Value) (hv : a.eval s = v) (ho : w.ownsRow base e size v n xs) (B : Nat) (A : Option Addr) (m c : Nat) (news : List Value) (hx : a.eval x = .slice A m c) (hr : Rd w B A m size news)
    (h1 : ∀ u ∈ news, u.oneCell' = true) (h63 : n + m ≤ maxLen) (hb : (n + m) * bytes ≤ 140737488355328) (hbase : base ≤ w.heap.size)
    (hK : ∀ v' w', w'.ownsRow base e size v' (n + m) (xs ++ news) → w.grownBy w' v.ownBlock → K (a.put o.dst v') w') :
    if Region.wanted o (yielded ops a.tmps) = true then Oper.wp P o a w K Q else E := by
  have hw : Region.wanted o (yielded ops a.tmps) = true := by simp [Region.wanted, hgd]
  rw [if_pos hw]
  obtain ⟨v', w', r1, r2, r3⟩ := app_run (P := P) (w := w) (ty := o.type) (c := c) ht hi hz hs hby hzs hp ho hr h1 h63 hb hbase
  unfold Oper.wp execOp
  simp only [hop, resolve, invoke, builtin, Sem.run_bind, Sem.run_pure, Result.andThen_ok, List.map_toArray, List.map_cons, List.map_nil, hv, hx, r1]
  exact hK v' w' r2 r3

/-- Waits as a row of cells. -/
def flW (l : List Wt) : List Value := l.flatMap wV
theorem flW_len (l : List Wt) : (flW l).length = l.length * 3 := flat_len wV 3 wV_len l
theorem flW_app (a b : List Wt) : flW (a ++ b) = flW a ++ flW b := by unfold flW; rw [List.flatMap_append]
theorem flW_one (l : List Wt) : ∀ u ∈ flW l, u.oneCell' = true := by
  intro u hu
  unfold flW at hu
  obtain ⟨x, _, hx⟩ := List.mem_flatMap.1 hu
  simp [wV] at hx
  rcases hx with rfl | rfl | rfl <;> rfl
def RdW (w : World) (A : Option Addr) (n : Nat) (l : List Wt) : Prop := l.length = n ∧ Rd w w.heap.size A n 3 (flW l)
theorem RdW.later {w w' : World} {A : Option Addr} {n : Nat} {l : List Wt} (h : RdW w A n l) (hb : Below w.heap.size w w') : RdW w' A n l := ⟨h.1, h.2.later hb⟩
theorem RdW.nil (w : World) (A : Option Addr) : RdW w A 0 [] := ⟨rfl, Rd.nil _ _ _ _⟩
theorem RdW.cells {w : World} {A : Option Addr} {n : Nat} {l : List Wt} (h : RdW w A n l) (h0 : 0 < n) : ∃ b off, A = some ⟨b, off, none⟩ ∧ b < w.heap.size ∧
    ∀ i x, l[i]? = some x → w.cell? ⟨b, off + i * 3, none⟩ = some (.int .i64 x.t) ∧ w.cell? ⟨b, off + i * 3 + 1, none⟩ = some (.int .i64 x.c) ∧ w.cell? ⟨b, off + i * 3 + 2, none⟩ = some (.int .i64 x.v) := by
  obtain ⟨b, off, e, hl, hc⟩ := Rd.at wV_len h.2 h0
  exact ⟨b, off, e, hl, fun i x hx => ⟨hc i x hx 0 (by omega) _ rfl, hc i x hx 1 (by omega) _ rfl, hc i x hx 2 (by omega) _ rfl⟩⟩
theorem RdW.of_row {w : World} {base : Nat} {A : Option Addr} {n c : Nat} {l : List Wt} (hn : l.length = n) (h : w.ownsRow base 87 3 (.slice A n c) n (flW l)) : RdW w A n l := ⟨hn, Rd.of_own h⟩
/-- One wait in a new block. -/
theorem Rd.one (w : World) (x : Wt) (N : Nat) (h : N = w.heap.size) : Rd (w.alloc (.cells #[.int .i64 x.t, .int .i64 x.c, .int .i64 x.v] 87)) (w.alloc (.cells #[.int .i64 x.t, .int .i64 x.c, .int .i64 x.v] 87)).heap.size (some ⟨N, 0, none⟩) 1 3 (flW [x]) := by
  subst h
  exact Rd.new w #[.int .i64 x.t, .int .i64 x.c, .int .i64 x.v] 1 3 87 rfl
end Go.Proofs.YtmadcnpkaijllaaGreat.Ch
namespace Go.Proofs.YtmadcnpkaijllaaGreat.Ch
open Go.RowKit
set_option linter.unusedVariables false
set_option maxRecDepth 100000

theorem inf30 : (Tryz.prog.info? 87).map (fun i => (i.zero, i.size, i.bytes)) = some (some (.agg #[.int .i64 0, .int .i64 0, .int .i64 0]), 3, 24) := by kernel_rfl
theorem grow_blk {w w' : World} {e : TypeId} {base sz n : Nat} {v : Value} {xs : List Value} (ho : w.ownsRow base e sz v n xs) (hg : w.grownBy w' v.ownBlock) {b : Nat} {cs : Array Value} {t : TypeId} {fr : Nat × Nat} (hb : w.heap[b]? = some (.cells cs t fr)) (ht : t ≠ e) : w'.heap[b]? = w.heap[b]? := hg.block b (lt_of_blk hb) fun eq => by
  rcases ho.2 with ⟨rfl, _⟩ | ⟨g, cap, cur, rfl, _, hc, _⟩
  · cases eq
  · cases eq
    exact tag_ne hb hc ht rfl
theorem LQ.grow {w w' : World} {s : Bool} {q : Nat} {R : Rs} {ns : Ns} {e : TypeId} {base sz n : Nat} {v : Value} {xs : List Value} (h : LQ w s q R ns) (ho : w.ownsRow base e sz v n xs) (he : e ≠ 115 ∧ e ≠ 157) (hg : w.grownBy w' v.ownBlock) : LQ w' s q R ns := h.keep fun b hk => by
  rcases hk with rfl | ⟨m, hm, rfl⟩
  · exact grow_blk ho hg h.hq (fun e => he.1 e.symm)
  · obtain ⟨_, hc⟩ := h.isn m hm
    exact grow_blk ho hg hc (fun e => he.2 e.symm)
def AllR (l : List Wt) (w : World) (e : Ending) (w' : World) : Prop := ∃ A c, e = .returned (.slice A l.length c) ∧ RdW w' A l.length l ∧ Below w.heap.size w w'
structure AllS (W : World) (s : Bool) (q : Nat) (R : Rs) (ns pre rest : Ns) (v : Value) (wr : World) : Prop where
  e : ns = pre ++ rest
  lq : LQ wr s q R ns
  row : wr.ownsRow W.heap.size 87 3 v pre.length (flW (pre.map (·.2)))
  bel : Below W.heap.size W wr
theorem AllS.fin {W wr : World} {s : Bool} {q : Nat} {R : Rs} {ns pre : Ns} {v : Value} (h : AllS W s q R ns pre [] v wr) : AllR (ns.map (·.2)) W (.returned v) wr := by
  obtain ⟨e, lq, row, bel⟩ := h
  rw [List.append_nil] at e
  subst e
  obtain ⟨A, c, rfl, _, _⟩ := own_cap row
  refine ⟨A, c, by rw [List.length_map], ?_, bel⟩
  rw [List.length_map]
  exact RdW.of_row (List.length_map ..) row
set_option maxHeartbeats 1000000 in
theorem all_any {w : World} {s : Bool} {q : Nat} {R : Rs} {ns : Ns} (h : LQ w s q R ns) (hl : ns.length ≤ 1000000) : Calls Tryz.prog 91 #[.pointer (some ⟨q, off s, none⟩)] w (AllR (ns.map (·.2)) w) := by
  obtain ⟨i0, hi, hz0, hz1, hz2⟩ := info_parts inf30
  have HL := Lib.hid h
  have HS : Hid (AllS w s q R ns [] ns (.slice none 0 0) w) := ⟨rfl, h, World.ownsRow_nil _ _ _ _, Below.refl _ _⟩
  clear h
  go_enter Tryz.func91, Tryz.ntmps91
  go_wp2_with fail
  refine (head_any HL.out).mono ?_
  rintro e w' ⟨rfl, rfl⟩
  go_wp2_with fail
  go_loopg [3, 4] ns.length (fun m v p wr => ∃ (pre rest : Ns), p = .pointer (adr (hd rest none)) ∧ rest.length = m ∧ Hid (AllS w s q R ns pre rest v wr))
  case atStart => exact ⟨[], ns, rfl, rfl, HS⟩
  case round =>
    obtain ⟨pre, rest, rfl, hm, hS⟩ := hrel
    clear HS HL
    cases rest with
    | nil =>
      rw [hd_nil, adr_none]
      go_wp2_with fail
      go_ret
      exact hS.out.fin
    | cons bx r =>
      obtain ⟨b, x⟩ := bx
      rw [hd_cons, adr_some]
      have hL : LQ wr s q R (pre ++ (b, x) :: r) := by rw [← hS.out.e]; exact hS.out.lq
      have hN := hL.mid.2.1
      have c0 := hN.c0
      have c1 := hN.c1
      have c2 := hN.c2
      have hlen : pre.length < 1000000 := by
        have h3 := congrArg List.length hS.out.e
        rw [List.length_append, List.length_cons] at h3
        omega
      have hsz := hS.out.bel.size
      have HM := Lib.hid hm
      clear hN hL hm
      go_wp2_with (at_builtin; go_loud (refine app_wp rfl (.tmp 13) (.tmp 18) 132 rfl w.heap.size 87 3 24 i0 (.agg #[.int .i64 0, .int .i64 0, .int .i64 0]) Tryz.underlying132 hi hz0 hz1 hz2 rfl (by decide) u3 pre.length (flW (pre.map (·.2))) rfl (hS.out.row.alloc _) _ (some ⟨wr.heap.size, 0, none⟩) 1 1 (flW [x]) rfl (Rd.one wr x _ rfl) (flW_one _) (by unfold maxLen; omega) (by omega) (by simp; omega) ?_; intro v1 w1 ho1 hg1; have hb1 := below_app (hS.out.bel.alloc hsz _) (Nat.le_refl _) (by simp; omega) (hS.out.row.alloc _) hg1; have hL1 : LQ w1 s q R (pre ++ (b, x) :: r) := LQ.grow (LQ.later (by rw [← hS.out.e]; exact hS.out.lq) (below_al _ _)) (hS.out.row.alloc _) (by decide) hg1; have c4 := hL1.mid.2.1.c4; have HS1 : Hid (AllS w s q R ns (pre ++ [(b, x)]) r v1 w1) := ⟨by rw [hS.out.e]; simp, (by rw [hS.out.e]; exact hL1), (by rw [List.length_append, List.map_append, flW_app]; exact ho1), hb1⟩; clear hL1 ho1 hg1 hb1))
      go_roundg r.length
      case measure => have := HM.out; simp at this; omega
      case rel => exact ⟨pre ++ [(b, x)], r, rfl, rfl, HS1⟩
section
variable {w : World} {c : Nat} {F : Nat → Prop} {s : CS}
theorem ch_all (h : CH w F c s) (b : Bool) (hn : (s.q b).length ≤ 1000000) : Calls Tryz.prog 91 #[.pointer (some ⟨c, off b, none⟩)] w (AllR (s.q b) w) := by
  obtain ⟨ro, ns, ms, hF, h⟩ := h
  rw [← h.len b]
  exact all_any (h.lq b) (by rw [pk_len h]; exact hn)
/-- Does another task wait on the other side? -/
def meet (t : Int) (l : List Wt) : Bool := l.any fun x => !isT t x
theorem meets_any (t : Int) (b : Bool) (h : CH w F c s) (hn : (s.q (!b)).length ≤ 1000000) : Calls Tryz.prog 68 #[.pointer (some ⟨c, 0, none⟩), .int .i64 t, .bool b] w fun e w' => e = .returned (.bool (meet t (s.q (!b)))) ∧ Below w.heap.size w w' := by
  have HL := Lib.hid (ch_line h (!b))
  have HA := Lib.hid (ch_all h (!b) hn)
  clear h
  generalize s.q (!b) = l at *
  go_enter Tryz.func68, Tryz.ntmps68
  go_wp2_with fail
  refine HL.out.mono ?_
  rintro e w' ⟨rfl, rfl⟩
  go_wp2_with fail
  refine HA.out.mono ?_
  rintro e w1 ⟨A, n, rfl, h1, h2⟩
  have H1 := Lib.hid h1
  have H2 := Lib.hid h2
  clear h1 h2 HA HL
  go_wp2_with fail
  go_loopw [15] (fun i wr => ∃ k : Nat, k ≤ l.length ∧ i = .int .i64 k ∧ (∀ x ∈ l.take k, isT t x = true) ∧ Hid (Below w1.heap.size w1 wr)) (fun i _ => l.length - (intOf i).toNat)
  case atStart => exact ⟨0, by omega, rfl, by simp, Below.refl _ _⟩
  case round =>
    obtain ⟨k, hk, rfl, hall, hB⟩ := hrel
    by_cases hlt : k < l.length
    · have hW := H1.out.later hB.out
      obtain ⟨bb, o, rfl, hb, hc⟩ := hW.cells (by omega)
      obtain ⟨c0, c1, c2⟩ := hc k (l[k]'hlt) (List.getElem?_eq_getElem hlt)
      have hx : l[k]? = some (l[k]'hlt) := List.getElem?_eq_getElem hlt
      have HT : Hid (l.take (k + 1) = l.take k ++ [l[k]'hlt]) := List.take_succ_eq_append_getElem hlt
      generalize l[k]'hlt = x at *
      obtain ⟨xt, xc, xv⟩ := x
      simp only at c0 c1 c2
      have q1 : (k : Int) < (l.length : Int) := by omega
      have q2 : (l.length : Int) ≤ 1000000 := by omega
      have HX := Lib.hid (List.mem_of_getElem? hx)
      have HB2 := hB.out.alloc hB.out.size (.cells #[.int .i64 xt, .int .i64 xc, .int .i64 xv] 87)
      clear hW hb hc hx hn
      by_cases d : xt = t
      · have d1 : (xt == t) = true := by simp [d]
        have HT2 : Hid (∀ x ∈ l.take (k + 1), isT t x = true) := by
          show ∀ _ ∈ _, _
          rw [HT.out]
          intro y hy
          rcases List.mem_append.1 hy with hy | hy
          · exact hall y hy
          · simp at hy; subst hy; simp [isT, d]
        clear hall HT d
        have HB3 := Lib.hid HB2
        clear HB2
        go_wp2_with fail
        go_roundw
        case rel => exact ⟨k + 1, by omega, by go_num, HT2.out, HB3⟩
        case measure => simp [intOf]; omega
      · have d1 : (xt == t) = false := by simp [d]
        have e : meet t l = true := by
          unfold meet
          rw [List.any_eq_true]
          exact ⟨_, HX.out, by simp [isT, d]⟩
        have HE := Lib.hid e
        have HB3 := Lib.hid HB2
        clear HB2 hall HT d e
        go_wp2_with fail
        go_ret
        exact ⟨ret_bool HE.out.symm, H2.out.trans (HB3.out.mono H2.out.size)⟩
    · obtain rfl : k = l.length := by omega
      have e : meet t l = false := by
        unfold meet
        rw [List.any_eq_false]
        intro x hx
        rw [List.take_length] at hall
        simp [hall x hx]
      have HE := Lib.hid e
      clear hall e hn
      go_wp2_with fail
      go_ret
      exact ⟨ret_bool HE.out.symm, H2.out.trans (hB.out.mono H2.out.size)⟩
end
theorem tm_mod (n c : Int) : n.tmod c % c = n % c := by
  have h := Int.add_mul_emod_self_left (n.tmod c) c (n.tdiv c)
  rw [Int.tmod_add_mul_tdiv] at h
  exact h.symm
end Go.Proofs.YtmadcnpkaijllaaGreat.Ch
