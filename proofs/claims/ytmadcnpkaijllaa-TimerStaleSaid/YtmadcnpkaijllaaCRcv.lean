/- Recv receives. Conditions: each theorem's own premises. -/
import Derived.Test.YtmadcnpkaijllaaCCtr
namespace Go.Proofs.Ytmadcnpkaijllaa.Ch
open Go.RowKit
set_option linter.unusedVariables false
set_option maxRecDepth 100000

theorem results_tmp4 {fn : Func} {t u v x : Tmp} (h : fn.results = #[.tmp t, .tmp u, .tmp v, .tmp x]) (tmps : Array Value) (P : Program) (w : World) :
    (results fn tmps).run P w = .ok (.tuple #[tmps.getD t undef, tmps.getD u undef, tmps.getD v undef, tmps.getD x undef]) w := by
  simp [results, h]
section
variable {w : World} {c : Nat} {F : Nat → Prop} {s : CS}
theorem tn_same {F : Nat → Prop} {w w' : World} (hh : w'.heap = w.heap) (h1 : w'.os = w.os) (h2 : w'.tape = w.tape) (h3 : w'.output = w.output) : Tn F w w' := (Tn.refl F w).draws hh h1 h2 h3
/-- What is received. -/
def rc (s : CS) : CS × Int × Bool × Bool × List Wk := match s.l, s.ss with
  | v :: l, [] => ({ s with l := l }, v, true, true, [])
  | v :: l, x :: r => ({ s with l := l ++ [x.v], ss := r }, v, true, true, [⟨x.t, x.c, 0, true, false⟩])
  | [], x :: r => ({ s with ss := r }, x.v, true, true, [⟨x.t, x.c, 0, true, false⟩])
  | [], [] => (s, 0, false, s.cl, [])
def RcR (F : Nat → Prop) (c : Nat) (g : CS × Int × Bool × Bool × List Wk) (w : World) (e : Ending) (w' : World) : Prop :=
  ∃ A cap, e = .returned (.tuple #[.int .i64 g.2.1, .bool g.2.2.1, .bool g.2.2.2.1, .slice A g.2.2.2.2.length cap]) ∧ RdK w' A g.2.2.2.2.length g.2.2.2.2 ∧ Go F c g.1 w w'
theorem recv_any (h : CH w F c s) (hn : s.ss.length ≤ 1000000) : Calls Try.prog 16 #[.pointer (some ⟨c, 0, none⟩)] w (RcR F c (rc s) w) := by
  obtain ⟨V, c2, _, _, _, hpn, hps, _⟩ := h.ring
  have hle := h.le
  have c0 := h.c0
  cases hl : s.l with
  | nil =>
    have HP := Lib.hid (hpn hl)
    cases hss : s.ss with
    | nil =>
      have e : rc s = (s, 0, false, s.cl, []) := by unfold rc; rw [hl, hss]
      rw [e]
      have HQ : Hid (s.q true = []) := hss
      clear hpn hps h hn hle hl hss e
      go_enter Try.func16, Try.ntmps16
      go_wp2_with fail
      refine HP.out.mono ?_
      rintro e w1 ⟨rfl, F1, hc1, hs1, t1⟩
      have HC1 := Lib.hid hc1
      have HS1 := Lib.hid hs1
      have HT1 := Lib.hid t1
      have c0 := hc1.c0
      clear hc1 hs1 t1 HP
      go_wp2_with fail
      refine (ch_pop_none HC1.out true HQ.out).mono ?_
      rintro e w2 ⟨rfl, F2, hc2, hs2, t2⟩
      have HC2 := Lib.hid (hc2.later (below_al w2 (.cells #[.int .i64 0, .int .i64 0, .int .i64 0] 60)))
      have G := Lib.hid (Go.comp HT1.out HS1.out ⟨F2, hc2, hs2, t2⟩)
      have c1 := HC2.out.c1
      clear hc2 hs2 t2 HT1 HS1 HC1
      unfold wG
      go_wp2_with fail
      go_quiet (fail)
      go_wp2_with fail
      refine bodyPost_ret (results_tmp4 rfl _ _ _) rfl ?_
      exact ⟨none, 0, rfl, RdK.nil _ _, (G.out.later (below_al _ _)).draws rfl rfl rfl rfl⟩
    | cons x r =>
      have e : rc s = ({ s with ss := r }, x.v, true, true, [⟨x.t, x.c, 0, true, false⟩]) := by unfold rc; rw [hl, hss]
      rw [e]
      have HQ : Hid (s.q true = x :: r) := hss
      have HN : Hid (r.length ≤ 1000000) := by rw [hss] at hn; simp at hn; show _ ≤ _; omega
      clear hpn hps h hn hle hl hss e
      go_enter Try.func16, Try.ntmps16
      go_wp2_with fail
      refine HP.out.mono ?_
      rintro e w1 ⟨rfl, F1, hc1, hs1, t1⟩
      have HC1 := Lib.hid hc1
      have HS1 := Lib.hid hs1
      have HT1 := Lib.hid t1
      have c0 := hc1.c0
      clear hc1 hs1 t1 HP
      go_wp2_with fail
      refine (ch_pop_some HC1.out true HQ.out HN.out).mono ?_
      rintro e w2 ⟨rfl, g⟩
      have G := Lib.hid (Go.comp HT1.out HS1.out g)
      clear g HT1 HS1 HC1
      unfold wG
      go_wp2_with fail
      go_region
      go_wp2_with fail
      refine bodyPost_ret (results_tmp4 rfl _ _ _) rfl ?_
      exact ⟨some ⟨_, 0, none⟩, 1, rfl, (RdK.one _ ⟨x.t, x.c, 0, true, false⟩ _ (by simp)).keep (fun _ _ h => rfl), ((G.out.later (below_al _ _)).later (below_al _ _)).draws rfl rfl rfl rfl⟩
  | cons v l =>
    have HP := Lib.hid (hps v l hl)
    cases hss : s.ss with
    | nil =>
      have e : rc s = ({ s with l := l }, v, true, true, []) := by unfold rc; rw [hl, hss]
      rw [e]
      have HQ : Hid (({ s with l := l } : CS).q true = []) := hss
      clear hpn hps h hn hle hl hss e
      go_enter Try.func16, Try.ntmps16
      go_wp2_with fail
      refine HP.out.mono ?_
      rintro e w1 ⟨rfl, F1, hc1, hs1, t1⟩
      have HC1 := Lib.hid hc1
      have HS1 := Lib.hid hs1
      have HT1 := Lib.hid t1
      have c0 := hc1.c0
      clear hc1 hs1 t1 HP
      go_wp2_with fail
      refine (ch_pop_none HC1.out true HQ.out).mono ?_
      rintro e w2 ⟨rfl, g⟩
      have G := Lib.hid (Go.comp HT1.out HS1.out g)
      clear g HT1 HS1 HC1
      unfold wG
      go_wp2_with fail
      refine bodyPost_ret (results_tmp4 rfl _ _ _) rfl ?_
      exact ⟨none, 0, rfl, RdK.nil _ _, G.out.later (below_al _ _)⟩
    | cons x r =>
      have e : rc s = ({ s with l := l ++ [x.v], ss := r }, v, true, true, [⟨x.t, x.c, 0, true, false⟩]) := by unfold rc; rw [hl, hss]
      rw [e]
      have HQ : Hid (({ s with l := l } : CS).q true = x :: r) := hss
      have HN : Hid (r.length ≤ 1000000) := by rw [hss] at hn; simp at hn; show _ ≤ _; omega
      have HL : Hid (l.length < s.sz) := by rw [hl] at hle; simp at hle; show _ < _; omega
      clear hpn hps h hn hle hl hss e
      go_enter Try.func16, Try.ntmps16
      go_wp2_with fail
      refine HP.out.mono ?_
      rintro e w1 ⟨rfl, F1, hc1, hs1, t1⟩
      have HC1 := Lib.hid hc1
      have HS1 := Lib.hid hs1
      have HT1 := Lib.hid t1
      have c0 := hc1.c0
      clear hc1 hs1 t1 HP
      go_wp2_with fail
      refine (ch_pop_some HC1.out true HQ.out HN.out).mono ?_
      rintro e w2 ⟨rfl, F2, hc2, hs2, t2⟩
      have HC2 : Hid (CH (w2.alloc (.cells #[.int .i64 x.t, .int .i64 x.c, .int .i64 x.v] 60)) F2 c ⟨s.kd, s.cl, s.sz, l, r, s.rs⟩) := hc2.later (below_al w2 _)
      have hg1 : ∀ sx w3, Go F2 c sx (w2.alloc (.cells #[.int .i64 x.t, .int .i64 x.c, .int .i64 x.v] 60)) w3 → Go F c sx w w3 := fun sx w3 g => Go.comp HT1.out HS1.out (Go.comp t2 hs2 g.early)
      have HG1 := Lib.hid hg1
      have hk : (w2.alloc (.cells #[.int .i64 x.t, .int .i64 x.c, .int .i64 x.v] 60)).heap[w2.heap.size]? = some (.cells #[.int .i64 x.t, .int .i64 x.c, .int .i64 x.v] 60 (0, 0)) := heap_alloc_new _ _
      have HNI := Lib.hid (not_isc hk (by decide))
      have HK := Lib.hid hk
      have HZ := Lib.hid (lt_of_blk hk)
      clear hc2 hs2 t2 HT1 HS1 HC1 hg1 hk
      obtain ⟨V2, c2', _, _, _, _, _, hpush, _⟩ := HC2.out.ring
      have HPU : Hid (∀ w3 : World, w3.heap = (w2.alloc (.cells #[.int .i64 x.t, .int .i64 x.c, .int .i64 x.v] 60)).heap → w3.os = w2.os → w3.tape = w2.tape → w3.output = w2.output → Calls Try.prog 36 #[.pointer V2, .int .i64 x.v] w3 fun e w' => e = .returned (.bool true) ∧ Go F c ⟨s.kd, s.cl, s.sz, l ++ [x.v], r, s.rs⟩ w w' ∧ Hid (w'.heap[w2.heap.size]? = some (.cells #[.int .i64 x.t, .int .i64 x.c, .int .i64 x.v] 60 (0, 0)))) := by
        intro w3 e1 e2 e3 e4
        obtain ⟨V3, c3, _, _, _, _, _, hp3, _⟩ := (HC2.out.keep (w' := w3) fun _ _ => by rw [e1]).ring
        have hV : V3 = V2 := by
          have h9 := (cell_blk (w := w2.alloc (.cells #[.int .i64 x.t, .int .i64 x.c, .int .i64 x.v] 60)) (w' := w3) (b := c) (by rw [e1]) 2).symm.trans c3
          rw [c2'] at h9
          injection h9 with h9; injection h9 with h9; exact h9.symm
        subst hV
        refine (hp3 x.v HL.out).mono ?_
        rintro e w4 ⟨rfl, g⟩
        have hk3 : w3.heap[w2.heap.size]? = some (.cells #[.int .i64 x.t, .int .i64 x.c, .int .i64 x.v] 60 (0, 0)) := by rw [e1]; exact HK.out
        exact ⟨rfl, HG1.out _ _ (Go.comp (tn_same e1 e2 e3 e4) (fun b hb => .inl hb) g), (g.other (HC2.out.keep (w' := w3) fun _ _ => by rw [e1]) (lt_of_blk hk3) (not_isc hk3 (by decide))).trans hk3⟩
      clear HG1 HC2 HK hpush
      unfold wG
      go_wp2_with fail
      go_region_with (go_at_call 36; go_loud (refine (HPU.out _ (by rfl) (by rfl) (by rfl) (by rfl)).mono ?_; rintro e w4 ⟨rfl, g, hk4⟩; have G := Lib.hid g; have a0 := cell_of_row w4 w2.heap.size 0 _ _ _ hk4.out; have a1 := cell_of_row w4 w2.heap.size 1 _ _ _ hk4.out; simp only [List.getElem?_toArray, List.getElem?_cons_succ, List.getElem?_cons_zero] at a0 a1; clear g hk4 HPU))
      all_goals
        go_wp2_with fail
        go_region
        go_wp2_with fail
        refine bodyPost_ret (results_tmp4 rfl _ _ _) rfl ?_
        exact ⟨some ⟨_, 0, none⟩, 1, rfl, (RdK.one _ ⟨x.t, x.c, 0, true, false⟩ _ (by simp)).keep (fun _ _ h => rfl), (G.out.later (below_al _ _)).draws rfl rfl rfl rfl⟩
end
end Go.Proofs.Ytmadcnpkaijllaa.Ch
