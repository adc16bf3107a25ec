/- Push puts one behind, Pop takes the first one. Conditions: each theorem's own premises.
Remove takes a task out. Conditions: the Queue holds ns, not too many.
A channel in memory: its block, its ring, its two queues; what carries it. No condition. -/
import Derived.Test.YtdpapnfjpefhkaaCRngm
import Derived.Maps.OwnSet
namespace Go.Proofs.Ytdpapnfjpefhkaa.Ch
open Go.RowKit
set_option linter.unusedVariables false
set_option maxRecDepth 100000

def PushR (s : Bool) (q : Nat) (R : Rs) (ns : Ns) (x : Wt) (w : World) (e : Ending) (w' : World) : Prop := e = .returned (.int .i64 ((ns.length : Int) + 1)) ∧ ∃ b, w.heap.size ≤ b ∧ LQ w' s q R (ns ++ [(b, x)]) ∧ Tn (qF q ns) w w'
theorem PushR.draw {s : Bool} {q : Nat} {R : Rs} {ns : Ns} {x : Wt} {w w' w'' : World} {e : Ending} (h : PushR s q R ns x w e w') (hh : w''.heap = w'.heap) (h1 : w''.os = w'.os) (h2 : w''.tape = w'.tape) (h3 : w''.output = w'.output) : PushR s q R ns x w e w'' := by
  obtain ⟨e, b, h4, h5, h6⟩ := h
  exact ⟨e, b, h4, h5.keep (fun k _ => by rw [hh]), h6.draws hh h1 h2 h3⟩

section
variable {w : World} {s : Bool} {q : Nat} {R : Rs}
/-- With a new link, before it is hung on. -/
theorem two_al (w : World) (o o2 : Obj) : Below w.heap.size w ((w.alloc o).alloc o2) := (below_al w o).alloc (by simp) o2
theorem nd_new (w : World) (o : Obj) (x : Wt) (p : Option Nat) : Nd ((w.alloc o).alloc (.cells #[.int .i64 x.t, .int .i64 x.c, .int .i64 x.v, .pointer (adr p), .pointer none] 161)) (w.heap.size + 1) x p none := by
  have := heap_alloc_new (w.alloc o) (.cells #[.int .i64 x.t, .int .i64 x.c, .int .i64 x.v, .pointer (adr p), .pointer none] 161)
  rw [World.size_alloc] at this
  exact this
theorem PushR.one (h : LQ w s q R []) (o : Obj) (x : Wt) :
    PushR s q R [] x w (.returned (.int .i64 1)) (((((w.alloc o).alloc (.cells #[.int .i64 x.t, .int .i64 x.c, .int .i64 x.v, .pointer (adr none), .pointer none] 161)).setCell ⟨q, off s, none⟩ (.pointer (adr (some (w.heap.size + 1))))).setCell ⟨q, off s + 1, none⟩ (.pointer (adr (some (w.heap.size + 1))))).setCell ⟨q, off s + 2, none⟩ (.int .i64 1)) := by
  have hb := two_al w o (.cells #[.int .i64 x.t, .int .i64 x.c, .int .i64 x.v, .pointer (adr none), .pointer none] 161)
  have hN := nd_new w o x none
  have h2 := h.later hb
  have hq := h.lt.1
  have hne : w.heap.size + 1 ≠ q := by omega
  refine ⟨rfl, w.heap.size + 1, by omega, ⟨?_, ⟨?_, trivial⟩, by simp⟩, ?_⟩
  · exact ((h2.hq.s0 _).s1 _).s2 1
  · exact ((hN.keep (Below.heap_setCell _ _ _ _ hne)).keep (Below.heap_setCell _ _ _ _ hne)).keep (Below.heap_setCell _ _ _ _ hne)
  · exact (((Tn.of_below hb).set (.inl fq) _).set (.inl fq) _).set (.inl fq) _
theorem PushR.more {ns : Ns} {a : Nat} {y : Wt} (h : LQ w s q R (ns ++ [(a, y)])) (o : Obj) (x : Wt) :
    PushR s q R (ns ++ [(a, y)]) x w (.returned (.int .i64 ((ns.length : Int) + 2))) (((((w.alloc o).alloc (.cells #[.int .i64 x.t, .int .i64 x.c, .int .i64 x.v, .pointer (adr (some a)), .pointer none] 161)).setCell ⟨a, 4, none⟩ (.pointer (adr (some (w.heap.size + 1))))).setCell ⟨q, off s + 1, none⟩ (.pointer (adr (some (w.heap.size + 1))))).setCell ⟨q, off s + 2, none⟩ (.int .i64 ((ns.length : Int) + 2))) := by
  have hb := two_al w o (.cells #[.int .i64 x.t, .int .i64 x.c, .int .i64 x.v, .pointer (adr (some a)), .pointer none] 161)
  have hN := nd_new w o x (some a)
  have h2 := h.later hb
  obtain ⟨hq, hs⟩ := h.lt
  have hne : w.heap.size + 1 ≠ q := by omega
  have hna := h.ne (a, y) (by simp)
  have hsa := hs (a, y) (by simp)
  simp only at hna hsa
  have hql : ∀ m ∈ ns ++ [(a, y)], m.1 ≠ q := h.ne
  have e2 : (((ns ++ [(a, y)] ++ [(w.heap.size + 1, x)]).length : Nat) : Int) = (ns.length : Int) + 2 := by simp
  refine ⟨ret_int (by simp; omega), w.heap.size + 1, by omega, ⟨?_, ?_, ?_⟩, ?_⟩
  · have hQ := h2.hq
    rw [hd_app] at hQ
    rw [hd_app, hd_app, lst_snoc]
    have hQ2 := Hd.s2 (Hd.s1 (hQ.keep (Below.heap_setCell _ ⟨a, 4, none⟩ (.pointer (adr (some (w.heap.size + 1)))) _ (by exact fun e => hna e.symm))) (some (w.heap.size + 1))) (ns ++ [(a, y)] ++ [(w.heap.size + 1, x)]).length
    rw [e2] at hQ2
    exact hQ2
  · refine (Sg.app _ _ _ _).2 ⟨?_, ?_, trivial⟩
    · exact Sg.other (Sg.other (Sg.next h2.sg (nodup_last h.nd) (some (w.heap.size + 1))) hql) hql
    · rw [lst_snoc]
      exact ((hN.keep (Below.heap_setCell _ _ _ _ (by show w.heap.size + 1 ≠ a; omega))).keep (Below.heap_setCell _ _ _ _ hne)).keep (Below.heap_setCell _ _ _ _ hne)
  · rw [List.map_append, List.nodup_append]
    refine ⟨h.nd, by simp, fun c hc d hd' => ?_⟩
    obtain ⟨m, hm, rfl⟩ := List.mem_map.1 hc
    simp at hd'; subst hd'
    have := hs m hm
    omega
  · exact (((Tn.of_below hb).set (.inl (fn (m := (a, y)) (by simp))) _).set (.inl fq) _).set (.inl fq) _

theorem push_one (x : Wt) (h : LQ w s q R []) : Calls Try.prog 48 #[.pointer (some ⟨q, off s, none⟩), wG x] w (PushR s q R [] x w) := by
  have hq := h.lt.1
  have HE := PushR.one h (.cells #[.int .i64 x.t, .int .i64 x.c, .int .i64 x.v] 65) x
  repeat rw [World.setCell_alloc_past _ _ _ _ (by first | omega | (simp; omega))] at HE
  replace HE := Lib.hid HE
  have q0 := h.hq.c0
  have q1 := h.hq.c1
  have q2 : w.cell? ⟨q, off s + 2, none⟩ = some (.int .i64 0) := h.hq.c2
  have f0 := h.hq.fz (off s)
  have f1 := h.hq.fz (off s + 1)
  have f2 := h.hq.fz (off s + 2)
  simp only [hd, lst, adr_none] at q0 q1
  unfold wG
  clear h
  cases s
  all_goals
    simp only [off, Nat.reduceAdd] at *
    go_enter Try.func48, Try.ntmps48
    go_wp2_with fail
    go_region
    go_wp2
    go_ret
    exact HE.out.draw rfl rfl rfl rfl
theorem push_more (x : Wt) {ns : Ns} {a : Nat} {y : Wt} (h : LQ w s q R (ns ++ [(a, y)])) (hl : ns.length ≤ 1000000) : Calls Try.prog 48 #[.pointer (some ⟨q, off s, none⟩), wG x] w (PushR s q R (ns ++ [(a, y)]) x w) := by
  have hq := h.lt.1
  have ha := h.lt.2 (a, y) (by simp)
  simp only at ha
  have HE := PushR.more h (.cells #[.int .i64 x.t, .int .i64 x.c, .int .i64 x.v] 65) x
  repeat rw [World.setCell_alloc_past _ _ _ _ (by first | omega | (simp; omega))] at HE
  replace HE := Lib.hid HE
  have hna := h.ne (a, y) (by simp)
  have hA := ((Sg.app _ _ _ _).1 h.sg).2.1
  have a4 := hA.c4
  have fa := hA.fz 4
  have q1 := h.hq.c1
  have q2 : w.cell? ⟨q, off s + 2, none⟩ = some (.int .i64 ((ns.length : Int) + 1)) := by have := h.hq.c2; rw [this]; simp
  rw [lst_snoc] at q1
  have f1 := h.hq.fz (off s + 1)
  have f2 := h.hq.fz (off s + 2)
  simp only [hd, adr_none, adr_some] at q1 a4 hna
  have k1 : (ns.length : Int) + 1 + 1 = (ns.length : Int) + 2 := by omega
  unfold wG
  clear h hA
  cases s
  all_goals
    simp only [off, Nat.reduceAdd] at *
    go_enter Try.func48, Try.ntmps48
    go_wp2_with fail
    go_region
    go_wp2
    go_ret
    exact HE.out.draw rfl rfl rfl rfl
end
theorem push_any {w : World} {s : Bool} {q : Nat} {R : Rs} {ns : Ns} (x : Wt) (h : LQ w s q R ns) (hl : ns.length ≤ 1000000) : Calls Try.prog 48 #[.pointer (some ⟨q, off s, none⟩), wG x] w (PushR s q R ns x w) := by
  rcases snoc_cases ns with rfl | ⟨l0, a, y, rfl⟩
  · exact push_one x h
  · exact push_more x h (by simp at hl; omega)

def PopR (s : Bool) (q : Nat) (R : Rs) (ns ns' : Ns) (x : Wt) (b : Bool) (w : World) (e : Ending) (w' : World) : Prop := e = .returned (.tuple #[wG x, .bool b]) ∧ LQ w' s q R ns' ∧ Tn (qF q ns) w w'
theorem LQ.setN {w : World} {s : Bool} {q : Nat} {R : Rs} {ns : Ns} {g i : Nat} (h : LQ w s q R ns) (hg : ¬ qF q ns g) (v : Value) : LQ (w.setCell ⟨g, i, none⟩ v) s q R ns :=
  h.keep fun k hk => Below.heap_setCell _ _ _ _ (by rintro rfl; exact hg hk)
theorem pop_none {w : World} {s : Bool} {q : Nat} {R : Rs} (h : LQ w s q R []) : Calls Try.prog 75 #[.pointer (some ⟨q, off s, none⟩)] w (PopR s q R [] [] ⟨0, 0, 0⟩ false w) := by
  have HR := Lib.hid (h.later (below_al w (.cells #[.int .i64 0, .int .i64 0, .int .i64 0] 65)))
  clear h
  go_enter Try.func75, Try.ntmps75
  go_wp2_with fail
  refine (head_any HR.out).mono ?_
  rintro e w' ⟨rfl, rfl⟩
  simp only [hd, adr_none]
  go_wp2_with fail
  refine bodyPost_ret (v := .tuple #[wG ⟨0, 0, 0⟩, .bool false]) ?_ rfl ⟨rfl, HR.out, Tn.of_below (below_al _ _)⟩
  rw [results_cell_tmp rfl]; go_simp; rfl
theorem pop_some {w : World} {s : Bool} {q : Nat} {R : Rs} {b : Nat} {x : Wt} {r : Ns} (h : LQ w s q R ((b, x) :: r)) (hl : r.length ≤ 1000000) : Calls Try.prog 75 #[.pointer (some ⟨q, off s, none⟩)] w (PopR s q R ((b, x) :: r) r x true w) := by
  have HR := Lib.hid (h.later (below_al w (.cells #[.int .i64 0, .int .i64 0, .int .i64 0] 65)))
  have HB := Lib.hid (fun k hk => h.fl (k := k) hk)
  have hbs := h.lt.2 (b, x) (by simp)
  simp only at hbs
  clear h
  go_enter Try.func75, Try.ntmps75
  go_wp2_with fail
  refine (head_any HR.out).mono ?_
  rintro e w' ⟨rfl, rfl⟩
  simp only [hd, adr_some]
  go_wp2_with fail
  refine (cut_any (l := []) HR.out (by simp) hl).mono ?_
  rintro e w' ⟨rfl, h2, hb, hf⟩
  have hN : Nd w' b x none (hd r none) := Nd.keep HR.out.sg.1 hb
  have c0 := hN.c0
  have c1 := hN.c1
  have c2 := hN.c2
  have hs := hf.size
  have hnf : ¬ qF q ((b, x) :: r) w.heap.size := fun hk => Nat.lt_irrefl _ (HB.out _ hk)
  have hres : w'.heap[w.heap.size]? = some (.cells #[.int .i64 0, .int .i64 0, .int .i64 0] 65 (0, 0)) := (hf.block _ (by simp) hnf).trans (heap_alloc_new _ _)
  have hne : b ≠ w.heap.size := by omega
  have d0 : w'.cell? ⟨w.heap.size, 0, none⟩ = some (.int .i64 0) := by rw [cell_of_row w' _ 0 _ _ _ hres]; rfl
  have d1 : w'.cell? ⟨w.heap.size, 1, none⟩ = some (.int .i64 0) := by rw [cell_of_row w' _ 1 _ _ _ hres]; rfl
  have d2 : w'.cell? ⟨w.heap.size, 2, none⟩ = some (.int .i64 0) := by rw [cell_of_row w' _ 2 _ _ _ hres]; rfl
  have e0 := frozen_of_row w' w.heap.size 0 _ _ hres
  have e1 := frozen_of_row w' w.heap.size 1 _ _ hres
  have e2 := frozen_of_row w' w.heap.size 2 _ _ hres
  have H2 : Hid (LQ w' s q R r) := h2
  have HF : Hid (Tn (qF q ((b, x) :: r)) w w') := hf.early
  have HN : Hid (¬ qF q r w.heap.size) := fun hk => hnf (qF_sub (fun m hm => List.mem_cons_of_mem _ hm) _ hk)
  clear hres hN h2 hb hf hs HR hnf HB
  go_wp2_with fail
  refine bodyPost_ret (v := .tuple #[wG x, .bool true]) ?_ rfl ⟨rfl, ((H2.out.setN HN.out _).setN HN.out _).setN HN.out _, ((HF.out.set (.inr (Nat.le_refl _)) _).set (.inr (Nat.le_refl _)) _).set (.inr (Nat.le_refl _)) _⟩
  rw [results_cell_tmp rfl]; go_simp; rfl
end Go.Proofs.Ytdpapnfjpefhkaa.Ch
namespace Go.Proofs.Ytdpapnfjpefhkaa.Ch
open Go.RowKit
set_option linter.unusedVariables false
set_option maxRecDepth 100000

def isT (t : Int) (x : Wt) : Bool := x.t == t
def kp (t : Int) (ns : Ns) : Ns := ns.filter fun m => !isT t m.2
def ct (t : Int) (ns : Ns) : Nat := ns.countP fun m => isT t m.2
def RemR (s : Bool) (q : Nat) (R : Rs) (t : Int) (ns : Ns) (w : World) (e : Ending) (w' : World) : Prop := e = .returned (.int .i64 (ct t ns : Int)) ∧ LQ w' s q R (kp t ns) ∧ Tn (qF q ns) w w'
structure RemS (W : World) (s : Bool) (q : Nat) (R : Rs) (ns : Ns) (t : Int) (pre rest : Ns) (k : Nat) (wr : World) : Prop where
  e : ns = pre ++ rest
  lq : LQ wr s q R (kp t pre ++ rest)
  fr : Tn (qF q ns) W wr
  hk : k = ct t pre
theorem kp_sub (t : Int) (ns : Ns) : ∀ m ∈ kp t ns, m ∈ ns := fun m hm => (List.mem_filter.1 hm).1
theorem RemS.sub {W wr : World} {s : Bool} {q : Nat} {R : Rs} {ns : Ns} {t : Int} {pre rest : Ns} {k : Nat} (h : RemS W s q R ns t pre rest k wr) : ∀ m ∈ kp t pre ++ rest, m ∈ ns := fun m hm => by
  rw [h.e]
  rcases List.mem_append.1 hm with hm | hm
  · exact List.mem_append_left _ (kp_sub t pre m hm)
  · exact List.mem_append_right _ hm
theorem kp_le (t : Int) (ns : Ns) : (kp t ns).length ≤ ns.length := List.length_filter_le _ _
theorem ct_le (t : Int) (ns : Ns) : ct t ns ≤ ns.length := List.countP_le_length
theorem kp_out {t : Int} {x : Wt} (h : isT t x = true) (pre : Ns) (b : Nat) : kp t (pre ++ [(b, x)]) = kp t pre := by simp [kp, List.filter_append, h]
theorem kp_in {t : Int} {x : Wt} (h : isT t x = false) (pre : Ns) (b : Nat) : kp t (pre ++ [(b, x)]) = kp t pre ++ [(b, x)] := by simp [kp, List.filter_append, h]
theorem ct_out {t : Int} {x : Wt} (h : isT t x = true) (pre : Ns) (b : Nat) : ct t (pre ++ [(b, x)]) = ct t pre + 1 := by simp [ct, List.countP_append, h]
theorem ct_in {t : Int} {x : Wt} (h : isT t x = false) (pre : Ns) (b : Nat) : ct t (pre ++ [(b, x)]) = ct t pre := by simp [ct, List.countP_append, h]
theorem kp_map (t : Int) (ns : Ns) : (kp t ns).map (·.2) = (ns.map (·.2)).filter fun x => !isT t x := by simp [kp, List.filter_map]; rfl
theorem ct_map (t : Int) (ns : Ns) : ct t ns = (ns.map (·.2)).countP (isT t) := by simp [ct, List.countP_map]; rfl
end Go.Proofs.Ytdpapnfjpefhkaa.Ch
namespace Go.Proofs.Ytdpapnfjpefhkaa.Ch
open Go.RowKit
set_option linter.unusedVariables false
set_option maxRecDepth 100000

def Wf (x : Int) : Prop := (Lit.int .i64 x).wf = true
theorem wf_of {x : Int} (h1 : -9223372036854775808 ≤ x) (h2 : x ≤ 9223372036854775807) : Wf x := WalkArith.wf_i64 ⟨h1, h2⟩
/-- What a channel is: its kind, closed or not, its size, its values, who waits to send, and to receive. -/
structure CS where
  kd : Nat
  cl : Bool
  sz : Nat
  l : List Int
  ss : List Wt
  rs : List Wt
def CS.q (s : CS) : Bool → List Wt
  | true => s.ss
  | false => s.rs
def CS.sq (s : CS) : Bool → List Wt → CS
  | true, l => { s with ss := l }
  | false, l => { s with rs := l }
def pk : Bool → Ns → Ns → Ns
  | true, ns, _ => ns
  | false, _, ms => ms
def vp (ro : Option (Nat × Nat)) : Option Addr := ro.map fun m => ⟨m.1, 0, none⟩
def RX (w : World) (sz : Nat) (l : List Int) : Option (Nat × Nat) → Prop
  | none => sz = 0 ∧ l = []
  | some m => RG w m.1 m.2 sz l
def rF (k : Nat) : Option (Nat × Nat) → Prop
  | none => False
  | some m => k = m.1 ∨ k = m.2
def cB (kd : Nat) (cl : Bool) (V : Option Addr) (ns ms : Ns) : Array Value := #[.int .i64 kd, .bool cl, .pointer V, .pointer (adr (hd ns none)), .pointer (adr (lst ns none)), .int .i64 ns.length, .pointer (adr (hd ms none)), .pointer (adr (lst ms none)), .int .i64 ms.length]
def rst (kd : Nat) (cl : Bool) (V : Option Addr) (os : Ns) : Rs := ⟨.int .i64 kd, .bool cl, .pointer V, .pointer (adr (hd os none)), .pointer (adr (lst os none)), .int .i64 os.length⟩
def own (c : Nat) (ro : Option (Nat × Nat)) (ns ms : Ns) (k : Nat) : Prop := k = c ∨ rF k ro ∨ (∃ m ∈ ns, m.1 = k) ∨ ∃ m ∈ ms, m.1 = k

structure CX (w : World) (c : Nat) (ro : Option (Nat × Nat)) (ns ms : Ns) (s : CS) : Prop where
  hb : w.heap[c]? = some (.cells (cB s.kd s.cl (vp ro) ns ms) 128 (0, 0))
  s1 : Sg w none ns none
  s2 : Sg w none ms none
  nd : ((ns ++ ms).map (·.1)).Nodup
  rx : RX w s.sz s.l ro
  es : ns.map (·.2) = s.ss
  er : ms.map (·.2) = s.rs
  kd : s.kd ≤ 2
  sz : s.sz ≤ 64
  wf : ∀ b, ∀ x ∈ s.q b, Wf x.t

theorem nd_two {ns ms : Ns} : ((ns ++ ms).map (·.1)).Nodup ↔ (ns.map (·.1)).Nodup ∧ (ms.map (·.1)).Nodup ∧ ∀ m ∈ ns, ∀ k ∈ ms, m.1 ≠ k.1 := by
  simp only [List.map_append, List.nodup_append, List.mem_map]
  constructor
  · rintro ⟨h1, h2, h3⟩; exact ⟨h1, h2, fun m hm k hk => h3 _ ⟨m, hm, rfl⟩ _ ⟨k, hk, rfl⟩⟩
  · rintro ⟨h1, h2, h3⟩
    refine ⟨h1, h2, ?_⟩
    rintro _ ⟨m, hm, rfl⟩ _ ⟨k, hk, rfl⟩
    exact h3 m hm k hk
/-- A block of a channel's, by its tag. -/
def IsC (w : World) (k : Nat) : Prop := ∃ cs t, w.heap[k]? = some (.cells cs t (0, 0)) ∧ (t = 128 ∨ t = 186 ∨ t = 3 ∨ t = 161)
theorem isc_lt {w : World} {k : Nat} (h : IsC w k) : k < w.heap.size := by obtain ⟨_, _, h, _⟩ := h; exact lt_of_blk h
theorem not_isc {w : World} {k : Nat} {cs : Array Value} {t : TypeId} {fr : Nat × Nat} (h : w.heap[k]? = some (.cells cs t fr)) (ht : t ≠ 128 ∧ t ≠ 186 ∧ t ≠ 3 ∧ t ≠ 161) : ¬ IsC w k := by
  rintro ⟨cs', t', h1, h2⟩
  rw [h] at h1
  cases h1
  rcases h2 with h2 | h2 | h2 | h2
  · exact ht.1 h2
  · exact ht.2.1 h2
  · exact ht.2.2.1 h2
  · exact ht.2.2.2 h2
theorem tag_ne {w : World} {a b : Nat} {cs ds : Array Value} {t u : TypeId} {f g : Nat × Nat} (h : w.heap[a]? = some (.cells cs t f)) (k : w.heap[b]? = some (.cells ds u g)) (hn : t ≠ u) : a ≠ b := by
  rintro rfl; rw [h] at k; cases k; exact hn rfl
section
variable {w w' : World} {c : Nat} {ro : Option (Nat × Nat)} {ns ms : Ns} {s : CS}
theorem CX.n1 (h : CX w c ro ns ms s) : ∀ m ∈ ns, ∃ cs, w.heap[m.1]? = some (.cells cs 161 (0, 0)) := Sg.tag _ _ _ h.s1
theorem CX.n2 (h : CX w c ro ns ms s) : ∀ m ∈ ms, ∃ cs, w.heap[m.1]? = some (.cells cs 161 (0, 0)) := Sg.tag _ _ _ h.s2
theorem CX.rt (h : CX w c ro ns ms s) : ∀ k, rF k ro → ∃ cs t, w.heap[k]? = some (.cells cs t (0, 0)) ∧ (t = 186 ∨ t = 3) := fun k hk => by
  cases ro with
  | none => exact hk.elim
  | some m =>
    obtain ⟨f, ps, hr⟩ := h.rx
    rcases hk with rfl | rfl
    · exact ⟨_, _, hr.ha, .inl rfl⟩
    · exact ⟨_, _, hr.hp, .inr rfl⟩
theorem CX.tag (h : CX w c ro ns ms s) {k : Nat} (hk : own c ro ns ms k) : IsC w k := by
  rcases hk with rfl | hk | ⟨m, hm, rfl⟩ | ⟨m, hm, rfl⟩
  · exact ⟨_, _, h.hb, .inl rfl⟩
  · obtain ⟨cs, t, h1, h2⟩ := h.rt k hk
    exact ⟨cs, t, h1, by rcases h2 with h2 | h2 <;> simp [h2]⟩
  · obtain ⟨cs, h1⟩ := h.n1 m hm
    exact ⟨cs, _, h1, by simp⟩
  · obtain ⟨cs, h1⟩ := h.n2 m hm
    exact ⟨cs, _, h1, by simp⟩
theorem RX.keep {sz : Nat} {l : List Int} (h : RX w sz l ro) (k : ∀ b, rF b ro → w'.heap[b]? = w.heap[b]?) : RX w' sz l ro := by
  cases ro with
  | none => exact h
  | some m => exact RG.keep h (k _ (.inl rfl)) (k _ (.inr rfl))
theorem CX.keep (h : CX w c ro ns ms s) (k : ∀ b, own c ro ns ms b → w'.heap[b]? = w.heap[b]?) : CX w' c ro ns ms s :=
  ⟨by rw [k c (.inl rfl)]; exact h.hb, Sg.keep _ _ _ (fun m hm => k _ (.inr (.inr (.inl ⟨m, hm, rfl⟩)))) h.s1, Sg.keep _ _ _ (fun m hm => k _ (.inr (.inr (.inr ⟨m, hm, rfl⟩)))) h.s2, h.nd, h.rx.keep (fun b hb => k b (.inr (.inl hb))), h.es, h.er, h.kd, h.sz, h.wf⟩
theorem CX.lq (h : CX w c ro ns ms s) : ∀ b, LQ w b c (rst s.kd s.cl (vp ro) (pk (!b) ns ms)) (pk b ns ms)
  | true => ⟨h.hb, h.s1, (nd_two.1 h.nd).1⟩
  | false => ⟨h.hb, h.s2, (nd_two.1 h.nd).2.1⟩
theorem CX.len (h : CX w c ro ns ms s) : ∀ b, (pk b ns ms).map (·.2) = s.q b
  | true => h.es
  | false => h.er
theorem CX.c0 (h : CX w c ro ns ms s) : w.cell? ⟨c, 0, none⟩ = some (.int .i64 s.kd) := by rw [cell_of_row w c 0 _ _ _ h.hb]; rfl
theorem CX.c1 (h : CX w c ro ns ms s) : w.cell? ⟨c, 1, none⟩ = some (.bool s.cl) := by rw [cell_of_row w c 1 _ _ _ h.hb]; rfl
theorem CX.c2 (h : CX w c ro ns ms s) : w.cell? ⟨c, 2, none⟩ = some (.pointer (vp ro)) := by rw [cell_of_row w c 2 _ _ _ h.hb]; rfl
theorem CX.fz (h : CX w c ro ns ms s) (i : Nat) : w.frozen? ⟨c, i, none⟩ = false := frozen_of_row w c i _ _ h.hb
/-- One queue has turned. -/
theorem CX.turn (h : CX w c ro ns ms s) {ns' : Ns} (b : Bool) (q : LQ w' b c (rst s.kd s.cl (vp ro) (pk (!b) ns ms)) ns') (t : Tn (qF c (pk b ns ms)) w w') (hs : ∀ m ∈ ns', m ∈ pk b ns ms ∨ w.heap.size ≤ m.1) (hw : ∀ m ∈ ns', Wf m.2.t) :
    CX w' c ro (pk b ns' ns) (pk b ms ns') (s.sq b (ns'.map (·.2))) := by
  obtain ⟨n1, n2, n3⟩ := nd_two.1 h.nd
  have hr : RX w' s.sz s.l ro := h.rx.keep fun k hk => by
    obtain ⟨cs, t', h1, h2⟩ := h.rt k hk
    refine t.block k (lt_of_blk h1) ?_
    have ht : t' ≠ 128 ∧ t' ≠ 161 := by rcases h2 with rfl | rfl <;> decide
    rintro (rfl | ⟨m, hm, rfl⟩)
    · exact tag_ne h1 h.hb ht.1 rfl
    · cases b with
      | true => obtain ⟨_, h3⟩ := h.n1 m hm; exact tag_ne h1 h3 ht.2 rfl
      | false => obtain ⟨_, h3⟩ := h.n2 m hm; exact tag_ne h1 h3 ht.2 rfl
  cases b with
  | true =>
    refine ⟨q.hq, q.sg, Sg.keep _ _ _ (fun m hm => ?_) h.s2, nd_two.2 ⟨q.nd, n2, fun m hm k hk => ?_⟩, hr, rfl, h.er, h.kd, h.sz, fun b x hx => ?_⟩
    · obtain ⟨_, h3⟩ := h.n2 m hm
      refine t.block _ (lt_of_blk h3) ?_
      rintro (e | ⟨k, hk, e⟩)
      · exact tag_ne h3 h.hb (by decide) e
      · exact n3 k hk m hm e
    · rcases hs m hm with h1 | h1
      · exact n3 m h1 k hk
      · obtain ⟨_, h3⟩ := h.n2 k hk
        have := lt_of_blk h3; omega
    · cases b with
      | true => obtain ⟨m, hm, rfl⟩ := List.mem_map.1 hx; exact hw m hm
      | false => exact h.wf false x hx
  | false =>
    refine ⟨q.hq, Sg.keep _ _ _ (fun m hm => ?_) h.s1, q.sg, nd_two.2 ⟨n1, q.nd, fun m hm k hk => ?_⟩, hr, h.es, rfl, h.kd, h.sz, fun b x hx => ?_⟩
    · obtain ⟨_, h3⟩ := h.n1 m hm
      refine t.block _ (lt_of_blk h3) ?_
      rintro (e | ⟨k, hk, e⟩)
      · exact tag_ne h3 h.hb (by decide) e
      · exact n3 m hm k hk e.symm
    · rcases hs k hk with h1 | h1
      · exact n3 m hm k h1
      · obtain ⟨_, h3⟩ := h.n1 m hm
        have := lt_of_blk h3; omega
    · cases b with
      | true => exact h.wf true x hx
      | false => obtain ⟨m, hm, rfl⟩ := List.mem_map.1 hx; exact hw m hm
/-- The ring has turned. -/
theorem CX.ring {m : Nat × Nat} {l : List Int} (h : CX w c (some m) ns ms s) (r : RG w' m.1 m.2 s.sz l) (o : Only m.1 m.2 w w') : CX w' c (some m) ns ms { s with l := l } := by
  obtain ⟨f, ps, hr⟩ := h.rx
  have k : ∀ (b : Nat) (cs : Array Value) (t : TypeId), w.heap[b]? = some (.cells cs t (0, 0)) → t ≠ 186 ∧ t ≠ 3 → w'.heap[b]? = w.heap[b]? := fun b cs t h1 h2 => o.block b (tag_ne h1 hr.ha h2.1) (tag_ne h1 hr.hp h2.2)
  refine ⟨by rw [k _ _ _ h.hb (by decide)]; exact h.hb, Sg.keep _ _ _ (fun m hm => ?_) h.s1, Sg.keep _ _ _ (fun m hm => ?_) h.s2, h.nd, r, h.es, h.er, h.kd, h.sz, h.wf⟩
  · obtain ⟨_, h3⟩ := h.n1 m hm; exact k _ _ _ h3 (by decide)
  · obtain ⟨_, h3⟩ := h.n2 m hm; exact k _ _ _ h3 (by decide)
/-- It is closed. -/
theorem CX.shut (h : CX w c ro ns ms s) : CX (w.setCell ⟨c, 1, none⟩ (.bool true)) c ro ns ms { s with cl := true } := by
  have k : ∀ (b : Nat) (cs : Array Value) (t : TypeId), w.heap[b]? = some (.cells cs t (0, 0)) → t ≠ 128 → (w.setCell ⟨c, 1, none⟩ (.bool true)).heap[b]? = w.heap[b]? := fun b cs t h1 h2 => Below.heap_setCell _ _ _ _ (tag_ne h1 h.hb h2)
  refine ⟨by rw [heap_setCell_same w c 1 _ _ _ h.hb]; rfl, Sg.keep _ _ _ (fun m hm => ?_) h.s1, Sg.keep _ _ _ (fun m hm => ?_) h.s2, h.nd, h.rx.keep (fun b hb => ?_), h.es, h.er, h.kd, h.sz, h.wf⟩
  · obtain ⟨_, h3⟩ := h.n1 m hm; exact k _ _ _ h3 (by decide)
  · obtain ⟨_, h3⟩ := h.n2 m hm; exact k _ _ _ h3 (by decide)
  · obtain ⟨cs, t, h1, h2⟩ := h.rt b hb; exact k _ _ _ h1 (by rcases h2 with rfl | rfl <;> decide)
end

/-- Block c is a channel that is s; F are its blocks. -/
def CH (w : World) (F : Nat → Prop) (c : Nat) (s : CS) : Prop := ∃ ro ns ms, (∀ k, F k ↔ own c ro ns ms k) ∧ CX w c ro ns ms s
/-- It has come to be s; nothing has turned but its blocks and new ones. -/
def Go (F : Nat → Prop) (c : Nat) (s : CS) (w w' : World) : Prop := ∃ F', CH w' F' c s ∧ (∀ b, F' b → F b ∨ w.heap.size ≤ b) ∧ Tn F w w'
section
variable {w w' w'' : World} {c : Nat} {F F' : Nat → Prop} {s s' : CS}
theorem CH.tag (h : CH w F c s) {k : Nat} (hk : F k) : IsC w k := by obtain ⟨ro, ns, ms, hF, h⟩ := h; exact h.tag ((hF k).1 hk)
theorem CH.lt (h : CH w F c s) {k : Nat} (hk : F k) : k < w.heap.size := isc_lt (h.tag hk)
theorem CH.has (h : CH w F c s) : F c := by obtain ⟨ro, ns, ms, hF, h⟩ := h; exact (hF c).2 (.inl rfl)
theorem CH.keep (h : CH w F c s) (k : ∀ b, F b → w'.heap[b]? = w.heap[b]?) : CH w' F c s := by
  obtain ⟨ro, ns, ms, hF, h⟩ := h
  exact ⟨ro, ns, ms, hF, h.keep fun b hb => k b ((hF b).2 hb)⟩
theorem CH.later (h : CH w F c s) (hb : Below w.heap.size w w') : CH w' F c s := h.keep fun b k => hb.block b (h.lt k)
theorem CH.kd (h : CH w F c s) : s.kd ≤ 2 := by obtain ⟨ro, ns, ms, hF, h⟩ := h; exact h.kd
theorem CH.sz (h : CH w F c s) : s.sz ≤ 64 := by obtain ⟨ro, ns, ms, hF, h⟩ := h; exact h.sz
theorem CH.wf (h : CH w F c s) : ∀ b, ∀ x ∈ s.q b, Wf x.t := by obtain ⟨ro, ns, ms, hF, h⟩ := h; exact h.wf
theorem CH.le (h : CH w F c s) : s.l.length ≤ s.sz := by
  obtain ⟨ro, ns, ms, hF, h⟩ := h
  cases ro with
  | none => obtain ⟨h1, h2⟩ := h.rx; rw [h2]; simp
  | some m => exact RG.le h.rx
theorem CH.c0 (h : CH w F c s) : w.cell? ⟨c, 0, none⟩ = some (.int .i64 s.kd) := by obtain ⟨ro, ns, ms, hF, h⟩ := h; exact h.c0
theorem CH.c1 (h : CH w F c s) : w.cell? ⟨c, 1, none⟩ = some (.bool s.cl) := by obtain ⟨ro, ns, ms, hF, h⟩ := h; exact h.c1
theorem CH.fz (h : CH w F c s) (i : Nat) : w.frozen? ⟨c, i, none⟩ = false := by obtain ⟨ro, ns, ms, hF, h⟩ := h; exact h.fz i
theorem Go.here (h : CH w F c s) : Go F c s w w := ⟨F, h, fun b hb => .inl hb, Tn.refl _ _⟩
theorem Go.later (g : Go F c s w w') (hb : Below w'.heap.size w' w'') : Go F c s w w'' := by
  obtain ⟨F', h, hs, t⟩ := g
  exact ⟨F', h.later hb, hs, t.later hb⟩
theorem Go.early {o : Obj} (g : Go F c s (w.alloc o) w') : Go F c s w w' := by
  obtain ⟨F', h, hs, t⟩ := g
  exact ⟨F', h, fun b hb => (hs b hb).imp id (fun h => by simp at h; omega), t.early⟩
theorem Go.draws (g : Go F c s w w') (hh : w''.heap = w'.heap) (h1 : w''.os = w'.os) (h2 : w''.tape = w'.tape) (h3 : w''.output = w'.output) : Go F c s w w'' := by
  obtain ⟨F', h, hs, t⟩ := g
  exact ⟨F', h.keep (fun b _ => by rw [hh]), hs, t.draws hh h1 h2 h3⟩
theorem Go.comp (t : Tn F w w') (hs : ∀ b, F' b → F b ∨ w.heap.size ≤ b) (g : Go F' c s w' w'') : Go F c s w w'' := by
  obtain ⟨G, h, hs2, t2⟩ := g
  refine ⟨G, h, fun b hb => ?_, t.comp t2 hs⟩
  rcases hs2 b hb with h1 | h1
  · exact hs b h1
  · exact .inr (Nat.le_trans t.size h1)
theorem Go.from (hb : Below w.heap.size w w') (g : Go F c s w' w'') : Go F c s w w'' := Go.comp (Tn.of_below hb) (fun b h => .inl h) g
theorem Go.tn (g : Go F c s w w') : Tn F w w' := by obtain ⟨_, _, _, t⟩ := g; exact t
theorem Go.other (h : CH w F c s') (g : Go F c s w w') {k : Nat} (hk : k < w.heap.size) (hn : ¬ IsC w k) : w'.heap[k]? = w.heap[k]? := g.tn.block k hk fun hf => hn (h.tag hf)
theorem Go.below {B : Nat} (g : Go F c s w w') (hB : B ≤ w.heap.size) (hF : ∀ b, F b → B ≤ b) : Below B w w' := g.tn.below hB hF
end

/-! Calls of its queues and its ring. -/
section
variable {w : World} {c : Nat} {F : Nat → Prop} {s : CS}
theorem pk_len {ns ms : Ns} {ro : Option (Nat × Nat)} (h : CX w c ro ns ms s) (b : Bool) : (pk b ns ms).length = (s.q b).length := by rw [← h.len b, List.length_map]
theorem own_turn {ro : Option (Nat × Nat)} {ns ms ns' : Ns} (b : Bool) (hs : ∀ m ∈ ns', m ∈ pk b ns ms ∨ w.heap.size ≤ m.1) : ∀ k, own c ro (pk b ns' ns) (pk b ms ns') k → own c ro ns ms k ∨ w.heap.size ≤ k := by
  intro k hk
  cases b
  · rcases hk with hk | hk | hk | ⟨m, hm, rfl⟩
    · exact .inl (.inl hk)
    · exact .inl (.inr (.inl hk))
    · exact .inl (.inr (.inr (.inl hk)))
    · exact (hs m hm).imp (fun h => .inr (.inr (.inr ⟨m, h, rfl⟩))) id
  · rcases hk with hk | hk | ⟨m, hm, rfl⟩ | hk
    · exact .inl (.inl hk)
    · exact .inl (.inr (.inl hk))
    · exact (hs m hm).imp (fun h => .inr (.inr (.inl ⟨m, h, rfl⟩))) id
    · exact .inl (.inr (.inr (.inr hk)))
theorem qF_own {ro : Option (Nat × Nat)} {ns ms : Ns} (b : Bool) : ∀ k, qF c (pk b ns ms) k → own c ro ns ms k := by
  rintro k (rfl | hk)
  · exact .inl rfl
  · cases b
    · exact .inr (.inr (.inr hk))
    · exact .inr (.inr (.inl hk))
theorem CH.turned {ro : Option (Nat × Nat)} {ns ms : Ns} {w' : World} (hF : ∀ k, F k ↔ own c ro ns ms k) (h : CX w c ro ns ms s) {ns' : Ns} (b : Bool) (q : LQ w' b c (rst s.kd s.cl (vp ro) (pk (!b) ns ms)) ns') (t : Tn (qF c (pk b ns ms)) w w') (hs : ∀ m ∈ ns', m ∈ pk b ns ms ∨ w.heap.size ≤ m.1) (hw : ∀ m ∈ ns', Wf m.2.t) :
    Go F c (s.sq b (ns'.map (·.2))) w w' :=
  ⟨_, ⟨ro, _, _, fun k => Iff.rfl, h.turn b q t hs hw⟩, fun k hk => (own_turn b hs k hk).imp (hF k).2 id, t.mono fun k hk => .inl ((hF k).2 (qF_own b k hk))⟩
theorem sq_same (b : Bool) : s.sq b (s.q b) = s := by cases b <;> rfl
theorem ch_pop_none (h : CH w F c s) (b : Bool) (hl : s.q b = []) : Calls Try.prog 75 #[.pointer (some ⟨c, off b, none⟩)] w fun e w' => e = .returned (.tuple #[wG ⟨0, 0, 0⟩, .bool false]) ∧ Go F c s w w' := by
  obtain ⟨ro, ns, ms, hF, h⟩ := h
  have hq := h.lq b
  have e := h.len b
  rw [hl] at e
  have e0 : pk b ns ms = [] := List.map_eq_nil_iff.1 e
  have hg := fun w' q t => CH.turned (w' := w') hF h (ns' := []) b q t (by simp) (by simp)
  rw [e0] at hq hg
  refine (pop_none hq).mono ?_
  rintro e w' ⟨rfl, q, t⟩
  refine ⟨rfl, ?_⟩
  have := hg w' q t
  rw [List.map_nil, ← hl, sq_same] at this
  exact this
theorem ch_pop_some {x : Wt} {r : List Wt} (h : CH w F c s) (b : Bool) (hl : s.q b = x :: r) (hn : r.length ≤ 1000000) : Calls Try.prog 75 #[.pointer (some ⟨c, off b, none⟩)] w fun e w' => e = .returned (.tuple #[wG x, .bool true]) ∧ Go F c (s.sq b r) w w' := by
  have hwf := h.wf b
  obtain ⟨ro, ns, ms, hF, h⟩ := h
  have hq := h.lq b
  have e := h.len b
  rw [hl] at e hwf
  obtain ⟨⟨a, x'⟩, r', e0⟩ : ∃ m r', pk b ns ms = m :: r' := by
    cases hp : pk b ns ms with
    | nil => rw [hp] at e; simp at e
    | cons m r' => exact ⟨m, r', rfl⟩
  rw [e0] at e
  simp only [List.map_cons, List.cons.injEq] at e
  obtain ⟨rfl, rfl⟩ := e
  have hg := fun w' q t => CH.turned (w' := w') hF h (ns' := r') b q t (by rw [e0]; exact fun m hm => .inl (List.mem_cons_of_mem _ hm)) (fun m hm => hwf _ (List.mem_cons_of_mem _ (List.mem_map.2 ⟨m, hm, rfl⟩)))
  rw [e0] at hq hg
  rw [List.length_map] at hn
  refine (pop_some hq hn).mono ?_
  rintro e w' ⟨rfl, q, t⟩
  exact ⟨rfl, hg w' q t⟩
theorem ch_push (x : Wt) (h : CH w F c s) (b : Bool) (hx : Wf x.t) (hn : (s.q b).length ≤ 1000000) : Calls Try.prog 48 #[.pointer (some ⟨c, off b, none⟩), wG x] w fun e w' => (∃ k, e = .returned (.int .i64 k)) ∧ Go F c (s.sq b (s.q b ++ [x])) w w' := by
  have hwf := h.wf b
  obtain ⟨ro, ns, ms, hF, h⟩ := h
  have e := h.len b
  refine (push_any x (h.lq b) (by rw [pk_len h]; exact hn)).mono ?_
  rintro e' w' ⟨rfl, k, hk, q, t⟩
  refine ⟨⟨_, rfl⟩, ?_⟩
  have := CH.turned (w' := w') hF h (ns' := pk b ns ms ++ [(k, x)]) b q t (fun m hm => ?_) (fun m hm => ?_)
  · rw [List.map_append, e] at this
    exact this
  · rcases List.mem_append.1 hm with h1 | h1
    · exact .inl h1
    · simp at h1; subst h1; exact .inr hk
  · rcases List.mem_append.1 hm with h1 | h1
    · exact hwf _ (by rw [← e]; exact List.mem_map.2 ⟨m, h1, rfl⟩)
    · simp at h1; subst h1; exact hx
theorem ch_line (h : CH w F c s) (b : Bool) : Calls Try.prog 47 #[.pointer (some ⟨c, 0, none⟩), .bool b] w fun e w' => e = .returned (.pointer (some ⟨c, off b, none⟩)) ∧ w = w' := by
  have c0 := h.c0
  clear h
  cases b
  all_goals
    go_enter Try.func47, Try.ntmps47
    go_wp2
    go_ret
    exact ⟨rfl, rfl⟩
/-- The ring's pointer. -/
theorem CH.ring (h : CH w F c s) : ∃ V, w.cell? ⟨c, 2, none⟩ = some (.pointer V) ∧
    (Calls Try.prog 63 #[.pointer V] w fun e w' => e = .returned (.int .i64 s.l.length) ∧ w = w') ∧
    (Calls Try.prog 64 #[.pointer V] w fun e w' => e = .returned (.int .i64 s.sz) ∧ w = w') ∧
    (Calls Try.prog 102 #[.pointer V] w fun e w' => e = .returned (.int .i64 s.l.length) ∧ Go F c { s with l := [] } w w') ∧
    True ∧
    True ∧
    (∀ v, s.l.length < s.sz → Calls Try.prog 76 #[.pointer V, .int .i64 v] w fun e w' => e = .returned (.bool true) ∧ Go F c { s with l := s.l ++ [v] } w w') ∧
    (∀ v, s.l.length = s.sz → Calls Try.prog 76 #[.pointer V, .int .i64 v] w fun e w' => e = .returned (.bool false) ∧ Go F c s w w') := by
  have h0 := h
  obtain ⟨ro, ns, ms, hF, h⟩ := h
  obtain ⟨kd, cl, sz, l, ss, rs⟩ := s
  refine ⟨vp ro, h.c2, ?_⟩
  have hz := h.sz
  have hx := h.rx
  simp only at hz hx ⊢
  cases ro with
  | none =>
    obtain ⟨h1, h2⟩ := hx
    subst h1 h2
    refine ⟨rlen_nil w, rsize_nil w, (rclear_nil w).mono ?_, trivial, trivial, fun v hl => ?_, fun v _ => (rpush_nil v w).mono ?_⟩
    · rintro e w' ⟨rfl, rfl⟩; exact ⟨rfl, Go.here h0⟩
    · simp at hl
    · rintro e w' ⟨rfl, n, rfl⟩; exact ⟨rfl, (Go.here h0).draws rfl rfl rfl rfl⟩
  | some m =>
    have go : ∀ w' l', RG w' m.1 m.2 sz l' → Only m.1 m.2 w w' → Go F c ⟨kd, cl, sz, l', ss, rs⟩ w w' := fun w' l' r o =>
      ⟨_, ⟨some m, ns, ms, fun k => Iff.rfl, h.ring r o⟩, fun k hk => .inl ((hF k).2 hk), o.tn ((hF _).2 (.inr (.inl (.inl rfl)))) ((hF _).2 (.inr (.inl (.inr rfl))))⟩
    refine ⟨rlen_any w hx, rsize_any w hx, (rclear_any w hx).mono ?_, trivial, trivial, fun v hl => (rpush_room v w hx hz hl).mono ?_, fun v hl => (rpush_full v w hx hl).mono ?_⟩
    · rintro e w' ⟨rfl, r, o⟩; exact ⟨rfl, go w' _ r o⟩
    · rintro e w' ⟨rfl, r, o⟩; exact ⟨rfl, go w' _ r o⟩
    · rintro e w' ⟨rfl, r, o⟩; exact ⟨rfl, go w' _ r o⟩
end
end Go.Proofs.Ytdpapnfjpefhkaa.Ch
