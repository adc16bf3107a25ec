/- A task waits at all cases; Do. Conditions: each theorem's own premises. -/
import Derived.Test.YtmcacmbllpphiaaDx
namespace Go.Proofs.Ytmcacmbllpphiaa
open Go.RowKit
set_option linter.unusedVariables false
section
variable {W w0 w w' : World} {B : List Nat} {S S' : List CS} {F : Nat → Prop} {A : Option Addr} {n : Nat} {l : List Ca}
set_option maxRecDepth 100000 in
set_option maxHeartbeats 4000000 in
theorem park_any {cap : Nat} (t : Int) (ht : Wf t) (h : PC W B S [] [] F w) (hb : BN 100 S) (hl : RdX 65 B w A n l) (hn : n ≤ 100) : Calls Try.prog 49 #[.slice A n cap, .int .i64 t] w fun e w' => e = .returned (.tuple #[]) ∧ PN W B (pkS S l t l.length) [] [] F w w' := by
  have HB := Lib.hid hb
  have HT := Lib.hid ht
  have HLN : Hid (l.length = n) := hl.1
  have HS : Hid (PK W B (pkS S l t 0) F w A n l w) := ⟨PN.same h, hl⟩
  have b1 : (n : Int) ≤ 100 := by omega
  have b2 : 0 ≤ (n : Int) := by omega
  clear h hb hl ht
  go_enter Try.func49, Try.ntmps49
  go_wp2_with fail
  go_loopw [9] (fun i wr => ∃ k : Nat, k ≤ n ∧ i = .int .i64 k ∧ Hid (PK W B (pkS S l t k) F w A n l wr)) (fun i _ => n - (intOf i).toNat)
  case atStart => exact ⟨0, by omega, rfl, HS⟩
  case round =>
    clear HS
    obtain ⟨k, hk, rfl, hS⟩ := hrel
    by_cases hlt : k < n
    · have k1 : (k : Int) < (n : Int) := by omega
      have k2 : 0 ≤ (k : Int) := by omega
      have hkl : k < l.length := by rw [HLN.out]; exact hlt
      have hx : l[k]? = some (l[k]'hkl) := List.getElem?_eq_getElem hkl
      have HK := Lib.hid hx
      obtain ⟨bb, off, cs, rfl, hbb, c0, c1, c2⟩ := hS.out.rd.at hx
      generalize l[k]'hkl = x at *
      have hbs := lt_of_blk hbb
      have HBS := Lib.hid ((BN.pS HB.out l t k).mono (show 100 + k ≤ 1000 by omega))
      have HE : Hid (pkS S l t (k + 1) = pk1 (pkS S l t k) x t k) := pkS_succ HK.out
      generalize pkS S l t k = Sg at *
      cases hs : x.s with
      | true =>
        have HS1 := Lib.hid ((hS.out.later (below_al wr (.cells #[.pointer (ptr B x), .bool x.s, .int .i64 x.v] 65))).later (below_al _ (.cells #[.int .i64 t, .int .i64 k, .int .i64 x.v] 35)))
        have HC := Lib.hid (fun F1 (hp : PC W B Sg [] [] F1 ((wr.alloc (.cells #[.pointer (ptr B x), .bool x.s, .int .i64 x.v] 65)).alloc (.cells #[.int .i64 t, .int .i64 k, .int .i64 x.v] 35))) => pc_wait x t k HT.out hp HBS.out)
        rw [hs] at HS1 HC c1
        simp only [if_true, wG] at HC
        clear hx hkl hS hbb
        go_wp2_with fail
        obtain ⟨F1, hp, hbk⟩ := HS1.out.at
        refine (HC.out _ hp).mono ?_
        rintro e w2 ⟨⟨r, rfl⟩, g2⟩
        have HS2 := Lib.hid (hbk _ _ g2).1
        clear hp hbk g2 HC HS1 HBS c0 c1 c2
        go_wp2_with fail
        go_roundw
        case rel => exact ⟨k + 1, by omega, by go_num, by rw [HE.out]; exact HS2⟩
        case measure => simp [intOf]; omega
      | false =>
        have HS1 := Lib.hid ((hS.out.later (below_al wr (.cells #[.pointer (ptr B x), .bool x.s, .int .i64 x.v] 65))).later (below_al _ (.cells #[.int .i64 t, .int .i64 k, .int .i64 0] 35)))
        have HC := Lib.hid (fun F1 (hp : PC W B Sg [] [] F1 ((wr.alloc (.cells #[.pointer (ptr B x), .bool x.s, .int .i64 x.v] 65)).alloc (.cells #[.int .i64 t, .int .i64 k, .int .i64 0] 35))) => pc_wait x t k HT.out hp HBS.out)
        rw [hs] at HS1 HC c1
        simp only [Bool.false_eq_true, if_false, wG] at HC
        clear hx hkl hS hbb
        go_wp2_with fail
        obtain ⟨F1, hp, hbk⟩ := HS1.out.at
        refine (HC.out _ hp).mono ?_
        rintro e w2 ⟨⟨r, rfl⟩, g2⟩
        have HS2 := Lib.hid (hbk _ _ g2).1
        clear hp hbk g2 HC HS1 HBS c0 c1 c2
        go_wp2_with fail
        go_roundw
        case rel => exact ⟨k + 1, by omega, by go_num, by rw [HE.out]; exact HS2⟩
        case measure => simp [intOf]; omega
    · obtain rfl : k = n := by omega
      have HO := Lib.hid hS.out.pn
      clear hS
      go_wp2_with fail
      go_end0
      exact ⟨rfl, by rw [HLN.out]; exact HO.out⟩
theorem results_cell_tmp2 {fn : Func} {p u v : Tmp} {ty : TypeId} (h : fn.results = #[.cell p ty, .tmp u, .tmp v]) (tmps : Array Value) (P : Program) (w : World) :
    (results fn tmps).run P w =
      ((asAddr (tmps.getD p undef)).run P w).andThen fun a w₁ => ((loadVar ty a).run P w₁).andThen fun x w₂ => .ok (.tuple #[x, tmps.getD u undef, tmps.getD v undef]) w₂ := by
  simp only [results, h]
  simp [Sem.run_bind, Result.andThen]
def DdR (W : World) (B : List Nat) (F : Nat → Prop) (g : List CS × Re × List Wk × Int) (w : World) (e : Ending) (w' : World) : Prop :=
  ∃ A cap, e = .returned (.tuple #[reG g.2.1, .slice A g.2.2.1.length cap, .int .i64 g.2.2.2]) ∧ RdK w' A g.2.2.1.length g.2.2.1 ∧ PN W B g.1 [] [] F w w'
theorem al46 (w : World) : (w.alloc (.cells #[.int .i64 0, .int .i64 0, .bool false, .bool false, .bool false, .bool false] 46)).heap[w.heap.size]? = some (.cells #[.int .i64 0, .int .i64 0, .bool false, .bool false, .bool false, .bool false] 46 (0, 0)) := heap_alloc_new _ _
set_option maxRecDepth 100000 in
set_option maxHeartbeats 4000000 in
theorem Do_arg {cap : Nat} (df : Bool) (draw task : Int) (h : PC W B S [] [] F w) (hn : 16 < n ∨ task < 0) (hn2 : n ≤ 1000) : Calls Try.prog 16 #[.slice A n cap, .bool df, .int .i64 draw, .int .i64 task] w (DdR W B F (S, ⟨0, 0, false, false, false, false⟩, [], 1) w) := by
  have HK := Lib.hid (al46 w)
  have HP := Lib.hid (h.pn (below_al w (.cells #[.int .i64 0, .int .i64 0, .bool false, .bool false, .bool false, .bool false] 46)))
  by_cases h1 : 16 < n
  · have b1 : 16 < (n : Int) := by omega
    clear h hn
    go_enter Try.func16, Try.ntmps16
    go_wp2_with fail
    refine bodyPost_ret (v := .tuple #[reG ⟨0, 0, false, false, false, false⟩, .slice none 0 0, .int .i64 1]) ?_ rfl ⟨none, 0, rfl, RdK.nil _ _, HP.out⟩
    rw [results_cell_tmp2 rfl]; go_simp; rfl
  · have b1 : ¬ 16 < (n : Int) := by omega
    have b2 : task < 0 := by omega
    clear h hn
    go_enter Try.func16, Try.ntmps16
    go_wp2_with fail
    refine bodyPost_ret (v := .tuple #[reG ⟨0, 0, false, false, false, false⟩, .slice none 0 0, .int .i64 1]) ?_ rfl ⟨none, 0, rfl, RdK.nil _ _, HP.out⟩
    rw [results_cell_tmp2 rfl]; go_simp; rfl
/-- What is at hand behind look. -/
structure LkS (W : World) (B : List Nat) (S : List CS) (F : Nat → Prop) (w0 : World) (A : Option Addr) (n : Nat) (l : List Ca) (A1 : Option Addr) (r : List Nat) (w : World) : Prop where
  pk : PK W B S F w0 A n l w
  rd : Rd w w.heap.size A1 r.length 1 (nI r)
  res : w.heap[w0.heap.size]? = some (.cells #[.int .i64 0, .int .i64 0, .bool false, .bool false, .bool false, .bool false] 46 (0, 0))
theorem do_look {cap : Nat} (h : PC W B S [] [] F w) (hb : BN 1000 S) (hl : RdX 65 B w A n l) (hn : n ≤ 1000) : Calls Try.prog 45 #[.slice A n cap] (w.alloc (.cells #[.int .i64 0, .int .i64 0, .bool false, .bool false, .bool false, .bool false] 46)) fun e w' => ∃ A1 c1, e = .returned (.tuple #[.slice A1 (rdy S l l.length).length c1, .int .i64 (wrI (wrg S l l.length))]) ∧ LkS W B S F w A n l A1 (rdy S l l.length) w' := by
  have hbl := below_al w (.cells #[.int .i64 0, .int .i64 0, .bool false, .bool false, .bool false, .bool false] 46)
  refine (look_any (h.later hbl) hb (hl.later hbl) hn).mono ?_
  rintro e w' ⟨A1, c1, rfl, h1, h2⟩
  refine ⟨A1, c1, rfl, ⟨⟨h2.early hbl, ?_⟩, h1, ?_⟩⟩
  · obtain ⟨F1, _, _, k⟩ := h2
    exact (hl.later hbl).kf o65 (h.later hbl) k
  · obtain ⟨F1, _, _, k⟩ := h2
    exact (h.later hbl).row k (al46 w) o46
set_option maxRecDepth 100000 in
set_option maxHeartbeats 4000000 in
theorem Do_wrong {cap i : Nat} (df : Bool) (draw task : Int) (h : PC W B S [] [] F w) (hb : BN 1000 S) (hl : RdX 65 B w A n l) (hn : n ≤ 16) (ht : 0 ≤ task) (hw : wrg S l l.length = some i) : Calls Try.prog 16 #[.slice A n cap, .bool df, .int .i64 draw, .int .i64 task] w (DdR W B F (S, ⟨i, 0, false, false, false, true⟩, [], 0) w) := by
  have HL := Lib.hid (do_look (cap := cap) h hb hl (by omega))
  have HW := Lib.hid h.bel.size
  have b1 : ¬ 16 < (n : Int) := by omega
  have b2 : ¬ task < 0 := by omega
  have e1 : ((i : Int) == -1) = false := by rw [beq_eq_false_iff_ne]; omega
  rw [hw] at HL
  simp only [wrI] at HL
  clear h hb hl hw
  go_enter Try.func16, Try.ntmps16
  go_wp2_with fail
  refine HL.out.mono ?_
  rintro e w1 ⟨A1, c1, rfl, k1⟩
  have hk := k1.res
  have HR := Lib.hid (k1.pk.pn.res (b0 := .int .i64 i) (b1 := .int .i64 0) (b2 := .bool false) (b3 := .bool false) (b4 := .bool false) (b5 := .bool true) (RdK.nil w1 none) hk (Nat.le_refl _) HW.out)
  generalize w.heap.size = N at *
  have f0 := frozen_of_row w1 N 0 _ _ hk
  have f1 := frozen_of_row w1 N 1 _ _ hk
  have f2 := frozen_of_row w1 N 2 _ _ hk
  have f3 := frozen_of_row w1 N 3 _ _ hk
  have f4 := frozen_of_row w1 N 4 _ _ hk
  have f5 := frozen_of_row w1 N 5 _ _ hk
  have a0 := cell_of_row w1 N 0 _ _ _ hk
  have a1 := cell_of_row w1 N 1 _ _ _ hk
  have a2 := cell_of_row w1 N 2 _ _ _ hk
  have a3 := cell_of_row w1 N 3 _ _ _ hk
  have a4 := cell_of_row w1 N 4 _ _ _ hk
  have a5 := cell_of_row w1 N 5 _ _ _ hk
  simp only [List.getElem?_toArray, List.getElem?_cons_succ, List.getElem?_cons_zero] at a0 a1 a2 a3 a4 a5
  have hNs := lt_of_blk hk
  clear hk k1 HL
  go_wp2_with fail
  refine bodyPost_ret (v := .tuple #[reG ⟨i, 0, false, false, false, true⟩, .slice none 0 0, .int .i64 0]) ?_ rfl ⟨none, 0, rfl, HR.out.2.1, HR.out.1⟩
  rw [results_cell_tmp2 rfl]; go_simp; rfl
set_option maxRecDepth 100000 in
set_option maxHeartbeats 4000000 in
theorem Do_def {cap : Nat} (draw task : Int) (h : PC W B S [] [] F w) (hb : BN 1000 S) (hl : RdX 65 B w A n l) (hn : n ≤ 16) (ht : 0 ≤ task) (hw : wrg S l l.length = none) (hr : rdy S l l.length = []) : Calls Try.prog 16 #[.slice A n cap, .bool true, .int .i64 draw, .int .i64 task] w (DdR W B F (S, ⟨-1, 0, false, false, false, false⟩, [], 0) w) := by
  have HL := Lib.hid (do_look (cap := cap) h hb hl (by omega))
  have HW := Lib.hid h.bel.size
  have b1 : ¬ 16 < (n : Int) := by omega
  have b2 : ¬ task < 0 := by omega
  rw [hw, hr] at HL
  simp only [wrI, List.length_nil] at HL
  clear h hb hl hw hr
  go_enter Try.func16, Try.ntmps16
  go_wp2_with fail
  refine HL.out.mono ?_
  rintro e w1 ⟨A1, c1, rfl, k1⟩
  have hk := k1.res
  have HR := Lib.hid (k1.pk.pn.res (b0 := .int .i64 (-1)) (b1 := .int .i64 0) (b2 := .bool false) (b3 := .bool false) (b4 := .bool false) (b5 := .bool false) (RdK.nil w1 none) hk (Nat.le_refl _) HW.out)
  generalize w.heap.size = N at *
  have f0 := frozen_of_row w1 N 0 _ _ hk
  have f1 := frozen_of_row w1 N 1 _ _ hk
  have f2 := frozen_of_row w1 N 2 _ _ hk
  have f3 := frozen_of_row w1 N 3 _ _ hk
  have f4 := frozen_of_row w1 N 4 _ _ hk
  have f5 := frozen_of_row w1 N 5 _ _ hk
  have a0 := cell_of_row w1 N 0 _ _ _ hk
  have a1 := cell_of_row w1 N 1 _ _ _ hk
  have a2 := cell_of_row w1 N 2 _ _ _ hk
  have a3 := cell_of_row w1 N 3 _ _ _ hk
  have a4 := cell_of_row w1 N 4 _ _ _ hk
  have a5 := cell_of_row w1 N 5 _ _ _ hk
  simp only [List.getElem?_toArray, List.getElem?_cons_succ, List.getElem?_cons_zero] at a0 a1 a2 a3 a4 a5
  have hNs := lt_of_blk hk
  clear hk k1 HL
  go_wp2_with fail
  refine bodyPost_ret (v := .tuple #[reG ⟨-1, 0, false, false, false, false⟩, .slice none 0 0, .int .i64 0]) ?_ rfl ⟨none, 0, rfl, HR.out.2.1, HR.out.1⟩
  rw [results_cell_tmp2 rfl]; go_simp; rfl
set_option maxRecDepth 100000 in
set_option maxHeartbeats 4000000 in
theorem Do_park {cap : Nat} (draw task : Int) (h : PC W B S [] [] F w) (hb : BN 100 S) (hl : RdX 65 B w A n l) (hn : n ≤ 16) (ht : 0 ≤ task) (hT : Wf task) (hw : wrg S l l.length = none) (hr : rdy S l l.length = []) : Calls Try.prog 16 #[.slice A n cap, .bool false, .int .i64 draw, .int .i64 task] w (DdR W B F (pkS S l task l.length, ⟨-1, 0, false, false, true, false⟩, [], 0) w) := by
  have HL := Lib.hid (do_look (cap := cap) h (hb.mono (by omega)) hl (by omega))
  have HW := Lib.hid h.bel.size
  have HB := Lib.hid hb
  have HN := Lib.hid hn
  have HT := Lib.hid hT
  have b1 : ¬ 16 < (n : Int) := by omega
  have b2 : ¬ task < 0 := by omega
  rw [hw, hr] at HL
  simp only [wrI, List.length_nil] at HL
  clear h hb hl hw hr hT
  go_enter Try.func16, Try.ntmps16
  go_wp2_with fail
  refine HL.out.mono ?_
  rintro e w1 ⟨A1, c1, rfl, k1⟩
  have HK1 := Lib.hid k1
  clear k1 HL
  go_wp2_with fail
  obtain ⟨F1, hp, hbk⟩ := HK1.out.pk.at
  refine (park_any task HT.out hp HB.out HK1.out.pk.rd (by have := HN.out; omega)).mono ?_
  rintro e w2 ⟨rfl, g2⟩
  obtain ⟨q1, q2⟩ := hbk _ _ g2
  have hk := hp.row q2 HK1.out.res o46
  have HR := Lib.hid (q1.pn.res (b0 := .int .i64 (-1)) (b1 := .int .i64 0) (b2 := .bool false) (b3 := .bool false) (b4 := .bool true) (b5 := .bool false) (RdK.nil w2 none) hk (Nat.le_refl _) HW.out)
  generalize w.heap.size = N at *
  have f0 := frozen_of_row w2 N 0 _ _ hk
  have f1 := frozen_of_row w2 N 1 _ _ hk
  have f2 := frozen_of_row w2 N 2 _ _ hk
  have f3 := frozen_of_row w2 N 3 _ _ hk
  have f4 := frozen_of_row w2 N 4 _ _ hk
  have f5 := frozen_of_row w2 N 5 _ _ hk
  have a0 := cell_of_row w2 N 0 _ _ _ hk
  have a1 := cell_of_row w2 N 1 _ _ _ hk
  have a2 := cell_of_row w2 N 2 _ _ _ hk
  have a3 := cell_of_row w2 N 3 _ _ _ hk
  have a4 := cell_of_row w2 N 4 _ _ _ hk
  have a5 := cell_of_row w2 N 5 _ _ _ hk
  simp only [List.getElem?_toArray, List.getElem?_cons_succ, List.getElem?_cons_zero] at a0 a1 a2 a3 a4 a5
  have hNs := lt_of_blk hk
  clear hk q1 q2 g2 hp hbk HK1
  go_wp2_with fail
  refine bodyPost_ret (v := .tuple #[reG ⟨-1, 0, false, false, true, false⟩, .slice none 0 0, .int .i64 0]) ?_ rfl ⟨none, 0, rfl, HR.out.2.1, HR.out.1⟩
  rw [results_cell_tmp2 rfl]; go_simp; rfl
set_option maxRecDepth 100000 in
set_option maxHeartbeats 4000000 in
theorem Do_one {cap q p : Nat} {x : Ca} (df : Bool) (draw task : Int) (h : PC W B S [] [] F w) (hb : BN 1000 S) (hl : RdX 65 B w A n l) (hn : n ≤ 16) (ht : 0 ≤ task) (hw : wrg S l l.length = none) (hq : draw % ((rdy S l l.length).length : Int) = (q : Int)) (hp : (rdy S l l.length)[q]? = some p) (hx : l[p]? = some x) (hc : canO S x = true) :
    Calls Try.prog 16 #[.slice A n cap, .bool df, .int .i64 draw, .int .i64 task] w (DdR W B F ((doX S x).1, { (doX S x).2.1 with i := p }, (doX S x).2.2, 0) w) := by
  have HL := Lib.hid (do_look (cap := cap) h hb hl (by omega))
  have HW := Lib.hid h.bel.size
  have HB := Lib.hid hb
  have HX := Lib.hid hx
  have HC := Lib.hid hc
  have HP := Lib.hid hp
  have b1 : ¬ 16 < (n : Int) := by omega
  have b2 : ¬ task < 0 := by omega
  have hlen := rdy_len S l l.length
  have hln : l.length = n := hl.1
  have hql : q < (rdy S l l.length).length := (List.getElem?_eq_some_iff.1 hp).1
  have hpl : p < n := by rw [← hln]; exact (List.getElem?_eq_some_iff.1 hx).1
  have HQ := Lib.hid (pick_any draw (rdy S l l.length).length)
  rw [hw] at HL
  simp only [wrI] at HL
  generalize rdy S l l.length = r at *
  rw [hq] at HQ
  have c1 : 0 < (r.length : Int) := by omega
  have c2 : (r.length : Int) ≤ 16 := by omega
  have c3 : (q : Int) < (r.length : Int) := by omega
  have c4 : (p : Int) < (n : Int) := by omega
  have c5 : 0 ≤ (q : Int) := by omega
  have c6 : 0 ≤ (p : Int) := by omega
  clear h hb hl hw hp hx hc hq
  go_enter Try.func16, Try.ntmps16
  go_wp2_with fail
  refine HL.out.mono ?_
  rintro e w1 ⟨A1, k1, rfl, s1⟩
  have HS1 := Lib.hid s1
  clear s1 HL
  go_wp2_with fail
  refine (HQ.out w1 (by omega) (by omega)).mono ?_
  rintro e w' ⟨rfl, rfl⟩
  obtain ⟨b9, o9, rfl, hb9, d9⟩ := HS1.out.rd.2 (by omega)
  have d0 := d9 q _ (nI_at HP.out)
  obtain ⟨bb, off, cs, rfl, hbb, x0, x1, x2⟩ := HS1.out.pk.rd.at HX.out
  have hbs := lt_of_blk hbb
  clear d9 hbb HQ
  go_wp2_with fail
  obtain ⟨F1, hp, hbk⟩ := HS1.out.pk.at
  have hcall := do_any x hp HB.out HC.out
  unfold caG at hcall
  refine hcall.mono ?_
  rintro e w2 ⟨A2, k2, rfl, r2, g2⟩
  obtain ⟨q1, q2⟩ := hbk _ _ g2
  have hk := hp.row q2 HS1.out.res o46
  clear hcall x0 x1 x2 d0
  generalize doX S x = g at *
  obtain ⟨S', ⟨ri, rv, ro, rp, rk, rd⟩, ws⟩ := g
  simp only [reG] at *
  have HR := Lib.hid (q1.pn.res (b0 := .int .i64 p) (b1 := .int .i64 rv) (b2 := .bool ro) (b3 := .bool rp) (b4 := .bool rk) (b5 := .bool rd) r2 hk (Nat.le_refl _) HW.out)
  generalize w.heap.size = N at *
  have f0 := frozen_of_row w2 N 0 _ _ hk
  have f1 := frozen_of_row w2 N 1 _ _ hk
  have f2 := frozen_of_row w2 N 2 _ _ hk
  have f3 := frozen_of_row w2 N 3 _ _ hk
  have f4 := frozen_of_row w2 N 4 _ _ hk
  have f5 := frozen_of_row w2 N 5 _ _ hk
  have a0 := cell_of_row w2 N 0 _ _ _ hk
  have a1 := cell_of_row w2 N 1 _ _ _ hk
  have a2 := cell_of_row w2 N 2 _ _ _ hk
  have a3 := cell_of_row w2 N 3 _ _ _ hk
  have a4 := cell_of_row w2 N 4 _ _ _ hk
  have a5 := cell_of_row w2 N 5 _ _ _ hk
  simp only [List.getElem?_toArray, List.getElem?_cons_succ, List.getElem?_cons_zero] at a0 a1 a2 a3 a4 a5
  have hNs := lt_of_blk hk
  clear hk q1 q2 g2 r2 hp hbk HS1
  go_wp2_with fail
  refine bodyPost_ret (v := .tuple #[reG ⟨p, rv, ro, rp, rk, rd⟩, .slice A2 ws.length k2, .int .i64 0]) ?_ rfl ⟨A2, k2, rfl, HR.out.2.1.later (below_al _ _), HR.out.1.later (below_al _ _)⟩
  rw [results_cell_tmp2 rfl]; go_simp; rfl
theorem Do_any {cap : Nat} (df : Bool) (draw task : Int) (hT : Wf task) (h : PC W B S [] [] F w) (hb : BN 100 S) (hl : RdX 65 B w A n l) (hn : n ≤ 1000) : Calls Try.prog 16 #[.slice A n cap, .bool df, .int .i64 draw, .int .i64 task] w (DdR W B F (doS S l df draw task) w) := by
  have hln : l.length = n := hl.1
  have hb2 : BN 1000 S := hb.mono (by omega)
  unfold doS
  by_cases h1 : 16 < l.length ∨ task < 0
  · rw [if_pos h1]
    exact Do_arg df draw task h (by rw [← hln]; exact h1) hn
  · rw [if_neg h1]
    have hn16 : n ≤ 16 := by omega
    have ht : 0 ≤ task := by omega
    cases hw : wrg S l l.length with
    | some i => exact Do_wrong df draw task h hb2 hl hn16 ht hw
    | none =>
      simp only
      cases hr : (rdy S l l.length)[(draw % ((rdy S l l.length).length : Int)).toNat]? with
      | some p =>
        have hql := (List.getElem?_eq_some_iff.1 hr).1
        obtain ⟨hpl, x, hx, hc⟩ := rdy_mem (List.mem_of_getElem? hr)
        simp only
        rw [hx]
        have hq : draw % ((rdy S l l.length).length : Int) = (((draw % ((rdy S l l.length).length : Int)).toNat : Nat) : Int) := (Int.toNat_of_nonneg (Int.emod_nonneg _ (by omega))).symm
        exact Do_one df draw task h hb2 hl hn16 ht hw hq hr hx hc
      | none =>
        have hr0 : rdy S l l.length = [] := by
          rw [List.getElem?_eq_none_iff] at hr
          by_cases h0 : (rdy S l l.length).length = 0
          · exact List.eq_nil_of_length_eq_zero h0
          · have h2 := Int.emod_lt_of_pos draw (show (0 : Int) < ((rdy S l l.length).length : Int) by omega)
            have h3 := Int.emod_nonneg draw (show ((rdy S l l.length).length : Int) ≠ 0 by omega)
            omega
        simp only
        cases df with
        | true => rw [if_pos rfl]; exact Do_def draw task h hb2 hl hn16 ht hw hr0
        | false => rw [if_neg (by simp)]; exact Do_park draw task h hb hl hn16 ht hT hw hr0
end
end Go.Proofs.Ytmcacmbllpphiaa
