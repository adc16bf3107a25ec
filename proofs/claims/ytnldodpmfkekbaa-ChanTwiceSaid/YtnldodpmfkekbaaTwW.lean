/- The walk of ChanTwice, its first part: who waits. Condition: the slice that came in reads as l. -/
import Derived.Test.YtnldodpmfkekbaaSgW
import Derived.Test.YtnldodpmfkekbaaOpn
import Derived.Deep.RegionHeld3
namespace Go.Proofs.Ytnldodpmfkekbaa
open Go.RowKit
set_option linter.unusedVariables false

/-- The case of the first one; -1: there is none. -/
def FS (l : List Wt) (F : Int) : Prop := (l = [] ∧ F = -1) ∨ ∃ x r, l = x :: r ∧ F = x.c ∧ 0 ≤ F
theorem FS.more {l : List Wt} {F : Int} {y : Wt} (h : FS l F) (hF : ¬ F < 0) : FS (l ++ [y]) F := by
  rcases h with ⟨_, e⟩ | ⟨x, r, rfl, e, e2⟩
  · omega
  · exact .inr ⟨x, r ++ [y], rfl, e, e2⟩
theorem FS.first {l : List Wt} {F : Int} {y : Wt} (h : FS l F) (hF : F < 0) (hy : 0 ≤ y.c) : FS (l ++ [y]) y.c := by
  rcases h with ⟨rfl, e⟩ | ⟨x, r, rfl, e, e2⟩
  · exact .inr ⟨y, [], rfl, rfl, hy⟩
  · omega
def cT (ss rs : List Wt) : CS := ⟨0, false, 0, [], ss, rs⟩
structure TW (W : World) (a b k : Nat) (F G : Int) (ss rs : List Wt) (w : World) : Prop where
  ms : MS W [(a, cT ss rs), (b, cT ss rs)] w
  len : ss.length + rs.length = k
  t1 : ∀ x ∈ ss, x.t = 5
  t2 : ∀ x ∈ rs, x.t = 5
  f1 : FS ss F
  f2 : FS rs G
theorem meet_all {t : Int} {l : List Wt} (h : ∀ x ∈ l, x.t = t) : meet t l = false := by
  unfold meet
  rw [List.any_eq_false]
  intro x hx
  simp [isT, h x hx]
theorem wt_s (ss rs : List Wt) (x : Wt) (hx : x.t = 5) (h : ∀ y ∈ rs, y.t = 5) : wt (cT ss rs) x true = (cT (ss ++ [x]) rs, 0) := by
  have h1 := meet_all (t := x.t) (l := rs) (by rw [hx]; exact h)
  simp [wt, cT, fr, CS.q, CS.sq, h1]
theorem wt_r (ss rs : List Wt) (x : Wt) (hx : x.t = 5) (h : ∀ y ∈ ss, y.t = 5) : wt (cT ss rs) x false = (cT ss (rs ++ [x]), 0) := by
  have h1 := meet_all (t := x.t) (l := ss) (by rw [hx]; exact h)
  simp [wt, cT, fr, CS.q, CS.sq, h1]
def wT (k : Nat) : Wt := ⟨5, k, k⟩
theorem TW.wq {W w : World} {a b k : Nat} {F G : Int} {ss rs : List Wt} (h : TW W a b k F G ss rs w) (hk : k ≤ 10) : ∀ z, ((cT ss rs).q z).length ≤ 1000000 := by
  intro z
  have := h.len
  cases z <;> simp [cT, CS.q] <;> omega
theorem TW.sendF {W w w' : World} {a b k : Nat} {F G : Int} {ss rs : List Wt} (h : TW W a b k F G ss rs w) (m : MS W [(a, cT (ss ++ [wT k]) rs), (b, cT (ss ++ [wT k]) rs)] w') (hF : F < 0) : TW W a b (k + 1) k G (ss ++ [wT k]) rs w' :=
  ⟨m, by have := h.len; simp; omega, fun x hx => by
    rcases List.mem_append.1 hx with hx | hx
    · exact h.t1 x hx
    · simp at hx; subst hx; rfl, h.t2, h.f1.first hF (by simp [wT]), h.f2⟩
theorem TW.sendM {W w w' : World} {a b k : Nat} {F G : Int} {ss rs : List Wt} (h : TW W a b k F G ss rs w) (m : MS W [(a, cT (ss ++ [wT k]) rs), (b, cT (ss ++ [wT k]) rs)] w') (hF : ¬ F < 0) : TW W a b (k + 1) F G (ss ++ [wT k]) rs w' :=
  ⟨m, by have := h.len; simp; omega, fun x hx => by
    rcases List.mem_append.1 hx with hx | hx
    · exact h.t1 x hx
    · simp at hx; subst hx; rfl, h.t2, h.f1.more hF, h.f2⟩
theorem TW.recvF {W w w' : World} {a b k : Nat} {F G : Int} {ss rs : List Wt} (h : TW W a b k F G ss rs w) (m : MS W [(a, cT ss (rs ++ [wT k])), (b, cT ss (rs ++ [wT k]))] w') (hF : G < 0) : TW W a b (k + 1) F k ss (rs ++ [wT k]) w' :=
  ⟨m, by have := h.len; simp; omega, h.t1, fun x hx => by
    rcases List.mem_append.1 hx with hx | hx
    · exact h.t2 x hx
    · simp at hx; subst hx; rfl, h.f1, h.f2.first hF (by simp [wT])⟩
theorem TW.recvM {W w w' : World} {a b k : Nat} {F G : Int} {ss rs : List Wt} (h : TW W a b k F G ss rs w) (m : MS W [(a, cT ss (rs ++ [wT k])), (b, cT ss (rs ++ [wT k]))] w') (hF : ¬ G < 0) : TW W a b (k + 1) F G ss (rs ++ [wT k]) w' :=
  ⟨m, by have := h.len; simp; omega, h.t1, fun x hx => by
    rcases List.mem_append.1 hx with hx | hx
    · exact h.t2 x hx
    · simp at hx; subst hx; rfl, h.f1, h.f2.more hF⟩
theorem shp_same (p : Bool) : ∀ (l : List Wt) (acc : List Wk), (∀ x ∈ l, x.t ∈ acc.map (·.t)) → shp acc l p = acc
  | [], acc, _ => rfl
  | x :: r, acc, h => by
    show shp (one acc x p) r p = acc
    unfold one
    rw [if_pos (h x (List.mem_cons_self ..))]
    exact shp_same p r acc fun y hy => h y (List.mem_cons_of_mem _ hy)
theorem shp_app (p : Bool) : ∀ (l r : List Wt) (acc : List Wk), shp acc (l ++ r) p = shp (shp acc l p) r p
  | [], r, acc => rfl
  | x :: l, r, acc => shp_app p l r (one acc x p)
theorem shp_five (p : Bool) (x : Wt) (r : List Wt) (h : ∀ y ∈ x :: r, y.t = 5) : shp [] (x :: r) p = [⟨5, x.c, 0, false, p⟩] := by
  have hx := h x (List.mem_cons_self ..)
  show shp (one [] x p) r p = _
  have e : one [] x p = [⟨5, x.c, 0, false, p⟩] := by unfold one; rw [if_neg (by simp), hx]; rfl
  rw [e]
  exact shp_same p r _ fun y hy => by simp [h y (List.mem_cons_of_mem _ hy)]
theorem totR (ss : List Wt) (x : Wt) (r : List Wt) (h1 : ∀ y ∈ ss, y.t = 5) (h2 : ∀ y ∈ x :: r, y.t = 5) : tot (cT ss (x :: r)) = [⟨5, x.c, 0, false, false⟩] := by
  show shp (shp [] (x :: r) false) ss true = _
  rw [shp_five false x r h2]
  exact shp_same true ss _ fun y hy => by simp [h1 y hy]
theorem totS (x : Wt) (r : List Wt) (h : ∀ y ∈ x :: r, y.t = 5) : tot (cT (x :: r) []) = [⟨5, x.c, 0, false, true⟩] := by
  show shp [] (x :: r) true = _
  exact shp_five true x r h
theorem totO (x : Wt) (r : List Wt) (h : ∀ y ∈ x :: r, y.t = 5) : tot (cT (x :: r ++ [⟨6, 1, 0⟩]) []) = [⟨5, x.c, 0, false, true⟩, ⟨6, 1, 0, false, true⟩] := by
  show shp [] (x :: r ++ [⟨6, 1, 0⟩]) true = _
  rw [shp_app, shp_five true x r h]
  rfl
theorem wt_six_no (ss : List Wt) (x : Wt) (r : List Wt) (h : ∀ y ∈ x :: r, y.t = 5) : wt (cT ss (x :: r)) ⟨6, 1, 0⟩ true = (cT ss (x :: r), 1) := by
  have h1 : meet 6 (x :: r) = true := by
    unfold meet
    rw [List.any_eq_true]
    exact ⟨x, List.mem_cons_self .., by simp [isT, h x (List.mem_cons_self ..)]⟩
  simp [wt, cT, fr, CS.q, h1]
theorem wt_six_yes (ss : List Wt) : wt (cT ss []) ⟨6, 1, 0⟩ true = (cT (ss ++ [⟨6, 1, 0⟩]) [], 0) := rfl
theorem le_ten {n : Nat} (h : n ≤ 10) : n ≤ 1000000 := by omega
theorem app_ten {l : List Wt} {y : Wt} (h : l.length ≤ 10) : (l ++ [y]).length ≤ 1000000 := by rw [List.length_append, List.length_singleton]; omega
theorem ct_five {l : List Wt} (h : ∀ y ∈ l, y.t = 5) : l.countP (isT 5) = l.length := List.countP_eq_length.2 fun y hy => by simp [isT, h y hy]
theorem flt_five {l : List Wt} (h : ∀ y ∈ l, y.t = 5) : l.filter (fun x => !isT 5 x) = [] := List.filter_eq_nil_iff.2 fun y hy => by simp [isT, h y hy]
theorem gone_five {ss rs : List Wt} (h1 : ∀ y ∈ ss, y.t = 5) (h2 : ∀ y ∈ rs, y.t = 5) : gone (cT ss rs) 5 = cT [] [] := by
  unfold gone cT
  simp only [flt_five h1, flt_five h2]
theorem RdK.head {w : World} {A : Option Addr} {n : Nat} {x : Wk} {l : List Wk} (h : RdK w A n (x :: l)) : ∃ b cs, A = some ⟨b, 0, none⟩ ∧ w.heap[b]? = some (.cells cs 45 (0, 0)) ∧ w.cell? ⟨b, 0, none⟩ = some (.int .i64 x.t) ∧ w.cell? ⟨b, 1, none⟩ = some (.int .i64 x.c) ∧ w.cell? ⟨b, 2, none⟩ = some (.int .i64 x.v) ∧ w.cell? ⟨b, 3, none⟩ = some (.bool x.ok) ∧ w.cell? ⟨b, 4, none⟩ = some (.bool x.pn) := by
  obtain ⟨b, cs, e, hb, hc⟩ := h.2 (by have := h.1; simp at this; omega)
  have := hc 0 x rfl
  simp only [Nat.zero_mul, Nat.zero_add] at this
  exact ⟨b, cs, e, hb, this⟩
set_option maxRecDepth 100000 in
set_option maxHeartbeats 8000000 in
theorem twice_in (n : Nat) (A : Option Addr) (len cap : Nat) (l : List Bool) (o : Bool) (W : World) (hA : IsB W A len cap l) (h1 : 1 ≤ n) (h2 : n ≤ 10) (h3 : n ≤ len) (h4 : len ≤ 20) : Calls Try.prog 10 #[.int .i64 n, .slice A len cap, .bool o] W (BoolR true W) := by
  have b1 : (n : Int) ≤ 10 := by omega
  have b2 : 1 ≤ (n : Int) := by omega
  have b3 : (n : Int) ≤ (len : Int) := by omega
  have b4 : (len : Int) ≤ 20 := by omega
  have HA := Lib.hid hA
  have HLN := Lib.hid hA.2.2.1
  clear hA
  go_enter Try.func10, Try.ntmps10
  go_wp2_with fail
  refine (ms_new (MS.nil W) 0 (by omega)).mono ?_
  rintro e w1 ⟨a, rfl, s1, _⟩
  have S1 : Hid (MS W [(a, cT [] [])] w1) := s1
  clear s1
  go_wp2_with fail
  refine (ms_new S1.out 0 (by omega)).mono ?_
  rintro e w2 ⟨b, rfl, s2, _⟩
  have S2 : Hid (TW W a b 0 (-1) (-1) [] [] w2) := ⟨s2, rfl, by simp, by simp, .inl ⟨rfl, rfl⟩, .inl ⟨rfl, rfl⟩⟩
  clear s2 S1
  go_wp2_with fail
  go_loopw [11, 12, 13] (fun f g i wr => ∃ (k : Nat) (F G : Int) (ss rs : List Wt), k ≤ n ∧ -1 ≤ F ∧ F ≤ 10 ∧ -1 ≤ G ∧ G ≤ 10 ∧ f = .int .i64 F ∧ g = .int .i64 G ∧ i = .int .i64 k ∧ Hid (TW W a b k F G ss rs wr)) (fun _ _ i _ => n - (intOf i).toNat)
  case atStart => exact ⟨0, -1, -1, [], [], by omega, by omega, by omega, by omega, by omega, rfl, rfl, rfl, S2⟩
  case round =>
    clear S2
    obtain ⟨k, F, G, ss, rs, hk, f1, f2, g1, g2, rfl, rfl, rfl, hS⟩ := hrel
    by_cases hlt : k < n
    · have k1 : (k : Int) < (n : Int) := by omega
      have k2 : 0 ≤ (k : Int) := by omega
      have k3 : (k : Int) < (len : Int) := by omega
      have hkl : k < l.length := by rw [HLN.out]; omega
      obtain ⟨bb, off, rfl, hbb, c0⟩ := IsB.at HA.out (hS.out.ms.bel.trans ((below_al wr (.cells #[.int .i64 5, .int .i64 k, .int .i64 k] 30)).mono hS.out.ms.bel.size)) (List.getElem?_eq_getElem hkl)
      generalize l[k]'hkl = y at *
      clear hkl
      go_wp2_with fail
      have ha : (wr.alloc (.cells #[.int .i64 5, .int .i64 k, .int .i64 k] 30)).heap[wr.heap.size]? = some (.cells #[.int .i64 5, .int .i64 k, .int .i64 k] 30 (0, 0)) := heap_alloc_new _ _
      have HT := Lib.hid hS.out
      have S0 := Lib.hid (hS.out.ms.alloc (.cells #[.int .i64 5, .int .i64 k, .int .i64 k] 30))
      clear hS
      have HCC : Hid (∀ w' : World, Below W.heap.size W w' → w'.cell? ⟨bb, off + k, none⟩ = some (.bool y)) := fun w' hb => by
        have h9 := (cell_blk (hb.block bb hbb) (off + k)).trans ((cell_blk ((HT.out.ms.bel.trans ((below_al wr (.cells #[.int .i64 5, .int .i64 k, .int .i64 k] 30)).mono HT.out.ms.bel.size)).block bb hbb) (off + k)).symm.trans c0)
        exact h9
      generalize wr.heap.size = g at *
      generalize wr.alloc (.cells #[.int .i64 5, .int .i64 k, .int .i64 k] 30) = w0 at *
      cases y
      · have HKP : Hid (∀ w' : World, Hid (w'.heap[g]? = some (.cells #[.int .i64 5, .int .i64 k, .int .i64 k] 30 (0, 0)) ∧ w'.cell? ⟨bb, off + k, none⟩ = some (.bool false)) → w'.cell? ⟨g, 0, none⟩ = some (.int .i64 5) ∧ w'.cell? ⟨g, 1, none⟩ = some (.int .i64 k) ∧ w'.cell? ⟨g, 2, none⟩ = some (.int .i64 k) ∧ w'.cell? ⟨bb, off + k, none⟩ = some (.bool false)) := fun w' h => ⟨cell_of_row w' g 0 _ _ _ h.1, cell_of_row w' g 1 _ _ _ h.1, cell_of_row w' g 2 _ _ _ h.1, h.2⟩
        have HAA : Hid (∀ w3 : World, Hid (MS W [(a, cT ss rs), (b, cT ss rs)] w3) → Hid (w3.heap[g]? = some (.cells #[.int .i64 5, .int .i64 k, .int .i64 k] 30 (0, 0)) ∧ w3.cell? ⟨bb, off + k, none⟩ = some (.bool false)) → Calls Try.prog 17 #[.pointer (some ⟨a, 0, none⟩), .agg #[.int .i64 5, .int .i64 k, .int .i64 k], .bool false] w3 fun e w' => e = .returned (.int .i64 0) ∧ Hid (MS W [(a, cT ss (rs ++ [wT k])), (b, cT ss rs)] w') ∧ Hid (w'.heap[g]? = some (.cells #[.int .i64 5, .int .i64 k, .int .i64 k] 30 (0, 0)) ∧ w'.cell? ⟨bb, off + k, none⟩ = some (.bool false))) := by
          intro w3 h3 k3
          refine (ms_wait (i := 0) (s' := cT ss (rs ++ [wT k])) (r := 0) (wT k) false (show Wf 5 by unfold Wf; decide) h3 rfl (HT.out.wq (by omega)) (wt_r ss rs _ rfl HT.out.t1)).mono ?_
          rintro e w4 ⟨rfl, s4, k4⟩
          exact ⟨rfl, s4, k4.at k3.1 (by decide), HCC.out _ s4.bel⟩
        have HBB : Hid (∀ w3 : World, Hid (MS W [(a, cT ss (rs ++ [wT k])), (b, cT ss rs)] w3) → Hid (w3.heap[g]? = some (.cells #[.int .i64 5, .int .i64 k, .int .i64 k] 30 (0, 0)) ∧ w3.cell? ⟨bb, off + k, none⟩ = some (.bool false)) → Calls Try.prog 17 #[.pointer (some ⟨b, 0, none⟩), .agg #[.int .i64 5, .int .i64 k, .int .i64 k], .bool false] w3 fun e w' => e = .returned (.int .i64 0) ∧ Hid (MS W [(a, cT ss (rs ++ [wT k])), (b, cT ss (rs ++ [wT k]))] w') ∧ Hid (w'.heap[g]? = some (.cells #[.int .i64 5, .int .i64 k, .int .i64 k] 30 (0, 0)) ∧ w'.cell? ⟨bb, off + k, none⟩ = some (.bool false))) := by
          intro w3 h3 k3
          refine (ms_wait (i := 1) (s' := cT ss (rs ++ [wT k])) (r := 0) (wT k) false (show Wf 5 by unfold Wf; decide) h3 rfl (HT.out.wq (by omega)) (wt_r ss rs _ rfl HT.out.t1)).mono ?_
          rintro e w4 ⟨rfl, s4, k4⟩
          exact ⟨rfl, s4, k4.at k3.1 (by decide), HCC.out _ s4.bel⟩
        have HM0 : Hid (MS W [(a, cT ss rs), (b, cT ss rs)] w0.drew) := S0.out.draws rfl rfl rfl rfl
        have HK0 : Hid (w0.drew.heap[g]? = some (.cells #[.int .i64 5, .int .i64 k, .int .i64 k] 30 (0, 0)) ∧ w0.drew.cell? ⟨bb, off + k, none⟩ = some (.bool false)) := ⟨ha, HCC.out _ (S0.out.draws (w' := w0.drew) rfl rfl rfl rfl).bel⟩
        clear S0 HCC ha
        go_region_held3 (fun w' => w'.cell? ⟨g, 0, none⟩ = some (.int .i64 5) ∧ w'.cell? ⟨g, 1, none⟩ = some (.int .i64 k) ∧ w'.cell? ⟨g, 2, none⟩ = some (.int .i64 k) ∧ w'.cell? ⟨bb, off + k, none⟩ = some (.bool false))
          (first
            | exact HKP.out _ HK0
            | exact HKP.out _ K5
            | exact HKP.out _ K6)
          (first
            | (go_at_call 17; (with_reducible refine (HAA.out _ HM0 HK0).mono ?_); rintro e w5 ⟨rfl, S5, K5⟩)
            | (go_at_call 17; (with_reducible refine (HBB.out _ S5 K5).mono ?_); rintro e w6 ⟨rfl, S6, K6⟩))
        all_goals
          have e0 := K6.out.2
          clear HAA HBB HKP HM0 HK0 K6
          by_cases d : G < 0
          · have T : Hid (TW W a b (k + 1) F k ss (rs ++ [wT k]) _) := HT.out.recvF (S6.out.draws rfl rfl rfl rfl) d
            clear S6 HT
            go_wp2_with fail
            go_roundw
            case rel => exact ⟨k + 1, F, k, ss, rs ++ [wT k], by omega, by omega, by omega, by omega, by omega, rfl, rfl, by go_num, T⟩
            case measure => simp [intOf]; omega
          · have T : Hid (TW W a b (k + 1) F G ss (rs ++ [wT k]) _) := HT.out.recvM (S6.out.draws rfl rfl rfl rfl) d
            clear S6 HT
            go_wp2_with fail
            go_roundw
            case rel => exact ⟨k + 1, F, G, ss, rs ++ [wT k], by omega, by omega, by omega, by omega, by omega, rfl, rfl, by go_num, T⟩
            case measure => simp [intOf]; omega
      · have HKP : Hid (∀ w' : World, Hid (w'.heap[g]? = some (.cells #[.int .i64 5, .int .i64 k, .int .i64 k] 30 (0, 0)) ∧ w'.cell? ⟨bb, off + k, none⟩ = some (.bool true)) → w'.cell? ⟨g, 0, none⟩ = some (.int .i64 5) ∧ w'.cell? ⟨g, 1, none⟩ = some (.int .i64 k) ∧ w'.cell? ⟨g, 2, none⟩ = some (.int .i64 k) ∧ w'.cell? ⟨bb, off + k, none⟩ = some (.bool true)) := fun w' h => ⟨cell_of_row w' g 0 _ _ _ h.1, cell_of_row w' g 1 _ _ _ h.1, cell_of_row w' g 2 _ _ _ h.1, h.2⟩
        have HAA : Hid (∀ w3 : World, Hid (MS W [(a, cT ss rs), (b, cT ss rs)] w3) → Hid (w3.heap[g]? = some (.cells #[.int .i64 5, .int .i64 k, .int .i64 k] 30 (0, 0)) ∧ w3.cell? ⟨bb, off + k, none⟩ = some (.bool true)) → Calls Try.prog 17 #[.pointer (some ⟨a, 0, none⟩), .agg #[.int .i64 5, .int .i64 k, .int .i64 k], .bool true] w3 fun e w' => e = .returned (.int .i64 0) ∧ Hid (MS W [(a, cT (ss ++ [wT k]) rs), (b, cT ss rs)] w') ∧ Hid (w'.heap[g]? = some (.cells #[.int .i64 5, .int .i64 k, .int .i64 k] 30 (0, 0)) ∧ w'.cell? ⟨bb, off + k, none⟩ = some (.bool true))) := by
          intro w3 h3 k3
          refine (ms_wait (i := 0) (s' := cT (ss ++ [wT k]) rs) (r := 0) (wT k) true (show Wf 5 by unfold Wf; decide) h3 rfl (HT.out.wq (by omega)) (wt_s ss rs _ rfl HT.out.t2)).mono ?_
          rintro e w4 ⟨rfl, s4, k4⟩
          exact ⟨rfl, s4, k4.at k3.1 (by decide), HCC.out _ s4.bel⟩
        have HBB : Hid (∀ w3 : World, Hid (MS W [(a, cT (ss ++ [wT k]) rs), (b, cT ss rs)] w3) → Hid (w3.heap[g]? = some (.cells #[.int .i64 5, .int .i64 k, .int .i64 k] 30 (0, 0)) ∧ w3.cell? ⟨bb, off + k, none⟩ = some (.bool true)) → Calls Try.prog 17 #[.pointer (some ⟨b, 0, none⟩), .agg #[.int .i64 5, .int .i64 k, .int .i64 k], .bool true] w3 fun e w' => e = .returned (.int .i64 0) ∧ Hid (MS W [(a, cT (ss ++ [wT k]) rs), (b, cT (ss ++ [wT k]) rs)] w') ∧ Hid (w'.heap[g]? = some (.cells #[.int .i64 5, .int .i64 k, .int .i64 k] 30 (0, 0)) ∧ w'.cell? ⟨bb, off + k, none⟩ = some (.bool true))) := by
          intro w3 h3 k3
          refine (ms_wait (i := 1) (s' := cT (ss ++ [wT k]) rs) (r := 0) (wT k) true (show Wf 5 by unfold Wf; decide) h3 rfl (HT.out.wq (by omega)) (wt_s ss rs _ rfl HT.out.t2)).mono ?_
          rintro e w4 ⟨rfl, s4, k4⟩
          exact ⟨rfl, s4, k4.at k3.1 (by decide), HCC.out _ s4.bel⟩
        have HM0 : Hid (MS W [(a, cT ss rs), (b, cT ss rs)] w0.drew) := S0.out.draws rfl rfl rfl rfl
        have HK0 : Hid (w0.drew.heap[g]? = some (.cells #[.int .i64 5, .int .i64 k, .int .i64 k] 30 (0, 0)) ∧ w0.drew.cell? ⟨bb, off + k, none⟩ = some (.bool true)) := ⟨ha, HCC.out _ (S0.out.draws (w' := w0.drew) rfl rfl rfl rfl).bel⟩
        clear S0 HCC ha
        go_region_held3 (fun w' => w'.cell? ⟨g, 0, none⟩ = some (.int .i64 5) ∧ w'.cell? ⟨g, 1, none⟩ = some (.int .i64 k) ∧ w'.cell? ⟨g, 2, none⟩ = some (.int .i64 k) ∧ w'.cell? ⟨bb, off + k, none⟩ = some (.bool true))
          (first
            | exact HKP.out _ HK0
            | exact HKP.out _ K5
            | exact HKP.out _ K6)
          (first
            | (go_at_call 17; (with_reducible refine (HAA.out _ HM0 HK0).mono ?_); rintro e w5 ⟨rfl, S5, K5⟩)
            | (go_at_call 17; (with_reducible refine (HBB.out _ S5 K5).mono ?_); rintro e w6 ⟨rfl, S6, K6⟩))
        all_goals
          have e0 := K6.out.2
          clear HAA HBB HKP HM0 HK0 K6
          by_cases d : F < 0
          · have T : Hid (TW W a b (k + 1) k G (ss ++ [wT k]) rs _) := HT.out.sendF (S6.out.draws rfl rfl rfl rfl) d
            clear S6 HT
            go_wp2_with fail
            go_roundw
            case rel => exact ⟨k + 1, k, G, ss ++ [wT k], rs, by omega, by omega, by omega, by omega, by omega, rfl, rfl, by go_num, T⟩
            case measure => simp [intOf]; omega
          · have T : Hid (TW W a b (k + 1) F G (ss ++ [wT k]) rs _) := HT.out.sendM (S6.out.draws rfl rfl rfl rfl) d
            clear S6 HT
            go_wp2_with fail
            go_roundw
            case rel => exact ⟨k + 1, F, G, ss ++ [wT k], rs, by omega, by omega, by omega, by omega, by omega, rfl, rfl, by go_num, T⟩
            case measure => simp [intOf]; omega
    · obtain rfl : k = n := by omega
      obtain ⟨ms, hlen, t1, t2, e1, e2⟩ := hS.out
      have HCT : Hid ((ss.countP (isT 5) : Int) + (rs.countP (isT 5) : Int) = (k : Int)) := by show _ = _; rw [ct_five t1, ct_five t2]; omega
      have HLL : Hid (ss.length ≤ 10 ∧ rs.length ≤ 10) := by show _ ∧ _; omega
      have HT1 := Lib.hid t1
      have HT2 := Lib.hid t2
      clear hS hlt
      rcases e2 with ⟨rfl, rfl⟩ | ⟨x, r, rfl, rfl, g0⟩
      · rcases e1 with ⟨rfl, rfl⟩ | ⟨x, r, rfl, rfl, f0⟩
        · simp at hlen; omega
        · have q9 : ¬ x.c < 0 := by omega
          have q8 : ¬ 0 ≤ (-1 : Int) := by omega
          clear hlen t1 t2 f0
          cases o
          · have S := Lib.hid ms
            clear ms
            go_wp2_with fail
            have hrm := ms_remove (i := 1) 5 S.out rfl (by have := HLL.out; simp only [cT]; omega) (by have := HLL.out; simp only [cT]; omega)
            simp only [cT] at hrm
            rw [HCT.out] at hrm
            refine hrm.mono ?_
            rintro e w3 ⟨rfl, s3, _⟩
            have S3 : Hid (MS W [(a, cT (x :: r) []), (b, cT [] [])] w3) := by rw [← gone_five HT1.out HT2.out]; exact s3
            clear s3 S hrm
            go_wp2_with fail
            refine (ms_remove (i := 1) 5 S3.out rfl (by simp [cT]) (by simp [cT])).mono ?_
            rintro e w4 ⟨rfl, s4, _⟩
            have S4 : Hid (MS W [(a, cT (x :: r) []), (b, cT [] [])] w4) := s4
            simp only [cT, List.countP_nil]
            clear s4 S3
            go_wp2_with fail
            refine (ms_close (i := 0) (n := 1) S4.out rfl rfl rfl (le_ten HLL.out.1) (Nat.zero_le _) (totS x r HT1.out) rfl).mono ?_
            rintro e w5 ⟨A5, n5, rfl, r5, s5, _⟩
            have HB5 := Lib.hid s5.bel
            obtain ⟨b5, cs5, rfl, hb5, q0, q1, q2, q3, q4⟩ := RdK.head r5
            simp only at q0 q1 q2 q3 q4
            clear s5 S4 r5 hb5
            go_wp2_with fail
            refine (awake_any _).mono ?_
            rintro e w' ⟨rfl, hb⟩
            have HB := Lib.hid (HB5.out.trans (hb.mono HB5.out.size))
            clear hb HB5
            go_wp2_with fail
            go_ret
            exact ⟨rfl, HB.out⟩
          · go_wp2_with fail
            refine (ms_wait (i := 0) ⟨6, 1, 0⟩ true (by unfold Wf; decide) ms rfl (by intro z; have := HLL.out; cases z <;> simp [cT, CS.q] at * <;> omega) (wt_six_yes _)).mono ?_
            rintro e w9 ⟨rfl, s9, _⟩
            have S : Hid (MS W [(a, cT (x :: r ++ [⟨6, 1, 0⟩]) []), (b, cT (x :: r) [])] w9) := s9
            clear s9 ms
            go_wp2_with fail
            have hrm := ms_remove (i := 1) 5 S.out rfl (by have := HLL.out; simp only [cT]; omega) (by have := HLL.out; simp only [cT]; omega)
            simp only [cT] at hrm
            rw [HCT.out] at hrm
            refine hrm.mono ?_
            rintro e w3 ⟨rfl, s3, _⟩
            have S3 : Hid (MS W [(a, cT (x :: r ++ [⟨6, 1, 0⟩]) []), (b, cT [] [])] w3) := by rw [← gone_five HT1.out HT2.out]; exact s3
            clear s3 S hrm
            go_wp2_with fail
            refine (ms_remove (i := 1) 5 S3.out rfl (by simp [cT]) (by simp [cT])).mono ?_
            rintro e w4 ⟨rfl, s4, _⟩
            have S4 : Hid (MS W [(a, cT (x :: r ++ [⟨6, 1, 0⟩]) []), (b, cT [] [])] w4) := s4
            simp only [cT, List.countP_nil]
            clear s4 S3
            go_wp2_with fail
            refine (ms_close (i := 0) (n := 2) S4.out rfl rfl rfl (app_ten HLL.out.1) (Nat.zero_le _) (totO x r HT1.out) rfl).mono ?_
            rintro e w5 ⟨A5, n5, rfl, r5, s5, _⟩
            have HB5 := Lib.hid s5.bel
            obtain ⟨b5, cs5, rfl, hb5, q0, q1, q2, q3, q4⟩ := RdK.head r5
            simp only at q0 q1 q2 q3 q4
            clear s5 S4 r5 hb5
            go_wp2_with fail
            refine (awake_any _).mono ?_
            rintro e w' ⟨rfl, hb⟩
            have HB := Lib.hid (HB5.out.trans (hb.mono HB5.out.size))
            clear hb HB5
            go_wp2_with fail
            go_ret
            exact ⟨rfl, HB.out⟩
      · have q9 : 0 ≤ x.c := g0
        have q8 : ¬ x.c < 0 := by omega
        clear hlen t1 t2 e1 g0
        cases o
        · have S := Lib.hid ms
          clear ms
          go_wp2_with fail
          have hrm := ms_remove (i := 1) 5 S.out rfl (by have := HLL.out; simp only [cT]; omega) (by have := HLL.out; simp only [cT]; omega)
          simp only [cT] at hrm
          rw [HCT.out] at hrm
          refine hrm.mono ?_
          rintro e w3 ⟨rfl, s3, _⟩
          have S3 : Hid (MS W [(a, cT ss (x :: r)), (b, cT [] [])] w3) := by rw [← gone_five HT1.out HT2.out]; exact s3
          clear s3 S hrm
          go_wp2_with fail
          refine (ms_remove (i := 1) 5 S3.out rfl (by simp [cT]) (by simp [cT])).mono ?_
          rintro e w4 ⟨rfl, s4, _⟩
          have S4 : Hid (MS W [(a, cT ss (x :: r)), (b, cT [] [])] w4) := s4
          simp only [cT, List.countP_nil]
          clear s4 S3
          go_wp2_with fail
          refine (ms_close (i := 0) (n := 1) S4.out rfl rfl rfl (le_ten HLL.out.1) (le_ten HLL.out.2) (totR ss x r HT1.out HT2.out) rfl).mono ?_
          rintro e w5 ⟨A5, n5, rfl, r5, s5, _⟩
          have HB5 := Lib.hid s5.bel
          obtain ⟨b5, cs5, rfl, hb5, q0, q1, q2, q3, q4⟩ := RdK.head r5
          simp only at q0 q1 q2 q3 q4
          clear s5 S4 r5 hb5
          go_wp2_with fail
          refine (awake_any _).mono ?_
          rintro e w' ⟨rfl, hb⟩
          have HB := Lib.hid (HB5.out.trans (hb.mono HB5.out.size))
          clear hb HB5
          go_wp2_with fail
          go_ret
          exact ⟨rfl, HB.out⟩
        · go_wp2_with fail
          refine (ms_wait (i := 0) ⟨6, 1, 0⟩ true (by unfold Wf; decide) ms rfl (by intro z; have := HLL.out; cases z <;> simp [cT, CS.q] at * <;> omega) (wt_six_no _ _ _ HT2.out)).mono ?_
          rintro e w9 ⟨rfl, s9, _⟩
          have S : Hid (MS W [(a, cT ss (x :: r)), (b, cT ss (x :: r))] w9) := s9
          clear s9 ms
          go_wp2_with fail
          have hrm := ms_remove (i := 1) 5 S.out rfl (by have := HLL.out; simp only [cT]; omega) (by have := HLL.out; simp only [cT]; omega)
          simp only [cT] at hrm
          rw [HCT.out] at hrm
          refine hrm.mono ?_
          rintro e w3 ⟨rfl, s3, _⟩
          have S3 : Hid (MS W [(a, cT ss (x :: r)), (b, cT [] [])] w3) := by rw [← gone_five HT1.out HT2.out]; exact s3
          clear s3 S hrm
          go_wp2_with fail
          refine (ms_remove (i := 1) 5 S3.out rfl (by simp [cT]) (by simp [cT])).mono ?_
          rintro e w4 ⟨rfl, s4, _⟩
          have S4 : Hid (MS W [(a, cT ss (x :: r)), (b, cT [] [])] w4) := s4
          simp only [cT, List.countP_nil]
          clear s4 S3
          go_wp2_with fail
          refine (ms_close (i := 0) (n := 1) S4.out rfl rfl rfl (le_ten HLL.out.1) (le_ten HLL.out.2) (totR ss x r HT1.out HT2.out) rfl).mono ?_
          rintro e w5 ⟨A5, n5, rfl, r5, s5, _⟩
          have HB5 := Lib.hid s5.bel
          obtain ⟨b5, cs5, rfl, hb5, q0, q1, q2, q3, q4⟩ := RdK.head r5
          simp only at q0 q1 q2 q3 q4
          clear s5 S4 r5 hb5
          go_wp2_with fail
          refine (awake_any _).mono ?_
          rintro e w' ⟨rfl, hb⟩
          have HB := Lib.hid (HB5.out.trans (hb.mono HB5.out.size))
          clear hb HB5
          go_wp2_with fail
          go_ret
          exact ⟨rfl, HB.out⟩
set_option maxRecDepth 100000 in
theorem twice_out (n : Int) (A : Option Addr) (len cap : Nat) (o : Bool) (W : World) (h : n < 1 ∨ 10 < n ∨ (len : Int) < n ∨ 20 < len) : Calls Try.prog 10 #[.int .i64 n, .slice A len cap, .bool o] W (BoolR true W) := by
  by_cases d0 : n < 1
  · skip
    clear h
    go_enter Try.func10, Try.ntmps10
    go_wp2_with fail
    refine (awake_any W).mono ?_
    rintro e w' ⟨rfl, hb⟩
    have HB := Lib.hid hb
    clear hb
    go_wp2_with fail
    go_ret
    exact ⟨rfl, HB.out⟩
  by_cases d1 : 10 < n
  · skip
    clear h
    go_enter Try.func10, Try.ntmps10
    go_wp2_with fail
    refine (awake_any W).mono ?_
    rintro e w' ⟨rfl, hb⟩
    have HB := Lib.hid hb
    clear hb
    go_wp2_with fail
    go_ret
    exact ⟨rfl, HB.out⟩
  by_cases d2 : (len : Int) < n
  · skip
    clear h
    go_enter Try.func10, Try.ntmps10
    go_wp2_with fail
    refine (awake_any W).mono ?_
    rintro e w' ⟨rfl, hb⟩
    have HB := Lib.hid hb
    clear hb
    go_wp2_with fail
    go_ret
    exact ⟨rfl, HB.out⟩
  · have d5 : 20 < (len : Int) := by omega
    clear h
    go_enter Try.func10, Try.ntmps10
    go_wp2_with fail
    refine (awake_any W).mono ?_
    rintro e w' ⟨rfl, hb⟩
    have HB := Lib.hid hb
    clear hb
    go_wp2_with fail
    go_ret
    exact ⟨rfl, HB.out⟩
theorem twice_walk (n : Int) (A : Option Addr) (len cap : Nat) (l : List Bool) (o : Bool) (W : World) (hA : IsB W A len cap l) : Calls Try.prog 10 #[.int .i64 n, .slice A len cap, .bool o] W (BoolR true W) := by
  by_cases h : n < 1 ∨ 10 < n ∨ (len : Int) < n ∨ 20 < len
  · exact twice_out n A len cap o W h
  · obtain ⟨n, rfl⟩ := Int.eq_ofNat_of_zero_le (show 0 ≤ n by omega)
    exact twice_in n A len cap l o W hA (by omega) (by omega) (by omega) (by omega)
end Go.Proofs.Ytnldodpmfkekbaa
