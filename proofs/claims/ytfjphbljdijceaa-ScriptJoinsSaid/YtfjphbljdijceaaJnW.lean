/- The walk of the law on two scripts. Condition: the entries lie there, of numbers that fit. -/
import Derived.Test.YtfjphbljdijceaaOdW
import Derived.Laws.Concat
namespace Go.Proofs.Ytfjphbljdijceaa
open Go.RowKit
set_option linter.unusedVariables false

theorem app_want {P : Program} {w : World} {ops : Array Oper} {rest : List Oper} {o : Oper} {a : Act} {Q : Exit → Act → World → Prop} (hw : Region.wanted o (yielded ops a.tmps) = true) (s x : Operand) (t : TypeId) (hop : o.op = .call { callee := .builtin .append, args := #[s, x], argTypes := #[t, t] })
    (base e size bytes : Nat) (i : TypeInfo) (z : Value) (ht : P.underlying t = some (.slice e)) (hi : P.info? e = some i) (hz : i.zero = some z) (hs : i.size = size) (hby : i.bytes = bytes) (hzs : z.cells.size = size) (hp : 0 < size)
    (v : Value) (n : Nat) (xs : List Value) (hv : a.eval s = v) (ho : w.ownsRow base e size v n xs) (B : Nat) (A : Option Addr) (m c : Nat) (news : List Value) (hx : a.eval x = .slice A m c) (hr : Rd w B A m size news)
    (h1 : ∀ u ∈ news, u.oneCell' = true) (h63 : n + m ≤ maxLen) (hb : (n + m) * bytes ≤ 140737488355328) (hbase : base ≤ w.heap.size)
    (hK : ∀ v' w', w'.ownsRow base e size v' (n + m) (xs ++ news) → w.grownBy w' v.ownBlock → wpList P ops Q rest (a.put o.dst v') w') : wpList P ops Q (o :: rest) a w := by
  refine BigFrame.wpList_want hw fun K hK' => ?_
  obtain ⟨v', w', r1, r2, r3⟩ := app_run (P := P) (w := w) (ty := o.type) (c := c) ht hi hz hs hby hzs hp ho hr h1 h63 hb hbase
  unfold Oper.wp execOp
  simp only [hop, resolve, invoke, builtin, Sem.run_bind, Sem.run_pure, Result.andThen_ok, List.map_toArray, List.map_cons, List.map_nil, hv, hx, r1]
  exact hK' _ _ (hK v' w' r2 r3)

theorem strs_app (a b : List Int) : strOfNums a ++ strOfNums b = strOfNums (a ++ b) := by
  have h : (strOfNums a ++ strOfNums b).data = (strOfNums (a ++ b)).data := by simp [strOfNums]
  cases h1 : strOfNums a ++ strOfNums b
  cases h2 : strOfNums (a ++ b)
  rw [h1, h2] at h
  simp only at h
  rw [h]
theorem joins_a (A A' : Option Addr) (n cap n' cap' : Nat) (w : World) (h : 50 < n) (hn : n ≤ 9223372036854775807) : Calls Try.prog 7 #[.slice A n cap, .slice A' n' cap'] w (BoolR true w) := by
  go_enter Try.func7, Try.ntmps7
  go_wp2_with fail
  refine (awake_any _).mono ?_
  rintro e w1 ⟨rfl, hb⟩
  go_wp2_with fail
  go_ret
  exact ⟨rfl, hb⟩
theorem joins_b (A A' : Option Addr) (n cap n' cap' : Nat) (w : World) (h : n ≤ 50) (h' : 50 < n') (hn : n' ≤ 9223372036854775807) : Calls Try.prog 7 #[.slice A n cap, .slice A' n' cap'] w (BoolR true w) := by
  go_enter Try.func7, Try.ntmps7
  go_wp2_with fail
  refine (awake_any _).mono ?_
  rintro e w1 ⟨rfl, hb⟩
  go_wp2_with fail
  go_ret
  exact ⟨rfl, hb⟩

theorem RdE.of_row {w : World} {base : Nat} {A : Option Addr} {n c : Nat} {l : List En} (hn : l.length = n) (h : w.ownsRow base 35 3 (.slice A n c) n (flV l)) : RdE w A n l := ⟨hn, Rd.of_own h⟩

/-- Two lists of entries, put together. -/
theorem joined_E (W w w2 w3 : World) (v2 v3 : Value) (n n' : Nat) (l l' : List En) (hn : l.length = n) (hn' : l'.length = n') (h2 : w2.ownsRow w.heap.size 35 3 v2 (0 + n) ([] ++ flV l)) (hb2 : Below w.heap.size w w2)
    (h3 : w3.ownsRow w.heap.size 35 3 v3 (0 + n + n') ([] ++ flV l ++ flV l')) (hg3 : w2.grownBy w3 v2.ownBlock) : Below w.heap.size w w3 ∧ ∃ a c, v3 = .slice a (n + n') c ∧ RdE w3 a (n + n') (l ++ l') := by
  refine ⟨below_app hb2 (Nat.le_refl _) hb2.size h2 hg3, ?_⟩
  obtain ⟨a, c, rfl, _, _⟩ := own_cap h3
  rw [Nat.zero_add] at h3 ⊢
  rw [List.nil_append, ← flV_app] at h3
  exact ⟨a, c, rfl, RdE.of_row (by rw [List.length_append, hn, hn']) h3⟩

set_option maxRecDepth 100000 in
set_option maxHeartbeats 1000000 in
theorem joins_no1 (A A' : Option Addr) (n cap n' cap' : Nat) (l l' : List En) (w : World) (h : n ≤ 50) (h' : n' ≤ 50) (hR : Hid (RdE w A n l)) (hR' : Hid (RdE w A' n' l')) (ho : Hid (¬ allOk l)) (ho' : Hid (¬ allOk l')) : Calls Try.prog 7 #[.slice A n cap, .slice A' n' cap'] w (BoolR true w) := by
  have HNo : Hid (¬ ((l ++ l').length ≤ 2000 ∧ allOk (l ++ l'))) := fun h => ho.out (fun e he => h.2 e (List.mem_append_left _ he))
  go_enter Try.func7, Try.ntmps7
  go_wp2_with fail
  refine (enc_no hR.out (by omega) (fun h => ho.out h.2)).mono ?_
  rintro e w1 ⟨hb1, rfl⟩
  have HB1 := Lib.hid hb1
  have HE1 := Lib.hid (hR.out.later hb1)
  have HF1 := Lib.hid (hR'.out.later hb1)
  clear hb1
  go_wp2_with fail
  refine (enc_no HF1.out (by omega) (fun h => ho'.out h.2)).mono ?_
  rintro e w2 ⟨hb2, rfl⟩
  have HB2 := Lib.hid (HB1.out.trans (hb2.mono HB1.out.size))
  have HE2 := Lib.hid (HE1.out.later hb2)
  have HF2 := Lib.hid (HF1.out.later hb2)
  clear hb2 HB1 HE1 HF1
  obtain ⟨i0, hi, hz0, hz1, hz2⟩ := info_parts Try.info35
  have hE := own_empty w2 35 3 w2.heap.size w2.heap.size rfl (Nat.le_refl _)
  have HRa := Lib.hid (Rd.of_E (HE2.out.later (below_al w2 (.cells #[] 35))))
  go_wp2_with (first | (at_builtin; refine app_wp rfl (.tmp 33) (.tmp 34) 22 rfl w2.heap.size 35 3 24 i0 (.agg #[.int .i64 0, .int .i64 0, .int .i64 0]) Try.underlying22 hi hz0 hz1 hz2 rfl (by decide) _ 0 [] rfl hE _ A n cap _ rfl HRa.out (flV_one _) (by unfold maxLen; omega) (by omega) (by simp) ?_; intro v3 w3 ho3 hg3; have HB3 := Lib.hid (below_app (below_al w2 (.cells #[] 35)) (Nat.le_refl _) (by simp) hE hg3); have HO3 := Lib.hid ho3; have hs3 := HB3.out.size; have HG3 := Lib.hid (Rd.of_E (HF2.out.later HB3.out)); clear hE HRa ho3 hg3) | (at_builtin; refine app_wp rfl (.tmp 35) (.tmp 36) 22 rfl w2.heap.size 35 3 24 i0 (.agg #[.int .i64 0, .int .i64 0, .int .i64 0]) Try.underlying22 hi hz0 hz1 hz2 rfl (by decide) v3 _ _ rfl HO3.out _ A' n' cap' _ rfl HG3.out (flV_one _) (by unfold maxLen; omega) (by omega) (by omega) ?_; intro v4 w4 ho4 hg4))
  obtain ⟨hb4, A4, c4, rfl, hE4⟩ := joined_E w w2 w3 w4 v3 v4 n n' l l' hR.out.1 hR'.out.1 HO3.out HB3.out ho4 hg4
  have HB4 := Lib.hid (HB2.out.trans (hb4.mono HB2.out.size))
  have HE4 := Lib.hid hE4
  clear hb4 hE4 HB2 HE2 HF2 HB3 HO3 HG3 ho4 hg4 hs3
  refine (enc_no HE4.out (by omega) HNo.out).mono ?_
  rintro e w5 ⟨hb5, rfl⟩
  have HB5 := Lib.hid (HB4.out.trans (hb5.mono HB4.out.size))
  clear hb5 HB4 HE4
  go_wp2_with fail
  refine (awake_any _).mono ?_
  rintro e w6 ⟨rfl, hb6⟩
  go_wp2_with fail
  go_ret
  exact ⟨rfl, HB5.out.trans (hb6.mono HB5.out.size)⟩
set_option maxRecDepth 100000 in
set_option maxHeartbeats 1000000 in
theorem joins_no2 (A A' : Option Addr) (n cap n' cap' : Nat) (l l' : List En) (w : World) (h : n ≤ 50) (h' : n' ≤ 50) (hR : Hid (RdE w A n l)) (hR' : Hid (RdE w A' n' l')) (ho : Hid (allOk l)) (ho' : Hid (¬ allOk l')) : Calls Try.prog 7 #[.slice A n cap, .slice A' n' cap'] w (BoolR true w) := by
  have HNo : Hid (¬ ((l ++ l').length ≤ 2000 ∧ allOk (l ++ l'))) := fun h => ho'.out (fun e he => h.2 e (List.mem_append_right _ he))
  go_enter Try.func7, Try.ntmps7
  go_wp2_with fail
  refine (enc_yes hR.out (by omega) ho.out).mono ?_
  rintro e w1 ⟨hb1, A1, c1, _, _, rfl, _⟩
  have HB1 := Lib.hid hb1
  have HE1 := Lib.hid (hR.out.later hb1)
  have HF1 := Lib.hid (hR'.out.later hb1)
  clear hb1
  go_wp2_with fail
  refine (enc_no HF1.out (by omega) (fun h => ho'.out h.2)).mono ?_
  rintro e w2 ⟨hb2, rfl⟩
  have HB2 := Lib.hid (HB1.out.trans (hb2.mono HB1.out.size))
  have HE2 := Lib.hid (HE1.out.later hb2)
  have HF2 := Lib.hid (HF1.out.later hb2)
  clear hb2 HB1 HE1 HF1
  obtain ⟨i0, hi, hz0, hz1, hz2⟩ := info_parts Try.info35
  have hE := own_empty w2 35 3 w2.heap.size w2.heap.size rfl (Nat.le_refl _)
  have HRa := Lib.hid (Rd.of_E (HE2.out.later (below_al w2 (.cells #[] 35))))
  go_wp2_with (first | (at_builtin; refine app_wp rfl (.tmp 33) (.tmp 34) 22 rfl w2.heap.size 35 3 24 i0 (.agg #[.int .i64 0, .int .i64 0, .int .i64 0]) Try.underlying22 hi hz0 hz1 hz2 rfl (by decide) _ 0 [] rfl hE _ A n cap _ rfl HRa.out (flV_one _) (by unfold maxLen; omega) (by omega) (by simp) ?_; intro v3 w3 ho3 hg3; have HB3 := Lib.hid (below_app (below_al w2 (.cells #[] 35)) (Nat.le_refl _) (by simp) hE hg3); have HO3 := Lib.hid ho3; have hs3 := HB3.out.size; have HG3 := Lib.hid (Rd.of_E (HF2.out.later HB3.out)); clear hE HRa ho3 hg3) | (at_builtin; refine app_wp rfl (.tmp 35) (.tmp 36) 22 rfl w2.heap.size 35 3 24 i0 (.agg #[.int .i64 0, .int .i64 0, .int .i64 0]) Try.underlying22 hi hz0 hz1 hz2 rfl (by decide) v3 _ _ rfl HO3.out _ A' n' cap' _ rfl HG3.out (flV_one _) (by unfold maxLen; omega) (by omega) (by omega) ?_; intro v4 w4 ho4 hg4))
  obtain ⟨hb4, A4, c4, rfl, hE4⟩ := joined_E w w2 w3 w4 v3 v4 n n' l l' hR.out.1 hR'.out.1 HO3.out HB3.out ho4 hg4
  have HB4 := Lib.hid (HB2.out.trans (hb4.mono HB2.out.size))
  have HE4 := Lib.hid hE4
  clear hb4 hE4 HB2 HE2 HF2 HB3 HO3 HG3 ho4 hg4 hs3
  refine (enc_no HE4.out (by omega) HNo.out).mono ?_
  rintro e w5 ⟨hb5, rfl⟩
  have HB5 := Lib.hid (HB4.out.trans (hb5.mono HB4.out.size))
  clear hb5 HB4 HE4
  go_wp2_with fail
  refine (awake_any _).mono ?_
  rintro e w6 ⟨rfl, hb6⟩
  go_wp2_with fail
  go_ret
  exact ⟨rfl, HB5.out.trans (hb6.mono HB5.out.size)⟩
set_option maxRecDepth 100000 in
set_option maxHeartbeats 1000000 in
theorem joins_no3 (A A' : Option Addr) (n cap n' cap' : Nat) (l l' : List En) (w : World) (h : n ≤ 50) (h' : n' ≤ 50) (hR : Hid (RdE w A n l)) (hR' : Hid (RdE w A' n' l')) (ho : Hid (¬ allOk l)) (ho' : Hid (allOk l')) : Calls Try.prog 7 #[.slice A n cap, .slice A' n' cap'] w (BoolR true w) := by
  have HNo : Hid (¬ ((l ++ l').length ≤ 2000 ∧ allOk (l ++ l'))) := fun h => ho.out (fun e he => h.2 e (List.mem_append_left _ he))
  go_enter Try.func7, Try.ntmps7
  go_wp2_with fail
  refine (enc_no hR.out (by omega) (fun h => ho.out h.2)).mono ?_
  rintro e w1 ⟨hb1, rfl⟩
  have HB1 := Lib.hid hb1
  have HE1 := Lib.hid (hR.out.later hb1)
  have HF1 := Lib.hid (hR'.out.later hb1)
  clear hb1
  go_wp2_with fail
  refine (enc_yes HF1.out (by omega) ho'.out).mono ?_
  rintro e w2 ⟨hb2, A1, c1, _, _, rfl, _⟩
  have HB2 := Lib.hid (HB1.out.trans (hb2.mono HB1.out.size))
  have HE2 := Lib.hid (HE1.out.later hb2)
  have HF2 := Lib.hid (HF1.out.later hb2)
  clear hb2 HB1 HE1 HF1
  obtain ⟨i0, hi, hz0, hz1, hz2⟩ := info_parts Try.info35
  have hE := own_empty w2 35 3 w2.heap.size w2.heap.size rfl (Nat.le_refl _)
  have HRa := Lib.hid (Rd.of_E (HE2.out.later (below_al w2 (.cells #[] 35))))
  go_wp2_with (first | (at_builtin; refine app_wp rfl (.tmp 33) (.tmp 34) 22 rfl w2.heap.size 35 3 24 i0 (.agg #[.int .i64 0, .int .i64 0, .int .i64 0]) Try.underlying22 hi hz0 hz1 hz2 rfl (by decide) _ 0 [] rfl hE _ A n cap _ rfl HRa.out (flV_one _) (by unfold maxLen; omega) (by omega) (by simp) ?_; intro v3 w3 ho3 hg3; have HB3 := Lib.hid (below_app (below_al w2 (.cells #[] 35)) (Nat.le_refl _) (by simp) hE hg3); have HO3 := Lib.hid ho3; have hs3 := HB3.out.size; have HG3 := Lib.hid (Rd.of_E (HF2.out.later HB3.out)); clear hE HRa ho3 hg3) | (at_builtin; refine app_wp rfl (.tmp 35) (.tmp 36) 22 rfl w2.heap.size 35 3 24 i0 (.agg #[.int .i64 0, .int .i64 0, .int .i64 0]) Try.underlying22 hi hz0 hz1 hz2 rfl (by decide) v3 _ _ rfl HO3.out _ A' n' cap' _ rfl HG3.out (flV_one _) (by unfold maxLen; omega) (by omega) (by omega) ?_; intro v4 w4 ho4 hg4))
  obtain ⟨hb4, A4, c4, rfl, hE4⟩ := joined_E w w2 w3 w4 v3 v4 n n' l l' hR.out.1 hR'.out.1 HO3.out HB3.out ho4 hg4
  have HB4 := Lib.hid (HB2.out.trans (hb4.mono HB2.out.size))
  have HE4 := Lib.hid hE4
  clear hb4 hE4 HB2 HE2 HF2 HB3 HO3 HG3 ho4 hg4 hs3
  refine (enc_no HE4.out (by omega) HNo.out).mono ?_
  rintro e w5 ⟨hb5, rfl⟩
  have HB5 := Lib.hid (HB4.out.trans (hb5.mono HB4.out.size))
  clear hb5 HB4 HE4
  go_wp2_with fail
  refine (awake_any _).mono ?_
  rintro e w6 ⟨rfl, hb6⟩
  go_wp2_with fail
  go_ret
  exact ⟨rfl, HB5.out.trans (hb6.mono HB5.out.size)⟩
set_option maxRecDepth 100000 in
set_option maxHeartbeats 1000000 in
theorem joins_yes (A A' : Option Addr) (n cap n' cap' : Nat) (l l' : List En) (w : World) (h : n ≤ 50) (h' : n' ≤ 50) (hR : Hid (RdE w A n l)) (hR' : Hid (RdE w A' n' l')) (ho : Hid (allOk l)) (ho' : Hid (allOk l')) (hi : Hid (allIn l)) (hi' : Hid (allIn l')) : Calls Try.prog 7 #[.slice A n cap, .slice A' n' cap'] w (BoolR true w) := by
  have HO : Hid (allOk (l ++ l')) := fun e he => (List.mem_append.1 he).elim (ho.out e) (ho'.out e)
  have HI : Hid (allIn (l ++ l')) := fun e he => (List.mem_append.1 he).elim (hi.out e) (hi'.out e)
  obtain ⟨N, hN⟩ : ∃ N, (enL l).length = N := ⟨_, rfl⟩
  obtain ⟨M, hM⟩ : ∃ M, (enL l').length = M := ⟨_, rfl⟩
  have hl := enL_len ho.out
  have hl' := enL_len ho'.out
  rw [hN, hR.out.1] at hl
  rw [hM, hR'.out.1] at hl'
  have hN1 : N ≤ 850 := by omega
  have hM1 : M ≤ 850 := by omega
  have HN := Lib.hid hN
  have HM := Lib.hid hM
  have HNM : Hid ((enL (l ++ l')).length = N + M) := by show _ = _; rw [enL_app, List.length_append, hN, hM]
  have HD : Hid (dec (enL l ++ enL l') = some (l ++ l')) := by show _ = _; rw [← enL_app]; exact dec_back HO.out HI.out (by rw [List.length_append, hR.out.1, hR'.out.1]; omega)
  have HLL : Hid ((l ++ l').length = n + n') := by show _ = _; rw [List.length_append, hR.out.1, hR'.out.1]
  clear hl hl' hN hM
  go_enter Try.func7, Try.ntmps7
  go_wp2_with fail
  refine (enc_yesN HN.out hR.out (by omega) ho.out).mono ?_
  rintro e w1 ⟨hb1, A1, c1, h1, h2, rfl, hX1⟩
  have HX1 := Lib.hid hX1
  clear hX1
  have HB1 := Lib.hid hb1
  have HE1 := Lib.hid (hR.out.later hb1)
  have HF1 := Lib.hid (hR'.out.later hb1)
  clear hb1
  go_wp2_with fail
  refine (enc_yesN HM.out HF1.out (by omega) ho'.out).mono ?_
  rintro e w2 ⟨hb2, A2, c2, h3, h4, rfl, hY2⟩
  have HX2 := Lib.hid (HX1.out.later hb2)
  have HY2 := Lib.hid hY2
  clear hY2 HX1
  have HB2 := Lib.hid (HB1.out.trans (hb2.mono HB1.out.size))
  have HE2 := Lib.hid (HE1.out.later hb2)
  have HF2 := Lib.hid (HF1.out.later hb2)
  clear hb2 HB1 HE1 HF1
  obtain ⟨i0, hi, hz0, hz1, hz2⟩ := info_parts Try.info35
  have hE := own_empty w2 35 3 w2.heap.size w2.heap.size rfl (Nat.le_refl _)
  have HRa := Lib.hid (Rd.of_E (HE2.out.later (below_al w2 (.cells #[] 35))))
  go_wp2_with (first | (at_builtin; refine app_wp rfl (.tmp 33) (.tmp 34) 22 rfl w2.heap.size 35 3 24 i0 (.agg #[.int .i64 0, .int .i64 0, .int .i64 0]) Try.underlying22 hi hz0 hz1 hz2 rfl (by decide) _ 0 [] rfl hE _ A n cap _ rfl HRa.out (flV_one _) (by unfold maxLen; omega) (by omega) (by simp) ?_; intro v3 w3 ho3 hg3; have HB3 := Lib.hid (below_app (below_al w2 (.cells #[] 35)) (Nat.le_refl _) (by simp) hE hg3); have HO3 := Lib.hid ho3; have hs3 := HB3.out.size; have HG3 := Lib.hid (Rd.of_E (HF2.out.later HB3.out)); clear hE HRa ho3 hg3) | (at_builtin; refine app_wp rfl (.tmp 35) (.tmp 36) 22 rfl w2.heap.size 35 3 24 i0 (.agg #[.int .i64 0, .int .i64 0, .int .i64 0]) Try.underlying22 hi hz0 hz1 hz2 rfl (by decide) v3 _ _ rfl HO3.out _ A' n' cap' _ rfl HG3.out (flV_one _) (by unfold maxLen; omega) (by omega) (by omega) ?_; intro v4 w4 ho4 hg4))
  obtain ⟨hb4, A4, c4, rfl, hE4⟩ := joined_E w w2 w3 w4 v3 v4 n n' l l' hR.out.1 hR'.out.1 HO3.out HB3.out ho4 hg4
  have HB4 := Lib.hid (HB2.out.trans (hb4.mono HB2.out.size))
  have HE4 := Lib.hid hE4
  have HX4 := Lib.hid (HX2.out.later hb4)
  have HY4 := Lib.hid (HY2.out.later hb4)
  have HEa := Lib.hid (HE2.out.later hb4)
  have HFa := Lib.hid (HF2.out.later hb4)
  clear hb4 hE4 HB2 HE2 HF2 HB3 HO3 HG3 ho4 hg4 hs3 HX2 HY2
  refine (enc_yesN HNM.out HE4.out (by omega) HO.out).mono ?_
  rintro e w5 ⟨hb5, A5, c5, h5, h6, rfl, hZ5⟩
  have HB5 := Lib.hid (HB4.out.trans (hb5.mono HB4.out.size))
  have HX5 := Lib.hid (HX4.out.later hb5)
  have HY5 := Lib.hid (HY4.out.later hb5)
  have HEb := Lib.hid (HEa.out.later hb5)
  have HFb := Lib.hid (HFa.out.later hb5)
  have HZ5 := Lib.hid hZ5
  clear hb5 HB4 HE4 HX4 HY4 HEa HFa hZ5
  obtain ⟨i5, hi5, hz50, hz51, hz52⟩ := info_parts Try.info5
  have hE := own_empty w5 5 1 w5.heap.size w5.heap.size rfl (Nat.le_refl _)
  have HRa := Lib.hid (Rd.of_B (HX5.out.later (below_al w5 (.cells #[] 5))))
  go_wp2_with (first | (at_builtin; refine app_wp rfl (.tmp 53) (.tmp 54) 24 rfl w5.heap.size 5 1 1 i5 (.int .u8 0) Try.underlying24 hi5 hz50 hz51 hz52 rfl (by decide) _ 0 [] rfl hE _ A1 N c1 _ rfl HRa.out (bV_one _) (by unfold maxLen; omega) (by omega) (by simp) ?_; intro v6 w6 ho6 hg6; have HB6 := Lib.hid (below_app (below_al w5 (.cells #[] 5)) (Nat.le_refl _) (by simp) hE hg6); have HO6 := Lib.hid ho6; have hs6 := HB6.out.size; have HG6 := Lib.hid (Rd.of_B (HY5.out.later HB6.out)); clear hE HRa ho6 hg6) | (at_builtin; refine app_wp rfl (.tmp 55) (.tmp 56) 24 rfl w5.heap.size 5 1 1 i5 (.int .u8 0) Try.underlying24 hi5 hz50 hz51 hz52 rfl (by decide) v6 _ _ rfl HO6.out _ A2 M c2 _ rfl HG6.out (bV_one _) (by unfold maxLen; omega) (by omega) (by omega) ?_; intro v7 w7 ho7 hg7))
  have HC7 := Lib.hid (below_app HB6.out (Nat.le_refl _) hs6 HO6.out hg7)
  have HB7 := Lib.hid (HB5.out.trans (HC7.out.mono HB5.out.size))
  obtain ⟨A7, c7, rfl, h7, h8⟩ := own_cap ho7
  rw [List.nil_append, Nat.zero_add] at ho7
  rw [Nat.zero_add] at h7 ⊢
  have HR7 : Hid (RdB w7 w7.heap.size A7 (N + M) (enL l ++ enL l')) := by
    refine RdB.of ?_ (Rd.of_own (by rw [bV_app]; exact ho7))
    rw [← enL_app]; exact enL_byt HO.out
  have HX7 := Lib.hid (HX5.out.later HC7.out)
  have HY7 := Lib.hid (HY5.out.later HC7.out)
  have HZ7 := Lib.hid (HZ5.out.later HC7.out)
  have HEc := Lib.hid (HEb.out.later HC7.out)
  have HFc := Lib.hid (HFb.out.later HC7.out)
  clear ho7 hg7 HB6 HO6 HC7 hs6 HG6 HB5 HX5 HY5 HZ5 HEb HFb
  refine (dec_yesN HLL.out HR7.out h7 h8 (by omega) HD.out).mono ?_
  rintro e w8 ⟨hb8, A8, c8, rfl, hE8⟩
  have HB8 := Lib.hid (HB7.out.trans (hb8.mono HB7.out.size))
  have hX8 := str_run w8 _ A1 N c1 _ (HX7.out.later hb8)
  have hY8 := str_run w8 _ A2 M c2 _ (HY7.out.later hb8)
  have hZ8 := str_run w8 _ A5 (N + M) c5 _ (HZ7.out.later hb8)
  have HEd := Lib.hid (HEc.out.later hb8)
  have HFd := Lib.hid (HFc.out.later hb8)
  have HL8 := Lib.hid hE8
  clear hb8 HB7 HX7 HY7 HZ7 HR7 HEc HFc hE8
  have hadd : (Op.stringOp .add (strOfNums (enL l)) (strOfNums (enL l'))).run Try.prog w8 = .ok (.string (strOfNums (enL (l ++ l')))) w8 := by
    rw [run_string_add_sum _ _ _ (by rw [strOfNums_size, strOfNums_size, HN.out, HM.out]; omega), strs_app, ← enL_app]
  have hE2 := own_empty w8 35 3 w8.heap.size w8.heap.size rfl (Nat.le_refl _)
  have HRb := Lib.hid (Rd.of_E (HEd.out.later (below_al w8 (.cells #[] 35))))
  go_wp2_with (first | (at_builtin; refine app_want rfl (.tmp 79) (.tmp 80) 22 rfl w8.heap.size 35 3 24 i0 (.agg #[.int .i64 0, .int .i64 0, .int .i64 0]) Try.underlying22 hi hz0 hz1 hz2 rfl (by decide) _ 0 [] rfl hE2 _ A n cap _ rfl HRb.out (flV_one _) (by unfold maxLen; omega) (by omega) (by simp) ?_; intro v9 w9 ho9 hg9; have HB9 := Lib.hid (below_app (below_al w8 (.cells #[] 35)) (Nat.le_refl _) (by simp) hE2 hg9); have HO9 := Lib.hid ho9; have hs9 := HB9.out.size; have HG9 := Lib.hid (Rd.of_E (HFd.out.later HB9.out)); clear hE2 HRb ho9 hg9) | (at_builtin; refine app_want rfl (.tmp 81) (.tmp 82) 22 rfl w8.heap.size 35 3 24 i0 (.agg #[.int .i64 0, .int .i64 0, .int .i64 0]) Try.underlying22 hi hz0 hz1 hz2 rfl (by decide) v9 _ _ rfl HO9.out _ A' n' cap' _ rfl HG9.out (flV_one _) (by unfold maxLen; omega) (by omega) (by omega) ?_; intro v10 w10 ho10 hg10))
  obtain ⟨hb10, A10, c10, rfl, hE10⟩ := joined_E w w8 w9 w10 v9 v10 n n' l l' hR.out.1 hR'.out.1 HO9.out HB9.out ho10 hg10
  have HB10 := Lib.hid (HB8.out.trans (hb10.mono HB8.out.size))
  have HL10 := Lib.hid (HL8.out.later hb10)
  have HM10 := Lib.hid hE10
  clear hb10 hE10 HB9 HO9 HG9 ho10 hg10 hs9 HB8 HL8
  refine (same_yes _ _ (n + n') _ _ _ w10 HL10 HM10 (by omega)).mono ?_
  rintro e w11 ⟨rfl, hb11⟩
  have HB11 := Lib.hid (HB10.out.trans (hb11.mono HB10.out.size))
  clear hb11
  go_wp2_with fail
  refine (awake_any _).mono ?_
  rintro e w12 ⟨rfl, hb12⟩
  go_wp2_with fail
  go_ret
  exact ⟨rfl, HB11.out.trans (hb12.mono HB11.out.size)⟩
theorem joins_any (A A' : Option Addr) (n cap n' cap' : Nat) (l l' : List En) (w : World) (hc : n ≤ cap) (hc2 : cap ≤ 9223372036854775807) (hR : RdE w A n l) (hi : allIn l) (hc' : n' ≤ cap') (hc2' : cap' ≤ 9223372036854775807) (hR' : RdE w A' n' l') (hi' : allIn l') : Calls Try.prog 7 #[.slice A n cap, .slice A' n' cap'] w (BoolR true w) := by
  by_cases h : 50 < n
  · exact joins_a A A' n cap n' cap' w h (by omega)
  · by_cases h' : 50 < n'
    · exact joins_b A A' n cap n' cap' w (by omega) h' (by omega)
    · by_cases ho : allOk l
      · by_cases ho' : allOk l'
        · exact joins_yes A A' n cap n' cap' l l' w (by omega) (by omega) hR hR' ho ho' hi hi'
        · exact joins_no2 A A' n cap n' cap' l l' w (by omega) (by omega) hR hR' ho ho'
      · by_cases ho' : allOk l'
        · exact joins_no3 A A' n cap n' cap' l l' w (by omega) (by omega) hR hR' ho ho'
        · exact joins_no1 A A' n cap n' cap' l l' w (by omega) (by omega) hR hR' ho ho'
end Go.Proofs.Ytfjphbljdijceaa
