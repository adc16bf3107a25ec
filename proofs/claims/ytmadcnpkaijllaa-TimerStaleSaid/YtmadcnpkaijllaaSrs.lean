/- Stop, Reset and Fire of package timer. Conditions: each theorem's own premises. -/
import Derived.Test.YtmadcnpkaijllaaSmk
namespace Go.Proofs.Ytmadcnpkaijllaa
open Go.RowKit Ch
set_option linter.unusedVariables false
set_option maxRecDepth 100000
section
variable {W w w' w'' : World} {t m n n' i j c : Nat} {E E' : List On} {S S' : List It} {g g' : Int → Int} {L L' : List (Nat × CS)} {v : Value} {e : Ending} {x : On} {s s' : CS}
/-- The channel of one that was made is dropped: the channels, and whether it had a value. -/
structure Drp (L : List (Nat × CS)) (x : On) (L' : List (Nat × CS)) (b : Bool) : Prop where
  h : (x.ch = none ∧ L' = L ∧ b = false) ∨ ∃ c j s, x.ch = some c ∧ L[j]? = some (c, s) ∧ s.kd = 1 ∧ L' = L.set j (c, { s with l := [] }) ∧ b = decide (0 < s.l.length)
theorem Drp.none (hc : x.ch = none) : Drp L x L false := ⟨.inl ⟨hc, rfl, rfl⟩⟩
theorem Drp.chan (hc : x.ch = some c) (hi : L[j]? = some (c, s)) (hk : s.kd = 1) : Drp L x (L.set j (c, { s with l := [] })) (decide (0 < s.l.length)) := ⟨.inr ⟨c, j, s, hc, hi, hk, rfl, rfl⟩⟩
theorem stopS (h : SS W t E m n S g L w) (hx : E[i]? = some x) {b : Bool} (hd : Drp L x L' b) (hE : E.length ≤ 100000) (hl : S.length ≤ 1000) :
    Calls Try.prog 37 #[pS t, .int .i64 (i : Int)] w (SZ W t E m n (del i S) (fput g i 0) L' (.bool (decide ((i : Int) ∈ ids S) || b)) w) := by
  rcases hd.h with ⟨hc, rfl, rfl⟩ | ⟨c, j, s, hc, hi, hk, rfl, rfl⟩
  · rw [Bool.or_false]
    exact stopS_no h hx hc hE hl
  · exact stopS_ch h hx hc hi hk hE hl
/-- Stop, of one that was made. -/
theorem stop_set (h : SS W t E m n S g L w) (hx : E[i]? = some x) {b : Bool} (hd : Drp L x L' b) (hk : x.kd ≠ 0) (hE : E.length ≤ 100000) (hl : S.length ≤ 1000) :
    Calls Try.prog 17 #[pS t, .int .i64 (i : Int)] w (SZ W t E m n (del i S) (fput g i 0) L' (.tuple #[.bool (decide ((i : Int) ∈ ids S) || b), .int .i64 0]) w) := by
  have HA := Lib.hid h
  have hk2 : (x.kd == 0) = false := by simpa using hk
  have HX := Lib.hid hx
  clear h hk hx
  go_enter Try.func17, Try.ntmps17
  go_wp2_with fail
  refine (kind_any _ HA.out).mono ?_
  rintro e w1 hz
  rw [eA_at HX.out] at hz
  have HZ := Lib.hid hz
  obtain rfl := hz.1
  clear hz
  go_wp2_with fail
  refine (stopS HZ.out.2.1 HX.out hd hE hl).mono ?_
  rintro e w2 hz
  have HY := Lib.hid (SZ.after HZ.out.2.2 hz)
  obtain rfl := hz.1
  clear hz HZ hd
  generalize (decide ((i : Int) ∈ ids S) || b) = d at *
  go_wp2_with fail
  go_ret2
  exact HY.out.but
theorem stop_none {k : Int} (h : SS W t E m n S g L w) (hk : k < 0 ∨ (E.length : Int) ≤ k) : Calls Try.prog 17 #[pS t, .int .i64 k] w (SZ W t E m n S g L (.tuple #[.bool false, .int .i64 4]) w) := by
  have HA := Lib.hid h
  clear h
  go_enter Try.func17, Try.ntmps17
  go_wp2_with fail
  refine (kind_any _ HA.out).mono ?_
  rintro e w1 hz
  rw [eA_no hk] at hz
  have HZ := Lib.hid hz
  obtain rfl := hz.1
  clear hz
  simp only [zO]
  go_wp2_with fail
  go_ret2
  exact HZ.out.but
set_option maxHeartbeats 4000000 in
/-- Reset, of one that was made and may be armed so. -/
theorem reset_ok {now d : Int} (h : SS W t E m n S g L w) (hx : E[i]? = some x) {b : Bool} (hd : Drp L x L' b) (hk : x.kd ≠ 0) (hk4 : x.kd ≠ 4) (ho : DueOk x.kd now d) (hg0 : 0 ≤ x.gn) (hg1 : x.gn ≤ 1000000) (hE : E.length ≤ 100000) (hn : n ≤ 1000000) (hl : S.length < 1000) :
    Calls Try.prog 19 #[pS t, .int .i64 (i : Int), .int .i64 now, .int .i64 d] w (SZ W t (E.set i (up x)) m (n + 1) (ins ⟨i, wn now d, (n : Int) + 1⟩ (del i S)) (fput g i (per x.kd d)) L' (.tuple #[.bool (decide ((i : Int) ∈ ids S) || b), .int .i64 0]) w) := by
  have HA := Lib.hid h
  have hk2 : (x.kd == 0) = false := by simpa using hk
  have hk3 : (x.kd == 4) = false := by simpa using hk4
  have HX := Lib.hid hx
  have F := fun w => due_ok w ho
  have HW := Lib.hid (And.intro (wn_fit d ho.1) (per_fit x.kd d))
  have HN := Lib.hid (And.intro (And.intro hg0 hg1) (And.intro hE (And.intro hn hl)))
  have hdl : (del i S).length ≤ S.length := by unfold del; exact List.length_filter_le _ _
  have hdd : del i (del i S) = del i S := by
    apply del_none; exact del_ids
  clear h hk hk4 hx hg0 hg1 hn
  generalize wn now d = y at *
  generalize per x.kd d = z at *
  go_enter Try.func19, Try.ntmps19
  go_wp2_with fail
  refine (kind_any _ HA.out).mono ?_
  rintro e w1 hz
  rw [eA_at HX.out] at hz
  have HZ := Lib.hid hz
  obtain rfl := hz.1
  clear hz
  go_wp2_with fail
  refine (F _).mono ?_
  rintro e w1' ⟨rfl, rfl⟩
  go_wp2_with fail
  refine (stopS HZ.out.2.1 HX.out hd hE (by omega)).mono ?_
  rintro e w2 hz
  have HY := Lib.hid (SZ.after HZ.out.2.2 hz)
  obtain rfl := hz.1
  clear hz HZ hd
  generalize (decide ((i : Int) ∈ ids S) || b) = dd at *
  go_wp2_with fail
  refine (arm_set y z HY.out.2.1 HX.out HN.out.1.1 HN.out.1.2 HW.out.1 HW.out.2 HN.out.2.1 HN.out.2.2.1 (by omega)).mono ?_
  rintro e w3 hz
  rw [hdd, fput_two] at hz
  have HV := Lib.hid (SZ.after HY.out.2.2 hz)
  obtain rfl := hz.1
  clear hz HY
  go_wp2_with fail
  go_ret2
  exact HV.out.but
theorem reset_none {k now d : Int} (h : SS W t E m n S g L w) (hk : k < 0 ∨ (E.length : Int) ≤ k) : Calls Try.prog 19 #[pS t, .int .i64 k, .int .i64 now, .int .i64 d] w (SZ W t E m n S g L (.tuple #[.bool false, .int .i64 4]) w) := by
  have HA := Lib.hid h
  clear h
  go_enter Try.func19, Try.ntmps19
  go_wp2_with fail
  refine (kind_any _ HA.out).mono ?_
  rintro e w1 hz
  rw [eA_no hk] at hz
  have HZ := Lib.hid hz
  obtain rfl := hz.1
  clear hz
  simp only [zO]
  go_wp2_with fail
  go_ret2
  exact HZ.out.but
theorem reset_bad {now d : Int} (h : SS W t E m n S g L w) (hx : E[i]? = some x) (hk : x.kd ≠ 0) (ho : ¬ DueOk x.kd now d) : Calls Try.prog 19 #[pS t, .int .i64 (i : Int), .int .i64 now, .int .i64 d] w (SZ W t E m n S g L (.tuple #[.bool false, .int .i64 1]) w) := by
  have HA := Lib.hid h
  have hk2 : (x.kd == 0) = false := by simpa using hk
  have HX := Lib.hid hx
  have F := fun w => due_bad w ho
  clear h hk hx
  go_enter Try.func19, Try.ntmps19
  go_wp2_with fail
  refine (kind_any _ HA.out).mono ?_
  rintro e w1 hz
  rw [eA_at HX.out] at hz
  have HZ := Lib.hid hz
  obtain rfl := hz.1
  clear hz
  go_wp2_with fail
  refine (F _).mono ?_
  rintro e w1' ⟨rfl, rfl⟩
  go_wp2_with fail
  go_ret2
  exact HZ.out.but
theorem reset_kind {now d : Int} (h : SS W t E m n S g L w) (hx : E[i]? = some x) (hk : x.kd = 4) (ho : DueOk 4 now d) : Calls Try.prog 19 #[pS t, .int .i64 (i : Int), .int .i64 now, .int .i64 d] w (SZ W t E m n S g L (.tuple #[.bool false, .int .i64 7]) w) := by
  have HA := Lib.hid h
  have HX := Lib.hid hx
  have F := fun w => due_ok w ho
  clear h hx
  go_enter Try.func19, Try.ntmps19
  go_wp2_with fail
  refine (kind_any _ HA.out).mono ?_
  rintro e w1 hz
  rw [eA_at HX.out, hk] at hz
  have HZ := Lib.hid hz
  obtain rfl := hz.1
  clear hz
  go_wp2_with fail
  refine (F _).mono ?_
  rintro e w1' ⟨rfl, rfl⟩
  go_wp2_with fail
  go_ret2
  exact HZ.out.but
end
end Go.Proofs.Ytmadcnpkaijllaa
