/- What package clock's Next, and the reference's, give. Conditions: each theorem's own premises.
Timers in memory: a heap, and periods by numbers; how they carry. No condition.
What each call of package expire makes of timers. Conditions: each theorem's own premises. -/
import Derived.Test.YtmadcnpkaijllaaGreatMemm
import Derived.Test.YtmadcnpkaijllaaGreatRemm
namespace Go.Proofs.YtmadcnpkaijllaaGreat
open Go.RowKit
set_option linter.unusedVariables false
set_option maxRecDepth 100000
theorem ret_int {k : IntKind} {a b : Int} (h : a = b) : Ending.returned (.int k a) = .returned (.int k b) := by rw [h]

/-- a number held at the greatest time and the least -/
def hd (x : Int) : Int := max (-4611686018427387904) (min x 4611686018427387904)
theorem hd_lo (x : Int) : -4611686018427387904 ≤ hd x := by unfold hd; omega
theorem hd_hi (x : Int) : hd x ≤ 4611686018427387904 := by unfold hd; omega
theorem hd_in (x : Int) (h : -4611686018427387904 ≤ x) (k : x ≤ 4611686018427387904) : hd x = x := by unfold hd; omega
/-- the sum of two that are held, held -/
def ad (t d : Int) : Int := hd (hd t + hd d)

theorem ad_eq (t d : Int) : ad t d = max (-4611686018427387904) (min (hd t + hd d) 4611686018427387904) := rfl
theorem ad_lo (t d : Int) : -4611686018427387904 ≤ ad t d := hd_lo _
theorem ad_hi (t d : Int) : ad t d ≤ 4611686018427387904 := hd_hi _

theorem hold_any (x : Int) (w : World) : Calls Tryz.prog 98 #[.int .i64 x] w fun e w' => e = .returned (.int .i64 (hd x)) ∧ w = w' := by
  go_enter Tryz.func98, Tryz.ntmps98
  go_wp2
  all_goals (go_ret; exact ⟨ret_int (by unfold hd; omega), rfl⟩)


theorem add_any (t d : Int) (w : World) : Calls Tryz.prog 80 #[.int .i64 t, .int .i64 d] w fun e w' => e = .returned (.int .i64 (ad t d)) ∧ w = w' := by
  have h1 := hd_lo t
  have h2 := hd_hi t
  have h3 := hd_lo d
  have h4 := hd_hi d
  go_enter Tryz.func80, Tryz.ntmps80
  go_wp2_with (go_at_call 98; refine (hold_any _ _).mono ?_; rintro e w' ⟨rfl, rfl⟩)
  all_goals (go_ret; exact ⟨ret_int (by rw [ad_eq]; omega), rfl⟩)





/-- may the next time of a row be asked? -/
def nxB (when per now : Int) : Bool := decide (1 ≤ per) && (decide (0 ≤ when) && (decide (0 ≤ now) && (decide (when ≤ 4611686018427387904) && (decide (per ≤ 4611686018427387904) && decide (now ≤ 4611686018427387904)))))
/-- the next time of a row -/
def nx (when per now : Int) : Int := if now < when then when else hd (now - (now - when) % per + per)

theorem next_no (when per now : Int) (w : World) (h : nxB when per now = false) :
    Calls Tryz.prog 93 #[.int .i64 when, .int .i64 per, .int .i64 now] w fun e w' => e = .returned (.tuple #[.int .i64 0, .int .i64 1]) ∧ w = w' := by
  have h' : ¬ (1 ≤ per ∧ 0 ≤ when ∧ 0 ≤ now ∧ when ≤ 4611686018427387904 ∧ per ≤ 4611686018427387904 ∧ now ≤ 4611686018427387904) := by
    intro k; simp [nxB, k] at h
  clear h
  by_cases c1 : per < 1
  · go_enter Tryz.func93, Tryz.ntmps93
    go_wp2
    go_ret2
    exact ⟨rfl, rfl⟩
  by_cases c2 : when < 0
  · go_enter Tryz.func93, Tryz.ntmps93
    go_wp2
    go_ret2
    exact ⟨rfl, rfl⟩
  by_cases c3 : now < 0
  · go_enter Tryz.func93, Tryz.ntmps93
    go_wp2
    go_ret2
    exact ⟨rfl, rfl⟩
  by_cases c4 : 4611686018427387904 < when
  · go_enter Tryz.func93, Tryz.ntmps93
    go_wp2
    go_ret2
    exact ⟨rfl, rfl⟩
  by_cases c5 : 4611686018427387904 < per
  · go_enter Tryz.func93, Tryz.ntmps93
    go_wp2
    go_ret2
    exact ⟨rfl, rfl⟩
  have c6 : 4611686018427387904 < now := by omega
  clear h'
  go_enter Tryz.func93, Tryz.ntmps93
  go_wp2
  go_ret2
  exact ⟨rfl, rfl⟩

theorem nx_add (when per now : Int) (h0 : 0 ≤ when) (h1 : 1 ≤ per) (h2 : per ≤ 4611686018427387904) (h3 : now ≤ 4611686018427387904) (hge : when ≤ now) :
    ad (now - (now - when) % per) per = nx when per now := by
  have e1 : 0 ≤ (now - when) % per := Int.emod_nonneg _ (by omega)
  have e2 : (now - when) % per < per := Int.emod_lt_of_pos _ (by omega)
  have e3 : (now - when) % per ≤ now - when := by
    rcases Int.lt_or_le (now - when) per with h | h
    · rw [Int.emod_eq_of_lt (by omega) h]; exact Int.le_refl _
    · omega
  unfold nx ad
  rw [if_neg (by omega), hd_in (now - (now - when) % per) (by omega) (by omega), hd_in per (by omega) (by omega)]

theorem next_yes (when per now : Int) (w : World) (h1 : 1 ≤ per) (h2 : 0 ≤ when) (h3 : 0 ≤ now) (h4 : when ≤ 4611686018427387904) (h5 : per ≤ 4611686018427387904) (h6 : now ≤ 4611686018427387904) :
    Calls Tryz.prog 93 #[.int .i64 when, .int .i64 per, .int .i64 now] w fun e w' => e = .returned (.tuple #[.int .i64 (nx when per now), .int .i64 0]) ∧ w = w' := by
  by_cases hlt : now < when
  · go_enter Tryz.func93, Tryz.ntmps93
    go_wp2
    go_ret2
    exact ⟨by rw [show nx when per now = when from if_pos hlt]; rfl, rfl⟩
  · have hge : when ≤ now := by omega
    have hn := nx_add when per now h2 h1 h5 h6 hge
    have e1 : 0 ≤ (now - when) % per := Int.emod_nonneg _ (by omega)
    have e2 : (now - when) % per < per := Int.emod_lt_of_pos _ (by omega)
    have Hn : Hid (ad (now - (now - when) % per) per = nx when per now) := hn
    clear hn hlt
    go_enter Tryz.func93, Tryz.ntmps93
    go_wp2_with (go_at_call 80; refine (add_any _ _ _).mono ?_; rintro e w' ⟨rfl, rfl⟩)
    go_ret2
    exact ⟨by rw [← Hn.out]; rfl, rfl⟩

theorem nx_mul (when per now : Int) (hge : when ≤ now) : nx when per now = hd (when + ((now - when) / per + 1) * per) := by
  have e := Int.emod_add_mul_ediv (now - when) per
  have e2 : ((now - when) / per + 1) * per = per * ((now - when) / per) + per := by rw [Int.add_mul, Int.mul_comm, Int.one_mul]
  unfold nx
  rw [if_neg (by omega), e2, show now - (now - when) % per + per = when + (per * ((now - when) / per) + per) from by omega]

theorem rnext_no (when per now : Int) (w : World) (h : nxB when per now = false) :
    Calls Tryz.prog 86 #[.int .i64 when, .int .i64 per, .int .i64 now] w fun e w' => e = .returned (.tuple #[.int .i64 0, .int .i64 1]) ∧ w = w' := by
  have h' : ¬ (1 ≤ per ∧ 0 ≤ when ∧ 0 ≤ now ∧ when ≤ 4611686018427387904 ∧ per ≤ 4611686018427387904 ∧ now ≤ 4611686018427387904) := by
    intro k; simp [nxB, k] at h
  clear h
  by_cases c1 : per < 1
  · go_enter Tryz.func86, Tryz.ntmps86
    go_wp2
    go_ret2
    exact ⟨rfl, rfl⟩
  by_cases c2 : when < 0
  · go_enter Tryz.func86, Tryz.ntmps86
    go_wp2
    go_ret2
    exact ⟨rfl, rfl⟩
  by_cases c3 : now < 0
  · go_enter Tryz.func86, Tryz.ntmps86
    go_wp2
    go_ret2
    exact ⟨rfl, rfl⟩
  by_cases c5 : 4611686018427387904 < per
  · go_enter Tryz.func86, Tryz.ntmps86
    go_wp2
    go_ret2
    exact ⟨rfl, rfl⟩
  by_cases c4 : 4611686018427387904 < when
  · go_enter Tryz.func86, Tryz.ntmps86
    go_wp2
    go_ret2
    exact ⟨rfl, rfl⟩
  have c6 : 4611686018427387904 < now := by omega
  clear h'
  go_enter Tryz.func86, Tryz.ntmps86
  go_wp2
  go_ret2
  exact ⟨rfl, rfl⟩

theorem rnext_yes (when per now : Int) (w : World) (h1 : 1 ≤ per) (h2 : 0 ≤ when) (h3 : 0 ≤ now) (h4 : when ≤ 4611686018427387904) (h5 : per ≤ 4611686018427387904) (h6 : now ≤ 4611686018427387904) :
    Calls Tryz.prog 86 #[.int .i64 when, .int .i64 per, .int .i64 now] w fun e w' => e = .returned (.tuple #[.int .i64 (nx when per now), .int .i64 0]) ∧ w = w' := by
  by_cases hlt : now < when
  · go_enter Tryz.func86, Tryz.ntmps86
    go_wp2
    go_ret2
    exact ⟨by rw [show nx when per now = when from if_pos hlt]; rfl, rfl⟩
  · have hge : when ≤ now := by omega
    have hn := nx_mul when per now hge
    have q0 : 0 ≤ (now - when) / per := Int.ediv_nonneg (by omega) (by omega)
    have q1 : (now - when) / per ≤ now - when := Int.ediv_le_self _ (by omega)
    have dd := Int.ediv_nonneg (a := 4611686018427387904 - when) (b := (now - when) / per + 1) (by omega) (by omega)
    have dd2 : (4611686018427387904 - when) / ((now - when) / per + 1) ≤ 4611686018427387904 - when := Int.ediv_le_self _ (by omega)
    by_cases hc : (4611686018427387904 - when) / ((now - when) / per + 1) < per
    · have h' := (Int.ediv_lt_iff_lt_mul (by omega)).1 hc
      rw [Int.mul_comm] at h'
      have Hn : Hid (nx when per now = 4611686018427387904) := by show _ = _; rw [hn]; unfold hd; omega
      clear hn hlt h'
      go_enter Tryz.func86, Tryz.ntmps86
      go_wp2
      go_ret2
      exact ⟨by rw [Hn.out]; rfl, rfl⟩
    · have h' : ((now - when) / per + 1) * per ≤ 4611686018427387904 - when := by
        have := (Int.le_ediv_iff_mul_le (a := per) (b := 4611686018427387904 - when) (c := (now - when) / per + 1) (by omega)).1 (by omega)
        rw [Int.mul_comm]; exact this
      have h0 : 0 ≤ ((now - when) / per + 1) * per := Int.mul_nonneg (by omega) (by omega)
      have Hn : Hid (nx when per now = when + ((now - when) / per + 1) * per) := by show _ = _; rw [hn]; exact hd_in _ (by omega) (by omega)
      clear hn hlt
      have hc' : per ≤ (4611686018427387904 - when) / ((now - when) / per + 1) := by omega
      clear hc
      go_enter Tryz.func86, Tryz.ntmps86
      go_wp2
      go_ret2
      exact ⟨by rw [Hn.out]; rfl, rfl⟩

end Go.Proofs.YtmadcnpkaijllaaGreat
namespace Go.Proofs.YtmadcnpkaijllaaGreat
open Go.RowKit
set_option linter.unusedVariables false
set_option maxRecDepth 100000

/-- Block b is a map that holds g x at each x (0: it is not there), no more than n of them. -/
def Pm (w : World) (b n : Nat) (g : Int → Int) : Prop :=
  ∃ D : DataW Unit, w.ownsMap Tryz.prog 3 (plainElem Tryz.prog 3) b (Maps.size D) D ∧ Maps.size D ≤ n ∧ ∀ x, D.atKey (kL x) (dL 0) = dL (g x)
section
variable {w w' : World} {b n m : Nat} {g : Int → Int} {x v : Int}
theorem Pm.lt (h : Pm w b n g) : b < w.heap.size := by obtain ⟨D, h, _⟩ := h; exact h.lt
theorem Pm.blk (h : Pm w b n g) : ∃ es clock, w.heap[b]? = some (.map es clock) := by obtain ⟨D, ⟨es, clock, h, _⟩, _⟩ := h; exact ⟨es, clock, h⟩
theorem Pm.keep (h : Pm w b n g) (e : w'.heap[b]? = w.heap[b]?) : Pm w' b n g := by
  obtain ⟨D, ⟨es, clock, h1, h2⟩, h3⟩ := h
  exact ⟨D, ⟨es, clock, by rw [e]; exact h1, h2⟩, h3⟩
theorem Pm.up (h : Pm w b n g) (k : n ≤ m) : Pm w b m g := by
  obtain ⟨D, h1, h2, h3⟩ := h
  exact ⟨D, h1, Nat.le_trans h2 k, h3⟩
theorem Pm.new (w : World) : Pm (w.alloc (.map #[] 0)) w.heap.size 0 (fun _ => 0) :=
  ⟨.map [], World.ownsMap_made w Tryz.prog 3 (plainElem Tryz.prog 3), Nat.le_refl _, fun x => Maps.atKey_of_not_has rfl _⟩
theorem Pm.get (h : Pm w b n g) (hx : Wf x) : (Instr.lookup 62 (.map (some b)) (.int .i64 x) false).run Tryz.prog w = .ok (.int .i64 (g x)) w := by
  obtain ⟨D, h1, h2, h3⟩ := h
  obtain ⟨c, hrun, hat, _⟩ := h1.lookup_int law Tryz.underlying62 Tryz.underlying3 (zeroI w) (keyI hx)
  rw [h3 x] at hat
  rw [dL_inj hat]; exact hrun
theorem Pm.store (h : Pm w b n g) (hx : Wf x) (hv : Wf v) (hn : n < maxLen) :
    ∃ w', (Instr.mapUpdate 62 (.map (some b)) (.int .i64 x) (.int .i64 v)).run Tryz.prog w = .ok () w' ∧ Trn w w' b ∧ Pm w' b (n + 1) (fput g x v) := by
  obtain ⟨D, h1, h2, h3⟩ := h
  obtain ⟨w', hrun, ho, ht⟩ := h1.store law Tryz.underlying62 (Nat.lt_of_le_of_lt h2 hn) (keyI hx) (elI hv)
  refine ⟨w', hrun, turned_block ht, D.put (kL x) (dL v), own_exact ho, ?_, fun y => ?_⟩
  · rw [Maps.size_put (h1.tidy law)]
    split <;> omega
  · by_cases e : y = x
    · subst e
      rw [Maps.atKey_put_same h1.isMap (kL_key _), fput_at]
    · rw [Maps.atKey_put_other (kL_ne e), fput_ne e, h3]
theorem Pm.drop (h : Pm w b n g) (hx : Wf x) (ty : TypeId) :
    ∃ w', (Builtin.delete_ #[62, 3] ty #[.map (some b), .int .i64 x]).run Tryz.prog w = .ok (.tuple #[]) w' ∧ Trn w w' b ∧ Pm w' b n (fput g x 0) := by
  obtain ⟨D, h1, h2, h3⟩ := h
  obtain ⟨w', hrun, ho, ht⟩ := h1.drop law Tryz.underlying62 (keyI hx) ty
  have hs := Maps.size_del (k := kL x) (h1.tidy law)
  refine ⟨w', hrun, turned_block ht, D.del (kL x), own_exact ho, ?_, fun y => ?_⟩
  · split at hs <;> omega
  · by_cases e : y = x
    · subst e
      rw [Maps.atKey_del_same, fput_at]
    · rw [Maps.atKey_del_other (kL_ne e), fput_ne e, h3]
end
section
variable {ops : Array Oper} {rest : List Oper} {op : Oper} {a : Act} {Q : Exit → Act → World → Prop} {x v : Int} {w : World} {b n : Nat} {g : Int → Int}
theorem wp_pdrop (hg : op.guard = none) (u y : Operand) (hop : op.op = Op.call { callee := Callee.builtin Builtin.delete, args := #[u, y], argTypes := #[62, 3] })
    (h : Pm w b n g) (hx : Wf x) (hm : a.eval u = .map (some b)) (hy : a.eval y = .int .i64 x)
    (hK : ∀ w', Trn w w' b → Pm w' b n (fput g x 0) → wpList Tryz.prog ops Q rest (a.put op.dst (.tuple #[])) w') : wpList Tryz.prog ops Q (op :: rest) a w := by
  refine wpList_plain hg fun K' hK' => ?_
  obtain ⟨w', hrun, r1, r2⟩ := h.drop hx op.type
  unfold Oper.wp
  simp [execOp, hop, resolve, invoke, builtin, hm, hy, hrun, Result.andThen]
  exact hK' _ _ (hK w' r1 r2)
theorem wp_pstore (hg : op.guard = none) (m y z : Operand) (hop : op.op = Op.mapUpdate 62 m y z)
    (h : Pm w b n g) (hx : Wf x) (hv : Wf v) (hn : n < maxLen) (hm : a.eval m = .map (some b)) (hy : a.eval y = .int .i64 x) (hz : a.eval z = .int .i64 v)
    (hK : ∀ w', Trn w w' b → Pm w' b (n + 1) (fput g x v) → wpList Tryz.prog ops Q rest (a.put op.dst undef) w') : wpList Tryz.prog ops Q (op :: rest) a w := by
  refine wpList_plain hg fun K' hK' => ?_
  obtain ⟨w', hrun, r1, r2⟩ := h.store hx hv hn
  unfold Oper.wp
  simp [execOp, hop, hm, hy, hz, hrun, Result.andThen]
  exact hK' _ _ (hK w' r1 r2)
end

/-- Block t is timers: its heap at o, that one's map at b, its slice at p; periods at c. -/
structure TT (B t : Nat) (vA vL : Value) (o b c : Nat) (p : Option Nat) (n N : Nat) (S : List It) (g : Int → Int) (w : World) : Prop where
  hg : HG B w o b p n S
  ht : w.heap[t]? = some (.cells #[vA, .pointer (some ⟨o, 0, none⟩), .map (some c), vL] 66 (0, 0))
  pm : Pm w c N g
  ok : Ok n S
  gt : B ≤ t
  gc : B ≤ c
  ne : c ≠ b
/-- Nothing but the heap's blocks and the periods' has turned. -/
structure TC (o b c : Nat) (p p' : Option Nat) (w w' : World) : Prop where
  os : w'.os = w.os
  tape : w'.tape = w.tape
  output : w'.output = w.output
  size : w.heap.size ≤ w'.heap.size
  block : ∀ k, k < w.heap.size → k ≠ o → k ≠ b → k ≠ c → p ≠ some k → w'.heap[k]? = w.heap[k]?
  new : p' = p ∨ ∀ k, p' = some k → w.heap.size ≤ k
theorem TC.trans {o b c : Nat} {p p' p'' : Option Nat} {u v w : World} (h : TC o b c p p' u v) (k : TC o b c p' p'' v w) : TC o b c p p'' u w := by
  have h0 := h.size
  refine ⟨k.os.trans h.os, k.tape.trans h.tape, k.output.trans h.output, Nat.le_trans h.size k.size, fun i h1 h2 h3 h5 h4 => (k.block i (by omega) h2 h3 h5 (fun e => ?_)).trans (h.block i h1 h2 h3 h5 h4), ?_⟩
  · rcases h.new with h5 | h5
    · exact h4 (h5.symm.trans e)
    · have := h5 i e; omega
  · rcases k.new with h6 | h6
    · subst h6; exact h.new
    · exact .inr fun i hi => by have := h6 i hi; omega
theorem TC.of_below {o b c : Nat} (p : Option Nat) {w w' : World} (h : Below w.heap.size w w') : TC o b c p p w w' := ⟨h.os, h.tape, h.output, h.size, fun k hk _ _ _ _ => h.block k hk, .inl rfl⟩
theorem TC.of_chg {o b : Nat} (c : Nat) {p p' : Option Nat} {w w' : World} (h : Chg o b p p' w w') : TC o b c p p' w w' := ⟨h.os, h.tape, h.output, h.size, fun k hk h1 h2 _ h3 => h.block k hk h1 h2 h3, h.new⟩
theorem TC.of_trn {o b c : Nat} (p : Option Nat) {w w' : World} (h : Trn w w' c) : TC o b c p p w w' := by
  obtain ⟨h1, h2, h3, h4, h5⟩ := h
  exact ⟨h1, h2, h3, by omega, fun k _ _ _ h6 _ => h5 k h6, .inl rfl⟩
/-- No row of another kind has turned. -/
def OX (w w' : World) : Prop := ∀ (k : Nat) (cs : Array Value) (t : TypeId) (fr : Nat × Nat), w.heap[k]? = some (.cells cs t fr) → t ≠ 161 → t ≠ 139 → w'.heap[k]? = some (.cells cs t fr)
theorem OX.refl (w : World) : OX w w := fun _ _ _ _ h _ _ => h
theorem OX.trans {u v w : World} (h : OX u v) (k : OX v w) : OX u w := fun i cs t fr h1 h2 h3 => k i cs t fr (h i cs t fr h1 h2 h3) h2 h3
theorem OX.of_below {w w' : World} (h : Below w.heap.size w w') : OX w w' := fun k cs t fr h1 _ _ => (h.block k (lt_of_blk h1)).trans h1
theorem OX.row {w w' : World} {B e s n c : Nat} {P : Option Addr} {xs : List Value} (h : OX w w') (r : w.ownsRow B e s (.slice P n c) n xs) (h1 : e ≠ 161) (h2 : e ≠ 139) : w'.ownsRow B e s (.slice P n c) n xs :=
  row_keep r fun k hk => by
    obtain ⟨cs, fr, ht⟩ := row_tag r hk
    rw [ht]; exact h k cs e fr ht h1 h2
/-- What a call answers, and what the timers have come to be: with their blocks .. -/
def XC (B t : Nat) (vA vL : Value) (o b c : Nat) (p : Option Nat) (n N : Nat) (S : List It) (g : Int → Int) (v : Value) (w : World) (e : Ending) (w' : World) : Prop :=
  e = .returned v ∧ ∃ p', TT B t vA vL o b c p' n N S g w' ∧ TC o b c p p' w w'
/-- .. and without. -/
def TN (B t : Nat) (vA vL : Value) (o b c n : Nat) (S : List It) (g : Int → Int) (w : World) : Prop := ∃ p N, N ≤ n ∧ TT B t vA vL o b c p n N S g w
def XR (B t : Nat) (vA vL : Value) (o b c n : Nat) (S : List It) (g : Int → Int) (v : Value) (w : World) (e : Ending) (w' : World) : Prop :=
  e = .returned v ∧ TN B t vA vL o b c n S g w' ∧ Below B w w' ∧ OX w w'
section
variable {B t o b c n n' N N' : Nat} {vA vL : Value} {p p' : Option Nat} {S S' : List It} {g g' : Int → Int} {w w' : World} {e : Ending} {v : Value}
theorem TT.c0 (h : TT B t vA vL o b c p n N S g w) : w.cell? ⟨t, 1, none⟩ = some (.pointer (some ⟨o, 0, none⟩)) := by rw [cell_of_row w t 1 _ _ _ h.ht]; rfl
theorem TT.c1 (h : TT B t vA vL o b c p n N S g w) : w.cell? ⟨t, 2, none⟩ = some (.map (some c)) := by rw [cell_of_row w t 2 _ _ _ h.ht]; rfl
theorem TT.lt (h : TT B t vA vL o b c p n N S g w) : t < w.heap.size := lt_of_blk h.ht
theorem TT.hB (h : TT B t vA vL o b c p n N S g w) : B ≤ w.heap.size := by have := h.lt; have := h.gt; omega
theorem TT.later (h : TT B t vA vL o b c p n N S g w) (hb : Below w.heap.size w w') : TT B t vA vL o b c p n N S g w' :=
  ⟨h.hg.later hb, (hb.block _ h.lt).trans h.ht, h.pm.keep (hb.block _ h.pm.lt), h.ok, h.gt, h.gc, h.ne⟩
/-- The timers' own block, and the periods', are none of the heap's. -/
theorem TT.apart (h : TT B t vA vL o b c p n N S g w) : (t ≠ o ∧ t ≠ b ∧ p ≠ some t) ∧ c ≠ o ∧ p ≠ some c ∧ t ≠ c := by
  obtain ⟨es, cl, hc⟩ := h.pm.blk
  refine ⟨⟨?_, ?_, ?_⟩, ?_, ?_, ?_⟩
  · rintro rfl
    obtain ⟨cs', fr', h4⟩ := h.hg.to
    have h5 := h.ht
    rw [h4] at h5; injection h5 with h5; injection h5 with _ h5 _; cases h5
  · rintro rfl
    obtain ⟨es, cl, h4⟩ := h.hg.tb
    have h5 := h.ht
    rw [h4] at h5; cases h5
  · intro hk
    obtain ⟨cs', fr', h4⟩ := h.hg.tp hk
    have h5 := h.ht
    rw [h4] at h5; injection h5 with h5; injection h5 with _ h5 _; cases h5
  · rintro rfl
    obtain ⟨cs', fr', h4⟩ := h.hg.to
    rw [h4] at hc; cases hc
  · intro hk
    obtain ⟨cs', fr', h4⟩ := h.hg.tp hk
    rw [h4] at hc; cases hc
  · rintro rfl
    have h5 := h.ht
    rw [hc] at h5; cases h5
theorem TT.go (h : TT B t vA vL o b c p n N S g w) (ok : Ok n' S') (cr : ChR B o b p n' S' v w e w') : XC B t vA vL o b c p n' N S' g v w e w' := by
  obtain ⟨h1, p', h2, h3⟩ := cr
  obtain ⟨⟨a1, a2, a3⟩, a4, a5, _⟩ := h.apart
  exact ⟨h1, p', ⟨h2, (h3.block t h.lt a1 a2 a3).trans h.ht, h.pm.keep (h3.block c h.pm.lt a4 h.ne a5), ok, h.gt, h.gc, h.ne⟩, TC.of_chg c h3⟩
theorem TT.mapped (h : TT B t vA vL o b c p n N S g w) (ht : Trn w w' c) (pm : Pm w' c N' g') : TT B t vA vL o b c p n N' S g' w' ∧ TC o b c p p w w' := by
  obtain ⟨⟨a1, a2, a3⟩, a4, a5, a6⟩ := h.apart
  have k := ht.2.2.2.2
  exact ⟨⟨h.hg.keep (k o a4.symm) (k b h.ne.symm) (fun j hj => k j fun e => a5 (by rw [← e]; exact hj)), (k t a6).trans h.ht, pm, h.ok, h.gt, h.gc, h.ne⟩, TC.of_trn p ht⟩
theorem TT.low (h : TT B t vA vL o b c p n N S g w) (hc : TC o b c p p' w w') : Below B w w' := by
  have hB := h.hB
  have hgc := h.gc
  obtain ⟨P, cc, m, f, e0, h1, _⟩ := h.hg
  have := h1.go
  have := h1.gb
  refine ⟨hc.os, hc.tape, hc.output, hc.size, fun k hk => hc.block k (by omega) (by omega) (by omega) (by omega) fun e => ?_⟩
  have := (row_lt h1.own (e0.trans e)).1
  omega
theorem TT.ox (h : TT B t vA vL o b c p n N S g w) (hc : TC o b c p p' w w') : OX w w' := fun k cs ty fr h1 h2 h3 => by
  rw [hc.block k (lt_of_blk h1) ?_ ?_ ?_ ?_]; exact h1
  · rintro rfl
    obtain ⟨cs', fr', h4⟩ := h.hg.to
    rw [h4] at h1; injection h1 with h1; injection h1 with _ h1 _; exact h2 h1.symm
  · rintro rfl
    obtain ⟨es, cl, h4⟩ := h.hg.tb
    rw [h4] at h1; cases h1
  · rintro rfl
    obtain ⟨es, cl, h4⟩ := h.pm.blk
    rw [h4] at h1; cases h1
  · intro hk
    obtain ⟨cs', fr', h4⟩ := h.hg.tp hk
    rw [h4] at h1; injection h1 with h1; injection h1 with _ h1 _; exact h3 h1.symm
theorem TT.xr (h : TT B t vA vL o b c p n N S g w) (hN : N' ≤ n') (x : XC B t vA vL o b c p n' N' S' g' v w e w') : XR B t vA vL o b c n' S' g' v w e w' := by
  obtain ⟨h1, p', h2, h3⟩ := x
  exact ⟨h1, ⟨p', N', hN, h2⟩, h.low h3, h.ox h3⟩
theorem TN.later (h : TN B t vA vL o b c n S g w) (hb : Below w.heap.size w w') : TN B t vA vL o b c n S g w' := by
  obtain ⟨p, N, hN, h⟩ := h
  exact ⟨p, N, hN, h.later hb⟩
theorem TN.hB (h : TN B t vA vL o b c n S g w) : B ≤ w.heap.size := by obtain ⟨p, N, hN, h⟩ := h; exact h.hB
theorem TN.ok (h : TN B t vA vL o b c n S g w) : Ok n S := by obtain ⟨p, N, hN, h⟩ := h; exact h.ok
theorem TN.same (h : TN B t vA vL o b c n S g w) (hr : e = .returned v ∧ Below w.heap.size w w') : XR B t vA vL o b c n S g v w e w' :=
  ⟨hr.1, h.later hr.2, hr.2.mono h.hB, OX.of_below hr.2⟩
/-- A store into a row of another kind. -/
theorem TT.cell (h : TT B t vA vL o b c p n N S g w) {s ty j : Nat} {cs : Array Value} {fr : Nat × Nat} (ht : w.heap[s]? = some (.cells cs ty fr)) (h1 : ty ≠ 161) (h2 : ty ≠ 139) (h3 : ty ≠ 66) (v : Value) : TT B t vA vL o b c p n N S g (w.setCell ⟨s, j, none⟩ v) := by
  have key : ∀ k, k ≠ s → (w.setCell ⟨s, j, none⟩ v).heap[k]? = w.heap[k]? := fun k hk => Below.heap_setCell _ _ _ _ (by exact hk)
  refine ⟨h.hg.keep (key o ?_) (key b ?_) (fun k hk => key k ?_), (key t ?_).trans h.ht, h.pm.keep (key c ?_), h.ok, h.gt, h.gc, h.ne⟩
  · rintro rfl
    obtain ⟨cs', fr', h4⟩ := h.hg.to
    rw [ht] at h4; injection h4 with h4; injection h4 with _ h4 _; exact h1 h4
  · rintro rfl
    obtain ⟨es, cl, h4⟩ := h.hg.tb
    rw [ht] at h4; cases h4
  · rintro rfl
    obtain ⟨cs', fr', h4⟩ := h.hg.tp hk
    rw [ht] at h4; injection h4 with h4; injection h4 with _ h4 _; exact h2 h4
  · rintro rfl
    have h4 := h.ht
    rw [ht] at h4; injection h4 with h4; injection h4 with _ h4 _; exact h3 h4
  · rintro rfl
    obtain ⟨es, cl, h4⟩ := h.pm.blk
    rw [ht] at h4; cases h4
theorem TN.cell (h : TN B t vA vL o b c n S g w) {s ty j : Nat} {cs : Array Value} {fr : Nat × Nat} (ht : w.heap[s]? = some (.cells cs ty fr)) (h1 : ty ≠ 161) (h2 : ty ≠ 139) (h3 : ty ≠ 66) (v : Value) : TN B t vA vL o b c n S g (w.setCell ⟨s, j, none⟩ v) := by
  obtain ⟨p, N, hN, h⟩ := h
  exact ⟨p, N, hN, h.cell ht h1 h2 h3 v⟩
end
end Go.Proofs.YtmadcnpkaijllaaGreat
namespace Go.Proofs.YtmadcnpkaijllaaGreat
open Go.RowKit
set_option linter.unusedVariables false
set_option maxRecDepth 100000

/-- The world with a new heap. -/
def nwH (w : World) : World := (w.alloc (.map #[] 0)).alloc (.cells #[.slice none 0 0, .map (some w.heap.size), .int .i64 0] 161)
theorem nwH_size (w : World) : (nwH w).heap.size = w.heap.size + 2 := by simp [nwH]
theorem new_ex (w : World) : Calls Tryz.prog 106 #[] w fun e w' => e = .returned (.pointer (some ⟨w.heap.size + 1, 0, none⟩)) ∧ nwH w = w' := by
  have hmm := @run_makeMap Tryz.prog
  go_enter Tryz.func106, Tryz.ntmps106
  go_wp2
  go_ret
  exact ⟨rfl, rfl⟩
theorem fits_yes (x : Int) (w : World) (h0 : 0 ≤ x) (h1 : x ≤ 4611686018427387904) : Calls Tryz.prog 99 #[.int .i64 x] w fun e w' => e = .returned (.bool true) ∧ w = w' := by
  go_enter Tryz.func99, Tryz.ntmps99
  go_wp2
  go_ret
  exact ⟨rfl, rfl⟩
theorem fits_no (x : Int) (w : World) (h : x < 0 ∨ 4611686018427387904 < x) : Calls Tryz.prog 99 #[.int .i64 x] w fun e w' => e = .returned (.bool false) ∧ w = w' := by
  by_cases h0 : x < 0
  · clear h
    go_enter Tryz.func99, Tryz.ntmps99
    go_wp2
    go_ret
    exact ⟨rfl, rfl⟩
  · have h1 : ¬ x ≤ 4611686018427387904 := by omega
    have h2 : 0 ≤ x := by omega
    clear h h0
    go_enter Tryz.func99, Tryz.ntmps99
    go_wp2
    go_ret
    exact ⟨rfl, rfl⟩
theorem arm_nil (k x y : Int) (w : World) : Calls Tryz.prog 81 #[.pointer none, .int .i64 k, .int .i64 x, .int .i64 y] w fun e w' => e = .returned (.int .i64 1) ∧ w = w' := by
  go_enter Tryz.func81, Tryz.ntmps81
  go_wp2_with fail
  go_ret
  exact ⟨rfl, rfl⟩
theorem stop_nil (k : Int) (w : World) : Calls Tryz.prog 77 #[.pointer none, .int .i64 k] w fun e w' => e = .returned (.bool false) ∧ w = w' := by
  go_enter Tryz.func77, Tryz.ntmps77
  go_wp2_with fail
  go_ret
  exact ⟨rfl, rfl⟩
/-- A time, or a period, that may be. -/
def Fit (x : Int) : Prop := 0 ≤ x ∧ x ≤ 4611686018427387904
instance (x : Int) : Decidable (Fit x) := inferInstanceAs (Decidable (0 ≤ x ∧ x ≤ 4611686018427387904))
theorem not_fit {x : Int} (h : ¬ Fit x) : x < 0 ∨ 4611686018427387904 < x := by unfold Fit at h; omega
theorem wf_fit {x : Int} (h : Fit x) : Wf x := wf_of (by unfold Fit at h; omega) (by unfold Fit at h; omega)
section
variable {B t o b c n n' N N' : Nat} {vA vL : Value} {p p' : Option Nat} {S S' : List It} {g g' : Int → Int} {w w' : World} {e : Ending} {v : Value}
theorem arm_bad (k x y : Int) (a : Option Addr) (ha : a ≠ none) (w : World) (h : ¬ (Fit x ∧ Fit y)) : Calls Tryz.prog 81 #[.pointer a, .int .i64 k, .int .i64 x, .int .i64 y] w fun e w' => e = .returned (.int .i64 1) ∧ w = w' := by
  obtain ⟨a, rfl⟩ := Option.ne_none_iff_exists'.1 ha
  clear ha
  by_cases hx : Fit x
  · have hy : ¬ Fit y := fun e => h ⟨hx, e⟩
    have F1 := fun w => fits_yes x w hx.1 hx.2
    have F2 := fun w => fits_no y w (not_fit hy)
    clear h
    go_enter Tryz.func81, Tryz.ntmps81
    go_wp2_with (go_at_call 99; first | ((with_reducible refine (F1 _).mono ?_); rintro e w' ⟨rfl, rfl⟩) | ((with_reducible refine (F2 _).mono ?_); rintro e w' ⟨rfl, rfl⟩))
    go_ret
    exact ⟨rfl, rfl⟩
  · have F1 := fun w => fits_no x w (not_fit hx)
    clear h
    go_enter Tryz.func81, Tryz.ntmps81
    go_wp2_with (go_at_call 99; (with_reducible refine (F1 _).mono ?_); rintro e w' ⟨rfl, rfl⟩)
    go_ret
    exact ⟨rfl, rfl⟩
theorem TT.more (h : TT B t vA vL o b c p n N S g w) : TT B t vA vL o b c p n (N + 1) S g w := ⟨h.hg, h.ht, h.pm.up (by omega), h.ok, h.gt, h.gc, h.ne⟩
theorem fput_two (g : Int → Int) (k x y : Int) : fput (fput g k x) k y = fput g k y := by
  funext z; unfold fput; split <;> rfl
set_option maxHeartbeats 4000000 in
theorem arm_any (k x y : Int) (h : TT B t vA vL o b c p n N S g w) (hk : Wf k) (hx : Fit x) (hy : Fit y) (hn : n ≤ 1000000) (hN : N ≤ 1000000) (hl : S.length < 1000) :
    Calls Tryz.prog 81 #[.pointer (some ⟨t, 1, none⟩), .int .i64 k, .int .i64 x, .int .i64 y] w (XC B t vA vL o b c p (n + 1) (N + 1) (ins ⟨k, x, (n : Int) + 1⟩ (del k S)) (fput g k y) (.int .i64 0) w) := by
  have F1 := fun w => fits_yes x w hx.1 hx.2
  have F2 := fun w => fits_yes y w hy.1 hy.2
  have HA := Lib.hid h
  have HX := Lib.hid (And.intro hx hy)
  have hwy := wf_fit hy
  have c0 := h.c0
  have c1 := h.c1
  have hml : N < maxLen := by unfold maxLen; omega
  have hy0 := hy.1
  clear h hx hy
  by_cases hm : k ∈ ids S
  · go_enter Tryz.func81, Tryz.ntmps81
    go_wp2_with (go_at_call 99; first | ((with_reducible refine (F1 _).mono ?_); rintro e w' ⟨rfl, rfl⟩) | ((with_reducible refine (F2 _).mono ?_); rintro e w' ⟨rfl, rfl⟩))
    refine (move_yes k x HA.out.hg HA.out.ok hk hm hn (by omega)).mono ?_
    rintro e w1 hr
    have hr := HA.out.go ((HA.out.ok.del k).ins k x del_ids) hr
    have HT := Lib.hid hr.2
    obtain rfl := hr.1
    clear hr HA c0 c1
    obtain ⟨p1, h1, h2⟩ := HT.out
    have c1 := h1.c1
    have H1 := Lib.hid h1
    have H2 := Lib.hid h2
    clear h1 h2 HT
    by_cases hp : 0 < y
    · go_wp2_with (first
        | (at_delete; go_loud (refine wp_pdrop rfl (.tmp 49) (.tmp 50) rfl H1.out.pm hk rfl rfl ?_; intro w2 ht pm; have H3 := Lib.hid (H1.out.mapped ht pm); have c12 := H3.out.1.c1; clear ht pm))
        | (at_mapUpdate; go_loud (refine wp_pstore rfl (.tmp 56) (.tmp 57) (.tmp 58) rfl H3.out.1.pm hk hwy hml rfl rfl rfl ?_; intro w3 ht pm; have H4 := Lib.hid (H3.out.1.mapped ht pm); clear ht pm)))
      go_ret
      refine ⟨rfl, p1, ?_, H2.out.trans (H3.out.2.trans H4.out.2)⟩
      have := H4.out.1
      rwa [fput_two] at this
    · obtain rfl : y = 0 := by omega
      go_wp2_with (first
        | (at_delete; go_loud (refine wp_pdrop rfl (.tmp 49) (.tmp 50) rfl H1.out.pm hk rfl rfl ?_; intro w2 ht pm; have H3 := Lib.hid (H1.out.mapped ht pm); have c12 := H3.out.1.c1; clear ht pm)))
      go_ret
      exact ⟨rfl, p1, H3.out.1.more, H2.out.trans H3.out.2⟩
  · have hdn : del k S = S := del_none hm
    rw [hdn]
    go_enter Tryz.func81, Tryz.ntmps81
    go_wp2_with (go_at_call 99; first | ((with_reducible refine (F1 _).mono ?_); rintro e w' ⟨rfl, rfl⟩) | ((with_reducible refine (F2 _).mono ?_); rintro e w' ⟨rfl, rfl⟩))
    refine (move_no k x HA.out.hg hk hm).mono ?_
    rintro e w1 ⟨rfl, rfl⟩
    go_wp2_with fail
    refine (add_new k x HA.out.hg HA.out.ok hk hm hn hl HA.out.hB).mono ?_
    rintro e w1 hr
    have hr := HA.out.go (HA.out.ok.ins k x hm) hr
    have HT := Lib.hid hr.2
    obtain rfl := hr.1
    clear hr HA c0 c1
    obtain ⟨p1, h1, h2⟩ := HT.out
    have c1 := h1.c1
    have H1 := Lib.hid h1
    have H2 := Lib.hid h2
    clear h1 h2 HT
    by_cases hp : 0 < y
    · go_wp2_with (first
        | (at_delete; go_loud (refine wp_pdrop rfl (.tmp 49) (.tmp 50) rfl H1.out.pm hk rfl rfl ?_; intro w2 ht pm; have H3 := Lib.hid (H1.out.mapped ht pm); have c12 := H3.out.1.c1; clear ht pm))
        | (at_mapUpdate; go_loud (refine wp_pstore rfl (.tmp 56) (.tmp 57) (.tmp 58) rfl H3.out.1.pm hk hwy hml rfl rfl rfl ?_; intro w3 ht pm; have H4 := Lib.hid (H3.out.1.mapped ht pm); clear ht pm)))
      go_ret
      refine ⟨rfl, p1, ?_, H2.out.trans (H3.out.2.trans H4.out.2)⟩
      have := H4.out.1
      rwa [fput_two] at this
    · obtain rfl : y = 0 := by omega
      go_wp2_with (first
        | (at_delete; go_loud (refine wp_pdrop rfl (.tmp 49) (.tmp 50) rfl H1.out.pm hk rfl rfl ?_; intro w2 ht pm; have H3 := Lib.hid (H1.out.mapped ht pm); have c12 := H3.out.1.c1; clear ht pm)))
      go_ret
      exact ⟨rfl, p1, H3.out.1.more, H2.out.trans H3.out.2⟩
end
end Go.Proofs.YtmadcnpkaijllaaGreat
