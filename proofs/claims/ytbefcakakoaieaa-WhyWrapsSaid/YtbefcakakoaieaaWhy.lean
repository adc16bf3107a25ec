/- Err, Cause, Is, Timeout, Deepest and Text at any number and any cause. Condition of Text: what strconv.Itoa says of each code is told. -/
import Derived.Test.YtbefcakakoaieaaTxt
namespace Go.Proofs.Ytbefcakakoaieaa
open Go.RowKit Go.Extern.Stop Go.Stop Go.Extern
set_option linter.unusedVariables false

/-- The shape of one error. -/
structure Er where
  c : Int
  o : ByteArray
  ks : Fo
def Er.fo (x : Er) : Fo := .cons x.c x.o x.ks .nil
def bE : ByteArray := ⟨#[]⟩
def deadB : ByteArray := ⟨#[100, 101, 97, 100, 108, 105, 110, 101]⟩
def causeB : ByteArray := ⟨#[99, 97, 117, 115, 101]⟩
def codeE (c : Int) : Er := ⟨c, ⟨#[]⟩, .nil⟩
def deadE : Er := ⟨0, deadB, (codeE 2).fo⟩
/-- Err's shape. -/
def errE (code : Int) : Option Er := if code = 1 then some (codeE 1) else if code = 2 then some deadE else none
/-- Join's, of a cause and a context's error. -/
def bothE (cause : Int) (x : Er) : Er := ⟨0, allB, .cons 0 causeB (codeE cause).fo x.fo⟩
/-- Cause's shape. -/
def causeE (err cause : Int) : Option Er := match errE err with
  | none => none
  | some x => if cause < 1 ∨ cause = err then some x else some (bothE cause x)

/-- A value of type error, by its shape; none: nil. -/
def EO (w : World) (v : Value) : Option Er → Prop
  | none => v = .nilIface
  | some x => EIs w (Lt w.heap.size) x.c x.o x.ks v ∧ mayB x.c x.o x.ks = true
theorem EIs.later {w w' : World} {c : Int} {o : ByteArray} {ks : Fo} {v : Value} (h : EIs w (Lt w.heap.size) c o ks v) (hb : Below w.heap.size w w') : EIs w' (Lt w'.heap.size) c o ks v :=
  h.agr (fun x hx => hb.block x hx) (fun x hx => Nat.lt_of_lt_of_le hx hb.size)
theorem EO.later {w w' : World} {v : Value} {m : Option Er} (h : EO w v m) (hb : Below w.heap.size w w') : EO w' v m := by
  cases m with
  | none => exact h
  | some x => exact ⟨h.1.later hb, h.2⟩
theorem EIs.mkCode (w : World) (S : Nat → Prop) (c : Int) (hc : 0 < c) : EIs w S c ⟨#[]⟩ .nil (.iface 51 (.agg #[.int .i64 c])) := .inl ⟨hc, rfl, rfl, rfl⟩

theorem may_code (c : Int) (hc : 0 < c) : mayB c ⟨#[]⟩ .nil = true := by
  unfold mayB fitsF
  rw [if_neg (by omega), if_pos (by omega), if_pos ⟨hc, rfl, rfl⟩]; rfl
theorem may_dead : mayB 0 deadB (codeE 2).fo = true := by decide +kernel
theorem may_wrap (c : Int) (hc : 0 < c) : mayB 0 causeB (codeE c).fo = true := by
  have h0 : c ≠ 0 := by omega
  have hs : causeB.size = 5 := rfl
  have hs0 : (⟨#[]⟩ : ByteArray).size = 0 := rfl
  simp [mayB, fitsF, codeE, Er.fo, Fo.len, hc, h0, hs, hs0]
theorem may_both (c : Int) (hc : 0 < c) (x : Er) (hx : x = codeE 1 ∨ x = deadE) : mayB 0 allB (.cons 0 causeB (codeE c).fo x.fo) = true := by
  have h0 : c ≠ 0 := by omega
  have hs : causeB.size = 5 := rfl
  have hs1 : allB.size = 3 := rfl
  have hs2 : deadB.size = 8 := rfl
  have hs0 : (⟨#[]⟩ : ByteArray).size = 0 := rfl
  rcases hx with rfl | rfl <;> simp [mayB, fitsF, codeE, deadE, Er.fo, Fo.len, hc, h0, hs, hs0, hs1, hs2]
theorem errE_or {code : Int} {x : Er} (h : errE code = some x) : x = codeE 1 ∨ x = deadE := by
  unfold errE at h
  split at h
  · exact .inl (Option.some.inj h).symm
  · split at h
    · exact .inr (Option.some.inj h).symm
    · cases h

def EPost (m : Option Er) (W : World) (e : Ending) (w : World) : Prop := Below W.heap.size W w ∧ ∃ v, e = .returned v ∧ EO w v m

set_option maxRecDepth 100000 in
theorem err_any (code : Int) (W : World) : Calls Try.prog 9 #[.int .i64 code] W (EPost (errE code) W) := by
  by_cases h1 : code = 1
  · subst h1
    go_enter Try.func9, Try.ntmps9
    go_wp2_with fail
    go_ret
    exact ⟨Below.refl _ _, _, rfl, EIs.mkCode _ _ 1 (by omega), may_code 1 (by omega)⟩
  · by_cases h2 : code = 2
    · subst h2
      have HC := Lib.hid ((wrap_any deadB 2 ⟨#[]⟩ .nil ⟨by decide, trivial, trivial⟩ W _ (EIs.mkCode _ _ 2 (by omega))).2 may_dead)
      go_enter Try.func9, Try.ntmps9
      go_wp2_with fail
      refine HC.out.mono ?_
      rintro e w ⟨hb, g, rfl, hv⟩
      have HB := Lib.hid hb
      have HV := Lib.hid hv
      clear hb hv
      go_wp2_with fail
      go_ret
      exact ⟨HB.out, _, rfl, HV.out, may_dead⟩
    · have g1 : (code == 1) = false := by rw [beq_eq_false_iff_ne]; exact h1
      have g2 : (code == 2) = false := by rw [beq_eq_false_iff_ne]; exact h2
      have he : errE code = none := by unfold errE; rw [if_neg h1, if_neg h2]
      rw [he]
      go_enter Try.func9, Try.ntmps9
      go_wp2_with fail
      go_ret
      exact ⟨Below.refl _ _, _, rfl, rfl⟩

theorem EO.form {w : World} {v : Value} {x : Er} (h : EO w v (some x)) : ∃ T u, v = .iface T u := h.1.made (okF_of_fits _ _ _ h.2)

/-- Join of two errors that were made here. -/
theorem join_two (cause : Int) (hc : 0 < cause) (x : Er) (hx : x = codeE 1 ∨ x = deadE) (g : Nat) (v : Value) (w : World) (hg : EIs w (Lt w.heap.size) 0 causeB (codeE cause).fo (.iface 63 (.pointer (some ⟨g, 0, none⟩)))) (hv : EO w v (some x)) :
    Calls Try.prog 21 #[.slice (some ⟨w.heap.size, 0, none⟩) 2 2] (w.alloc (.cells #[.iface 63 (.pointer (some ⟨g, 0, none⟩)), v] 29))
      (GatPost allB (.cons 0 causeB (codeE cause).fo x.fo) (w.alloc (.cells #[.iface 63 (.pointer (some ⟨g, 0, none⟩)), v] 29))) := by
  obtain ⟨T, u, rfl⟩ := hv.form
  have hb := below_al w (.cells #[.iface 63 (.pointer (some ⟨g, 0, none⟩)), .iface T u] 29)
  have hsh : shortF (.cons 0 causeB (codeE cause).fo x.fo) := (mayB_len (may_both cause hc x hx)).2
  refine (join_some [.iface 63 (.pointer (some ⟨g, 0, none⟩)), .iface T u] (.cons 0 causeB (codeE cause).fo x.fo) hsh _ w.heap.size 0 2 (by simp) (by simp) (by simp) ?_ (by simp) ⟨hg.later hb, hv.1.later hb, trivial⟩).2 (may_both cause hc x hx)
  intro j u' hu
  match j, hu with
  | 0, hu => obtain rfl : Value.iface 63 (.pointer (some ⟨g, 0, none⟩)) = u' := by simpa using hu
             exact ⟨by simp, .inr ⟨_, _, rfl⟩⟩
  | 1, hu => obtain rfl : Value.iface T u = u' := by simpa using hu
             exact ⟨by simp, .inr ⟨_, _, rfl⟩⟩
  | j + 2, hu => simp at hu

set_option maxRecDepth 100000 in
theorem cause_any (err cause : Int) (W : World) : Calls Try.prog 10 #[.int .i64 err, .int .i64 cause] W (EPost (causeE err cause) W) := by
  have HC := Lib.hid (err_any err W)
  unfold causeE
  cases hm : errE err with
  | none =>
    rw [hm] at HC
    go_enter Try.func10, Try.ntmps10
    go_wp2_with fail
    refine HC.out.mono ?_
    rintro e w ⟨hb, v, rfl, rfl⟩
    have HB := Lib.hid hb
    clear hb
    go_wp2_with fail
    go_ret
    exact ⟨HB.out, _, rfl, rfl⟩
  | some x =>
    rw [hm] at HC
    have hx := errE_or hm
    clear hm
    by_cases h1 : cause < 1
    · rw [show (match some x with | none => none | some x => if cause < 1 ∨ cause = err then some x else some (bothE cause x)) = some x from if_pos (.inl h1)]
      go_enter Try.func10, Try.ntmps10
      go_wp2_with fail
      refine HC.out.mono ?_
      rintro e w ⟨hb, v, rfl, hv⟩
      obtain ⟨T, u, rfl⟩ := hv.form
      have HB := Lib.hid hb
      have HV := Lib.hid hv
      have hne : (binOp .eql 29 (.iface T u) .nilIface).run Try.prog w = .ok (.bool false) w := run_eql_held_nil w 29 T u (by kernel_rfl)
      clear hb hv
      go_wp2_with fail
      go_ret
      exact ⟨HB.out, _, rfl, HV.out⟩
    · by_cases h2 : cause = err
      · rw [show (match some x with | none => none | some x => if cause < 1 ∨ cause = err then some x else some (bothE cause x)) = some x from if_pos (.inr h2)]
        have g2 : (cause == err) = true := by rw [beq_iff_eq]; exact h2
        clear h2
        go_enter Try.func10, Try.ntmps10
        go_wp2_with fail
        refine HC.out.mono ?_
        rintro e w ⟨hb, v, rfl, hv⟩
        obtain ⟨T, u, rfl⟩ := hv.form
        have HB := Lib.hid hb
        have HV := Lib.hid hv
        have hne : (binOp .eql 29 (.iface T u) .nilIface).run Try.prog w = .ok (.bool false) w := run_eql_held_nil w 29 T u (by kernel_rfl)
        clear hb hv
        go_wp2_with fail
        go_ret
        exact ⟨HB.out, _, rfl, HV.out⟩
      · rw [show (match some x with | none => none | some x => if cause < 1 ∨ cause = err then some x else some (bothE cause x)) = some (bothE cause x) from if_neg (by omega)]
        have g2 : (cause == err) = false := by rw [beq_eq_false_iff_ne]; exact h2
        clear h2
        have hc : 0 < cause := by omega
        go_enter Try.func10, Try.ntmps10
        go_wp2_with fail
        refine HC.out.mono ?_
        rintro e w ⟨hb, v, rfl, hv⟩
        obtain ⟨T, u, rfl⟩ := hv.form
        have HB := Lib.hid hb
        have HV := Lib.hid hv
        have hne : (binOp .eql 29 (.iface T u) .nilIface).run Try.prog w = .ok (.bool false) w := run_eql_held_nil w 29 T u (by kernel_rfl)
        have HW := Lib.hid ((wrap_any causeB cause ⟨#[]⟩ .nil ⟨by decide, trivial, trivial⟩ w _ (EIs.mkCode _ _ cause hc)).2 (may_wrap cause hc))
        clear hb hv
        go_wp2_with fail
        refine HW.out.mono ?_
        rintro e w2 ⟨hb, g, rfl, hg⟩
        have HB2 := Lib.hid (HB.out.trans (hb.mono HB.out.size))
        have HJ := Lib.hid (join_two cause hc x hx g _ w2 hg (HV.out.later hb))
        clear hb hg
        go_wp2_with fail
        refine HJ.out.mono ?_
        rintro e w3 ⟨hb, g3, rfl, hj⟩
        have HB3 := Lib.hid ((HB2.out.trans ((below_al w2 _).mono HB2.out.size)).trans (hb.mono (by have := HB2.out.size; simp; omega)))
        have HJ2 := Lib.hid hj
        clear hb hj
        go_wp2_with fail
        go_ret
        exact ⟨HB3.out, _, rfl, HJ2.out, may_both cause hc x hx⟩
#print axioms cause_any
end Go.Proofs.Ytbefcakakoaieaa
