/- WhyWraps returns true, whatever the number, the cause and the name. Condition: the table that strconv reads holds numbers. -/
import Derived.Test.YtbefcakakoaieaaIsW
import Derived.Test.YtbefcakakoaieaaIto
namespace Go.Proofs.Ytbefcakakoaieaa
open Go.RowKit Go.Extern.Stop Go.Stop Go.Extern
set_option linter.unusedVariables false
set_option maxRecDepth 100000

theorem causeE_or {err cause : Int} {x : Er} (h : causeE err cause = some x) : (x = codeE 1 ∨ x = deadE) ∨ ∃ y, 0 < cause ∧ (y = codeE 1 ∨ y = deadE) ∧ x = bothE cause y := by
  unfold causeE at h
  cases hm : errE err with
  | none => rw [hm] at h; cases h
  | some y =>
    rw [hm] at h
    by_cases hc : cause < 1 ∨ cause = err
    · have h2 : some y = some x := by rw [← h]; exact (if_pos hc).symm
      obtain rfl := Option.some.inj h2
      exact .inl (errE_or hm)
    · have h2 : some (bothE cause y) = some x := by rw [← h]; exact (if_neg hc).symm
      obtain rfl := Option.some.inj h2
      exact .inr ⟨y, by omega, errE_or hm, rfl⟩
theorem causeE_none {err cause : Int} (h : causeE err cause = none) : err ≠ 1 ∧ err ≠ 2 := by
  unfold causeE at h
  cases hm : errE err with
  | none =>
    unfold errE at hm
    refine ⟨fun h1 => ?_, fun h1 => ?_⟩
    · rw [if_pos h1] at hm; cases hm
    · rw [if_neg (by omega), if_pos h1] at hm; cases hm
  | some y =>
    rw [hm] at h
    by_cases hc : cause < 1 ∨ cause = err
    · have h2 : some y = (none : Option Er) := by rw [← h]; exact (if_pos hc).symm
      cases h2
    · have h2 : some (bothE cause y) = (none : Option Er) := by rw [← h]; exact (if_neg hc).symm
      cases h2
/-- Wrapped once more. -/
def wrE (op : ByteArray) (x : Er) : Er := ⟨0, op, x.fo⟩
theorem may_wr (op : ByteArray) (h : op.size ≠ 0) {err cause : Int} {x : Er} (hx : causeE err cause = some x) : mayB 0 op x.fo = true := by
  have hs : causeB.size = 5 := rfl
  have hs1 : allB.size = 3 := rfl
  have hs2 : deadB.size = 8 := rfl
  have hs0 : (⟨#[]⟩ : ByteArray).size = 0 := rfl
  rcases causeE_or hx with (rfl | rfl) | ⟨y, hc, (rfl | rfl), rfl⟩
  · simp [mayB, fitsF, codeE, Er.fo, Fo.len, h, hs0]
  · simp [mayB, fitsF, codeE, deadE, Er.fo, Fo.len, h, hs0, hs2]
  · have h0 : cause ≠ 0 := by omega
    simp [mayB, fitsF, codeE, bothE, Er.fo, Fo.len, h, hc, h0, hs, hs0, hs1]
  · have h0 : cause ≠ 0 := by omega
    simp [mayB, fitsF, codeE, deadE, bothE, Er.fo, Fo.len, h, hc, h0, hs, hs0, hs1, hs2]
theorem hasF_wr (k : Int) (op : ByteArray) (x : Er) : hasO k (some (wrE op x)) = hasO k (some x) := by
  show hasF k (.cons 0 op x.fo .nil) = hasF k x.fo
  simp [hasF]
theorem deep_wr (op : ByteArray) (x : Er) : deepO (some (wrE op x)) = deepO (some x) := by
  unfold deepO
  rw [show (fun k => hasO k (some (wrE op x))) = fun k => hasO k (some x) from funext fun k => hasF_wr k op x]
theorem has_err {err cause : Int} {x : Er} (hx : causeE err cause = some x) : hasO err (some x) = true := by
  have he : err = 1 ∨ err = 2 := by
    unfold causeE at hx
    cases hm : errE err with
    | none => rw [hm] at hx; cases hx
    | some y =>
      unfold errE at hm
      by_cases h1 : err = 1
      · exact .inl h1
      · by_cases h2 : err = 2
        · exact .inr h2
        · rw [if_neg h1, if_neg h2] at hm; cases hm
  rw [← hx]
  rcases he with rfl | rfl
  · rw [has_cause1]; simp
  · rw [has_cause2]; simp

variable {s : Int → List UInt8}
theorem say_one (x : Er) : sayL s x.fo = [sayT s x.c x.o x.ks] := rfl
theorem text_wr (op : ByteArray) (x : Er) : textO s (some (wrE op x)) = op.data.toList ++ [58, 32] ++ textO s (some x) := by
  show sayT s 0 op x.fo = _
  unfold sayT
  rw [if_neg (by omega), say_one, Lib.join_one]
  rfl
theorem len_code (W : World) (c : Int) (hc : 0 < c) (h : ItOk s W c) : (sayT s c ⟨#[]⟩ .nil).length ≤ 29 := by
  unfold sayT
  rw [if_pos hc]
  have := h.1
  simp [codeT]; omega
theorem sayT_code (c : Int) (hc : 0 < c) : sayT s c ⟨#[]⟩ .nil = codeT s c := if_pos hc
theorem to_code (W : World) (c : Int) (hc : 0 < c) (h : ItOk s W c) : TO s W (some (codeE c)) :=
  ⟨⟨by show 0 ≤ 1000000; omega, by show 0 ≤ 1000000000; omega, trivial, trivial⟩, fun _ => h, trivial, trivial⟩
theorem to_wrap (W : World) (op : ByteArray) (x : Er) (ho : op.size ≤ 1000000) (h : TO s W (some x)) (hl : (sayT s x.c x.o x.ks).length ≤ 1000) : TO s W (some (wrE op x)) := by
  refine ⟨⟨ho, ?_, h.1, trivial⟩, fun h0 => absurd h0 (by show ¬ (0 : Int) < 0; omega), h.2, trivial⟩
  show (Lib.join (sayL s x.fo) [59, 32]).length ≤ _
  rw [say_one, Lib.join_one]
  omega
theorem len_wrap (op : ByteArray) (x : Er) (n : Nat) (hl : (sayT s x.c x.o x.ks).length ≤ n) : (sayT s 0 op x.fo).length ≤ op.size + 2 + n := by
  have := text_wr (s := s) op x
  have e : (sayT s 0 op x.fo) = op.data.toList ++ [58, 32] ++ sayT s x.c x.o x.ks := this
  rw [e]
  have e2 : op.data.toList.length = op.size := by rw [Array.length_toList]; rfl
  rw [List.length_append, List.length_append, e2]
  show op.size + 2 + _ ≤ _
  omega
theorem to_err (W : World) (h1 : ItOk s W 1) (h2 : ItOk s W 2) (x : Er) (hx : x = codeE 1 ∨ x = deadE) : TO s W (some x) ∧ (sayT s x.c x.o x.ks).length ≤ 100 := by
  rcases hx with rfl | rfl
  · exact ⟨to_code W 1 (by omega) h1, by have := len_code W 1 (by omega) h1; show (sayT s 1 ⟨#[]⟩ .nil).length ≤ _; omega⟩
  · have hl := len_code W 2 (by omega) h2
    have hd : deadB.size = 8 := rfl
    refine ⟨to_wrap W deadB (codeE 2) (by omega) (to_code W 2 (by omega) h2) (by show (sayT s 2 ⟨#[]⟩ .nil).length ≤ _; omega), ?_⟩
    have := len_wrap deadB (codeE 2) 29 hl
    show (sayT s 0 deadB (codeE 2).fo).length ≤ _
    omega
theorem to_cause (W : World) (err cause : Int) (h1 : ItOk s W 1) (h2 : ItOk s W 2) (hc : 0 < cause → ItOk s W cause) (x : Er) (hx : causeE err cause = some x) : TO s W (some x) ∧ (sayT s x.c x.o x.ks).length ≤ 500 := by
  rcases causeE_or hx with h | ⟨y, hc0, hy, rfl⟩
  · have := to_err W h1 h2 x h
    exact ⟨this.1, by omega⟩
  · obtain ⟨y1, y2⟩ := to_err W h1 h2 y hy
    have hl := len_code W cause hc0 (hc hc0)
    have hcb : causeB.size = 5 := rfl
    have hab : allB.size = 3 := rfl
    have c1 := to_wrap W causeB (codeE cause) (by omega) (to_code W cause hc0 (hc hc0)) (by show (sayT s cause ⟨#[]⟩ .nil).length ≤ _; omega)
    have c2 := len_wrap causeB (codeE cause) 29 hl
    have hj : Lib.join (sayL s (.cons 0 causeB (codeE cause).fo y.fo)) [59, 32] = sayT s 0 causeB (codeE cause).fo ++ [59, 32] ++ sayT s y.c y.o y.ks := by
      show Lib.join [sayT s 0 causeB (codeE cause).fo, sayT s y.c y.o y.ks] [59, 32] = _
      simp [Lib.join]
    have hjl : (Lib.join (sayL s (.cons 0 causeB (codeE cause).fo y.fo)) [59, 32]).length ≤ 200 := by
      rw [hj, List.length_append, List.length_append]
      show _ + 2 + _ ≤ _
      omega
    refine ⟨⟨⟨by show allB.size ≤ _; omega, by show (Lib.join (sayL s (.cons 0 causeB (codeE cause).fo y.fo)) [59, 32]).length ≤ _; omega, ⟨c1.1.1, c1.1.2.1, c1.1.2.2.1, y1.1⟩, trivial⟩, fun h0 => absurd h0 (by show ¬ (0 : Int) < 0; omega), ⟨fun h0 => absurd h0 (by omega), c1.2.2.1, y1.2⟩, trivial⟩, ?_⟩
    show (sayT s 0 allB (.cons 0 causeB (codeE cause).fo y.fo)).length ≤ _
    unfold sayT
    rw [if_neg (by omega)]
    have e2 : allB.data.toList.length = 3 := rfl
    rw [List.length_append, List.length_append, e2]
    show 3 + 2 + _ ≤ _
    omega

/-- What Text says of a wrapped error, in the words of the law. -/
theorem text_wrapped (op : ByteArray) (x : Er) (v : Value) (W : World) (h : EO W v (some (wrE op x))) (ht : TO s W (some (wrE op x))) :
    Calls Try.prog 13 #[v] W (fun e w => e = .returned (.string ((op ++ ⟨#[58, 32]⟩) ++ ⟨(textO s (some x)).toArray⟩)) ∧ Below W.heap.size W w) := by
  refine (text_o (some (wrE op x)) v W h ht).mono ?_
  rintro e w ⟨rfl, hb⟩
  refine ⟨?_, hb⟩
  rw [text_wr]
  refine ret_str ?_
  apply ByteArray.ext
  simp

theorem wr_no (err cause : Int) (op : ByteArray) (W : World) (h : op.size < 1 ∨ 50 < op.size) : Calls Try.prog 5 #[.int .i64 err, .int .i64 cause, .string op] W (BoolPost true W) := by
  have HA := Lib.hid (awake_any W)
  by_cases h1 : op.size < 1
  · have h2 : (op.size : Int) < 1 := by omega
    clear h
    go_enter Try.func5, Try.ntmps5
    go_wp2_with fail
    refine HA.out.mono ?_
    rintro e w ⟨rfl, hb⟩
    have HB := Lib.hid hb
    clear hb
    go_wp2_with fail
    go_ret
    exact ⟨rfl, HB.out⟩
  · have h2 : ¬ (op.size : Int) < 1 := by omega
    have h3 : (50 : Int) < op.size := by omega
    clear h h1
    go_enter Try.func5, Try.ntmps5
    go_wp2_with fail
    refine HA.out.mono ?_
    rintro e w ⟨rfl, hb⟩
    have HB := Lib.hid hb
    clear hb
    go_wp2_with fail
    go_ret
    exact ⟨rfl, HB.out⟩

set_option maxHeartbeats 4000000 in
theorem wr_walk (err cause : Int) (op : ByteArray) (W : World) (T : Nat → Nat) (hT : TabT T W) (hc : cause ≤ 9223372036854775807) : Calls Try.prog 5 #[.int .i64 err, .int .i64 cause, .string op] W (BoolPost true W) := by
  by_cases hop : op.size < 1 ∨ 50 < op.size
  · exact wr_no err cause op W hop
  have h2 : ¬ (op.size : Int) < 1 := by omega
  have h3 : ¬ (50 : Int) < op.size := by omega
  have ho : op.size ≠ 0 := by omega
  have ho2 : op.size ≤ 50 := by omega
  clear hop
  have HT := Lib.hid hT
  clear hT
  have HC := Lib.hid (cause_any err cause W)
  cases hm : causeE err cause with
  | none =>
    rw [hm] at HC
    obtain ⟨n1, n2⟩ := causeE_none hm
    have g1 : (err == 1) = false := by rw [beq_eq_false_iff_ne]; exact n1
    have g2 : (err == 2) = false := by rw [beq_eq_false_iff_ne]; exact n2
    have g3 : (err != 1) = true := by rw [bne_iff_ne]; exact n1
    have g4 : (err != 2) = true := by rw [bne_iff_ne]; exact n2
    have hmay : mayB 0 op (.cons 0 ⟨#[]⟩ .nil .nil) = false := by
      have hs0 : (⟨#[]⟩ : ByteArray).size = 0 := rfl
      simp [mayB, fitsF, Fo.len, ho, hs0]
    have HO := Lib.hid ho
    clear hm n1 n2 ho
    go_enter Try.func5, Try.ntmps5
    go_wp2_with fail
    refine HC.out.mono ?_
    rintro e w1 ⟨hb, v, rfl, rfl⟩
    have HB := Lib.hid hb
    have HW := Lib.hid ((wrap_any op 0 ⟨#[]⟩ .nil ⟨by decide, trivial, trivial⟩ w1 .nilIface (.inr (.inr ⟨rfl, rfl, rfl, rfl⟩))).1 hmay)
    clear hb
    go_wp2_with fail
    refine HW.out.mono ?_
    rintro e w2 ⟨rfl, hb⟩
    have HB2 := Lib.hid (HB.out.trans (hb.mono HB.out.size))
    clear hb
    go_wp2_with fail
    refine (awake_any w2).mono ?_
    rintro e w3 ⟨rfl, hb⟩
    have HB3 := Lib.hid (HB2.out.trans (hb.mono HB2.out.size))
    clear hb
    go_wp2_with fail
    go_ret
    exact ⟨rfl, HB3.out⟩
  | some x =>
    rw [hm] at HC
    have HMW := Lib.hid (may_wr op ho hm)
    have HER := Lib.hid (has_err hm)
    have HTO : Hid (∀ w, Below W.heap.size W w → TO (itoT T) w (some x) ∧ TO (itoT T) w (some (wrE op x))) := fun w hb => by
      have ht := HT.out.below hb
      obtain ⟨a, b⟩ := to_cause w err cause (ItOk.tab T w ht 1 (by omega) (by omega)) (ItOk.tab T w ht 2 (by omega) (by omega)) (fun h0 => ItOk.tab T w ht cause (by omega) hc) x hm
      exact ⟨a, to_wrap w op x (by omega) a (by omega)⟩
    have hlen : (textO (itoT T) (some x)).length ≤ 500 := (to_cause W err cause (ItOk.tab T W HT.out 1 (by omega) (by omega)) (ItOk.tab T W HT.out 2 (by omega) (by omega)) (fun h0 => ItOk.tab T W HT.out cause (by omega) hc) x hm).2
    have ha1 : ∀ w : World, (Op.stringOp .add op ⟨#[58, 32]⟩).run Try.prog w = .ok (.string (op ++ ⟨#[58, 32]⟩)) w := fun w => run_string_add_sum w _ _ (by show op.size + 2 ≤ _; omega)
    have ha2 : ∀ w : World, (Op.stringOp .add (op ++ ⟨#[58, 32]⟩) ⟨(textO (itoT T) (some x)).toArray⟩).run Try.prog w = .ok (.string ((op ++ ⟨#[58, 32]⟩) ++ ⟨(textO (itoT T) (some x)).toArray⟩)) w := fun w => run_string_add_sum w _ _ (by rw [ByteArray.size_append]; show op.size + 2 + (textO (itoT T) (some x)).toArray.size ≤ _; rw [List.size_toArray]; omega)
    have hd := deep_wr op x
    have hf2 := hasF_wr 2 op x
    have hfe := hasF_wr err op x
    have HD := Lib.hid hd
    have HF2 := Lib.hid hf2
    have HFE : Hid (hasO err (some (wrE op x)) = true) := hfe.trans HER.out
    clear hm hd hf2 hfe ho hlen
    generalize hdd : deepO (some x) = dd at *
    have HDD := Lib.hid hdd
    clear hdd
    generalize hbb : hasO 2 (some x) = bb at *
    have HBB := Lib.hid hbb
    clear hbb
    go_enter Try.func5, Try.ntmps5
    go_wp2_with fail
    refine HC.out.mono ?_
    rintro e w1 ⟨hb, v, rfl, hv⟩
    obtain ⟨vT, vu, rfl⟩ := hv.form
    have HB := Lib.hid hb
    have HV := Lib.hid hv
    have HW := Lib.hid ((wrap_any op x.c x.o x.ks (shortF_of_fits _ _ _ (by omega) (by omega) hv.2) w1 _ hv.1).2 HMW.out)
    clear hb hv HC
    go_wp2_with fail
    refine HW.out.mono ?_
    rintro e w2 ⟨hb, g, rfl, hg⟩
    have HB2 := Lib.hid (HB.out.trans (hb.mono HB.out.size))
    have HV2 := Lib.hid (HV.out.later hb)
    have HG : Hid (EO w2 (.iface 63 (.pointer (some ⟨g, 0, none⟩))) (some (wrE op x))) := ⟨hg, HMW.out⟩
    have hne : (binOp .eql 29 (.iface vT vu) .nilIface).run Try.prog w2 = .ok (.bool false) w2 := run_eql_held_nil w2 29 vT vu (by kernel_rfl)
    clear hb hg HB HV HW
    go_wp2_with fail
    clear hne
    cases bb
    all_goals
      have H := deepest_o _ _ w2 HG.out
      rw [HD.out] at H
      refine H.mono ?_
      rintro e w3 ⟨rfl, hb⟩
      have HC2 := Lib.hid (HB2.out.trans (hb.mono HB2.out.size))
      have HV3 := Lib.hid (HV2.out.later hb)
      have HG3 := Lib.hid (HG.out.later hb)
      clear hb H HB2 HV2 HG
      have HB2 := HC2
      have HV2 := HV3
      have HG := HG3
      clear HC2 HV3 HG3
      go_wp2_with fail
      have H := deepest_o _ _ w3 HV2.out
      rw [HDD.out] at H
      refine H.mono ?_
      rintro e w4 ⟨rfl, hb⟩
      have HC2 := Lib.hid (HB2.out.trans (hb.mono HB2.out.size))
      have HV3 := Lib.hid (HV2.out.later hb)
      have HG3 := Lib.hid (HG.out.later hb)
      clear hb H HB2 HV2 HG
      have HB2 := HC2
      have HV2 := HV3
      have HG := HG3
      clear HC2 HV3 HG3
      go_wp2_with fail
      have H := timeout_o _ _ w4 HG.out
      rw [HF2.out] at H
      refine H.mono ?_
      rintro e w5 ⟨rfl, hb⟩
      have HC2 := Lib.hid (HB2.out.trans (hb.mono HB2.out.size))
      have HV3 := Lib.hid (HV2.out.later hb)
      have HG3 := Lib.hid (HG.out.later hb)
      clear hb H HB2 HV2 HG
      have HB2 := HC2
      have HV2 := HV3
      have HG := HG3
      clear HC2 HV3 HG3
      go_wp2_with fail
      have H := timeout_o _ _ w5 HV2.out
      rw [HBB.out] at H
      refine H.mono ?_
      rintro e w6 ⟨rfl, hb⟩
      have HC2 := Lib.hid (HB2.out.trans (hb.mono HB2.out.size))
      have HV3 := Lib.hid (HV2.out.later hb)
      have HG3 := Lib.hid (HG.out.later hb)
      clear hb H HB2 HV2 HG
      have HB2 := HC2
      have HV2 := HV3
      have HG := HG3
      clear HC2 HV3 HG3
      go_wp2_with fail
      have H := is_o err _ _ w6 HG.out
      rw [HFE.out] at H
      refine H.mono ?_
      rintro e w7 ⟨rfl, hb⟩
      have HC2 := Lib.hid (HB2.out.trans (hb.mono HB2.out.size))
      have HV3 := Lib.hid (HV2.out.later hb)
      have HG3 := Lib.hid (HG.out.later hb)
      clear hb H HB2 HV2 HG
      have HB2 := HC2
      have HV2 := HV3
      have HG := HG3
      clear HC2 HV3 HG3
      go_wp2_with fail
      have H := text_wrapped (s := itoT T) op x _ w7 HG.out (HTO.out w7 HB2.out).2
      refine H.mono ?_
      rintro e w8 ⟨rfl, hb⟩
      have HC2 := Lib.hid (HB2.out.trans (hb.mono HB2.out.size))
      have HV3 := Lib.hid (HV2.out.later hb)
      have HG3 := Lib.hid (HG.out.later hb)
      clear hb H HB2 HV2 HG
      have HB2 := HC2
      have HV2 := HV3
      have HG := HG3
      clear HC2 HV3 HG3
      go_wp2_with fail
      have H := text_o (s := itoT T) (some x) _ w8 HV2.out (HTO.out w8 HB2.out).1
      refine H.mono ?_
      rintro e w9 ⟨rfl, hb⟩
      have HC2 := Lib.hid (HB2.out.trans (hb.mono HB2.out.size))
      have HV3 := Lib.hid (HV2.out.later hb)
      have HG3 := Lib.hid (HG.out.later hb)
      clear hb H HB2 HV2 HG
      have HB2 := HC2
      have HV2 := HV3
      have HG := HG3
      clear HC2 HV3 HG3
      go_wp2_with fail
      have H := awake_any w9
      refine H.mono ?_
      rintro e w10 ⟨rfl, hb⟩
      have HC2 := Lib.hid (HB2.out.trans (hb.mono HB2.out.size))
      have HV3 := Lib.hid (HV2.out.later hb)
      have HG3 := Lib.hid (HG.out.later hb)
      clear hb H HB2 HV2 HG
      have HB2 := HC2
      have HV2 := HV3
      have HG := HG3
      clear HC2 HV3 HG3
      go_wp2_with fail
      go_ret
      exact ⟨rfl, HB2.out⟩
#print axioms wr_walk
end Go.Proofs.Ytbefcakakoaieaa
