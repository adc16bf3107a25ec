/- What Cancels and Without of the document's contexts do. Conditions: each theorem's own premises. -/
import Derived.Test.YtdpapnfjpefhkaaGreatRcam
import Derived.Test.YtdpapnfjpefhkaaGreatTkem
import Derived.Test.YtdpapnfjpefhkaaGreatCdlm
namespace Go.Proofs.YtdpapnfjpefhkaaGreat
open Go.RowKit Tr
set_option linter.unusedVariables false
set_option maxRecDepth 100000
section
variable {R : Nat} {wh : Int} {has own : Bool} {W w w' w'' w0 w1 : World} {m mo B i j k : Nat} {O O' O0 : Nat → Prop} {s s' : St} {N : List Nd} {C : List Cx} {A : List Af} {T : TS} {er cs : Int} {l : List Lap} {mm : List Mp} {P1 P2 : Option Addr} {n1 c1 n2 c2 : Nat} {x y : Cx} {o : Lr} {pg : Int}
theorem RI.addS (h : RI s) (v : Inv s) (hy : s.C[i]? = some y) (l : Bool) (x : Cx) : RI (addS s x (y.nd : Int) l) := by
 have hl := v.kl
 have hn := v.ndlt hy
 have hT : s.T.length ≤ 128 := by have := v.tl; have := v.cl; have := v.al; omega
 refine ⟨h.wf.push (by omega) (by omega) (by omega), by show (s.T ++ _).length ≤ 1000; simp; omega, fun j z hz => ?_, fun j a ha => ?_, h.ok, h.sl, h.el, h.sp, h.en, fun j q hj => ?_⟩
 · have hz : (s.C ++ [nw x s.T.length])[j]? = some z := hz
   show (s.K ++ _)[z.nd]? = _
   rcases Nat.lt_or_ge j s.C.length with c | c
   · rw [List.getElem?_append_left c] at hz
     rw [List.getElem?_append_left (by rw [hl]; exact v.ndlt hz)]
     exact v.ck j z hz
   · rw [List.getElem?_append_right c] at hz
     have hj := (List.getElem?_eq_some_iff.1 hz).1
     have hj : j - s.C.length < 1 := hj
     obtain rfl : j = s.C.length := by omega
     rw [Nat.sub_self] at hz; cases hz
     show (s.K ++ _)[s.T.length]? = _
     rw [← hl]; simp
 · have h1 := v.ak j a ha
   show (s.K ++ _)[a.nd]? = _
   rw [List.getElem?_append_left (List.getElem?_eq_some_iff.1 h1).1]; exact h1
 · have hj : (s.T ++ [((y.nd : Int), l)])[j]? = some ((q : Int), true) := hj
   show ∃ i, (s.K ++ _)[q]? = some ⟨false, i⟩
   rcases Nat.lt_or_ge j s.T.length with c | c
   · rw [List.getElem?_append_left c] at hj
     obtain ⟨i, h1⟩ := h.pk j q hj
     exact ⟨i, by rw [List.getElem?_append_left (List.getElem?_eq_some_iff.1 h1).1]; exact h1⟩
   · rw [List.getElem?_append_right c] at hj
     have hj2 := (List.getElem?_eq_some_iff.1 hj).1
     have hj2 : j - s.T.length < 1 := hj2
     obtain rfl : j = s.T.length := by omega
     rw [Nat.sub_self] at hj
     have hj : some ((y.nd : Int), l) = some ((q : Int), true) := hj
     injection hj with hj
     injection hj with hj _
     obtain rfl : y.nd = q := by omega
     have h1 := v.ck i y hy
     exact ⟨i, by rw [List.getElem?_append_left (List.getElem?_eq_some_iff.1 h1).1]; exact h1⟩
theorem IW.add (h : IW R s) (hy : s.C[i]? = some y) (hC : s.C.length < 64) (l : Bool) (hx : x.er = 0 ∧ x.cl = false ∧ x.rs = []) (hl : l = true → ∃ c, x.ch = some c) : IW R (addS s x (y.nd : Int) l) := by
 refine ⟨h.v.add hy hC l hx hl, h.r.addS h.v hy l x, fun j z hz => ?_, h.hR⟩
 have hz : (s.C ++ [nw x s.T.length])[j]? = some z := hz
 rcases Nat.lt_or_ge j s.C.length with c | c
 · rw [List.getElem?_append_left c] at hz; exact h.rs j z hz
 · rw [List.getElem?_append_right c] at hz
   have hj := (List.getElem?_eq_some_iff.1 hz).1
   have hj : j - s.C.length < 1 := hj
   obtain rfl : j = s.C.length := by omega
   rw [Nat.sub_self] at hz; cases hz
   show x.rs.length ≤ R
   rw [hx.2.2]; exact Nat.zero_le _
theorem RC.add (h : RC W m mo s O w) (v : IW R s) (hy : s.C[i]? = some y) (l : Bool) (hc : NX W O w x) :
  Calls Tryz.prog 55 #[pM' m, .int .i64 (y.nd : Int), .bool l, .agg (bR 0 (nw x s.T.length))] w fun e w' => e = .returned (.int .i64 (s.C.length : Int)) ∧ Hid (∃ O', RC W m mo (addS s x (y.nd : Int) l) O' w' ∧ Tn O w w' ∧ ∀ k, O' k → O k ∨ w.heap.size ≤ k ∨ x.ch = some k) := by
 obtain ⟨⟨N, o, hr, r, e⟩, t⟩ := h
 have hn := v.v.ndlt hy
 have hT : s.T.length ≤ 128 := by have := v.v.tl; have := v.v.cl; have := v.v.al; omega
 have := v.v.cl
 refine (radd_any' (x := nw x s.T.length) (pr := (y.nd : Int)) (l := l) (l2 := l) hr rfl ⟨by omega, by omega⟩ (by rw [decide_eq_true (by omega), Bool.and_true]) (by omega) (by rw [r.len]; omega) (by omega) ⟨fun c hcc => ?_⟩).mono ?_
 · obtain ⟨c1, c2, c3⟩ := hc.c c hcc
   exact ⟨c1, c2, fun hk => c3 ((e c).2 hk)⟩
 · rintro e' w' ⟨rfl, hR⟩
   obtain ⟨o', r1, r2, r3⟩ := hR.out
   rw [List.dropLast_concat] at r2 r3
   refine ⟨rfl, oR m o' (s.C ++ [nw x s.T.length]), ⟨⟨_, o', r1, r.addC (y.nd : Int) l (nw x s.T.length) rfl fun i x hi => v.v.ndlt hi, fun k => Iff.rfl⟩, RS.tn t (fun k hk => hr.tag hk) r2⟩, r2.mono fun k hk => .inl ((e k).2 hk), fun k hk => ?_⟩
   rcases r3 k hk with h1 | h1
   · exact .inl ((e k).2 h1)
   · exact .inr h1
def RMk (W : World) (m mo : Nat) (s' : Nat → St) (O : Nat → Prop) (n : Nat) (er cs : Int) (l : List Lap) (w : World) (e : Ending) (w' : World) : Prop :=
 ∃ P1 n1 c1 c, Hid (n1 = l.length) ∧ e = .returned (.tuple #[.int .i64 (n : Int), .slice P1 n1 c1, .int .i64 0]) ∧ Hid (RG W m mo (s' c) O w w') ∧ Hid (LRt 160 w.heap.size w' P1 c1 er cs l)
abbrev mk3 (r : Int) : Value := .tuple #[.int .i64 0, .slice none 0 0, .int .i64 r]
theorem rcancels_none {k : Int} (h : RC W m mo s O w) (hk : k < 0 ∨ (s.C.length : Int) ≤ k) : Calls Tryz.prog 21 #[pM' m, .int .i64 k] w fun e w' => e = .returned (mk3 4) ∧ w = w' := by
 obtain ⟨⟨N, o, hr, r, e⟩, t⟩ := h
 have HI := Lib.hid (rcin_any hr k)
 rw [decide_eq_false (by omega)] at HI
 clear hr r e t
 go_enter Tryz.func21, Tryz.ntmps21
 go_wp2_with fail
 refine HI.out.mono ?_
 rintro e w' ⟨rfl, rfl⟩
 go_wp2_with fail
 go_ret3
 exact ⟨rfl, rfl⟩
theorem rcancels_full (h : RC W m mo s O w) (hi : i < s.C.length) (hC : s.C.length = 64) : Calls Tryz.prog 21 #[pM' m, .int .i64 (i : Int)] w fun e w' => e = .returned (mk3 3) ∧ w = w' := by
 obtain ⟨⟨N, o, hr, r, e⟩, t⟩ := h
 have HI := Lib.hid (rcin_any hr (i : Int))
 rw [decide_eq_true (by omega)] at HI
 obtain ⟨⟨-, -, -, t3, -⟩, -⟩ := hr.top
 rw [hC] at t3
 clear hr r e t
 go_enter Tryz.func21, Tryz.ntmps21
 go_wp2_with fail
 refine HI.out.mono ?_
 rintro e w' ⟨rfl, rfl⟩
 go_wp2_with fail
 go_ret3
 exact ⟨rfl, rfl⟩
theorem rwithout_none {k : Int} (h : RC W m mo s O w) (hk : k < 0 ∨ (s.C.length : Int) ≤ k) : Calls Tryz.prog 24 #[pM' m, .int .i64 k] w fun e w' => e = .returned (.tuple #[.int .i64 0, .int .i64 4]) ∧ w = w' := by
 obtain ⟨⟨N, o, hr, r, e⟩, t⟩ := h
 have HI := Lib.hid (rcin_any hr k)
 rw [decide_eq_false (by omega)] at HI
 clear hr r e t
 go_enter Tryz.func24, Tryz.ntmps24
 go_wp2_with fail
 refine HI.out.mono ?_
 rintro e w' ⟨rfl, rfl⟩
 go_wp2_with fail
 go_ret2
 exact ⟨rfl, rfl⟩
theorem rwithout_full (h : RC W m mo s O w) (hi : i < s.C.length) (hC : s.C.length = 64) : Calls Tryz.prog 24 #[pM' m, .int .i64 (i : Int)] w fun e w' => e = .returned (.tuple #[.int .i64 0, .int .i64 3]) ∧ w = w' := by
 obtain ⟨⟨N, o, hr, r, e⟩, t⟩ := h
 have HI := Lib.hid (rcin_any hr (i : Int))
 rw [decide_eq_true (by omega)] at HI
 obtain ⟨⟨-, -, -, t3, -⟩, -⟩ := hr.top
 rw [hC] at t3
 clear hr r e t
 go_enter Tryz.func24, Tryz.ntmps24
 go_wp2_with fail
 refine HI.out.mono ?_
 rintro e w' ⟨rfl, rfl⟩
 go_wp2_with fail
 go_ret2
 exact ⟨rfl, rfl⟩
set_option maxHeartbeats 8000000 in
theorem rwithout_ok (h : RC W m mo s O w) (v : IW R s) (hy : s.C[i]? = some y) (hC : s.C.length < 64) : Calls Tryz.prog 24 #[pM' m, .int .i64 (i : Int)] w fun e w' => e = .returned (.tuple #[.int .i64 (s.C.length : Int), .int .i64 0]) ∧ Hid (RG W m mo (addS s nxW (y.nd : Int) false) O w w') := by
 have hi := (List.getElem?_eq_some_iff.1 hy).1
 have HA : Hid (∀ w1, Below w.heap.size w w1 → Calls Tryz.prog 55 #[pM' m, .int .i64 (y.nd : Int), .bool false, .agg #[.bool false, .int .i64 0, .int .i64 0, .bool false, .bool true, .int .i64 0, .int .i64 0, .int .i64 0, .bool false, .bool false, .int .i64 (-1), .pointer none]] w1 fun e w' => e = .returned (.int .i64 (s.C.length : Int)) ∧ Hid (RG W m mo (addS s nxW (y.nd : Int) false) O w w')) := fun w1 hb => by
  refine ((h.later hb).add v hy false (x := nxW) (NX.none rfl)).mono ?_
  rintro e w' ⟨rfl, hR⟩
  obtain ⟨O', r1, r2, r3⟩ := hR.out
  refine ⟨rfl, O', r1, fun k hk => ?_, Rm.of_tn ((Tn.of_below hb).trans r2)⟩
  rcases r3 k hk with h1 | h1 | h1
  · exact .inl h1
  · exact .inr (Nat.le_trans hb.size h1)
  · cases h1
 obtain ⟨⟨N, o, hr, r, e⟩, t⟩ := h
 have HI := Lib.hid (rcin_any hr (i : Int))
 rw [decide_eq_true (by omega)] at HI
 obtain ⟨⟨-, -, -, t3, -⟩, -⟩ := hr.top
 obtain ⟨q2, hX, d0⟩ := hr.cx hy
 rw [hX] at t3
 have b1 : (i : Int) < (s.C.length : Int) := by omega
 have b2 : (0 : Int) ≤ (i : Int) := by omega
 have b3 : ¬ (64 : Int) ≤ (s.C.length : Int) := by omega
 clear hr r e t hX hy v hC
 generalize y.nd = d at *
 go_enter Tryz.func24, Tryz.ntmps24
 go_wp2_with fail
 refine HI.out.mono ?_
 rintro e w' ⟨rfl, rfl⟩
 go_wp2_with fail
 refine (HA.out _ (Below.refl _ _)).mono ?_
 rintro e w' ⟨rfl, hg⟩
 go_wp2_with fail
 go_ret2
 exact ⟨rfl, hg⟩
abbrev bY (i : Nat) (y : Cx) : Array Value := #[.bool false, .int .i64 i, .int .i64 0, .bool false, .bool y.ch.isNone, .int .i64 y.er, .int .i64 y.cs, .int .i64 y.wh, .bool y.has, .bool y.own, .int .i64 y.lp, .pointer (cp y.ch)]
theorem bY_cells {b : Nat} (h : w.heap[b]? = some (.cells (bY i y) 155 (0, 0))) : w.cell? ⟨b, 5, none⟩ = some (.int .i64 y.er) ∧ w.cell? ⟨b, 6, none⟩ = some (.int .i64 y.cs) ∧ w.cell? ⟨b, 7, none⟩ = some (.int .i64 y.wh) ∧ w.cell? ⟨b, 8, none⟩ = some (.bool y.has) := by
 refine ⟨?_, ?_, ?_, ?_⟩
 · rw [cell_of_row w b 5 _ _ _ h]; rfl
 · rw [cell_of_row w b 6 _ _ _ h]; rfl
 · rw [cell_of_row w b 7 _ _ _ h]; rfl
 · rw [cell_of_row w b 8 _ _ _ h]; rfl
theorem RH.new {c : Nat} (h : w.heap[c]? = some (.cells (Ch.mB ⟨2, false, 0, [], [], []⟩ (.slice none 0 0) (.slice none 0 0) (.slice none 0 0)) 114 (0, 0))) : RH w c ⟨2, false, 0, [], [], []⟩ := by
 refine ⟨rfl, rfl, (none, 0), (none, 0), (none, 0), h, Ch.Ro.nil _ _ _ _ _ (by omega), Ch.Ro.nil _ _ _ _ _ (by omega), Ch.Ro.nil _ _ _ _ _ (by omega), ?_⟩
 rintro ⟨cs, e⟩
 rw [h] at e; cases e
theorem RC.addn {wx : World} {c b : Nat} (h : RC W m mo s O w) (v : IW R s) (hy : s.C[i]? = some y) (wh : Int) (has own : Bool) (hb : Below w.heap.size w wx) (hc : w.heap.size ≤ c) (hch : wx.heap[c]? = some (.cells (Ch.mB ⟨2, false, 0, [], [], []⟩ (.slice none 0 0) (.slice none 0 0) (.slice none 0 0)) 114 (0, 0))) {cs : Array Value} (hb1 : w.heap.size ≤ b) (hb2 : wx.heap[b]? = some (.cells cs 155 (0, 0))) :
  Calls Tryz.prog 55 #[pM' m, .int .i64 (y.nd : Int), .bool true, .agg #[.bool false, .int .i64 0, .int .i64 0, .bool false, .bool false, .int .i64 0, .int .i64 0, .int .i64 wh, .bool has, .bool own, .int .i64 (-1), .pointer (some ⟨c, 0, none⟩)]] wx fun e w' => e = .returned (.int .i64 (s.C.length : Int)) ∧ Hid (∃ O', RC W m mo (addS s (nx0 c wh has own) (y.nd : Int) true) O' w' ∧ Rm O w w' ∧ (∀ k, O' k → O k ∨ w.heap.size ≤ k) ∧ w'.heap[b]? = some (.cells cs 155 (0, 0))) := by
 have hO : ∀ k, O k → k < w.heap.size := fun k hk => h.lt hk
 have hx : NX W O wx (nx0 c wh has own) := ⟨fun d hd => by
  have hd : some c = some d := hd
  injection hd with hd; subst hd
  exact ⟨Nat.le_trans h.bel.size hc, RH.new hch, fun hk => by have := hO c hk; omega⟩⟩
 refine ((h.later hb).add v hy true hx).mono ?_
 rintro e w' ⟨rfl, hR⟩
 obtain ⟨O', r1, r2, r3⟩ := hR.out
 refine ⟨rfl, O', r1, Rm.of_tn ((Tn.of_below hb).trans r2), fun k hk => ?_, (r2.block b (lt_of_blk hb2) fun hk => by have := hO b hk; omega).trans hb2⟩
 rcases r3 k hk with h1 | h1 | h1
 · exact .inl h1
 · exact .inr (Nat.le_trans hb.size h1)
 · have h1 : some c = some k := h1
   injection h1 with h1; subst h1
   exact .inr hc
theorem RC.falln {c : Nat} {O' : Nat → Prop} {wx : World} (h : RC W m mo (addS s (nx0 c wh has own) (y.nd : Int) true) O' w1) (v : IW R s) (hy : s.C[i]? = some y) (hC : s.C.length < 64) (f : Rm O w w1) (hs : ∀ k, O' k → O k ∨ w.heap.size ≤ k) (hW : W.heap.size ≤ w.heap.size) (er cs : Int) (hb : Below w1.heap.size w1 wx) :
  Calls Tryz.prog 58 #[pM' m, .int .i64 (s.T.length : Int), .int .i64 er, .int .i64 cs, .slice none 0 0, .slice none 0 0] wx (RFa W m mo (addD s (nx0 c wh has own) (y.nd : Int) er cs) O er cs [(s.C.length, [])] [] w) := by
 have v2 := v.add (x := nx0 c wh has own) hy hC true ⟨rfl, rfl, rfl⟩ fun _ => ⟨c, rfl⟩
 have := (h.later hb).fall v2 addS_new ⟨c, rfl⟩ rfl (f.comp (Rm.of_below (O := O) hb) fun k hk => .inl hk) hs hW er cs
 rw [fold_new v.v (nx0 c wh has own) (y.nd : Int) ⟨rfl, rfl⟩] at this
 exact this
theorem RC.newat {x : Cx} {ab : Int} {l : Bool} {O' : Nat → Prop} (h : RC W m mo (addS s x ab l) O' w) : ∃ q cX, w.cell? ⟨m, 3, none⟩ = some (.slice (some ⟨q, 0, none⟩) (s.C.length + 1) cX) ∧ w.cell? ⟨q, s.C.length, none⟩ = some (.int .i64 (s.T.length : Int)) := by
 obtain ⟨⟨N, o, hr, r, e⟩, t⟩ := h
 obtain ⟨⟨-, -, -, t3, -⟩, -⟩ := hr.top
 obtain ⟨q2, hX, d0⟩ := hr.cx (i := s.C.length) (x := nw x s.T.length) addS_new
 rw [hX] at t3
 have el : (addS s x ab l).C.length = s.C.length + 1 := by show (s.C ++ [nw x s.T.length]).length = _; simp
 rw [el] at t3
 exact ⟨q2, o.cX, t3, d0⟩
theorem RC.at12 (h : RC W m mo s O w) (hy : s.C[i]? = some y) : Calls Tryz.prog 57 #[pM' m, .int .i64 (i : Int)] w fun e w1 => ∃ q q2 cX, e = .returned (.pointer (some ⟨q, y.nd * 12, none⟩)) ∧ Hid (Below w.heap.size w w1) ∧ (w1.cell? ⟨q, y.nd * 12, none⟩ = some (.bool false) ∧ w1.cell? ⟨q, y.nd * 12 + 1, none⟩ = some (.int .i64 i) ∧ w1.cell? ⟨q, y.nd * 12 + 2, none⟩ = some (.int .i64 0) ∧ w1.cell? ⟨q, y.nd * 12 + 3, none⟩ = some (.bool false) ∧ w1.cell? ⟨q, y.nd * 12 + 4, none⟩ = some (.bool y.ch.isNone) ∧ w1.cell? ⟨q, y.nd * 12 + 5, none⟩ = some (.int .i64 y.er) ∧ w1.cell? ⟨q, y.nd * 12 + 6, none⟩ = some (.int .i64 y.cs) ∧ w1.cell? ⟨q, y.nd * 12 + 7, none⟩ = some (.int .i64 y.wh) ∧ w1.cell? ⟨q, y.nd * 12 + 8, none⟩ = some (.bool y.has) ∧ w1.cell? ⟨q, y.nd * 12 + 9, none⟩ = some (.bool y.own) ∧ w1.cell? ⟨q, y.nd * 12 + 10, none⟩ = some (.int .i64 y.lp) ∧ w1.cell? ⟨q, y.nd * 12 + 11, none⟩ = some (.pointer (cp y.ch))) ∧ w1.cell? ⟨m, 3, none⟩ = some (.slice (some ⟨q2, 0, none⟩) s.C.length cX) ∧ w1.cell? ⟨q2, i, none⟩ = some (.int .i64 y.nd) := by
 obtain ⟨⟨N, o, hr, r, e⟩, t⟩ := h
 have hN := r.c i y hy
 obtain ⟨q, hP, -, -, -⟩ := hr.nd hN
 refine (rat_at hr hy (List.getElem?_eq_some_iff.1 hN).1 hP).mono ?_
 rintro e w1 ⟨rfl, nq, rfl⟩
 have hb := below_drewN w nq
 have h1 := hr.later hb
 obtain ⟨q', hP', -, hc, -⟩ := h1.nd hN
 rw [hP] at hP'; injection hP' with hP'; injection hP' with hP'; subst hP'
 obtain ⟨⟨-, -, -, t3, -⟩, -⟩ := h1.top
 obtain ⟨q2, hX, d0⟩ := h1.cx hy
 rw [hX] at t3
 exact ⟨q, q2, _, rfl, hb, ⟨hc 0 (by decide), hc 1 (by decide), hc 2 (by decide), hc 3 (by decide), hc 4 (by decide), hc 5 (by decide), hc 6 (by decide), hc 7 (by decide), hc 8 (by decide), hc 9 (by decide), hc 10 (by decide), hc 11 (by decide)⟩, t3, d0⟩
set_option maxHeartbeats 16000000 in
theorem rcancels_ok (h : RC W m mo s O w) (v : IW R s) (hy : s.C[i]? = some y) (hC : s.C.length < 64) : Calls Tryz.prog 21 #[pM' m, .int .i64 (i : Int)] w (RMk W m mo (fun c => mkC s (nx0 c y.wh y.has false) y) O s.C.length y.er y.cs (mkL s y) w) := by
 have hi := (List.getElem?_eq_some_iff.1 hy).1
 have HW := h.bel.size
 have HA := Lib.hid (h.at12 hy)
 have HH := Lib.hid h
 have HV := Lib.hid v
 have HY := Lib.hid hy
 have HCL := Lib.hid hC
 have hm : m < w.heap.size := by obtain ⟨⟨N, o, hr, r, e⟩, t⟩ := h; exact hr.lt (.inl rfl)
 obtain ⟨⟨N, o, hr, r, e⟩, t⟩ := h
 have HI := Lib.hid (rcin_any hr (i : Int))
 rw [decide_eq_true (by omega)] at HI
 obtain ⟨⟨-, -, -, t3, -⟩, -⟩ := hr.top
 have b1 : (i : Int) < (s.C.length : Int) := by omega
 have b2 : (0 : Int) ≤ (i : Int) := by omega
 have b3 : ¬ (64 : Int) ≤ (s.C.length : Int) := by omega
 clear hr r e t v hy hC
 go_enter Tryz.func21, Tryz.ntmps21
 go_wp2_with fail
 refine HI.out.mono ?_
 rintro e w' ⟨rfl, rfl⟩
 go_wp2_with fail
 clear t3
 refine HA.out.mono ?_
 rintro e w1 ⟨q, q2, cX, rfl, HB1, ⟨x0, x1, x2, x3, x4, x5, x6, x7, x8, x9, x10, x11⟩, t3, d0⟩
 clear HA HI
 have hm1 : m < w1.heap.size := Nat.lt_of_lt_of_le hm HB1.out.size
 go_wp2_with fail
 have HW2 : Hid (Below w.heap.size w (w1.alloc (.cells (bY i y) 155)) ∧ w.heap.size ≤ w1.heap.size ∧ (w1.alloc (.cells (bY i y) 155)).heap[w1.heap.size]? = some (.cells (bY i y) 155 (0, 0))) := ⟨HB1.out.trans ((below_al w1 _).mono HB1.out.size), HB1.out.size, heap_alloc_new w1 _⟩
 have k3 : (w1.alloc (.cells (bY i y) 155)).cell? ⟨m, 3, none⟩ = some (.slice (some ⟨q2, 0, none⟩) s.C.length cX) := (cell_blk ((below_al w1 _).block m hm1) 3).trans t3
 have k4 : (w1.alloc (.cells (bY i y) 155)).cell? ⟨q2, i, none⟩ = some (.int .i64 y.nd) := (cell_blk ((below_al w1 _).block q2 (lt_of_cell d0)) i).trans d0
 have hm2 : m < (w1.alloc (.cells (bY i y) 155)).heap.size := by rw [World.size_alloc]; omega
 clear x0 x1 x2 x3 x4 x5 x6 x7 x8 x9 x10 x11 t3 d0 HB1 hm1
 generalize w1.alloc (.cells #[.bool false, .int .i64 i, .int .i64 0, .bool false, .bool y.ch.isNone, .int .i64 y.er, .int .i64 y.cs, .int .i64 y.wh, .bool y.has, .bool y.own, .int .i64 y.lp, .pointer (cp y.ch)] 155) = w2 at *
 generalize w1.heap.size = b at *
 obtain ⟨x5, x6, x7, x8⟩ := bY_cells HW2.out.2.2
 have hb2 : b < w2.heap.size := lt_of_blk HW2.out.2.2
 have HC : Hid (∀ wx, Below w2.heap.size w2 wx → wx.heap[w2.heap.size]? = some (.cells (Ch.mB ⟨2, false, 0, [], [], []⟩ (.slice none 0 0) (.slice none 0 0) (.slice none 0 0)) 114 (0, 0)) → Calls Tryz.prog 55 #[pM' m, .int .i64 (y.nd : Int), .bool true, .agg #[.bool false, .int .i64 0, .int .i64 0, .bool false, .bool false, .int .i64 0, .int .i64 0, .int .i64 y.wh, .bool y.has, .bool false, .int .i64 (-1), .pointer (some ⟨w2.heap.size, 0, none⟩)]] wx fun e w' => e = .returned (.int .i64 (s.C.length : Int)) ∧ Hid (∃ O', RC W m mo (addS s (nx0 w2.heap.size y.wh y.has false) (y.nd : Int) true) O' w' ∧ Rm O w w' ∧ (∀ k, O' k → O k ∨ w.heap.size ≤ k) ∧ w'.heap[b]? = some (.cells (bY i y) 155 (0, 0)))) := fun wx h1 h2 => HH.out.addn HV.out HY.out y.wh y.has false (HW2.out.1.trans (h1.mono HW2.out.1.size)) HW2.out.1.size h2 HW2.out.2.1 ((h1.block b hb2).trans HW2.out.2.2)
 have HMM : Hid ((y.er = 0 → mkL s y = [] ∧ ∀ c, mkC s (nx0 c y.wh y.has false) y = addS s (nx0 c y.wh y.has false) (y.nd : Int) true) ∧ (y.er ≠ 0 → mkL s y = [(s.C.length, [])] ∧ ∀ c, mkC s (nx0 c y.wh y.has false) y = addD s (nx0 c y.wh y.has false) (y.nd : Int) y.er y.cs)) := ⟨fun he => ⟨by unfold mkL; rw [if_pos he], fun c => by unfold mkC; rw [if_pos he]⟩, fun he => ⟨by unfold mkL; rw [if_neg he], fun c => by unfold mkC; rw [if_neg he]⟩⟩
 refine but_startB (fun i => decide (15 ≤ i)) (fun w' => w'.cell? ⟨b, 7, none⟩ = some (.int .i64 y.wh) ∧ w'.cell? ⟨b, 8, none⟩ = some (.bool y.has) ∧ w'.cell? ⟨m, 3, none⟩ = some (.slice (some ⟨q2, 0, none⟩) s.C.length cX) ∧ w'.cell? ⟨q2, i, none⟩ = some (.int .i64 y.nd)) (by kernel_rfl) (by as_aux_lemma => kernel_rfl) ?_
 intro hTidy
 have hHeld := And.intro x7 (And.intro x8 (And.intro k3 k4))
 change AnyB _ _ _ _ _ _ 17 _ _ _
 refine tkB 0 rfl hTidy hHeld ?_
 refine tkB 1 rfl hTidy hHeld ?_
 refine tkB 2 rfl hTidy hHeld ?_
 refine tkB 3 rfl hTidy hHeld ?_
 refine tkB 4 rfl hTidy hHeld ?_
 refine tkB 5 rfl hTidy hHeld ?_
 refine tkB 6 rfl hTidy hHeld ?_
 refine tkB 7 rfl hTidy hHeld ?_
 refine tkB 8 rfl hTidy hHeld ?_
 refine tkB 10 rfl hTidy hHeld ?_
 refine tkB 11 rfl hTidy hHeld ?_
 refine tkB 12 rfl hTidy hHeld ?_
 refine tkB 13 rfl hTidy hHeld ?_
 try simp only [l1, l2, l3, Act.put, l4, l5, l6]
 refine but_oneB (i := 9) (by kernel_rfl) rfl ?_
 intro K hK
 go_simp
 have hHeld2 := And.intro (((below_al w2.drew (.cells #[.int .i64 0, .bool false, .bool true, .bool false, .slice none 0 0, .slice none 0 0, .slice none 0 0] 114)).cell (lt_of_cell (w := w2) x7)).trans x7) (And.intro (((below_al w2.drew (.cells #[.int .i64 0, .bool false, .bool true, .bool false, .slice none 0 0, .slice none 0 0, .slice none 0 0] 114)).cell (lt_of_cell (w := w2) x8)).trans x8) (And.intro (((below_al w2.drew (.cells #[.int .i64 0, .bool false, .bool true, .bool false, .slice none 0 0, .slice none 0 0, .slice none 0 0] 114)).cell (lt_of_cell (w := w2) k3)).trans k3) (((below_al w2.drew (.cells #[.int .i64 0, .bool false, .bool true, .bool false, .slice none 0 0, .slice none 0 0, .slice none 0 0] 114)).cell (lt_of_cell (w := w2) k4)).trans k4)))
 refine hK _ _ (fun _ => hHeld2) ?_
 clear hK K hHeld
 have hHeld := hHeld2
 clear hHeld2
 refine tkB 14 rfl hTidy hHeld ?_
 try simp only [l1, l2, l3, Act.put, l4, l5, l6]
 refine but_oneB (i := 15) (by kernel_rfl) rfl ?_
 intro K hK
 go_simp
 go_at_call 55
 refine (HC.out _ ((show Below w2.heap.size w2 w2.drew from (Below.refl _ _).drew).trans (below_al w2.drew _)) (heap_alloc_new w2.drew _)).mono ?_
 rintro e w4 ⟨rfl, hR⟩
 refine hK _ _ (fun h => absurd h (by decide)) ?_
 clear hK K
 try clear hHeld
 try simp only [l1, l2, l3, Act.put, l4, l5, l6]
 refine but_oneB (i := 16) (by kernel_rfl) rfl ?_
 intro K hK
 go_simp
 refine hK _ _ (fun h => absurd h (by decide)) ?_
 clear hK K
 try clear hHeld
 try simp only [l1, l2, l3, Act.put, l4, l5, l6]
 refine but_doneB (by kernel_rfl) ?_
 try clear hHeld
 clear hTidy
 case _ =>
  clear HC x5 x6 x7 x8 k3 k4
  obtain ⟨O4, hR⟩ := hR.out
  have HR4 := Lib.hid hR
  obtain ⟨x5, x6, -, -⟩ := bY_cells hR.2.2.2
  obtain ⟨q4, cX4, z3, z4⟩ := hR.1.newat
  have b9 : (s.C.length : Int) < (s.C.length : Int) + 1 := by omega
  clear hR
  by_cases he : y.er = 0
  · rw [he] at x5
    go_wp2_with fail
    go_ret3
    obtain ⟨e1, e2⟩ := HMM.out.1 he
    rw [e1]
    exact ⟨none, 0, 0, w2.heap.size, rfl, rfl, by show RG W m mo (mkC s (nx0 w2.heap.size y.wh y.has false) y) O w w4; rw [e2]; exact ⟨O4, HR4.out.1, HR4.out.2.2.1, HR4.out.2.1⟩, LRt.nil _ _ _ _ _⟩
  · have HFa : Hid (∀ wx, Below w4.heap.size w4 wx → Calls Tryz.prog 58 #[pM' m, .int .i64 (s.T.length : Int), .int .i64 y.er, .int .i64 y.cs, .slice none 0 0, .slice none 0 0] wx (RFa W m mo (addD s (nx0 w2.heap.size y.wh y.has false) (y.nd : Int) y.er y.cs) O y.er y.cs [(s.C.length, [])] [] w)) := fun wx hb => HR4.out.1.falln HV.out HY.out HCL.out HR4.out.2.1 HR4.out.2.2.1 HW y.er y.cs hb
    go_wp2_with fail
    go_region_with (go_at_call 58; go_loud (refine (HFa.out _ (by first | exact Below.refl _ _ | exact (Below.refl _ _).drew | exact below_drewN _ _)).mono ?_; rintro e w5 ⟨P1, n1, c1, P2, n2, c2, hn, rfl, hg, hl, hs⟩))
    all_goals
     go_wp2_with fail
     go_ret3
     obtain ⟨e1, e2⟩ := HMM.out.2 he
     rw [e1]
     exact ⟨P1, n1, c1, w2.heap.size, hn.out.1, rfl, by show RG W m mo (mkC s (nx0 w2.heap.size y.wh y.has false) y) O w w5; rw [e2]; exact hg.out, hl⟩
end
end Go.Proofs.YtdpapnfjpefhkaaGreat
