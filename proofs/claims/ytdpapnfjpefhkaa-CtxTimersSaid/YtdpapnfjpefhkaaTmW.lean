/- CtxTimers walked: whose context is done has no time set any more; as many are set as there are deadlines that are not over. No condition. -/
import Derived.Test.YtdpapnfjpefhkaaLrwm
namespace Go.Proofs.Ytdpapnfjpefhkaa
open Go.RowKit Tr
set_option linter.unusedVariables false
set_option maxRecDepth 100000

/-- The least of those that are due among the first i. -/
structure Lm (due : List Int) (i : Nat) (least : Int) (n : Nat) : Prop where
  cn : n = cD (due.take i)
  z : n = 0 → least = 0
  ex : 0 < n → ∃ (j : Nat), due[j]? = some least ∧ 0 < least
  l : ∀ (j : Nat) (v : Int), j < i → due[j]? = some v → 0 < v → least ≤ v
theorem Lm.zero (due : List Int) : Lm due 0 0 0 := ⟨rfl, fun _ => rfl, fun h => absurd h (by omega), fun j v h => absurd h (by omega)⟩
theorem take_one {due : List Int} {i : Nat} {v : Int} (h : due[i]? = some v) : due.take (i + 1) = due.take i ++ [v] := by
  rw [List.take_add_one, h]; rfl
theorem Lm.skip {due : List Int} {i n : Nat} {least v : Int} (h : Lm due i least n) (hv : due[i]? = some v) (h0 : ¬ 0 < v) : Lm due (i + 1) least n := by
  refine ⟨by rw [take_one hv, cD_app, ← h.cn]; simp [cD, h0], h.z, h.ex, fun j u hj hu hu0 => ?_⟩
  by_cases e : j = i
  · subst e; rw [hv] at hu; cases hu; exact absurd hu0 h0
  · exact h.l j u (by omega) hu hu0
theorem Lm.less {due : List Int} {i n : Nat} {least v : Int} (h : Lm due i least n) (hv : due[i]? = some v) (h0 : 0 < v) (hl : least = 0 ∨ v < least) : Lm due (i + 1) v (n + 1) := by
  refine ⟨by rw [take_one hv, cD_app, ← h.cn]; simp [cD, h0], fun e => by omega, fun _ => ⟨i, hv, h0⟩, fun j u hj hu hu0 => ?_⟩
  by_cases e : j = i
  · subst e; rw [hv] at hu; cases hu; exact Int.le_refl _
  · have := h.l j u (by omega) hu hu0
    rcases hl with rfl | hl
    · exfalso
      have hn : 0 < n := by rw [h.cn]; exact cD_pos (l := due.take i) (j := j) (by rw [List.getElem?_take, if_pos (by omega)]; exact hu) hu0
      obtain ⟨_, _, h9⟩ := h.ex hn
      omega
    · omega
theorem Lm.keep {due : List Int} {i n : Nat} {least v : Int} (h : Lm due i least n) (hv : due[i]? = some v) (h0 : 0 < v) (hl : ¬ (least = 0 ∨ v < least)) : Lm due (i + 1) least (n + 1) := by
  have hn : 0 < n := by
    rcases Nat.eq_zero_or_pos n with e | e
    · exact absurd (.inl (h.z e)) hl
    · exact e
  refine ⟨by rw [take_one hv, cD_app, ← h.cn]; simp [cD, h0], fun e => by omega, fun _ => h.ex hn, fun j u hj hu hu0 => ?_⟩
  by_cases e : j = i
  · subst e; rw [hv] at hu; cases hu; omega
  · exact h.l j u (by omega) hu hu0
/-- What Next tells. -/
theorem Lm.next {s : St} {due : List Int} {least : Int} {n : Nat} (h : Lm due due.length least n) (t : TW s due) (ok : Ok s.n s.S) : n = cD due ∧ ((s.S = [] ∧ n = 0 ∧ nxt s.S = (0, false)) ∨ (0 < n ∧ nxt s.S = (least, true))) := by
  have hn : n = cD due := by rw [h.cn, List.take_length]
  refine ⟨hn, ?_⟩
  cases e : s.S with
  | nil => exact .inl ⟨rfl, by rw [hn]; exact t.none e, rfl⟩
  | cons z r =>
    have hp : 0 < n := by rw [hn]; exact t.some e
    refine .inr ⟨hp, ?_⟩
    obtain ⟨j, hj, hj0⟩ := h.ex hp
    obtain ⟨k, v, b1, b2, b3, b4⟩ := t.s1 z (by rw [e]; simp)
    have h1 := h.l k v (List.getElem?_eq_some_iff.1 b1).1 b1 b2
    obtain ⟨y, c1, c2, c3⟩ := t.s2 j least hj hj0
    have ho := ok.srt
    rw [e] at ho c1
    have h2 := srt_least ho y c1
    show (z.w, true) = (least, true)
    rw [show z.w = least from by omega]
def LeAll (due : List Int) : Prop := ∀ (j : Nat) (v : Int), due[j]? = some v → v ≤ 100
theorem LeAll.app {due : List Int} {k : Int} (h : LeAll due) (hk : k ≤ 100) : LeAll (due ++ [k]) := by
  intro j v hv
  by_cases e : j < due.length
  · rw [List.getElem?_append_left e] at hv; exact h j v hv
  · rw [List.getElem?_append_right (by omega)] at hv
    have := (List.getElem?_eq_some_iff.1 hv).1
    have this : j - due.length < 1 := this
    rw [show j - due.length = 0 from by omega] at hv
    cases hv; exact hk
theorem LeAll.set {due : List Int} {k : Nat} {u : Int} (h : LeAll due) (hk : u ≤ 100) : LeAll (due.set k u) := by
  intro j v hv
  rcases set_at hv with ⟨_, rfl⟩ | ⟨_, hv⟩
  · exact hk
  · exact h j v hv
theorem hz_small {k : Int} (h1 : 0 ≤ k) (h2 : k ≤ 200) : hz k = k := by unfold hz; omega
def fbR (b : Nat) (a1 a2 c d e : Int) (A : Option Addr) (k : Nat) (v : Bool) : Rr := ⟨some ⟨b, 0, none⟩, 47, 7, 1, 1, [.int .i64 a1, .int .i64 a2, .int .i64 c, .int .i64 d, .int .i64 e, .slice A 0 k, .bool v]⟩
section
variable {W w : World} {t b k : Nat} {p : Option Nat} {s : St} {rs : List Rr} {a1 a2 c d e : Int} {A : Option Addr} {v : Bool}
theorem LQ.addF (h : LQ W t p s rs w) : LQ W t p s (fbR w.heap.size a1 a2 c d e A k v :: rs) (w.alloc (.cells #[.int .i64 a1, .int .i64 a2, .int .i64 c, .int .i64 d, .int .i64 e, .slice A 0 k, .bool v] 47)) := by
  have hn := heap_alloc_new w (.cells #[.int .i64 a1, .int .i64 a2, .int .i64 c, .int .i64 d, .int .i64 e, .slice A 0 k, .bool v] 47)
  refine h.news (below_al w _) (r := fbR w.heap.size a1 a2 c d e A k v) ?_ (by show OthZ 47; decide)
  exact ⟨by simp [fbR], .inr ⟨w.heap.size, 1, _, rfl, Nat.le_refl _, hn, by simp [fbR], by unfold maxLen; omega, by simp [fbR]⟩⟩
theorem LQ.fcell {i : Nat} (h : LQ W t p s rs w) (hr : rs[i]? = some (fbR b a1 a2 c d e A k v)) : w.cell? ⟨b, 2, none⟩ = some (.int .i64 c) ∧ w.cell? ⟨b, 4, none⟩ = some (.int .i64 e) := by
  have ho : w.ownsRow 0 47 7 (.slice (some ⟨b, 0, none⟩) 1 1) 1 [.int .i64 a1, .int .i64 a2, .int .i64 c, .int .i64 d, .int .i64 e, .slice A 0 k, .bool v] := h.own hr
  exact ⟨by rw [ho.cellAt 2 (by omega)]; rfl, by rw [ho.cellAt 4 (by omega)]; rfl⟩
end
set_option maxHeartbeats 64000000 in
theorem timers_any {A0 A1 : Option Addr} {n0 k0 n1 k1 : Nat} {l0 l1 : List Int} {w : World} (hr0 : Rni w A0 n0 l0) (hr1 : Rni w A1 n1 l1) : Calls Try.prog 9 #[.slice A0 n0 k0, .slice A1 n1 k1] w fun e w' => e = .returned (.bool true) ∧ Below w.heap.size w w' := by
  by_cases h1 : (30 : Int) < (n0 : Int)
  · go_enter Try.func9, Try.ntmps9
    go_wp2_with fail
    refine (awake_any w).mono ?_
    rintro e w' ⟨rfl, hb⟩
    have HB := Lib.hid hb
    clear hb
    go_wp2_with fail
    go_ret
    exact ⟨rfl, HB.out⟩
  · by_cases h2 : (30 : Int) < (n1 : Int)
    · go_enter Try.func9, Try.ntmps9
      go_wp2_with fail
      refine (awake_any w).mono ?_
      rintro e w' ⟨rfl, hb⟩
      have HB := Lib.hid hb
      clear hb
      go_wp2_with fail
      go_ret
      exact ⟨rfl, HB.out⟩
    · have hn0 : n0 ≤ 30 := by omega
      have hn1 : n1 ≤ 30 := by omega
      have R0 := Lib.hid hr0
      have R1 := Lib.hid hr1
      clear hr0 hr1
      obtain ⟨i3, hi3, hy0, hy1, hy2⟩ := info_parts Tr.inf3
      go_enter Try.func9, Try.ntmps9
      go_wp2_with fail
      refine (ss_tms (Below.refl w.heap.size w)).mono ?_
      rintro e w1 ⟨rfl, h1, hb1⟩
      have H1 := Lib.hid (newctx_lq h1.out hb1.out)
      simp only [Option.map_some] at H1
      clear h1 hb1
      go_wp2_with fail
      refine H1.out.mono ?_
      rintro e w2 ⟨rfl, h2⟩
      clear H1
      have H2 : Hid (LQ w w1.heap.size (some w.heap.size) (s0 [] 0 []) [rwI none 0 []] w2) := h2.out.nil
      clear h2
      generalize w1.heap.size = t at *
      generalize w.heap.size = ts at *
      go_wp2_with fail
      go_loopw [7, 8] (fun s7 s8 wr => ∃ (i c : Nat) (P : Option Addr) (s : St) (due : List Int), i ≤ n0 ∧ s8 = .int .i64 (i : Int) ∧ s7 = .slice P i c ∧ Hid (i = due.length) ∧ Hid (LQ w t (some ts) s [rwI P c due] wr) ∧ Hid (TW s due ∧ LeAll due)) (fun _ x _ => n0 - (intOf x).toNat)
      case atStart => exact ⟨0, 0, none, _, [], by omega, rfl, rfl, rfl, H2.out, TW.zero, fun j v h => by simp at h⟩
      case round =>
        clear H2
        obtain ⟨i, c, P, s, due, hi, rfl, rfl, hdl, hL, hT⟩ := hrel
        by_cases hlt : i < n0
        · have b3 : (i : Int) < (n0 : Int) := by omega
          obtain ⟨b, off, z, rfl, hbl, hz, hcl⟩ := R0.out.cell hL.out.bel hlt
          have HQ := Lib.hid (round_any z 100 wr (by omega) (by omega))
          have hq := pk_lt z (m := 100) (by omega)
          generalize pk z 100 = q at *
          clear hz
          have hk1 : hz (1 + (q : Int)) = 1 + (q : Int) := hz_small (by omega) (by omega)
          have hlen : s.C.length = i + 1 := by rw [hT.out.1.len, ← hdl.out]
          have HC := Lib.hid (hL.out.made (fun c => hL.out.iv.dl (p := some ts) (i := 0) (y := bg) hT.out.1.bg (by omega) c (hz (1 + (q : Int)))) fun O f => deadline_set (1 + (q : Int)) 0 f hL.out.iv (i := 0) (y := bg) hT.out.1.bg (by omega) (by intro h9; exact Bool.noConfusion (show false = true from h9.1)) rfl (by rw [hk1]; omega))
          rw [hk1, hlen, show mkL s bg = [] from rfl] at HC
          have HTW : Hid (∀ c, TW (dlS (some ts) s (nx0 c (1 + (q : Int)) true true) (bg.nd : Int) (1 + (q : Int))) (due ++ [1 + (q : Int)]) ∧ LeAll (due ++ [1 + (q : Int)])) := fun c => ⟨hT.out.1.add hL.out.iv (by omega), hT.out.2.app (by omega)⟩
          clear hk1 hlen hL hT
          go_wp2_with fail
          refine HQ.out.mono ?_
          rintro e w' ⟨rfl, rfl⟩
          clear HQ
          go_wp2_with fail
          refine HC.out.mono ?_
          rintro e w5 ⟨P0, m0, kk0, cc, L0, hm0, rfl, h, hrd⟩
          clear HC
          obtain rfl : m0 = 0 := hm0.out
          have H5 : Hid (LQ w t (some ts) (dlS (some ts) s (nx0 cc (1 + (q : Int)) true true) (bg.nd : Int) (1 + (q : Int))) [rwI P c due] w5) := h.out.sub (List.sublist_cons_self _ _)
          have HT5 := Lib.hid (HTW.out cc)
          clear h hm0 hrd HTW hcl
          generalize dlS (some ts) s (nx0 cc (1 + (q : Int)) true true) (bg.nd : Int) (1 + (q : Int)) = s5 at *
          go_wp2_with (at_builtin; go_loud (refine wpList_append_lies _ rfl (.tmp 81) (.tmp 83) 22 rfl 0 3 i3 _ 1 8 Try.underlying22 hi3 hy0 hy1 hy2 rfl (by omega) (.slice P i c) i (Tr.iV due) rfl ((H5.out.alloc _).ownI (i := 0) rfl hdl.out) ⟨w5.heap.size, 0, none⟩ 1 1 [.int .i64 (1 + (q : Int))] rfl rfl (World.news_of_block (cs := #[.int .i64 (1 + (q : Int))]) (heap_alloc_new w5 _)) (int_cell _) (by omega) (by unfold maxLen; omega) (by omega) (by omega) (w5.heap.size + 1) (by first | (simp; done) | (simp; rfl)) ?_; intro g cap w4 hown hgrow hat hlt1; have HL4 := Lib.hid (LQ.app (H5.out.alloc _) (i := 0) rfl hdl.out hown hgrow (hat.imp id (fun e => by rw [e]; simp))); clear hown hgrow hat hlt1 H5))
          go_roundw
          case rel => exact ⟨i + 1, cap, _, s5, due ++ [1 + (q : Int)], by omega, by go_num, by go_num, by show _ = _; rw [List.length_append, ← hdl.out]; rfl, HL4.out, HT5.out⟩
          case measure => simp [intOf]; omega
        · obtain rfl : n0 = i := by omega
          have HD : Hid (due.length = n0) := hdl.out.symm
          clear hdl
          go_wp2_with fail
          go_loopw [13] (fun s13 wr => ∃ (j : Nat) (s : St) (due : List Int), j ≤ n1 ∧ s13 = .int .i64 (j : Int) ∧ Hid (due.length = n0) ∧ Hid (LQ w t (some ts) s [rwI P c due] wr) ∧ Hid (TW s due ∧ LeAll due)) (fun x _ => n1 - (intOf x).toNat)
          case atStart => exact ⟨0, s, due, by omega, rfl, HD, hL, hT⟩
          case round =>
            clear HD hL hT
            obtain ⟨j, s, due, hj, rfl, hdl, hL, hT⟩ := hrel
            by_cases hpos : 0 < n0
            · have b4 : (0 : Int) < (n0 : Int) := by omega
              by_cases hlt2 : j < n1
              · have b5 : (j : Int) < (n1 : Int) := by omega
                obtain ⟨b, off, z, rfl, hbl, hz, hcl⟩ := R1.out.cell hL.out.bel hlt2
                have HQ := Lib.hid (round_any z n0 wr (by omega) (by omega))
                have hq := pk_lt z (m := n0) (by omega)
                generalize pk z n0 = q at *
                clear hz
                obtain ⟨v, hv⟩ : ∃ v, due[q]? = some v := ⟨_, List.getElem?_eq_getElem (by rw [hdl.out]; exact hq)⟩
                obtain ⟨x, cx, s4, ll, a1, a2, a3, a4, a5⟩ := hT.out.1.cancel hL.out.iv hv
                have hq9 : q ≤ 30 := by omega
                have HC := Lib.hid (hL.out.cn (hL.out.iv.cn (i := q + 1) (x := x) (er := 1) (cs := 1) a1 ⟨cx, a2⟩ (by decide)) fun O f => cancel_call f hL.out.iv (i := q + 1) (x := x) a1 ⟨cx, a2⟩ 0 1 rfl)
                rw [a3, show ((q + 1 : Nat) : Int) = (q : Int) + 1 from by omega] at HC
                have HT := Lib.hid (And.intro a5 (hT.out.2.set (k := q) (u := 0) (by decide)))
                have HV := Lib.hid hv
                have HA4 := Lib.hid a4
                clear a1 a2 a3 a4 a5 hv hL hT
                go_wp2_with fail
                refine HQ.out.mono ?_
                rintro e w' ⟨rfl, rfl⟩
                clear HQ
                go_wp2_with fail
                refine HC.out.mono ?_
                rintro e w4 ⟨P7, n7, k7, L7, Q7, m7, j7, hn7, hm7, rfl, h, hr⟩
                clear HC
                have H4 : Hid (LQ w t (some ts) s4 [rwI P c due] w4) := h.out.sub ((List.sublist_cons_self _ _).trans (List.sublist_cons_self _ _))
                obtain ⟨g, hPg, hgl, hgc, hgf⟩ := H4.out.icell (i := 0) rfl HV.out
                have H5 := Lib.hid (H4.out.put (i := 0) (j := q) (x := 0) rfl hPg)
                have hl9 : due.length = n0 := hdl.out
                have HD5 : Hid ((due.set q 0).length = n0) := by show _ = _; rw [List.length_set]; exact hl9
                subst hPg
                clear h hr hm7 HV H4 hcl hl9
                by_cases h0 : 0 < v
                · obtain rfl : n7 = 1 := by rw [hn7.out]; have := HA4.out; rwa [if_pos h0] at this
                  clear hn7 HA4
                  go_wp2_with fail
                  go_roundw
                  case rel => exact ⟨j + 1, s4, due.set q 0, by omega, by go_num, HD5, H5, HT⟩
                  case measure => simp [intOf]; omega
                · obtain rfl : n7 = 0 := by rw [hn7.out]; have := HA4.out; rwa [if_neg h0] at this
                  clear hn7 HA4
                  go_wp2_with fail
                  go_roundw
                  case rel => exact ⟨j + 1, s4, due.set q 0, by omega, by go_num, HD5, H5, HT⟩
                  case measure => simp [intOf]; omega
              · have b5 : ¬ (j : Int) < (n1 : Int) := by omega
                go_wp2_with fail
                clear b4 b5 hlt2 hpos hj
                go_loopw [18, 19, 20] (fun s18 s19 s20 wx => ∃ (i n : Nat) (least : Int), i ≤ n0 ∧ s20 = .int .i64 (i : Int) ∧ s19 = .int .i64 (n : Int) ∧ s18 = .int .i64 least ∧ Hid (Lm due i least n) ∧ wx = wr) (fun _ _ x _ => n0 - (intOf x).toNat)
                case atStart => exact ⟨0, 0, 0, by omega, rfl, rfl, rfl, Lm.zero due, rfl⟩
                case round =>
                  obtain ⟨i, n, least, hi, rfl, rfl, rfl, hm, rfl⟩ := hrel
                  have hnb : n ≤ 30 := by
                    have h1 := hm.out.cn
                    have h2 := cD_le (due.take i)
                    rw [List.length_take] at h2
                    omega
                  by_cases hlt3 : i < n0
                  · have b6 : (i : Int) < (n0 : Int) := by omega
                    obtain ⟨v, hv⟩ : ∃ v, due[i]? = some v := ⟨_, List.getElem?_eq_getElem (by rw [hdl.out]; exact hlt3)⟩
                    obtain ⟨g, hPg, hgl, hgc, hgf⟩ := hL.out.icell (i := 0) rfl hv
                    subst hPg
                    have HV := Lib.hid hv
                    clear hv
                    by_cases h0 : 0 < v
                    · by_cases hl0 : least = 0
                      · have hn := Lib.hid (hm.out.less HV.out h0 (.inl hl0))
                        have d1 : (least == 0) = true := by simp [hl0]
                        clear hl0 hm HV
                        go_wp2_with fail
                        go_roundw
                        case rel => exact ⟨i + 1, n + 1, v, by omega, by go_num, by go_num, rfl, hn, by first | rfl | trivial⟩
                        case measure => simp [intOf]; omega
                      · have d1 : (least == 0) = false := by simp [hl0]
                        by_cases hl1 : v < least
                        · have hn := Lib.hid (hm.out.less HV.out h0 (.inr hl1))
                          clear hl0 hm HV
                          go_wp2_with fail
                          go_roundw
                          case rel => exact ⟨i + 1, n + 1, v, by omega, by go_num, by go_num, rfl, hn, by first | rfl | trivial⟩
                          case measure => simp [intOf]; omega
                        · have hn := Lib.hid (hm.out.keep HV.out h0 (by omega))
                          clear hl0 hm HV
                          go_wp2_with fail
                          go_roundw
                          case rel => exact ⟨i + 1, n + 1, least, by omega, by go_num, by go_num, rfl, hn, by first | rfl | trivial⟩
                          case measure => simp [intOf]; omega
                    · have hn := Lib.hid (hm.out.skip HV.out h0)
                      clear hm HV
                      go_wp2_with fail
                      go_roundw
                      case rel => exact ⟨i + 1, n, least, by omega, by go_num, rfl, rfl, hn, by first | rfl | trivial⟩
                      case measure => simp [intOf]; omega
                  · obtain rfl : n0 = i := by omega
                    have hm2 : Lm due due.length least n := by rw [hdl.out]; exact hm.out
                    obtain ⟨hcD, hcase⟩ := hm2.next hT.out.1 hL.out.ok
                    have HCD := Lib.hid hcD
                    have HC := Lib.hid (hL.out.tnext (by have := hL.out.le; omega))
                    clear hm hm2 hcD hL
                    rcases hcase with ⟨hS, hnz, hnx⟩ | ⟨hnp, hnx⟩
                    · have b8 : ¬ (0 : Int) < (n : Int) := by omega
                      rw [hnx] at HC
                      clear hS hnz hnx
                      go_wp2_with fail
                      refine HC.out.mono ?_
                      rintro e w6 ⟨rfl, H6⟩
                      clear HC
                      go_wp2_with fail
                      go_loopw [23] (fun s23 wr => ∃ (i : Nat) (s : St) (due : List Int), i ≤ n ∧ s23 = .int .i64 (i : Int) ∧ Hid (due.length = n0) ∧ Hid (i + cD due = n) ∧ Hid (LQ w t (some ts) s [rwI P c due] wr) ∧ Hid (TW s due ∧ LeAll due)) (fun x _ => n - (intOf x).toNat)
                      case atStart => exact ⟨0, s, due, by omega, rfl, hdl, by show 0 + cD due = n; rw [HCD.out]; omega, H6, hT⟩
                      case round =>
                        clear H6 hT hdl HCD
                        obtain ⟨i, s, due, hi, rfl, hdl, hcd, hL, hT⟩ := hrel
                        by_cases hlt4 : i < n
                        · exfalso; omega
                        · obtain rfl : n = i := by omega
                          have HF := Lib.hid (hL.out.fire_none (now := 200) fun x r e => absurd (hT.out.1.some e) (by have := hcd.out; omega))
                          clear hL hT hcd hdl
                          go_wp2_with fail
                          refine HF.out.mono ?_
                          rintro e w7 ⟨rfl, H7⟩
                          clear HF
                          have HB9 := Lib.hid (H7.out.addF (a1 := 0) (a2 := 0) (c := 0) (d := 0) (e := 0) (A := none) (k := 0) (v := false)).bel
                          clear H7
                          go_upto_region 46 with (fail)
                          generalize w7.alloc (.cells #[.int .i64 0, .int .i64 0, .int .i64 0, .int .i64 0, .int .i64 0, .slice none 0 0, .bool false] 47) = w8 at *
                          go_wp2_with fail
                          refine (awake_any _).mono ?_
                          rintro e w9 ⟨rfl, hb⟩
                          have HB := Lib.hid hb
                          clear hb
                          go_wp2_with fail
                          go_ret
                          exact ⟨rfl, HB9.out.trans (HB.out.mono HB9.out.size)⟩
                    · have b8 : (0 : Int) < (n : Int) := by omega
                      rw [hnx] at HC
                      clear hnp hnx
                      go_wp2_with fail
                      refine HC.out.mono ?_
                      rintro e w6 ⟨rfl, H6⟩
                      clear HC
                      go_wp2_with fail
                      clear b8
                      go_loopw [23] (fun s23 wr => ∃ (i : Nat) (s : St) (due : List Int), i ≤ n ∧ s23 = .int .i64 (i : Int) ∧ Hid (due.length = n0) ∧ Hid (i + cD due = n) ∧ Hid (LQ w t (some ts) s [rwI P c due] wr) ∧ Hid (TW s due ∧ LeAll due)) (fun x _ => n - (intOf x).toNat)
                      case atStart => exact ⟨0, s, due, by omega, rfl, hdl, by show 0 + cD due = n; rw [HCD.out]; omega, H6, hT⟩
                      case round =>
                        clear H6 hT hdl HCD
                        obtain ⟨i, s, due, hi, rfl, hdl, hcd, hL, hT⟩ := hrel
                        by_cases hlt4 : i < n
                        · have b9 : (i : Int) < (n : Int) := by omega
                          obtain ⟨z, r, hS⟩ : ∃ z r, s.S = z :: r := by
                            cases e : s.S with
                            | nil => exact absurd (hT.out.1.none e) (by have := hcd.out; omega)
                            | cons z r => exact ⟨z, r, rfl⟩
                          obtain ⟨k, v, x, cx, s5, hv, hv0, hzi, hzw, hx, hxc, hxo, hcn, hT5⟩ := hT.out.1.lapse hL.out.iv hL.out.ok hS
                          have hvl := hT.out.2 k v hv
                          have hkl : k < n0 := by rw [← hdl.out]; exact (List.getElem?_eq_some_iff.1 hv).1
                          have HF := Lib.hid (hL.out.fire (now := 200) hS (by rw [hzw]; omega))
                          rw [hzi, hzw] at HF
                          have HE := Lib.hid hT.out.1.e
                          have HT := Lib.hid (And.intro hT5 (hT.out.2.set (k := k) (u := -1) (by decide)))
                          have HD : Hid ((due.set k (-1)).length = n0) := by show _ = _; rw [List.length_set]; exact hdl.out
                          have HCd : Hid (i + 1 + cD (due.set k (-1)) = n) := by
                            show _ = _
                            have h1 := cD_set (u := -1) hv hv0 (by decide)
                            have h2 := hcd.out
                            omega
                          have HV := Lib.hid hv
                          have HX := Lib.hid (And.intro hx (And.intro hxc hxo))
                          have HN := Lib.hid hcn
                          clear hv hv0 hzi hzw hx hxc hxo hcn hT5 hL hT hcd hdl hS
                          go_wp2_with fail
                          refine HF.out.mono ?_
                          rintro e w7 ⟨i', y, A, kk, bb, hi', hy, he, H7⟩
                          have hdt : y.dt = (k : Int) + 1 := by rw [HE.out _ _ hy]; omega
                          rw [hdt] at he
                          subst he
                          clear HF HE hi' hy hdt
                          have H8 := Lib.hid (H7.out.addF (a1 := (k : Int)) (a2 := 4) (c := v) (d := 200) (e := (k : Int) + 1) (A := A) (k := kk) (v := bb))
                          clear H7
                          go_upto_region 39 with (fail)
                          generalize w7.alloc (.cells #[.int .i64 (k : Int), .int .i64 4, .int .i64 v, .int .i64 200, .int .i64 ((k : Int) + 1), .slice A 0 kk, .bool bb] 47) = w8 at *
                          generalize w7.heap.size = fb at *
                          obtain ⟨p2, p4⟩ := H8.out.fcell (i := 0) rfl
                          obtain ⟨g, hPg, hgl, hgc, hgf⟩ := H8.out.icell (i := 1) rfl HV.out
                          subst hPg
                          have g1 : ¬ (k : Int) + 1 < 1 := by omega
                          have g2 : ¬ (n0 : Int) < (k : Int) + 1 := by omega
                          have g3 : IntKind.i64.wrap ((k : Int) + 1 - 1) = (k : Int) := by rw [IntKind.wrap_i64]; omega
                          go_quiet (fail)
                          have H9 := Lib.hid (show LQ _ _ _ _ _ (w8.drewN nq) from H8.out.drewN nq)
                          have p4' : (w8.drewN nq).cell? ⟨fb, 4, none⟩ = some (.int .i64 ((k : Int) + 1)) := p4
                          generalize w8.drewN nq = w9 at *
                          clear H8 p2 p4 hgc hgf hgl
                          have HC := Lib.hid (H9.out.cn (H9.out.iv.cn (i := k + 1) (x := x) (er := 2) (cs := 2) HX.out.1 ⟨cx, HX.out.2.1⟩ (by decide)) fun O f => lapse_call f H9.out.iv (i := k + 1) (x := x) HX.out.1 ⟨cx, HX.out.2.1⟩ HX.out.2.2)
                          rw [HN.out, show ((k + 1 : Nat) : Int) = (k : Int) + 1 from by omega] at HC
                          clear HX HN H9
                          go_wp2_with fail
                          refine HC.out.mono ?_
                          rintro e w10 ⟨P7, n7, k7, L7, Q7, m7, j7, hn7, hm7, rfl, h, hr⟩
                          clear HC
                          obtain rfl : n7 = 1 := hn7.out
                          obtain ⟨eL, hRL⟩ := hr.out
                          have hlenL : L7.length = 1 := by have := congrArg List.length eL; simpa using this
                          obtain ⟨z0, rfl⟩ : ∃ z0, L7 = [z0] := by
                            match L7, hlenL with
                            | [a], _ => exact ⟨a, rfl⟩
                          obtain ⟨u, rfl, a0, a1, -⟩ := h.out.lcell (i := 0) (j := 0) (x := z0) rfl rfl rfl
                          rw [(hRL z0 (by simp)).1] at a1
                          simp only [Nat.zero_mul, Nat.zero_add] at a1
                          obtain ⟨-, p4⟩ := h.out.fcell (i := 2) rfl
                          obtain ⟨g', hg', hgl', hgc', hgf'⟩ := h.out.icell (i := 3) rfl HV.out
                          obtain rfl : g = g' := by injection hg' with h9; injection h9
                          have H11 := Lib.hid (LQ.put (i := 0) (j := k) (x := -1) (h.out.sub (rs' := [rwI (some ⟨g, 0, none⟩) c due]) (by simp)) rfl rfl)
                          clear hn7 hm7 eL hRL hlenL a0 hg' h hr HV p4'
                          go_wp2_with fail
                          go_roundw
                          case rel => exact ⟨i + 1, s5, due.set k (-1), by omega, by go_num, HD, HCd, H11, HT⟩
                          case measure => simp [intOf]; omega
                        · obtain rfl : n = i := by omega
                          have HF := Lib.hid (hL.out.fire_none (now := 200) fun x r e => absurd (hT.out.1.some e) (by have := hcd.out; omega))
                          clear hL hT hcd hdl
                          go_wp2_with fail
                          refine HF.out.mono ?_
                          rintro e w7 ⟨rfl, H7⟩
                          clear HF
                          have HB9 := Lib.hid (H7.out.addF (a1 := 0) (a2 := 0) (c := 0) (d := 0) (e := 0) (A := none) (k := 0) (v := false)).bel
                          clear H7
                          go_upto_region 46 with (fail)
                          generalize w7.alloc (.cells #[.int .i64 0, .int .i64 0, .int .i64 0, .int .i64 0, .int .i64 0, .slice none 0 0, .bool false] 47) = w8 at *
                          go_wp2_with fail
                          refine (awake_any _).mono ?_
                          rintro e w9 ⟨rfl, hb⟩
                          have HB := Lib.hid hb
                          clear hb
                          go_wp2_with fail
                          go_ret
                          exact ⟨rfl, HB9.out.trans (HB.out.mono HB9.out.size)⟩
            · have b4 : ¬ (0 : Int) < (n0 : Int) := by omega
              by_cases hlt2 : j < n1
              · have b5 : (j : Int) < (n1 : Int) := by omega
                go_wp2_with fail
                clear b4 b5 hlt2 hpos hj
                go_loopw [18, 19, 20] (fun s18 s19 s20 wx => ∃ (i n : Nat) (least : Int), i ≤ n0 ∧ s20 = .int .i64 (i : Int) ∧ s19 = .int .i64 (n : Int) ∧ s18 = .int .i64 least ∧ Hid (Lm due i least n) ∧ wx = wr) (fun _ _ x _ => n0 - (intOf x).toNat)
                case atStart => exact ⟨0, 0, 0, by omega, rfl, rfl, rfl, Lm.zero due, rfl⟩
                case round =>
                  obtain ⟨i, n, least, hi, rfl, rfl, rfl, hm, rfl⟩ := hrel
                  have hnb : n ≤ 30 := by
                    have h1 := hm.out.cn
                    have h2 := cD_le (due.take i)
                    rw [List.length_take] at h2
                    omega
                  by_cases hlt3 : i < n0
                  · have b6 : (i : Int) < (n0 : Int) := by omega
                    obtain ⟨v, hv⟩ : ∃ v, due[i]? = some v := ⟨_, List.getElem?_eq_getElem (by rw [hdl.out]; exact hlt3)⟩
                    obtain ⟨g, hPg, hgl, hgc, hgf⟩ := hL.out.icell (i := 0) rfl hv
                    subst hPg
                    have HV := Lib.hid hv
                    clear hv
                    by_cases h0 : 0 < v
                    · by_cases hl0 : least = 0
                      · have hn := Lib.hid (hm.out.less HV.out h0 (.inl hl0))
                        have d1 : (least == 0) = true := by simp [hl0]
                        clear hl0 hm HV
                        go_wp2_with fail
                        go_roundw
                        case rel => exact ⟨i + 1, n + 1, v, by omega, by go_num, by go_num, rfl, hn, by first | rfl | trivial⟩
                        case measure => simp [intOf]; omega
                      · have d1 : (least == 0) = false := by simp [hl0]
                        by_cases hl1 : v < least
                        · have hn := Lib.hid (hm.out.less HV.out h0 (.inr hl1))
                          clear hl0 hm HV
                          go_wp2_with fail
                          go_roundw
                          case rel => exact ⟨i + 1, n + 1, v, by omega, by go_num, by go_num, rfl, hn, by first | rfl | trivial⟩
                          case measure => simp [intOf]; omega
                        · have hn := Lib.hid (hm.out.keep HV.out h0 (by omega))
                          clear hl0 hm HV
                          go_wp2_with fail
                          go_roundw
                          case rel => exact ⟨i + 1, n + 1, least, by omega, by go_num, by go_num, rfl, hn, by first | rfl | trivial⟩
                          case measure => simp [intOf]; omega
                    · have hn := Lib.hid (hm.out.skip HV.out h0)
                      clear hm HV
                      go_wp2_with fail
                      go_roundw
                      case rel => exact ⟨i + 1, n, least, by omega, by go_num, rfl, rfl, hn, by first | rfl | trivial⟩
                      case measure => simp [intOf]; omega
                  · obtain rfl : n0 = i := by omega
                    have hm2 : Lm due due.length least n := by rw [hdl.out]; exact hm.out
                    obtain ⟨hcD, hcase⟩ := hm2.next hT.out.1 hL.out.ok
                    have HCD := Lib.hid hcD
                    have HC := Lib.hid (hL.out.tnext (by have := hL.out.le; omega))
                    clear hm hm2 hcD hL
                    rcases hcase with ⟨hS, hnz, hnx⟩ | ⟨hnp, hnx⟩
                    · have b8 : ¬ (0 : Int) < (n : Int) := by omega
                      rw [hnx] at HC
                      clear hS hnz hnx
                      go_wp2_with fail
                      refine HC.out.mono ?_
                      rintro e w6 ⟨rfl, H6⟩
                      clear HC
                      go_wp2_with fail
                      go_loopw [23] (fun s23 wr => ∃ (i : Nat) (s : St) (due : List Int), i ≤ n ∧ s23 = .int .i64 (i : Int) ∧ Hid (due.length = n0) ∧ Hid (i + cD due = n) ∧ Hid (LQ w t (some ts) s [rwI P c due] wr) ∧ Hid (TW s due ∧ LeAll due)) (fun x _ => n - (intOf x).toNat)
                      case atStart => exact ⟨0, s, due, by omega, rfl, hdl, by show 0 + cD due = n; rw [HCD.out]; omega, H6, hT⟩
                      case round =>
                        clear H6 hT hdl HCD
                        obtain ⟨i, s, due, hi, rfl, hdl, hcd, hL, hT⟩ := hrel
                        by_cases hlt4 : i < n
                        · exfalso; omega
                        · obtain rfl : n = i := by omega
                          have HF := Lib.hid (hL.out.fire_none (now := 200) fun x r e => absurd (hT.out.1.some e) (by have := hcd.out; omega))
                          clear hL hT hcd hdl
                          go_wp2_with fail
                          refine HF.out.mono ?_
                          rintro e w7 ⟨rfl, H7⟩
                          clear HF
                          have HB9 := Lib.hid (H7.out.addF (a1 := 0) (a2 := 0) (c := 0) (d := 0) (e := 0) (A := none) (k := 0) (v := false)).bel
                          clear H7
                          go_upto_region 46 with (fail)
                          generalize w7.alloc (.cells #[.int .i64 0, .int .i64 0, .int .i64 0, .int .i64 0, .int .i64 0, .slice none 0 0, .bool false] 47) = w8 at *
                          go_wp2_with fail
                          refine (awake_any _).mono ?_
                          rintro e w9 ⟨rfl, hb⟩
                          have HB := Lib.hid hb
                          clear hb
                          go_wp2_with fail
                          go_ret
                          exact ⟨rfl, HB9.out.trans (HB.out.mono HB9.out.size)⟩
                    · have b8 : (0 : Int) < (n : Int) := by omega
                      rw [hnx] at HC
                      clear hnp hnx
                      go_wp2_with fail
                      refine HC.out.mono ?_
                      rintro e w6 ⟨rfl, H6⟩
                      clear HC
                      go_wp2_with fail
                      clear b8
                      go_loopw [23] (fun s23 wr => ∃ (i : Nat) (s : St) (due : List Int), i ≤ n ∧ s23 = .int .i64 (i : Int) ∧ Hid (due.length = n0) ∧ Hid (i + cD due = n) ∧ Hid (LQ w t (some ts) s [rwI P c due] wr) ∧ Hid (TW s due ∧ LeAll due)) (fun x _ => n - (intOf x).toNat)
                      case atStart => exact ⟨0, s, due, by omega, rfl, hdl, by show 0 + cD due = n; rw [HCD.out]; omega, H6, hT⟩
                      case round =>
                        clear H6 hT hdl HCD
                        obtain ⟨i, s, due, hi, rfl, hdl, hcd, hL, hT⟩ := hrel
                        by_cases hlt4 : i < n
                        · have b9 : (i : Int) < (n : Int) := by omega
                          obtain ⟨z, r, hS⟩ : ∃ z r, s.S = z :: r := by
                            cases e : s.S with
                            | nil => exact absurd (hT.out.1.none e) (by have := hcd.out; omega)
                            | cons z r => exact ⟨z, r, rfl⟩
                          obtain ⟨k, v, x, cx, s5, hv, hv0, hzi, hzw, hx, hxc, hxo, hcn, hT5⟩ := hT.out.1.lapse hL.out.iv hL.out.ok hS
                          have hvl := hT.out.2 k v hv
                          have hkl : k < n0 := by rw [← hdl.out]; exact (List.getElem?_eq_some_iff.1 hv).1
                          have HF := Lib.hid (hL.out.fire (now := 200) hS (by rw [hzw]; omega))
                          rw [hzi, hzw] at HF
                          have HE := Lib.hid hT.out.1.e
                          have HT := Lib.hid (And.intro hT5 (hT.out.2.set (k := k) (u := -1) (by decide)))
                          have HD : Hid ((due.set k (-1)).length = n0) := by show _ = _; rw [List.length_set]; exact hdl.out
                          have HCd : Hid (i + 1 + cD (due.set k (-1)) = n) := by
                            show _ = _
                            have h1 := cD_set (u := -1) hv hv0 (by decide)
                            have h2 := hcd.out
                            omega
                          have HV := Lib.hid hv
                          have HX := Lib.hid (And.intro hx (And.intro hxc hxo))
                          have HN := Lib.hid hcn
                          clear hv hv0 hzi hzw hx hxc hxo hcn hT5 hL hT hcd hdl hS
                          go_wp2_with fail
                          refine HF.out.mono ?_
                          rintro e w7 ⟨i', y, A, kk, bb, hi', hy, he, H7⟩
                          have hdt : y.dt = (k : Int) + 1 := by rw [HE.out _ _ hy]; omega
                          rw [hdt] at he
                          subst he
                          clear HF HE hi' hy hdt
                          have H8 := Lib.hid (H7.out.addF (a1 := (k : Int)) (a2 := 4) (c := v) (d := 200) (e := (k : Int) + 1) (A := A) (k := kk) (v := bb))
                          clear H7
                          go_upto_region 39 with (fail)
                          generalize w7.alloc (.cells #[.int .i64 (k : Int), .int .i64 4, .int .i64 v, .int .i64 200, .int .i64 ((k : Int) + 1), .slice A 0 kk, .bool bb] 47) = w8 at *
                          generalize w7.heap.size = fb at *
                          obtain ⟨p2, p4⟩ := H8.out.fcell (i := 0) rfl
                          obtain ⟨g, hPg, hgl, hgc, hgf⟩ := H8.out.icell (i := 1) rfl HV.out
                          subst hPg
                          have g1 : ¬ (k : Int) + 1 < 1 := by omega
                          have g2 : ¬ (n0 : Int) < (k : Int) + 1 := by omega
                          have g3 : IntKind.i64.wrap ((k : Int) + 1 - 1) = (k : Int) := by rw [IntKind.wrap_i64]; omega
                          go_quiet (fail)
                          have H9 := Lib.hid (show LQ _ _ _ _ _ (w8.drewN nq) from H8.out.drewN nq)
                          have p4' : (w8.drewN nq).cell? ⟨fb, 4, none⟩ = some (.int .i64 ((k : Int) + 1)) := p4
                          generalize w8.drewN nq = w9 at *
                          clear H8 p2 p4 hgc hgf hgl
                          have HC := Lib.hid (H9.out.cn (H9.out.iv.cn (i := k + 1) (x := x) (er := 2) (cs := 2) HX.out.1 ⟨cx, HX.out.2.1⟩ (by decide)) fun O f => lapse_call f H9.out.iv (i := k + 1) (x := x) HX.out.1 ⟨cx, HX.out.2.1⟩ HX.out.2.2)
                          rw [HN.out, show ((k + 1 : Nat) : Int) = (k : Int) + 1 from by omega] at HC
                          clear HX HN H9
                          go_wp2_with fail
                          refine HC.out.mono ?_
                          rintro e w10 ⟨P7, n7, k7, L7, Q7, m7, j7, hn7, hm7, rfl, h, hr⟩
                          clear HC
                          obtain rfl : n7 = 1 := hn7.out
                          obtain ⟨eL, hRL⟩ := hr.out
                          have hlenL : L7.length = 1 := by have := congrArg List.length eL; simpa using this
                          obtain ⟨z0, rfl⟩ : ∃ z0, L7 = [z0] := by
                            match L7, hlenL with
                            | [a], _ => exact ⟨a, rfl⟩
                          obtain ⟨u, rfl, a0, a1, -⟩ := h.out.lcell (i := 0) (j := 0) (x := z0) rfl rfl rfl
                          rw [(hRL z0 (by simp)).1] at a1
                          simp only [Nat.zero_mul, Nat.zero_add] at a1
                          obtain ⟨-, p4⟩ := h.out.fcell (i := 2) rfl
                          obtain ⟨g', hg', hgl', hgc', hgf'⟩ := h.out.icell (i := 3) rfl HV.out
                          obtain rfl : g = g' := by injection hg' with h9; injection h9
                          have H11 := Lib.hid (LQ.put (i := 0) (j := k) (x := -1) (h.out.sub (rs' := [rwI (some ⟨g, 0, none⟩) c due]) (by simp)) rfl rfl)
                          clear hn7 hm7 eL hRL hlenL a0 hg' h hr HV p4'
                          go_wp2_with fail
                          go_roundw
                          case rel => exact ⟨i + 1, s5, due.set k (-1), by omega, by go_num, HD, HCd, H11, HT⟩
                          case measure => simp [intOf]; omega
                        · obtain rfl : n = i := by omega
                          have HF := Lib.hid (hL.out.fire_none (now := 200) fun x r e => absurd (hT.out.1.some e) (by have := hcd.out; omega))
                          clear hL hT hcd hdl
                          go_wp2_with fail
                          refine HF.out.mono ?_
                          rintro e w7 ⟨rfl, H7⟩
                          clear HF
                          have HB9 := Lib.hid (H7.out.addF (a1 := 0) (a2 := 0) (c := 0) (d := 0) (e := 0) (A := none) (k := 0) (v := false)).bel
                          clear H7
                          go_upto_region 46 with (fail)
                          generalize w7.alloc (.cells #[.int .i64 0, .int .i64 0, .int .i64 0, .int .i64 0, .int .i64 0, .slice none 0 0, .bool false] 47) = w8 at *
                          go_wp2_with fail
                          refine (awake_any _).mono ?_
                          rintro e w9 ⟨rfl, hb⟩
                          have HB := Lib.hid hb
                          clear hb
                          go_wp2_with fail
                          go_ret
                          exact ⟨rfl, HB9.out.trans (HB.out.mono HB9.out.size)⟩
              · have b5 : ¬ (j : Int) < (n1 : Int) := by omega
                go_wp2_with fail
                clear b4 b5 hlt2 hpos hj
                go_loopw [18, 19, 20] (fun s18 s19 s20 wx => ∃ (i n : Nat) (least : Int), i ≤ n0 ∧ s20 = .int .i64 (i : Int) ∧ s19 = .int .i64 (n : Int) ∧ s18 = .int .i64 least ∧ Hid (Lm due i least n) ∧ wx = wr) (fun _ _ x _ => n0 - (intOf x).toNat)
                case atStart => exact ⟨0, 0, 0, by omega, rfl, rfl, rfl, Lm.zero due, rfl⟩
                case round =>
                  obtain ⟨i, n, least, hi, rfl, rfl, rfl, hm, rfl⟩ := hrel
                  have hnb : n ≤ 30 := by
                    have h1 := hm.out.cn
                    have h2 := cD_le (due.take i)
                    rw [List.length_take] at h2
                    omega
                  by_cases hlt3 : i < n0
                  · have b6 : (i : Int) < (n0 : Int) := by omega
                    obtain ⟨v, hv⟩ : ∃ v, due[i]? = some v := ⟨_, List.getElem?_eq_getElem (by rw [hdl.out]; exact hlt3)⟩
                    obtain ⟨g, hPg, hgl, hgc, hgf⟩ := hL.out.icell (i := 0) rfl hv
                    subst hPg
                    have HV := Lib.hid hv
                    clear hv
                    by_cases h0 : 0 < v
                    · by_cases hl0 : least = 0
                      · have hn := Lib.hid (hm.out.less HV.out h0 (.inl hl0))
                        have d1 : (least == 0) = true := by simp [hl0]
                        clear hl0 hm HV
                        go_wp2_with fail
                        go_roundw
                        case rel => exact ⟨i + 1, n + 1, v, by omega, by go_num, by go_num, rfl, hn, by first | rfl | trivial⟩
                        case measure => simp [intOf]; omega
                      · have d1 : (least == 0) = false := by simp [hl0]
                        by_cases hl1 : v < least
                        · have hn := Lib.hid (hm.out.less HV.out h0 (.inr hl1))
                          clear hl0 hm HV
                          go_wp2_with fail
                          go_roundw
                          case rel => exact ⟨i + 1, n + 1, v, by omega, by go_num, by go_num, rfl, hn, by first | rfl | trivial⟩
                          case measure => simp [intOf]; omega
                        · have hn := Lib.hid (hm.out.keep HV.out h0 (by omega))
                          clear hl0 hm HV
                          go_wp2_with fail
                          go_roundw
                          case rel => exact ⟨i + 1, n + 1, least, by omega, by go_num, by go_num, rfl, hn, by first | rfl | trivial⟩
                          case measure => simp [intOf]; omega
                    · have hn := Lib.hid (hm.out.skip HV.out h0)
                      clear hm HV
                      go_wp2_with fail
                      go_roundw
                      case rel => exact ⟨i + 1, n, least, by omega, by go_num, rfl, rfl, hn, by first | rfl | trivial⟩
                      case measure => simp [intOf]; omega
                  · obtain rfl : n0 = i := by omega
                    have hm2 : Lm due due.length least n := by rw [hdl.out]; exact hm.out
                    obtain ⟨hcD, hcase⟩ := hm2.next hT.out.1 hL.out.ok
                    have HCD := Lib.hid hcD
                    have HC := Lib.hid (hL.out.tnext (by have := hL.out.le; omega))
                    clear hm hm2 hcD hL
                    rcases hcase with ⟨hS, hnz, hnx⟩ | ⟨hnp, hnx⟩
                    · have b8 : ¬ (0 : Int) < (n : Int) := by omega
                      rw [hnx] at HC
                      clear hS hnz hnx
                      go_wp2_with fail
                      refine HC.out.mono ?_
                      rintro e w6 ⟨rfl, H6⟩
                      clear HC
                      go_wp2_with fail
                      go_loopw [23] (fun s23 wr => ∃ (i : Nat) (s : St) (due : List Int), i ≤ n ∧ s23 = .int .i64 (i : Int) ∧ Hid (due.length = n0) ∧ Hid (i + cD due = n) ∧ Hid (LQ w t (some ts) s [rwI P c due] wr) ∧ Hid (TW s due ∧ LeAll due)) (fun x _ => n - (intOf x).toNat)
                      case atStart => exact ⟨0, s, due, by omega, rfl, hdl, by show 0 + cD due = n; rw [HCD.out]; omega, H6, hT⟩
                      case round =>
                        clear H6 hT hdl HCD
                        obtain ⟨i, s, due, hi, rfl, hdl, hcd, hL, hT⟩ := hrel
                        by_cases hlt4 : i < n
                        · exfalso; omega
                        · obtain rfl : n = i := by omega
                          have HF := Lib.hid (hL.out.fire_none (now := 200) fun x r e => absurd (hT.out.1.some e) (by have := hcd.out; omega))
                          clear hL hT hcd hdl
                          go_wp2_with fail
                          refine HF.out.mono ?_
                          rintro e w7 ⟨rfl, H7⟩
                          clear HF
                          have HB9 := Lib.hid (H7.out.addF (a1 := 0) (a2 := 0) (c := 0) (d := 0) (e := 0) (A := none) (k := 0) (v := false)).bel
                          clear H7
                          go_upto_region 46 with (fail)
                          generalize w7.alloc (.cells #[.int .i64 0, .int .i64 0, .int .i64 0, .int .i64 0, .int .i64 0, .slice none 0 0, .bool false] 47) = w8 at *
                          go_wp2_with fail
                          refine (awake_any _).mono ?_
                          rintro e w9 ⟨rfl, hb⟩
                          have HB := Lib.hid hb
                          clear hb
                          go_wp2_with fail
                          go_ret
                          exact ⟨rfl, HB9.out.trans (HB.out.mono HB9.out.size)⟩
                    · have b8 : (0 : Int) < (n : Int) := by omega
                      rw [hnx] at HC
                      clear hnp hnx
                      go_wp2_with fail
                      refine HC.out.mono ?_
                      rintro e w6 ⟨rfl, H6⟩
                      clear HC
                      go_wp2_with fail
                      clear b8
                      go_loopw [23] (fun s23 wr => ∃ (i : Nat) (s : St) (due : List Int), i ≤ n ∧ s23 = .int .i64 (i : Int) ∧ Hid (due.length = n0) ∧ Hid (i + cD due = n) ∧ Hid (LQ w t (some ts) s [rwI P c due] wr) ∧ Hid (TW s due ∧ LeAll due)) (fun x _ => n - (intOf x).toNat)
                      case atStart => exact ⟨0, s, due, by omega, rfl, hdl, by show 0 + cD due = n; rw [HCD.out]; omega, H6, hT⟩
                      case round =>
                        clear H6 hT hdl HCD
                        obtain ⟨i, s, due, hi, rfl, hdl, hcd, hL, hT⟩ := hrel
                        by_cases hlt4 : i < n
                        · have b9 : (i : Int) < (n : Int) := by omega
                          obtain ⟨z, r, hS⟩ : ∃ z r, s.S = z :: r := by
                            cases e : s.S with
                            | nil => exact absurd (hT.out.1.none e) (by have := hcd.out; omega)
                            | cons z r => exact ⟨z, r, rfl⟩
                          obtain ⟨k, v, x, cx, s5, hv, hv0, hzi, hzw, hx, hxc, hxo, hcn, hT5⟩ := hT.out.1.lapse hL.out.iv hL.out.ok hS
                          have hvl := hT.out.2 k v hv
                          have hkl : k < n0 := by rw [← hdl.out]; exact (List.getElem?_eq_some_iff.1 hv).1
                          have HF := Lib.hid (hL.out.fire (now := 200) hS (by rw [hzw]; omega))
                          rw [hzi, hzw] at HF
                          have HE := Lib.hid hT.out.1.e
                          have HT := Lib.hid (And.intro hT5 (hT.out.2.set (k := k) (u := -1) (by decide)))
                          have HD : Hid ((due.set k (-1)).length = n0) := by show _ = _; rw [List.length_set]; exact hdl.out
                          have HCd : Hid (i + 1 + cD (due.set k (-1)) = n) := by
                            show _ = _
                            have h1 := cD_set (u := -1) hv hv0 (by decide)
                            have h2 := hcd.out
                            omega
                          have HV := Lib.hid hv
                          have HX := Lib.hid (And.intro hx (And.intro hxc hxo))
                          have HN := Lib.hid hcn
                          clear hv hv0 hzi hzw hx hxc hxo hcn hT5 hL hT hcd hdl hS
                          go_wp2_with fail
                          refine HF.out.mono ?_
                          rintro e w7 ⟨i', y, A, kk, bb, hi', hy, he, H7⟩
                          have hdt : y.dt = (k : Int) + 1 := by rw [HE.out _ _ hy]; omega
                          rw [hdt] at he
                          subst he
                          clear HF HE hi' hy hdt
                          have H8 := Lib.hid (H7.out.addF (a1 := (k : Int)) (a2 := 4) (c := v) (d := 200) (e := (k : Int) + 1) (A := A) (k := kk) (v := bb))
                          clear H7
                          go_upto_region 39 with (fail)
                          generalize w7.alloc (.cells #[.int .i64 (k : Int), .int .i64 4, .int .i64 v, .int .i64 200, .int .i64 ((k : Int) + 1), .slice A 0 kk, .bool bb] 47) = w8 at *
                          generalize w7.heap.size = fb at *
                          obtain ⟨p2, p4⟩ := H8.out.fcell (i := 0) rfl
                          obtain ⟨g, hPg, hgl, hgc, hgf⟩ := H8.out.icell (i := 1) rfl HV.out
                          subst hPg
                          have g1 : ¬ (k : Int) + 1 < 1 := by omega
                          have g2 : ¬ (n0 : Int) < (k : Int) + 1 := by omega
                          have g3 : IntKind.i64.wrap ((k : Int) + 1 - 1) = (k : Int) := by rw [IntKind.wrap_i64]; omega
                          go_quiet (fail)
                          have H9 := Lib.hid (show LQ _ _ _ _ _ (w8.drewN nq) from H8.out.drewN nq)
                          have p4' : (w8.drewN nq).cell? ⟨fb, 4, none⟩ = some (.int .i64 ((k : Int) + 1)) := p4
                          generalize w8.drewN nq = w9 at *
                          clear H8 p2 p4 hgc hgf hgl
                          have HC := Lib.hid (H9.out.cn (H9.out.iv.cn (i := k + 1) (x := x) (er := 2) (cs := 2) HX.out.1 ⟨cx, HX.out.2.1⟩ (by decide)) fun O f => lapse_call f H9.out.iv (i := k + 1) (x := x) HX.out.1 ⟨cx, HX.out.2.1⟩ HX.out.2.2)
                          rw [HN.out, show ((k + 1 : Nat) : Int) = (k : Int) + 1 from by omega] at HC
                          clear HX HN H9
                          go_wp2_with fail
                          refine HC.out.mono ?_
                          rintro e w10 ⟨P7, n7, k7, L7, Q7, m7, j7, hn7, hm7, rfl, h, hr⟩
                          clear HC
                          obtain rfl : n7 = 1 := hn7.out
                          obtain ⟨eL, hRL⟩ := hr.out
                          have hlenL : L7.length = 1 := by have := congrArg List.length eL; simpa using this
                          obtain ⟨z0, rfl⟩ : ∃ z0, L7 = [z0] := by
                            match L7, hlenL with
                            | [a], _ => exact ⟨a, rfl⟩
                          obtain ⟨u, rfl, a0, a1, -⟩ := h.out.lcell (i := 0) (j := 0) (x := z0) rfl rfl rfl
                          rw [(hRL z0 (by simp)).1] at a1
                          simp only [Nat.zero_mul, Nat.zero_add] at a1
                          obtain ⟨-, p4⟩ := h.out.fcell (i := 2) rfl
                          obtain ⟨g', hg', hgl', hgc', hgf'⟩ := h.out.icell (i := 3) rfl HV.out
                          obtain rfl : g = g' := by injection hg' with h9; injection h9
                          have H11 := Lib.hid (LQ.put (i := 0) (j := k) (x := -1) (h.out.sub (rs' := [rwI (some ⟨g, 0, none⟩) c due]) (by simp)) rfl rfl)
                          clear hn7 hm7 eL hRL hlenL a0 hg' h hr HV p4'
                          go_wp2_with fail
                          go_roundw
                          case rel => exact ⟨i + 1, s5, due.set k (-1), by omega, by go_num, HD, HCd, H11, HT⟩
                          case measure => simp [intOf]; omega
                        · obtain rfl : n = i := by omega
                          have HF := Lib.hid (hL.out.fire_none (now := 200) fun x r e => absurd (hT.out.1.some e) (by have := hcd.out; omega))
                          clear hL hT hcd hdl
                          go_wp2_with fail
                          refine HF.out.mono ?_
                          rintro e w7 ⟨rfl, H7⟩
                          clear HF
                          have HB9 := Lib.hid (H7.out.addF (a1 := 0) (a2 := 0) (c := 0) (d := 0) (e := 0) (A := none) (k := 0) (v := false)).bel
                          clear H7
                          go_upto_region 46 with (fail)
                          generalize w7.alloc (.cells #[.int .i64 0, .int .i64 0, .int .i64 0, .int .i64 0, .int .i64 0, .slice none 0 0, .bool false] 47) = w8 at *
                          go_wp2_with fail
                          refine (awake_any _).mono ?_
                          rintro e w9 ⟨rfl, hb⟩
                          have HB := Lib.hid hb
                          clear hb
                          go_wp2_with fail
                          go_ret
                          exact ⟨rfl, HB9.out.trans (HB.out.mono HB9.out.size)⟩
end Go.Proofs.Ytdpapnfjpefhkaa
