/- CtxWakes walked: who waits for a context's channel is told when it is over, and whoever waits for one that hangs on it; nobody else. No condition. -/
import Derived.Test.YtdpapnfjpefhkaaLrwm
namespace Go.Proofs.Ytdpapnfjpefhkaa
open Go.RowKit Tr
set_option linter.unusedVariables false
set_option maxRecDepth 100000

theorem if_max (x : Int) : (if x < 1 then 1 else x) = max x 1 := by split <;> omega
/-- A row of n contexts behind the background; a task waits for each. -/
structure WR (s : St) (n : Nat) : Prop where
  pn : Pn s
  len : s.C.length = n + 1
  t : s.T = row (n + 1)
  bg : s.C[0]? = some bg
  c : ∀ i, i < n → ∃ x c, s.C[i + 1]? = some x ∧ x.ch = some c ∧ x.cl = false ∧ x.er = 0 ∧ x.rs = [⟨(10 : Int) + i, 0, 0⟩]
theorem WR.zero : WR (s0 [] 0 []) 0 := ⟨Pn.s0 _ _ _, rfl, rfl, rfl, fun i h => absurd h (by omega)⟩
theorem WR.last {s : St} {n : Nat} (h : WR s n) : ∃ y, s.C[n]? = some y ∧ y.er = 0 ∧ y.nd = n := by
  cases n with
  | zero => exact ⟨_, h.bg, rfl, rfl⟩
  | succ n =>
    obtain ⟨x, c, h1, _, _, h2, _⟩ := h.c n (by omega)
    exact ⟨x, h1, h2, h.pn.nd _ x h1⟩
theorem WR.next {s : St} {n c : Nat} {y : Cx} (h : WR s n) (v : Inv s) (hy : s.C[n]? = some y) (he : y.er = 0) :
    let x := nw (nx0 c y.wh y.has false) s.T.length
    (mkC s (nx0 c y.wh y.has false) y).C[n + 1]? = some x ∧ WR { mkC s (nx0 c y.wh y.has false) y with C := (mkC s (nx0 c y.wh y.has false) y).C.set (n + 1) (wtd x ⟨(10 : Int) + n, 0, 0⟩) } (n + 1) := by
  have e : mkC s (nx0 c y.wh y.has false) y = addS s (nx0 c y.wh y.has false) (y.nd : Int) true := by unfold mkC; rw [if_pos he]
  have hnd := h.pn.nd _ y hy
  have hat : (addS s (nx0 c y.wh y.has false) (y.nd : Int) true).C[n + 1]? = some (nw (nx0 c y.wh y.has false) s.T.length) := by
    have := addS_new (s := s) (x := nx0 c y.wh y.has false) (ab := (y.nd : Int)) (l := true)
    rwa [h.len] at this
  intro x
  rw [e]
  refine ⟨hat, (h.pn.add v _ _ _).set hat (y := wtd x ⟨(10 : Int) + n, 0, 0⟩) rfl rfl rfl rfl, ?_, ?_, ?_, fun i hi => ?_⟩
  · show ((s.C ++ _).set _ _).length = _
    rw [List.length_set, List.length_append, h.len]; rfl
  · show s.T ++ _ = _
    rw [h.t, row_succ (n + 1), hnd]
    congr 3
    omega
  · show ((s.C ++ _).set _ _)[0]? = _
    rw [List.getElem?_set_ne (by omega), List.getElem?_append_left (by rw [h.len]; omega)]; exact h.bg
  · by_cases hn : i = n
    · subst hn
      refine ⟨wtd x ⟨(10 : Int) + i, 0, 0⟩, c, ?_, rfl, rfl, rfl, rfl⟩
      show ((s.C ++ _).set _ _)[i + 1]? = _
      rw [List.getElem?_set_self (by rw [List.length_append, h.len]; show i + 1 < i + 1 + 1; omega)]
    · obtain ⟨z, cz, h1, h2⟩ := h.c i (by omega)
      refine ⟨z, cz, ?_, h2⟩
      show ((s.C ++ _).set _ _)[i + 1]? = _
      rw [List.getElem?_set_ne (by omega), List.getElem?_append_left (by rw [h.len]; omega)]; exact h1
/-- Behind the cancellation: who is told, and who is as he was. -/
theorem WR.cut {s : St} {n k : Nat} {cs : Int} (h : WR s n) (v : Inv s) (h1 : 1 ≤ k) (h2 : k ≤ n) : ∃ x c s' l, s.C[k]? = some x ∧ x.ch = some c ∧ cnS s x 1 cs = (s', l, []) ∧ l.length = n + 1 - k ∧ (∀ i, i < n + 1 - k → l[i]? = some (k + i, [⟨(9 : Int) + k + i, 0, 0, false, false⟩])) ∧
    ∀ i, i < k → ∀ z, s.C[i]? = some z → s'.C[i]? = some z := by
  obtain ⟨k, rfl⟩ : ∃ j, k = j + 1 := ⟨k - 1, by omega⟩
  obtain ⟨x, c, a1, a2, a3, a4, a5⟩ := h.c k (by omega)
  obtain ⟨s', e1, e2⟩ := cn_pn (er := 1) (cs := cs) h.pn v a1 a4
  have hw : Tr.walk s.T (k + 1) = List.range' (k + 1) (n + 1 - (k + 1)) := by rw [h.t]; exact row_walk (n + 1) _ (k + 1) (Nat.lt_succ_self _) (by omega)
  rw [hw] at e1 e2
  refine ⟨x, c, s', _, a1, a2, e1, by simp, fun i hi => ?_, fun i hi z hz => ?_⟩
  · rw [List.getElem?_map, List.getElem?_range' hi]
    obtain ⟨z, cz, b1, b2, b3, b4, b5⟩ := h.c (k + i) (by omega)
    have : wkAt s (k + 1 + 1 * i) = [⟨(9 : Int) + (k + 1 : Nat) + i, 0, 0, false, false⟩] := by
      unfold wkAt
      rw [show k + 1 + 1 * i = k + i + 1 from by omega, b1]
      show Ch.tot (chS z) = _
      unfold chS
      rw [b5]
      show [(⟨(10 : Int) + ((k + i : Nat) : Int), 0, 0, false, false⟩ : Ch.Wk)] = _
      congr 2
      omega
    rw [Option.map_some, this]
    congr 2
    omega
  · have := e2.c i z hz
    rw [if_neg (by rw [List.mem_range'_1]; omega)] at this
    exact this
set_option maxHeartbeats 64000000 in
theorem wakes_any (depth at_ cause : Int) (w : World) : Calls Try.prog 7 #[.int .i64 depth, .int .i64 at_, .int .i64 cause] w fun e w' => e = .returned (.bool true) ∧ Below w.heap.size w w' := by
  by_cases h1 : depth < 1
  · go_enter Try.func7, Try.ntmps7
    go_wp2_with fail
    refine (awake_any w).mono ?_
    rintro e w' ⟨rfl, hb⟩
    have HB := Lib.hid hb
    clear hb
    go_wp2_with fail
    go_ret
    exact ⟨rfl, HB.out⟩
  · by_cases h2 : 12 < depth
    · go_enter Try.func7, Try.ntmps7
      go_wp2_with fail
      refine (awake_any w).mono ?_
      rintro e w' ⟨rfl, hb⟩
      have HB := Lib.hid hb
      clear hb
      go_wp2_with fail
      go_ret
      exact ⟨rfl, HB.out⟩
    · obtain ⟨d, rfl⟩ : ∃ d : Nat, depth = (d : Int) := Int.eq_ofNat_of_zero_le (by omega)
      have hd1 : 1 ≤ d := by omega
      have hd : d ≤ 12 := by omega
      obtain ⟨c1, hz9⟩ : ∃ z, max cause 1 = z := ⟨_, rfl⟩
      have HZ : Hid ((if cause < 1 then 1 else cause) = c1) := by show _ = _; rw [if_max]; exact hz9
      go_enter Try.func7, Try.ntmps7
      go_wp2_with fail
      have H1 := Lib.hid (newctx_lq (W := w) (p := none) (w := w) ⟨rfl, rfl, rfl⟩ (Below.refl w.heap.size w))
      simp only [Option.map_none] at H1
      refine H1.out.mono ?_
      rintro e w2 ⟨rfl, h2⟩
      clear H1
      have H2 : Hid (LQ w w.heap.size none (s0 [] 0 []) [] w2) := h2
      clear h2
      go_wp2_with fail
      go_loopw [8, 9] (fun s8 s9 wr => ∃ (n : Nat) (s : St), n ≤ d ∧ s8 = .int .i64 (n : Int) ∧ s9 = .int .i64 (n : Int) ∧ Hid (LQ w w.heap.size none s [] wr ∧ WR s n)) (fun _ x _ => d - (intOf x).toNat)
      case atStart => exact ⟨0, _, by omega, rfl, rfl, H2.out, WR.zero⟩
      case round =>
        clear H2
        obtain ⟨n, s, hn, rfl, rfl, hR⟩ := hrel
        by_cases hlt : n < d
        · have b3 : (n : Int) < (d : Int) := by omega
          obtain ⟨y, hy, hye, hyn⟩ := hR.out.2.last
          have hlen := hR.out.2.len
          have HC := Lib.hid (hR.out.1.made (fun c => hR.out.1.iv.nx (i := n) (y := y) hy (by omega) c y.wh y.has false) fun O f => cancels_ok f hR.out.1.iv (i := n) (y := y) hy (by omega))
          rw [hlen] at HC
          have HN : Hid (∀ c, (mkC s (nx0 c y.wh y.has false) y).C[n + 1]? = some (nw (nx0 c y.wh y.has false) s.T.length) ∧ WR { mkC s (nx0 c y.wh y.has false) y with C := (mkC s (nx0 c y.wh y.has false) y).C.set (n + 1) (wtd (nw (nx0 c y.wh y.has false) s.T.length) ⟨(10 : Int) + n, 0, 0⟩) } (n + 1)) := fun c => hR.out.2.next hR.out.1.iv hy hye
          clear hR hlen hy hye hyn
          go_wp2_with fail
          refine HC.out.mono ?_
          rintro e w5 ⟨P0, n0, k0, cc, L0, hn0, rfl, h, hr0⟩
          clear HC
          obtain ⟨hx, hW⟩ := HN.out cc
          have HW := Lib.hid hW
          have HX := Lib.hid hx
          have H5 : Hid (LQ w w.heap.size none (mkC s (nx0 cc y.wh y.has false) y) [] w5) := h.out.sub (List.sublist_cons_self _ _)
          clear hW hx HN h hr0 hn0
          obtain ⟨x, hxe⟩ : ∃ x, nw (nx0 cc y.wh y.has false) s.T.length = x := ⟨_, rfl⟩
          have hxc : x.ch = some cc := by rw [← hxe]; rfl
          have hxl : x.cl = false := by rw [← hxe]; rfl
          have hxr : x.rs = [] := by rw [← hxe]; rfl
          rw [hxe] at HW HX
          generalize mkC s (nx0 cc y.wh y.has false) y = s5 at *
          have ea : cA s5 ((n + 1 : Nat) : Int) = (x, 0) := cA_at HX.out
          have HC := Lib.hid (H5.out.read (k := ((n + 1 : Nat) : Int)) fun O f => cdone_any _ f)
          rw [ea] at HC
          dsimp only at HC
          rw [hxc] at HC
          simp only [Option.map_some] at HC
          have HXC := Lib.hid (And.intro hxc (And.intro hxl hxr))
          clear ea hxe hxc hxl hxr
          go_wp2_with fail
          refine HC.out.mono ?_
          rintro e w6 ⟨rfl, H6⟩
          clear H5 HC
          have HC := Lib.hid (H6.out.wait HX.out HXC.out.1 HXC.out.2.1 (by rw [HXC.out.2.2]; show 0 < 1000000; omega) ⟨(10 : Int) + n, 0, 0⟩ (Ch.wf_of (by show _ ≤ (10 : Int) + n; omega) (by show (10 : Int) + n ≤ _; omega)))
          unfold Ch.wG at HC
          dsimp only at HC
          go_wp2_with fail
          refine HC.out.mono ?_
          rintro e w7 ⟨rfl, H7⟩
          clear H6 HC HX HXC
          go_wp2_with fail
          go_roundw
          case rel => exact ⟨n + 1, _, by omega, by go_num, by go_num, H7.out, HW.out⟩
          case measure => simp [intOf]; omega
        · obtain rfl : n = d := by omega
          have HQ := Lib.hid (round_any at_ n wr (by omega) (by omega))
          have hq := pk_lt at_ (m := n) (by omega)
          generalize pk at_ n = q at *
          obtain ⟨x, c, s4, l, a1, a2, a3, a4, a5, a6⟩ := hR.out.2.cut (k := q + 1) (cs := c1) hR.out.1.iv (by omega) (by omega)
          have HC := Lib.hid (hR.out.1.cn (hR.out.1.iv.cn (i := q + 1) (x := x) (er := 1) (cs := c1) a1 ⟨c, a2⟩ (by decide)) fun O f => cancel_call f hR.out.1.iv (i := q + 1) (x := x) a1 ⟨c, a2⟩ cause c1 HZ.out)
          rw [a3, show (((q + 1 : Nat)) : Int) = 1 + (q : Int) from by omega] at HC
          have HA6 : Hid (∀ i, i < q → ∃ z c, s4.C[i + 1]? = some z ∧ z.ch = some c ∧ z.cl = false ∧ z.rs.length = 1) := by
            intro i hi
            obtain ⟨z, cz, b1, b2, b3, b4, b5⟩ := hR.out.2.c i (by omega)
            exact ⟨z, cz, a6 (i + 1) (by omega) z b1, b2, b3, by rw [b5]; rfl⟩
          have HA5 : Hid (∀ i, i < n - q → l[i]? = some (q + 1 + i, [⟨(9 : Int) + (q + 1 : Nat) + i, 0, 0, false, false⟩])) := fun i hi => a5 i (by omega)
          have hl9 : Hid (l.length = n - q) := by show l.length = n - q; omega
          clear a1 a2 a3 a4 a5 a6 hR HZ
          go_wp2_with fail
          refine HQ.out.mono ?_
          rintro e w' ⟨rfl, rfl⟩
          clear HQ
          go_wp2_with fail
          refine HC.out.mono ?_
          rintro e w4 ⟨P7, n7, k7, L7, Q7, m7, j7, hn7, hm7, rfl, h, hr⟩
          clear HC
          have hn7' : n7 = n - q := by rw [hn7.out]; exact hl9.out
          have bb : ((n7 : Int) != (n : Int) - (1 + (q : Int)) + 1) = false := by
            rw [show (n : Int) - (1 + (q : Int)) + 1 = (n7 : Int) from by omega]; simp
          have HL : Hid (L7.map (fun x => (x.id, x.wk)) = l) := hr.out.1
          have hL7 : L7.length = n7 := by rw [← List.length_map (f := fun x : Lp => (x.id, x.wk)), HL.out, hl9.out, hn7']
          have HK : Hid (∀ i, i < n7 → ∃ u b, P7 = some ⟨u, 0, none⟩ ∧ w4.cell? ⟨u, i * 4, none⟩ = some (.int .i64 (1 + (q : Int) + (i : Int))) ∧ w4.cell? ⟨u, i * 4 + 1, none⟩ = some (.int .i64 1) ∧ w4.cell? ⟨u, i * 4 + 2, none⟩ = some (.int .i64 c1) ∧ (∃ kk, w4.cell? ⟨u, i * 4 + 3, none⟩ = some (.slice (some ⟨b, 0, none⟩) 1 kk)) ∧
              w4.cell? ⟨b, 0, none⟩ = some (.int .i64 (9 + (1 + (q : Int)) + (i : Int))) ∧ w4.cell? ⟨b, 1, none⟩ = some (.int .i64 0) ∧ w4.cell? ⟨b, 2, none⟩ = some (.int .i64 0) ∧ w4.cell? ⟨b, 3, none⟩ = some (.bool false) ∧ w4.cell? ⟨b, 4, none⟩ = some (.bool false)) := by
            intro i hi
            obtain ⟨x, hx⟩ : ∃ x, L7[i]? = some x := ⟨_, List.getElem?_eq_getElem (by omega)⟩
            have g1 := HA5.out i (by omega)
            rw [← HL.out, List.getElem?_map, hx] at g1
            have g1 : (x.id, x.wk) = (q + 1 + i, [⟨(9 : Int) + (q + 1 : Nat) + i, 0, 0, false, false⟩]) := Option.some.inj g1
            obtain ⟨g2, g3⟩ := Prod.mk.inj g1
            obtain ⟨f1, f2, f3, f4⟩ := hr.out.2 x (List.mem_of_getElem? hx)
            rw [g3] at f3 f4
            have f3 : x.n = 1 := f3
            rw [f3] at f4
            obtain ⟨_, f5⟩ := f4
            obtain ⟨b, cs, f6, f7, f8⟩ := f5 (by omega)
            have f9 := f8 0 _ rfl
            dsimp only at f9
            rw [show (9 : Int) + ((q + 1 : Nat) : Int) + (i : Int) = 9 + (1 + (q : Int)) + (i : Int) from by omega] at f9
            simp only [Nat.zero_mul, Nat.zero_add] at f9
            obtain ⟨u, k0, k1, k2, k3, k4⟩ := h.out.lcell (i := 0) (j := i) (x := x) rfl hL7 hx
            rw [g2, show ((q + 1 + i : Nat) : Int) = 1 + (q : Int) + (i : Int) from by omega] at k1; rw [f1] at k2; rw [f2] at k3; rw [f3, f6] at k4
            exact ⟨u, b, k0, k1, k2, k3, ⟨_, k4⟩, f9⟩
          have H4 : Hid (LQ w w.heap.size none s4 [] w4) := h.out.sub (List.nil_sublist _)
          have h7 : n7 ≤ 12 := by omega
          clear h hr HL hL7 HA5 hn7 hm7 hl9 hn7'
          go_wp2_with fail
          go_loopw [19] (fun s19 wr => ∃ i : Nat, i ≤ n7 ∧ s19 = .int .i64 (i : Int) ∧ wr = w4) (fun x _ => n7 - (intOf x).toNat)
          case atStart => exact ⟨0, by omega, rfl, rfl⟩
          case round =>
            obtain ⟨i, hi, rfl, rfl⟩ := hrel
            by_cases hlt2 : i < n7
            · have b6 : (i : Int) < (n7 : Int) := by omega
              obtain ⟨u, b, rfl, k1, k2, k3, ⟨kk, k4⟩, r0, r1, r2, r3, r4⟩ := HK.out i hlt2
              go_wp2_with fail
              go_roundw
              case rel => exact ⟨i + 1, by omega, by go_num, by first | rfl | trivial⟩
              case measure => simp [intOf]; omega
            · obtain rfl : i = n7 := by omega
              clear HK
              go_wp2_with fail
              go_loopw [20] (fun s20 wr => ∃ i : Nat, i ≤ q ∧ s20 = .int .i64 ((i + 1 : Nat) : Int) ∧ Hid (LQ w w.heap.size none s4 [] wr)) (fun x _ => q + 1 - (intOf x).toNat)
              case atStart => exact ⟨0, by omega, rfl, H4.out⟩
              case round =>
                clear H4
                obtain ⟨j, hj, rfl, H4⟩ := hrel
                by_cases hlt3 : j < q
                · have b7 : (j : Int) < (q : Int) := by omega
                  obtain ⟨z, cz, hz, hzc, hzl, hzr⟩ := HA6.out j hlt3
                  have ea : cA s4 ((j + 1 : Nat) : Int) = (z, 0) := cA_at hz
                  have HC := Lib.hid (H4.out.read (k := ((j + 1 : Nat) : Int)) fun O f => cdone_any _ f)
                  rw [ea] at HC
                  dsimp only at HC
                  rw [hzc] at HC
                  simp only [Option.map_some] at HC
                  have HX := Lib.hid (And.intro hz (And.intro hzc (And.intro hzl hzr)))
                  clear ea hz hzc hzl hzr
                  go_wp2_with fail
                  refine HC.out.mono ?_
                  rintro e w6 ⟨rfl, H6⟩
                  clear H4 HC
                  have HC := Lib.hid (H6.out.closed HX.out.1 HX.out.2.1)
                  rw [HX.out.2.2.1] at HC
                  go_wp2_with fail
                  refine HC.out.mono ?_
                  rintro e w7 ⟨rfl, rfl⟩
                  clear HC
                  have HC := Lib.hid (H6.out.waiting HX.out.1 HX.out.2.1)
                  rw [HX.out.2.2.2] at HC
                  clear HX
                  go_wp2_with fail
                  refine HC.out.mono ?_
                  rintro e w8 ⟨A8, k8, rfl, H8⟩
                  clear HC H6
                  go_wp2_with fail
                  go_roundw
                  case rel => exact ⟨j + 1, by omega, by go_num, H8.out⟩
                  case measure => simp [intOf]; omega
                · obtain rfl : j = q := by omega
                  have HB9 := Lib.hid H4.out.bel
                  clear H4 HA6
                  go_wp2_with fail
                  refine (awake_any _).mono ?_
                  rintro e w9 ⟨rfl, hb⟩
                  have HB := Lib.hid hb
                  clear hb
                  go_wp2_with fail
                  go_ret
                  exact ⟨rfl, HB9.out.trans (HB.out.mono HB9.out.size)⟩
end Go.Proofs.Ytdpapnfjpefhkaa
