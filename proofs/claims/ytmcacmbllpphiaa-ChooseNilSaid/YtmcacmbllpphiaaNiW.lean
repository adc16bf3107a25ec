/- The walk of ChooseNil. No condition. -/
import Derived.Test.YtmcacmbllpphiaaNiM
import Derived.Test.YtmcacmbllpphiaaAwk
import Derived.Deep.RegionLaw
namespace Go.Proofs.Ytmcacmbllpphiaa
open Go.RowKit
set_option linter.unusedVariables false

theorem hx_e1 (w : World) : (w.alloc (.cells #[] 65)).heap[w.heap.size]? = some (.cells #[] 65 (0, 0)) := heap_alloc_new _ _
theorem hx_e2 (w : World) (o : Obj) : ((w.alloc (.cells #[] 65)).alloc o).heap[w.heap.size]? = some (.cells #[] 65 (0, 0)) := (Below.heap_alloc _ _ _ (by simp)).trans (heap_alloc_new _ _)
theorem hx_e3 (w : World) (o : Obj) : ((w.alloc o).alloc (.cells #[] 65)).heap[w.heap.size + 1]? = some (.cells #[] 65 (0, 0)) := by
  have := heap_alloc_new (w.alloc o) (.cells #[] 65)
  rw [World.size_alloc] at this
  exact this
theorem own_eX {wx : World} {base N : Nat} (hN : wx.heap[N]? = some (.cells #[] 65 (0, 0))) (h : base ≤ N) : wx.ownsRow base 65 3 (.slice (some ⟨N, 0, none⟩) 0 0) 0 [] :=
  ⟨rfl, .inr ⟨N, 0, #[], rfl, h, hN, Nat.le_refl _, by unfold maxLen; omega, rfl, rfl⟩⟩
section
variable {w2 wx : World} {B : List Nat} {ops : Array Oper} {o : Oper} {a : Act} {K : Act → World → Prop} {Q : Exit → Act → World → Prop} {E : Prop}
theorem step_copyX (hgd : o.guard = none) (s x : Operand) (hop : o.op = .call { callee := .builtin .append, args := #[s, x], argTypes := #[38, 38] })
    (N : Nat) (A : Option Addr) (m c : Nat) (l : List Ca) (hv : a.eval s = .slice (some ⟨N, 0, none⟩) 0 0) (hx : a.eval x = .slice A m c)
    (hN : wx.heap[N]? = some (.cells #[] 65 (0, 0))) (hle : w2.heap.size ≤ N) (hb : Below w2.heap.size w2 wx) (hr : Rd w2 w2.heap.size A m 3 (caF B l)) (hm : m ≤ 1000)
    (hK : ∀ v' w', w'.ownsRow w2.heap.size 65 3 v' m (caF B l) → Below w2.heap.size w2 w' → wx.grownBy w' (some N) → K (a.put o.dst v') w') :
    if Region.wanted o (yielded ops a.tmps) = true then Oper.wp Try.prog o a wx K Q else E := by
  obtain ⟨i0, hi, hz0, hz1, hz2⟩ := info_parts inf65
  have hE := own_eX hN hle
  refine step_app hgd s x 38 hop w2.heap.size 65 3 24 i0 _ Try.underlying38 hi hz0 hz1 hz2 rfl (by decide) _ 0 [] hv hE _ A m c (caF B l) hx (hr.later hb) (caF_one _ _) (by unfold maxLen; omega) (by omega) hb.size fun v' w' ho hg => ?_
  rw [Nat.zero_add, List.nil_append] at ho
  exact hK v' w' ho (below_app hb (Nat.le_refl _) hb.size hE hg) hg
theorem step_moreX (hgd : o.guard = none) (s x : Operand) (hop : o.op = .call { callee := .builtin .append, args := #[s, x], argTypes := #[38, 38] })
    (v : Value) (A : Option Addr) (n m c : Nat) (l l' : List Ca) (hv : a.eval s = v) (hx : a.eval x = .slice A m c)
    (ho : wx.ownsRow w2.heap.size 65 3 v n (caF B l)) (hb : Below w2.heap.size w2 wx) (hr : Rd wx wx.heap.size A m 3 (caF B l')) (hn : n ≤ 1000) (hm : m ≤ 1000)
    (hK : ∀ v' w', w'.ownsRow w2.heap.size 65 3 v' (n + m) (caF B (l ++ l')) → Below w2.heap.size w2 w' → K (a.put o.dst v') w') :
    if Region.wanted o (yielded ops a.tmps) = true then Oper.wp Try.prog o a wx K Q else E := by
  obtain ⟨i0, hi, hz0, hz1, hz2⟩ := info_parts inf65
  refine step_app hgd s x 38 hop w2.heap.size 65 3 24 i0 _ Try.underlying38 hi hz0 hz1 hz2 rfl (by decide) _ n (caF B l) hv ho _ A m c (caF B l') hx hr (caF_one _ _) (by unfold maxLen; omega) (by omega) hb.size fun v' w' ho' hg => ?_
  rw [← caF_app] at ho'
  exact hK v' w' ho' (below_app hb (Nat.le_refl _) hb.size ho hg)
end
theorem rd_blkX {w : World} {B : List Nat} {N : Nat} {x : Ca} (h : w.heap[N]? = some (.cells (caA B x) 65 (0, 0))) : Rd w w.heap.size (some ⟨N, 0, none⟩) 1 3 (caF B [x]) := by
  refine ⟨rfl, fun _ => ⟨N, 0, rfl, lt_of_blk h, fun j u hu => ?_⟩⟩
  rw [Nat.zero_add, cell_of_row w N j _ _ _ h]
  simpa [caF, caV, caA] using hu
theorem Rd.take {w : World} {B0 : Nat} {A : Option Addr} {B : List Nat} {n q : Nat} {l : List Ca} (h : Rd w B0 A n 3 (caF B l)) (hn : l.length = n) (hq : q ≤ n) : Rd w B0 A q 3 (caF B (l.take q)) := by
  refine ⟨by rw [caF_len, List.length_take]; omega, fun h0 => ?_⟩
  obtain ⟨b, off, e, hb, hc⟩ := h.2 (by omega)
  refine ⟨b, off, e, hb, fun j u hu => hc j u ?_⟩
  have hj : j < (caF B (l.take q)).length := (List.getElem?_eq_some_iff.1 hu).1
  rw [← List.take_append_drop q l, caF_app, List.getElem?_append_left hj]
  exact hu
theorem Rd.drop {w : World} {B0 b : Nat} {B : List Nat} {n q : Nat} {l : List Ca} (h : Rd w B0 (some ⟨b, 0, none⟩) n 3 (caF B l)) (hn : l.length = n) (hq : q < n) : Rd w B0 (some ⟨b, q * 3, none⟩) (n - q) 3 (caF B (l.drop q)) := by
  refine ⟨by rw [caF_len, List.length_drop, hn], fun h0 => ?_⟩
  obtain ⟨b', off, e, hb, hc⟩ := h.2 (by omega)
  cases e
  refine ⟨b, q * 3, rfl, hb, fun j u hu => ?_⟩
  have hl : (caF B (l.take q)).length = q * 3 := by rw [caF_len, List.length_take]; omega
  have := hc (q * 3 + j) u (by
    rw [← List.take_append_drop q l, caF_app, List.getElem?_append_right (by omega), hl, Nat.add_sub_cancel_left]
    exact hu)
  rwa [Nat.zero_add] at this
set_option maxRecDepth 100000 in
set_option maxHeartbeats 16000000 in
theorem nil_in (n : Nat) (at_ : Int) (df : Bool) (draw : Int) (W : World) (hn : n ≤ 14) : Calls Try.prog 7 #[.int .i64 n, .int .i64 at_, .bool df, .int .i64 draw] W (BoolR true W) := by
  obtain ⟨i0, hi, hz0, hz1, hz2⟩ := info_parts inf65
  have b1 : (n : Int) ≤ 14 := by omega
  have b2 : 0 ≤ (n : Int) := by omega
  go_enter Try.func7, Try.ntmps7
  go_wp2_with fail
  refine (zs_new (ZS.nil W) 1 (by omega)).mono ?_
  rintro e w1 ⟨c, rfl, s1, _⟩
  have S1 : Hid (ZS W [c] [⟨0, false, 1, [], [], []⟩] w1) := s1
  clear s1
  go_wp2_with fail
  refine (zs_send (i := 0) (s' := ⟨0, false, 1, [6], [], []⟩) (ws := []) (d := true) (n := 0) 6 S1.out rfl rfl rfl rfl (by simp) rfl rfl).mono ?_
  rintro e w2 ⟨A2, k2, rfl, _, s2, _⟩
  have S2 : Hid (RZ W [c] nS (.slice none 0 0) [] w2) := ⟨s2, World.ownsRow_nil _ _ _ _⟩
  have HSz := S2.out.size
  clear s2 S1
  go_wp2_with (first
    | ((refine wpList_make_full w2 rfl (.tmp 40) (.tmp 40) 38 rfl W.heap.size 65 i0 (.agg #[.pointer none, .bool false, .int .i64 0]) 3 Try.underlying38 hi hz0 hz1 .i64 .i64 _ _ n rfl rfl rfl rfl (by rw [hz2]; omega) (by unfold maxLen; omega) HSz ?_); intro w3 ho3 hg3; have S3 : Hid (RZ W [c] nS (.slice (some ⟨w2.heap.size, 0, none⟩) n n) (List.replicate n ⟨none, false, 0⟩) w3) := S2.out.grow hg3 (by rw [List.length_replicate, nil_caF (fun x hx => by rw [List.eq_of_mem_replicate hx]), ← made_ca]; exact ho3); clear ho3 hg3))
  generalize w2.heap.size = N2 at *
  go_loopw [12] (fun i wr => ∃ (k : Nat) (l : List Ca), k ≤ n ∧ i = .int .i64 k ∧ Hid (l.length = n) ∧ Hid (NilL l) ∧ Hid (RZ W [c] nS (.slice (some ⟨N2, 0, none⟩) n n) l wr)) (fun i _ => n - (intOf i).toNat)
  case atStart => exact ⟨0, _, by omega, rfl, List.length_replicate .., (fun x hx => by rw [List.eq_of_mem_replicate hx]), S3⟩
  case round =>
    clear S3 S2
    obtain ⟨k, l, hk, rfl, hL, hN, hS⟩ := hrel
    by_cases hlt : k < n
    · have k1 : (k : Int) < (n : Int) := by omega
      have k2 : 0 ≤ (k : Int) := by omega
      have hkl : k < l.length := by rw [hL.out]; exact hlt
      have hx : l[k]? = some (l[k]'hkl) := List.getElem?_eq_getElem hkl
      have hrow := hS.out.row
      rw [hL.out] at hrow
      have c0 := hrow.cellAt (k * 3 + 1) (by omega)
      rw [show (caF [c] l)[k * 3 + 1]? = some (.bool (l[k]'hkl).s) from flat_at (caV [c]) 3 (caV_len [c]) l k _ hx 1 (by omega)] at c0
      have f0 := hrow.frozenAt (k * 3 + 1)
      have hNs := (hrow.lt _ rfl).2
      have HT := Lib.hid (fun b => RZ.turn (g := N2) (cap := n) b (by rw [hL.out]; exact hS.out) hx hN.out)
      generalize l[k]'hkl = x at *
      clear hx hkl hrow hS
      go_wp2_with fail
      obtain ⟨l', e1, e2, e3⟩ := HT.out ((k : Int).tmod 2 == 0)
      have HL2 : Hid (l'.length = n) := e1.trans hL.out
      have HN2 : Hid (NilL l') := e2
      rw [HL2.out] at e3
      have HS2 := Lib.hid e3
      clear e1 e2 e3 HT
      go_roundw
      case rel => exact ⟨k + 1, l', by omega, by go_num, HL2, HN2, HS2⟩
      case measure => simp [intOf]; omega
    · obtain rfl : k = n := by omega
      obtain ⟨A9, c9, hv, hX⟩ := hS.out.rd
      rw [hL.out] at hv hX
      cases hv
      have HX := Lib.hid hX
      have e1 : ((!df) == df) = false := by cases df <;> rfl
      have HBN : Hid (BN 100 nS) := by intro s hs; simp [nS] at hs; subst hs; simp [nw]
      clear hX
      go_wp2_with fail
      refine (zs_do (m := 0) df draw 3 (by unfold Wf; decide) hS.out.zs HBN.out HX.out (by omega) (nil_do hN.out df draw (by rw [hL.out]; omega)) rfl).mono ?_
      rintro e w4 ⟨A4, k4, rfl, _, s4, ko4⟩
      have bl := below_al w4 (.cells #[.int .i64 (-1), .int .i64 0, .bool false, .bool false, .bool (!df), .bool false] 46)
      have HS4 := Lib.hid ((hS.out.to s4 ko4).later bl)
      have HX4 := Lib.hid ((HX.out.ko o65 ko4).later bl)
      clear s4 ko4 bl HX hS
      unfold reG
      go_wp2_with fail
      refine (zs_ready (m := 0) (r := []) HS4.out.zs (HBN.out.mono (by omega)) HX4.out (by omega) (nil_rdy hN.out) rfl).mono ?_
      rintro e w5 ⟨A5, k5, rfl, _, s5, ko5⟩
      have HS5 := Lib.hid (HS4.out.to s5 ko5)
      have HX5 := Lib.hid (HX4.out.ko o65 ko5)
      clear s5 ko5 HS4 HX4
      go_wp2_with fail
      refine (zs_leave (S' := nS) (k := 0) 3 HS5.out.zs HBN.out HX5.out (by omega) (nil_lv hN.out 3 _)).mono ?_
      rintro e w6 ⟨rfl, s6, ko6⟩
      have HS6 := Lib.hid (HS5.out.to s6 ko6)
      clear s6 ko6 HS5 HX5
      have r0 : 0 ≤ at_ % ((k : Int) + 1) := Int.emod_nonneg _ (by omega)
      have r1 : at_ % ((k : Int) + 1) < (k : Int) + 1 := Int.emod_lt_of_pos _ (by omega)
      obtain ⟨q, hq⟩ := Int.eq_ofNat_of_zero_le r0
      have hqk : q ≤ k := by omega
      have HQ := Lib.hid (fun w' : World => round_any at_ ((k : Int) + 1) w' (by omega) (by omega))
      rw [hq] at HQ
      have q1 : 0 ≤ (q : Int) := by omega
      have q2 : (q : Int) ≤ (k : Int) := by omega
      clear r0 r1 hq
      go_wp2_with fail
      refine (HQ.out _).mono ?_
      rintro e w' ⟨rfl, rfl⟩
      have hrow := HS6.out.row
      rw [hL.out] at hrow
      have HRD := Lib.hid (Rd.of_own hrow)
      clear hrow HQ
      obtain ⟨S', hD⟩ := nM_do hN.out (show q ≤ l.length by rw [hL.out]; exact hqk) (by rw [hL.out]; exact hn) df draw
      have HD := Lib.hid hD
      clear hD
      have HT := Lib.hid (HRD.out.take hL.out hqk)
      have HDr : Hid (Rd w6 w6.heap.size (if k = q then some ⟨N2, 0, none⟩ else some ⟨N2, q * 3, none⟩) (k - q) 3 (caF [c] (l.drop q))) := by
        by_cases e : k = q
        · subst e
          rw [List.drop_of_length_le (by rw [hL.out]; exact Nat.le_refl _), Nat.sub_self]
          exact Rd.nil _ _ _ _
        · rw [if_neg e]
          exact HRD.out.drop hL.out (by omega)
      have HSz := HS6.out.size
      have HLD : Hid ((l.drop q).length ≤ 14) := by show _ ≤ _; rw [List.length_drop, hL.out]; omega
      go_wp2_with fail
      go_region_law (first
        | (refine step_copyX (w2 := w6) (B := [c]) rfl (.tmp 90) (.tmp 93) rfl _ (some ⟨N2, 0, none⟩) q k (l.take q) rfl rfl (by first | exact hx_e1 _ | exact hx_e2 _ _ | exact hx_e3 _ _) (by first | omega | (simp <;> omega)) (by repeat' (first | exact Below.refl _ _ | (with_reducible assumption) | refine Below.drew ?_ | refine Below.alloc ?_ (by first | omega | (simp <;> omega)) _)) HT.out (by omega) ?_; intro v7 w7 ho7 hb7 hg7; have hs7 := hb7.size; have HO7 := Lib.hid ho7; clear ho7)
        | (refine step_moreX (w2 := w6) (B := [c]) rfl (.tmp 94) (.tmp 97) rfl v7 _ q 1 1 (l.take q) [⟨some 0, false, 0⟩] rfl rfl (HO7.out.alloc _) (Below.alloc hb7 (by first | omega | (simp <;> omega)) _) (Rd.ca w7 [c] ⟨some 0, false, 0⟩ _ rfl) (by omega) (by omega) ?_; intro v8 w8 ho8 hb8; have hs8 := hb8.size; have HO8 := Lib.hid ho8; clear ho8)
        | (refine step_moreX (w2 := w6) (B := [c]) rfl (.tmp 94) (.tmp 97) rfl v7 _ q 1 1 (l.take q) [⟨some 0, false, 0⟩] rfl rfl HO7.out hb7 (rd_blkX (x := ⟨some 0, false, 0⟩) (kept hg7 (by first | exact heap_w2 _ _ _ | exact heap_w3 _ _ _) (by first | omega | (simp <;> omega)))) (by omega) (by omega) ?_; intro v8 w8 ho8 hb8; have hs8 := hb8.size; have HO8 := Lib.hid ho8; clear ho8)
        | (refine step_moreX (w2 := w6) (B := [c]) rfl (.tmp 98) (.tmp 101) rfl v8 _ (q + 1) (k - q) (k - q) (l.take q ++ [⟨some 0, false, 0⟩]) (l.drop q) rfl rfl HO8.out hb8 (HDr.out.later hb8) (by omega) (by omega) ?_; intro v9 w9 ho9 hb9; have HR9 : Hid (w9.ownsRow w6.heap.size 65 3 v9 (k + 1) (caF [c] (nM l q)) ∧ Below w6.heap.size w6 w9) := ⟨by rw [show q + 1 + (k - q) = k + 1 by omega] at ho9; exact ho9, hb9⟩; clear ho9 hb9))
      all_goals
        obtain ⟨A10, c10, hv10, hX10⟩ := RdX.of_own (by rw [nM_len (by rw [hL.out]; exact hqk), hL.out]) HR9.out.1
        subst hv10
        have HX10 := Lib.hid hX10
        have HZ9 := Lib.hid (HS6.out.zs.later HR9.out.2)
        clear hX10 HR9 HS6 HT HDr HRD
        generalize (if k = q then some (⟨N2, 0, none⟩ : Addr) else some ⟨N2, q * 3, none⟩) = AA at *
        go_wp2_with fail
        refine (zs_do (m := 0) df draw 3 (by unfold Wf; decide) HZ9.out HBN.out HX10.out (by omega) HD.out rfl).mono ?_
        rintro e w10 ⟨A11, k11, rfl, _, s11, _⟩
        have HZ10 := Lib.hid (s11.alloc (.cells #[.int .i64 q, .int .i64 6, .bool true, .bool false, .bool false, .bool false] 46))
        clear s11 HZ9 HX10
        unfold reG
        go_wp2_with fail
        refine (awake_any _).mono ?_
        rintro e w12 ⟨rfl, hb⟩
        have HBB := Lib.hid (HZ10.out.bel.trans (hb.mono HZ10.out.bel.size))
        clear hb HZ10
        go_wp2_with fail
        go_ret
        exact ⟨rfl, HBB.out⟩
set_option maxRecDepth 100000 in
theorem nil_walk (n at_ : Int) (df : Bool) (draw : Int) (W : World) : Calls Try.prog 7 #[.int .i64 n, .int .i64 at_, .bool df, .int .i64 draw] W (BoolR true W) := by
  by_cases h1 : 0 ≤ n ∧ n ≤ 14
  · obtain ⟨n, rfl⟩ := Int.eq_ofNat_of_zero_le h1.1
    exact nil_in n at_ df draw W (by omega)
  · have HW := Lib.hid (awake_any W)
    by_cases h2 : n < 0
    · clear h1
      go_enter Try.func7, Try.ntmps7
      go_wp2_with fail
      refine HW.out.mono ?_
      rintro e w' ⟨rfl, hb⟩
      have HB := Lib.hid hb
      clear hb
      go_wp2_with fail
      go_ret
      exact ⟨rfl, HB.out⟩
    · have b2 : 14 < n := by omega
      clear h1
      go_enter Try.func7, Try.ntmps7
      go_wp2_with fail
      refine HW.out.mono ?_
      rintro e w' ⟨rfl, hb⟩
      have HB := Lib.hid hb
      clear hb
      go_wp2_with fail
      go_ret
      exact ⟨rfl, HB.out⟩
end Go.Proofs.Ytmcacmbllpphiaa
