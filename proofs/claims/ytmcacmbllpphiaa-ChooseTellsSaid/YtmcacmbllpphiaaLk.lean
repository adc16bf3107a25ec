/- look goes over all cases once: which can be done, and which may not; Ready. Conditions: each theorem's own premises. -/
import Derived.Test.YtmcacmbllpphiaaWr
namespace Go.Proofs.Ytmcacmbllpphiaa
open Go.RowKit
set_option linter.unusedVariables false

theorem o65 : Oth 65 := by unfold Oth; decide
theorem o97 : Oth 97 := by unfold Oth; decide
theorem o35 : Oth 35 := by unfold Oth; decide
theorem o46 : Oth 46 := by unfold Oth; decide
theorem o51 : Oth 51 := by unfold Oth; decide
theorem o75 : Oth 75 := by unfold Oth; decide
theorem inf3n : (Try.prog.info? 3).map (fun i => (i.zero, i.size, i.bytes)) = some (some (.int .i64 0), 1, 8) := by kernel_rfl
theorem own_kept {w w' : World} {base n sz : Nat} {e : TypeId} {v : Value} {xs : List Value} (h : w.ownsRow base e sz v n xs) (k : ∀ b, v.ownBlock = some b → w'.heap[b]? = w.heap[b]?) : w'.ownsRow base e sz v n xs := by
  refine ⟨h.1, ?_⟩
  rcases h.2 with hn | ⟨g, cap, cur, q1, q2, q3, q4⟩
  · exact .inl hn
  · exact .inr ⟨g, cap, cur, q1, q2, by rw [k g (by rw [q1]; rfl)]; exact q3, q4⟩
theorem own_tg {w : World} {base n sz : Nat} {e : TypeId} {v : Value} {xs : List Value} (h : w.ownsRow base e sz v n xs) {b : Nat} (hb : v.ownBlock = some b) : ∃ cs, w.heap[b]? = some (.cells cs e (0, 0)) := by
  rcases h.2 with ⟨rfl, _⟩ | ⟨g, cap, cur, rfl, q2, q3, q4⟩
  · cases hb
  · cases hb; exact ⟨_, q3⟩
/-- Channels beside a row of places of the call's own; since w0. -/
structure LK (W : World) (B : List Nat) (S : List CS) (F : Nat → Prop) (w0 : World) (v : Value) (r : List Nat) (w : World) : Prop where
  pc : ∃ F1, PC W B S [] [] F1 w ∧ (∀ b, F1 b → F b ∨ w0.heap.size ≤ b) ∧ Kf F [] w0 w ∧ ∀ b, v.ownBlock = some b → ¬ F1 b
  row : w.ownsRow w0.heap.size 3 1 v r.length (nI r)
  wl : W.heap.size ≤ w0.heap.size
section
variable {W w0 w w' : World} {B : List Nat} {S : List CS} {F : Nat → Prop} {v v' : Value} {r r' : List Nat}
theorem LK.start (h : PC W B S [] [] F w) : LK W B S F w (.slice none 0 0) [] w := ⟨⟨F, h, fun b hb => .inl hb, Kf.refl _ _ _, fun b h => by cases h⟩, World.ownsRow_nil _ _ _ _, h.bel.size⟩
theorem LK.pn (h : LK W B S F w0 v r w) : PN W B S [] [] F w0 w := by obtain ⟨⟨F1, h1, h2, h3, _⟩, _, _⟩ := h; exact ⟨F1, h1, h2, h3⟩
theorem LK.size (h : LK W B S F w0 v r w) : w0.heap.size ≤ w.heap.size := by obtain ⟨⟨F1, h1, h2, h3, _⟩, _, _⟩ := h; exact h3.1
theorem LK.later (h : LK W B S F w0 v r w) (hb : Below w.heap.size w w') : LK W B S F w0 v r w' := by
  obtain ⟨⟨F1, h1, h2, h3, h4⟩, h5, h6⟩ := h
  exact ⟨⟨F1, h1.later hb, h2, h3.trans h2 (Kf.of_below (F := F1) hb), h4⟩, own_kept h5 fun b e => hb.block b (h5.lt b e).2, h6⟩
theorem LK.at (h : LK W B S F w0 v r w) : ∃ F1, PC W B S [] [] F1 w ∧ ∀ w', PN W B S [] [] F1 w w' → LK W B S F w0 v r w' ∧ Kf F1 [] w w' := by
  obtain ⟨⟨F1, h1, h2, h3, h4⟩, h5, h6⟩ := h
  refine ⟨F1, h1, fun w' ⟨F2, k1, k2, k3⟩ => ⟨⟨⟨F2, k1, fun b hb => ?_, h3.trans h2 k3, fun b e hb => ?_⟩, own_kept h5 fun b e => k3.2 b (h5.lt b e).2 (h4 b e) (by simp), h6⟩, k3⟩⟩
  · rcases k2 b hb with h9 | h9
    · exact h2 b h9
    · exact .inr (Nat.le_trans h3.1 h9)
  · rcases k2 b hb with h9 | h9
    · exact h4 b e h9
    · have := (h5.lt b e).2; omega
theorem LK.grow (h : LK W B S F w0 v r w) (hg : w.grownBy w' v.ownBlock) (row : w'.ownsRow w0.heap.size 3 1 v' r'.length (nI r')) (ho : ∀ b, v'.ownBlock = some b → v.ownBlock = some b ∨ b = w.heap.size) : LK W B S F w0 v' r' w' := by
  obtain ⟨⟨F1, h1, h2, h3, h4⟩, h5, h6⟩ := h
  have hW := h1.bel
  have hne : ∀ b, F1 b → v.ownBlock ≠ some b := fun b hf e => h4 b e hf
  have hB : Below W.heap.size W w' := below_app hW h6 hW.size h5 hg
  obtain ⟨G, g1, g2, g3, g4⟩ := h1.ch
  refine ⟨⟨F1, ⟨hB, h1.low, ⟨G, fun i c s e1 e2 => ?_, g2, g3, g4⟩, h1.eb, rfl, fun i m t h => by simp at h, List.nodup_nil⟩, h2, ⟨Nat.le_trans h3.1 hg.size, fun k hk hf hc => ?_⟩, fun b e hf => ?_⟩, row, h6⟩
  · have hd := g1 i c s e1 e2
    exact hd.keep fun b hb => hg.block b (hd.lt hb) fun e => hne b (g2 i b hb).1 e.symm
  · refine (hg.block k (by have := h3.1; omega) fun e => ?_).trans (h3.2 k hk hf hc)
    have := (h5.lt k e.symm).1; omega
  · rcases ho b e with h9 | h9
    · exact h4 b h9 hf
    · have := h1.lt hf; omega
/-- Who is not asked stays. -/
theorem PN.lift {C : List Nat} {T : List CS} {S' : List CS} (h : PC W B S C T F w) (k : PN W B S' [] [] F w w') : PN W B S' C T F w w' := by
  obtain ⟨F', k1, k2, k3⟩ := k
  refine ⟨F', ⟨k1.bel, k1.low, k1.ch, k1.eb, h.ec, fun i m t e1 e2 => ?_, h.nc⟩, k2, k3.1, fun b hb hf _ => k3.2 b hb hf (by simp)⟩
  obtain ⟨q1, q2⟩ := h.md i m t e1 e2
  have hmc : m ∈ C := List.mem_of_getElem? e1
  refine ⟨q1, q2.keepF k3.1 (k3.2 m q2.lt (h.nf hmc) (by simp)) (fun b hb ho => k3.2 b hb ho.1 (by simp)) (fun b hb ho => ⟨fun hf => ?_, ho.2⟩) (fun h9 => h9.2 hmc)⟩
  rcases k2 b hf with h9 | h9
  · exact ho.1 h9
  · omega
theorem PC.drop {C : List Nat} {T : List CS} (h : PC W B S C T F w) : PC W B S [] [] F w := ⟨h.bel, h.low, h.ch, h.eb, rfl, fun i m t h => by simp at h, List.nodup_nil⟩

/-! The walk. -/
def LoR (W : World) (B : List Nat) (S : List CS) (F : Nat → Prop) (l : List Ca) (w : World) (e : Ending) (w' : World) : Prop :=
  ∃ A cap, e = .returned (.tuple #[.slice A (rdy S l l.length).length cap, .int .i64 (wrI (wrg S l l.length))]) ∧ Rd w' w'.heap.size A (rdy S l l.length).length 1 (nI (rdy S l l.length)) ∧ PN W B S [] [] F w w'
theorem wrI_eq (o : Option Nat) : (wrI o == -1) = o.isNone := by
  cases o with
  | none => rfl
  | some i => simp only [wrI, Option.isNone_some, beq_eq_false_iff_ne]; omega
set_option maxRecDepth 100000 in
set_option maxHeartbeats 4000000 in
theorem look_any {A : Option Addr} {n cap : Nat} {l : List Ca} (h : PC W B S [] [] F w) (hb : BN 1000 S) (hl : RdX 65 B w A n l) (hn : n ≤ 1000) : Calls Try.prog 45 #[.slice A n cap] w (LoR W B S F l w) := by
  obtain ⟨i0, hi, hz0, hz1, hz2⟩ := info_parts inf3n
  have HB := Lib.hid hb
  have HX := Lib.hid hl
  have HLN : Hid (l.length = n) := hl.1
  have HS : Hid (LK W B S F w (.slice none 0 0) (rdy S l 0) w) := LK.start h
  have HX0 : Hid (RdX 65 B w A n l) := hl
  have b1 : (n : Int) ≤ 1000 := by omega
  have b2 : 0 ≤ (n : Int) := by omega
  clear h hb hl HX
  go_enter Try.func45, Try.ntmps45
  go_wp2_with fail
  go_loopw [2, 3, 8] (fun v g i wr => ∃ k : Nat, k ≤ n ∧ i = .int .i64 k ∧ g = .int .i64 (wrI (wrg S l k)) ∧ Hid (RdX 65 B wr A n l) ∧ Hid (LK W B S F w v (rdy S l k) wr)) (fun _ _ i _ => n - (intOf i).toNat)
  case atStart => exact ⟨0, by omega, rfl, rfl, HX0, HS⟩
  case round =>
    clear HS HX0
    obtain ⟨k, hk, rfl, rfl, hX, hS⟩ := hrel
    by_cases hlt : k < n
    · have k1 : (k : Int) < (n : Int) := by omega
      have k2 : 0 ≤ (k : Int) := by omega
      have hkl : k < l.length := by rw [HLN.out]; exact hlt
      have hx : l[k]? = some (l[k]'hkl) := List.getElem?_eq_getElem hkl
      have HK := Lib.hid hx
      obtain ⟨bb, off, cs, rfl, hbb, c0, c1, c2⟩ := hX.out.at hx
      generalize l[k]'hkl = x at *
      have hbs := lt_of_blk hbb
      have HX1 := Lib.hid (hX.out.later (below_al wr (.cells #[.pointer (ptr B x), .bool x.s, .int .i64 x.v] 65)))
      have HS1 := Lib.hid (hS.out.later (below_al wr (.cells #[.pointer (ptr B x), .bool x.s, .int .i64 x.v] 65)))
      have HA1 : Hid ((wr.alloc (.cells #[.pointer (ptr B x), .bool x.s, .int .i64 x.v] 65)).heap[wr.heap.size]? = some (.cells #[.pointer (ptr B x), .bool x.s, .int .i64 x.v] 65 (0, 0))) := heap_alloc_new _ _
      have HC := Lib.hid (fun F1 (hp : PC W B S [] [] F1 (wr.alloc (.cells #[.pointer (ptr B x), .bool x.s, .int .i64 x.v] 65))) => pc_can x hp)
      have HRL : Hid ((rdy S l k).length ≤ 1000) := by have := rdy_len S l k; show _ ≤ _; omega
      clear hx hkl hX hS hbb
      go_wp2_with fail
      obtain ⟨F1, hp, _⟩ := HS1.out.at
      refine (HC.out _ hp).mono ?_
      rintro e w' ⟨rfl, nd, rfl⟩
      have HX2 := Lib.hid (HX1.out.later (below_drewN (Below.refl _ _) nd))
      have HS2 := Lib.hid (HS1.out.later (below_drewN (Below.refl _ _) nd))
      have HA2 : Hid (((wr.alloc (.cells #[.pointer (ptr B x), .bool x.s, .int .i64 x.v] 65)).drewN nd).heap[wr.heap.size]? = some (.cells #[.pointer (ptr B x), .bool x.s, .int .i64 x.v] 65 (0, 0))) := HA1.out
      clear HX1 HS1 HA1 HC hp c0 c1 c2
      generalize (wr.alloc (.cells #[.pointer (ptr B x), .bool x.s, .int .i64 x.v] 65)).drewN nd = w2 at *
      generalize wr.heap.size = N at *
      cases hcan : canO S x with
      | true =>
        have HR : Hid (rdy S l (k + 1) = rdy S l k ++ [k]) := rdy_yes HK.out hcan
        have HW : Hid (wrg S l (k + 1) = wrg S l k) := wrg_same HK.out (by
          cases hq : kndO S x with
          | false => rfl
          | true => rw [knd_can hq] at hcan; cases hcan)
        go_wp2_with (at_builtin; go_loud (refine wpList_append_lies _ rfl (.tmp 19) (.tmp 21) 22 rfl w.heap.size 3 i0 (.int .i64 0) 1 8 Try.underlying22 hi hz0 hz1 hz2 rfl (by decide) u2 (rdy S l k).length (nI (rdy S l k)) rfl (HS2.out.later (below_al _ _)).row ⟨w2.heap.size, 0, none⟩ 1 1 [.int .i64 (k : Int)] rfl rfl (by intro j u hu; rw [add_plain, Nat.zero_add, cell_of_row _ _ _ _ _ _ (heap_alloc_new w2 (.cells #[.int .i64 (k : Int)] 3))]; simpa using hu) (by simp [Value.oneCell']) (by omega) (by have := HRL.out; unfold maxLen; omega) (by have := HRL.out; omega) (by have := HS2.out.size; simp; omega) _ rfl ?_; intro gb gc wA hoA hgA hat hlA; have TA : Hid (LK W B S F w (.slice (some ⟨gb, 0, none⟩) ((rdy S l k).length + 1) gc) (rdy S l (k + 1)) wA) := LK.grow (HS2.out.later (below_al _ _)) hgA (by rw [HR.out, List.length_append, nI_app]; exact hoA) (by intro b hb; cases hb; exact hat); have XA : Hid (RdX 65 B wA (some ⟨bb, off, none⟩) n l) := RdX.keep (HX2.out.later (below_al w2 (.cells #[.int .i64 (k : Int)] 3))) (fun b cs e => grow_blk (HS2.out.later (below_al w2 (.cells #[.int .i64 (k : Int)] 3))).row hgA e (by decide) |>.trans e); clear hoA hgA hat hlA))
        go_roundw
        case rel => exact ⟨k + 1, by omega, by go_num, by rw [HW.out], XA, TA⟩
        case measure => simp [intOf]; omega
      | false =>
        have HR : Hid (rdy S l (k + 1) = rdy S l k) := rdy_no HK.out hcan
        have a0 := cell_of_row w2 N 0 _ _ _ HA2.out
        have a1 := cell_of_row w2 N 1 _ _ _ HA2.out
        have a2 := cell_of_row w2 N 2 _ _ _ HA2.out
        simp only [List.getElem?_toArray, List.getElem?_cons_succ, List.getElem?_cons_zero] at a0 a1 a2
        have hNs := lt_of_blk HA2.out
        have HC := Lib.hid (fun F1 (hp : PC W B S [] [] F1 w2) => wrong_any x hp HB.out hcan)
        unfold caG at HC
        cases hw : wrg S l k with
        | some i =>
          have HW : Hid (wrg S l (k + 1) = some i) := wrg_some hw
          have e9 : (wrI (some i) == -1) = false := by rw [wrI_eq]; rfl
          generalize hg : wrI (some i) = g at *
          have HG : Hid (wrI (some i) = g) := hg
          clear hw hg
          go_wp2_with fail
          go_roundw
          case rel => exact ⟨k + 1, by omega, by go_num, by rw [HW.out, HG.out], HX2, by rw [HR.out]; exact HS2⟩
          case measure => simp [intOf]; omega
        | none =>
          have HW0 : Hid (wrg S l k = none) := hw
          simp only [wrI] at *
          clear hw
          go_wp2_with fail
          obtain ⟨F1, hp, hbk⟩ := HS2.out.at
          refine (HC.out _ hp).mono ?_
          rintro e w3 ⟨rfl, g3⟩
          have HX3 := Lib.hid (HX2.out.kf o65 hp (hbk _ g3).2)
          have HS3 := Lib.hid (hbk _ g3).1
          clear hp hbk g3 HC HS2 HX2 HA2 a0 a1 a2 hNs
          cases hkn : kndO S x with
          | true =>
            have HW : Hid (wrg S l (k + 1) = some k) := wrg_set HK.out hkn HW0.out
            go_wp2_with fail
            go_roundw
            case rel => exact ⟨k + 1, by omega, by go_num, by rw [HW.out]; rfl, HX3, by rw [HR.out]; exact HS3⟩
            case measure => simp [intOf]; omega
          | false =>
            have HW : Hid (wrg S l (k + 1) = none) := (wrg_same HK.out hkn).trans HW0.out
            go_wp2_with fail
            go_roundw
            case rel => exact ⟨k + 1, by omega, by go_num, by rw [HW.out]; rfl, HX3, by rw [HR.out]; exact HS3⟩
            case measure => simp [intOf]; omega
    · obtain rfl : k = n := by omega
      obtain ⟨A9, c9, hv, _, _⟩ := own_cap hS.out.row
      subst hv
      have HO : Hid (Rd wr wr.heap.size A9 (rdy S l k).length 1 (nI (rdy S l k)) ∧ PN W B S [] [] F w wr) := ⟨Rd.of_own hS.out.row, hS.out.pn⟩
      clear hS hX
      go_wp2_with fail
      go_ret2
      refine ⟨A9, c9, ?_, ?_, HO.out.2⟩
      · rw [HLN.out]; rfl
      · rw [HLN.out]; exact HO.out.1
/-- Which can be done. -/
def RyR (W : World) (B : List Nat) (S : List CS) (F : Nat → Prop) (l : List Ca) (w : World) (e : Ending) (w' : World) : Prop :=
  ∃ A cap, e = .returned (.slice A (rdy S l l.length).length cap) ∧ Rd w' w'.heap.size A (rdy S l l.length).length 1 (nI (rdy S l l.length)) ∧ PN W B S [] [] F w w'
theorem ready_any {A : Option Addr} {n cap : Nat} {l : List Ca} (h : PC W B S [] [] F w) (hb : BN 1000 S) (hl : RdX 65 B w A n l) (hn : n ≤ 1000) : Calls Try.prog 14 #[.slice A n cap] w (RyR W B S F l w) := by
  have HL := Lib.hid (look_any (cap := cap) h hb hl hn)
  clear h hb hl
  go_enter Try.func14, Try.ntmps14
  go_wp2_with fail
  refine HL.out.mono ?_
  rintro e w1 ⟨A1, c1, rfl, h1, h2⟩
  have H1 : Hid (Rd w1 w1.heap.size A1 (rdy S l l.length).length 1 (nI (rdy S l l.length)) ∧ PN W B S [] [] F w w1) := ⟨h1, h2⟩
  clear h1 h2 HL
  go_wp2_with fail
  go_ret
  exact ⟨A1, c1, rfl, H1.out.1, H1.out.2⟩
end
end Go.Proofs.Ytmcacmbllpphiaa
