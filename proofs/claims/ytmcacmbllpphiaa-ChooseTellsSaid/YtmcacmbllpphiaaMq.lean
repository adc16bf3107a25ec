/- The document's own: Ready, Leave, over cases. Conditions: each theorem's own premises. -/
import Derived.Test.YtmcacmbllpphiaaPx
import Derived.Test.YtmcacmbllpphiaaDx
import Derived.Test.YtmcacmbllpphiaaMt
import Derived.Test.YtmcacmbllpphiaaMx
namespace Go.Proofs.Ytmcacmbllpphiaa
open Go.RowKit
set_option linter.unusedVariables false
/-- What is asked of the document's own. -/
def GdT (n : Nat) (T : List CS) : Prop := ∀ t ∈ T, t.kd ≤ 2 ∧ t.sz ≤ 64 ∧ t.l.length ≤ 1000 ∧ nw t ≤ n
theorem GdT.at {n i : Nat} {T : List CS} {t : CS} (h : GdT n T) (hi : T[i]? = some t) : t.kd ≤ 2 ∧ t.sz ≤ 64 ∧ t.l.length ≤ 1000 ∧ nw t ≤ n := h t (List.mem_of_getElem? hi)
theorem GdT.set {n i : Nat} {T : List CS} {t : CS} (h : GdT n T) (ht : t.kd ≤ 2 ∧ t.sz ≤ 64 ∧ t.l.length ≤ 1000 ∧ nw t ≤ n) : GdT n (T.set i t) := fun u hu => by
  rcases List.mem_or_eq_of_mem_set hu with h1 | rfl
  · exact h u h1
  · exact ht
theorem GdT.mono {n m : Nat} {T : List CS} (h : GdT n T) (hm : n ≤ m) : GdT m T := fun t ht => by obtain ⟨a, b, c, d⟩ := h t ht; exact ⟨a, b, c, by omega⟩
theorem wt_gd (s : CS) (x : Wt) (b : Bool) {n : Nat} (h : s.kd ≤ 2 ∧ s.sz ≤ 64 ∧ s.l.length ≤ 1000 ∧ nw s ≤ n) : (wt s x b).1.kd ≤ 2 ∧ (wt s x b).1.sz ≤ 64 ∧ (wt s x b).1.l.length ≤ 1000 ∧ nw (wt s x b).1 ≤ n + 1 := by
  have h9 := nw_wt s x b
  obtain ⟨h1, h2, h3, h4⟩ := h
  refine ⟨?_, ?_, ?_, by omega⟩
  all_goals
    unfold wt
    split
    · assumption
    · split
      · assumption
      · split
        · assumption
        · cases b <;> assumption
theorem gone_gd (s : CS) (t : Int) {n : Nat} (h : s.kd ≤ 2 ∧ s.sz ≤ 64 ∧ s.l.length ≤ 1000 ∧ nw s ≤ n) : (gone s t).kd ≤ 2 ∧ (gone s t).sz ≤ 64 ∧ (gone s t).l.length ≤ 1000 ∧ nw (gone s t) ≤ n := by
  have h9 := nw_gone s t
  exact ⟨h.1, h.2.1, h.2.2.1, by omega⟩
theorem GdT.p1 {n : Nat} {T : List CS} (h : GdT n T) (x : Ca) (t k : Int) : GdT (n + 1) (pk1 T x t k) := by
  unfold pk1
  cases x.ix with
  | none => exact h.mono (by omega)
  | some j =>
    simp only
    cases hs : T[j]? with
    | none => exact h.mono (by omega)
    | some s => exact (h.mono (by omega)).set (wt_gd s _ _ (h.at hs))
theorem GdT.pS {n : Nat} {T : List CS} (h : GdT n T) (l : List Ca) (t : Int) : ∀ k, GdT (n + k) (pkS T l t k)
  | 0 => h
  | k + 1 => by
    unfold pkS
    cases l[k]? with
    | none => exact (GdT.pS h l t k).mono (by omega)
    | some x => exact (GdT.pS h l t k).p1 x t k
theorem GdT.l1 {n : Nat} {T : List CS} (h : GdT n T) (x : Ca) (t : Int) : GdT n (lv1 T x t).1 := by
  unfold lv1
  cases x.ix with
  | none => exact h
  | some j =>
    simp only
    cases hs : T[j]? with
    | none => exact h
    | some s => exact h.set (gone_gd s t (h.at hs))
theorem GdT.lS {n : Nat} {T : List CS} (h : GdT n T) (l : List Ca) (t : Int) : ∀ k, GdT n (lvS T l t k).1
  | 0 => h
  | k + 1 => by
    unfold lvS
    cases l[k]? with
    | none => exact GdT.lS h l t k
    | some x => exact (GdT.lS h l t k).l1 x t
theorem GdT.bn {n : Nat} {T : List CS} (h : GdT n T) : BN n T := fun s hs => (h s hs).2.2.2
section
variable {W w0 w w' : World} {B C : List Nat} {S T T' : List CS} {F : Nat → Prop} {X : List Nat} {A : Option Addr} {n : Nat} {l : List Ca}
theorem px_remove (x : Ca) (t : Int) (h : PX W B S C T F X w) (hg : GdT 1000 T) : Calls Try.prog 38 #[.pointer (ptr C x), .int .i64 t] w fun e w' => e = .returned (.int .i64 (lv1 T x t).2) ∧ PX W B S C (lv1 T x t).1 F X w' ∧ Kf F C w w' := by
  rcases h.pc.caseM x with ⟨h1, h2⟩ | ⟨j, c, s, hx, hB, hS, h1, h2⟩
  · have e : lv1 T x t = (T, 0) := by
      unfold lv1
      unfold chO at h2
      cases hi : x.ix with
      | none => rfl
      | some j => rw [hi] at h2; simp only [Option.bind_some] at h2; simp only [h2]
    rw [h1, e]
    refine (mremove_nil t w).mono ?_
    rintro e w' ⟨rfl, rfl⟩
    exact ⟨rfl, h, Kf.refl _ _ _⟩
  · have e : lv1 T x t = (T.set j (gone s t), ctG s t) := by unfold lv1; rw [hx]; simp only; rw [hS]
    rw [h1, e]
    obtain ⟨ok, hm, bk⟩ := h.model hB hS
    obtain ⟨_, _, _, hn⟩ := hg.at hS
    refine (mremove t hm (by unfold nw at hn; omega) (by unfold nw at hn; omega)).mono ?_
    rintro e w' ⟨rfl, g⟩
    exact ⟨rfl, bk _ _ g⟩
theorem px_wait (x : Ca) (t k : Int) (h : PX W B S C T F X w) (hg : GdT 1000 T) : Calls Try.prog 36 #[.pointer (ptr C x), wG ⟨t, k, if x.s = true then x.v else 0⟩, .bool x.s] w fun e w' => (∃ r, e = .returned (.int .i64 r)) ∧ PX W B S C (pk1 T x t k) F X w' ∧ Kf F C w w' := by
  rcases h.pc.caseM x with ⟨h1, h2⟩ | ⟨j, c, s, hx, hB, hS, h1, h2⟩
  · have e : pk1 T x t k = T := by
      unfold pk1
      unfold chO at h2
      cases hi : x.ix with
      | none => rfl
      | some j => rw [hi] at h2; simp only [Option.bind_some] at h2; simp only [h2]
    rw [h1, e]
    refine (mwait_nil ⟨t, k, if x.s = true then x.v else 0⟩ x.s w).mono ?_
    rintro e w' ⟨rfl, hb⟩
    exact ⟨⟨_, rfl⟩, h.later hb, Kf.of_below hb⟩
  · have e : pk1 T x t k = T.set j (wt s ⟨t, k, if x.s = true then x.v else 0⟩ x.s).1 := by unfold pk1; rw [hx]; simp only; rw [hS]
    rw [h1, e]
    obtain ⟨ok, hm, bk⟩ := h.model hB hS
    obtain ⟨k1, _, k3, hn⟩ := hg.at hS
    refine (mwait_any ⟨t, k, if x.s = true then x.v else 0⟩ x.s hm k1 (by unfold nw at hn; omega) (by unfold nw at hn; omega) k3).mono ?_
    rintro e w' ⟨rfl, g⟩
    exact ⟨⟨_, rfl⟩, bk _ _ g⟩
theorem px_send (x : Ca) (h : PX W B S C T F X w) (hg : GdT 1000 T) (hs : x.s = true) (hc : canO T x = true) : ∃ j s, x.ix = some j ∧ T[j]? = some s ∧ can s true = true ∧ Calls Try.prog 31 #[.pointer (ptr C x), .int .i64 x.v] w fun e w' => ∃ A cap, e = .returned (.tuple #[.bool (sn s x.v).2.2.1, .slice A (sn s x.v).2.1.length cap, .int .i64 (sn s x.v).2.2.2]) ∧ RdK w' A (sn s x.v).2.1.length (sn s x.v).2.1 ∧ PX W B S C (T.set j (sn s x.v).1) F X w' ∧ Kf F C w w' := by
  rcases h.pc.caseM x with ⟨h1, h2⟩ | ⟨j, c, s, hx, hB, hS, h1, h2⟩
  · unfold canO at hc; rw [h2] at hc; cases hc
  · have e2 : canO T x = can s true := by unfold canO; rw [h2, hs]
    rw [e2] at hc
    refine ⟨j, s, hx, hS, hc, ?_⟩
    rw [h1]
    obtain ⟨ok, hm, bk⟩ := h.model hB hS
    obtain ⟨k1, k2, k3, hn⟩ := hg.at hS
    unfold sn
    split
    · rename_i hk
      refine (mSend_kind x.v hm hk k1).mono ?_
      rintro e w' ⟨rfl, rfl⟩
      refine ⟨none, 0, rfl, RdK.nil _ _, ?_⟩
      rw [set_same hS]
      exact ⟨h, Kf.refl _ _ _⟩
    · rename_i hk
      have hk' : s.kd = 0 := by omega
      split
      · rename_i hcl
        refine (mSend_closed x.v hm hk' hcl).mono ?_
        rintro e w' ⟨rfl, rfl⟩
        refine ⟨none, 0, rfl, RdK.nil _ _, ?_⟩
        rw [set_same hS]
        exact ⟨h, Kf.refl _ _ _⟩
      · rename_i hcl
        refine (mSend_go x.v hm hk' (by simpa using hcl) k2 k3 (by unfold nw at hn; omega)).mono ?_
        rintro e w' ⟨A, cap, rfl, hr, g⟩
        exact ⟨A, cap, rfl, hr, bk _ _ g⟩
theorem px_recv (x : Ca) (h : PX W B S C T F X w) (hg : GdT 1000 T) (hc : canO T x = true) : ∃ j s, x.ix = some j ∧ T[j]? = some s ∧ Calls Try.prog 33 #[.pointer (ptr C x)] w fun e w' => ∃ A cap, e = .returned (.tuple #[.int .i64 (rc s).2.1, .bool (rc s).2.2.1, .bool (rc s).2.2.2.1, .slice A (rc s).2.2.2.2.length cap]) ∧ RdK w' A (rc s).2.2.2.2.length (rc s).2.2.2.2 ∧ PX W B S C (T.set j (rc s).1) F X w' ∧ Kf F C w w' := by
  rcases h.pc.caseM x with ⟨h1, h2⟩ | ⟨j, c, s, hx, hB, hS, h1, h2⟩
  · unfold canO at hc; rw [h2] at hc; cases hc
  · refine ⟨j, s, hx, hS, ?_⟩
    rw [h1]
    obtain ⟨ok, hm, bk⟩ := h.model hB hS
    obtain ⟨k1, k2, k3, hn⟩ := hg.at hS
    refine (mrecv_any hm k3 (by unfold nw at hn; omega)).mono ?_
    rintro e w' ⟨A, cap, rfl, hr, g⟩
    exact ⟨A, cap, rfl, hr, bk _ _ g⟩
/-- Since w0. -/
structure PL (W : World) (B : List Nat) (S : List CS) (C : List Nat) (T : List CS) (F : Nat → Prop) (X : List Nat) (w0 : World) (A : Option Addr) (n : Nat) (l : List Ca) (w : World) : Prop where
  px : PX W B S C T F X w
  kf : Kf F C w0 w
  rd : RdX 97 C w A n l
theorem PL.later (h : PL W B S C T F X w0 A n l w) (hb : Below w.heap.size w w') : PL W B S C T F X w0 A n l w' := ⟨h.px.later hb, h.kf.trans (fun b hb => .inl hb) (Kf.of_below (F := F) hb), h.rd.later hb⟩
theorem PL.to (h : PL W B S C T F X w0 A n l w) (p : PX W B S C T' F X w') (k : Kf F C w w') : PL W B S C T' F X w0 A n l w' := ⟨p, h.kf.trans (fun b hb => .inl hb) k, h.rd.kf o97 h.px.pc k⟩
theorem PL.size (h : PL W B S C T F X w0 A n l w) : w0.heap.size ≤ w.heap.size := h.kf.1
set_option maxRecDepth 100000 in
set_option maxHeartbeats 4000000 in
theorem mleave_any {cap : Nat} (t : Int) (h : PX W B S C T F X w) (hg : GdT 100 T) (hl : RdX 97 C w A n l) (hn : n ≤ 1000) : Calls Try.prog 21 #[.slice A n cap, .int .i64 t] w fun e w' => e = .returned (.int .i64 (lvS T l t l.length).2) ∧ PX W B S C (lvS T l t l.length).1 F X w' ∧ Kf F C w w' := by
  have HB := Lib.hid hg
  have HLN : Hid (l.length = n) := hl.1
  have HS : Hid (PL W B S C (lvS T l t 0).1 F X w A n l w) := ⟨h, Kf.refl _ _ _, hl⟩
  have b1 : (n : Int) ≤ 1000 := by omega
  have b2 : 0 ≤ (n : Int) := by omega
  clear h hg hl
  go_enter Try.func21, Try.ntmps21
  go_wp2_with fail
  go_loopw [5, 6] (fun g i wr => ∃ k : Nat, k ≤ n ∧ i = .int .i64 k ∧ g = .int .i64 (lvS T l t k).2 ∧ Hid (PL W B S C (lvS T l t k).1 F X w A n l wr)) (fun _ i _ => n - (intOf i).toNat)
  case atStart => exact ⟨0, by omega, rfl, rfl, HS⟩
  case round =>
    clear HS
    obtain ⟨k, hk, rfl, rfl, hS⟩ := hrel
    by_cases hlt : k < n
    · have k1 : (k : Int) < (n : Int) := by omega
      have k2 : 0 ≤ (k : Int) := by omega
      have hkl : k < l.length := by rw [HLN.out]; exact hlt
      have hx : l[k]? = some (l[k]'hkl) := List.getElem?_eq_getElem hkl
      have HK := Lib.hid hx
      obtain ⟨bb, off, cs, rfl, hbb, c0, c1, c2⟩ := hS.out.rd.at hx
      generalize l[k]'hkl = x at *
      have HC := Lib.hid (px_remove x t hS.out.px ((HB.out.lS l t k).mono (by omega)))
      have hct := BN.ct HB.out.bn l t k
      have hct1 := BN.ct1 (BN.lS HB.out.bn l t k) x t
      have HE : Hid (lvS T l t (k + 1) = ((lv1 (lvS T l t k).1 x t).1, (lvS T l t k).2 + (lv1 (lvS T l t k).1 x t).2)) := lvS_succ HK.out
      generalize lvS T l t k = g at *
      obtain ⟨Sg, cg⟩ := g
      simp only at hct hct1 HE HC hS ⊢
      have q1 : 0 ≤ cg := by omega
      have q2 : cg ≤ 100000 := by omega
      clear hx hkl hbb hct
      go_wp2_with fail
      refine HC.out.mono ?_
      rintro e w2 ⟨rfl, p2, kf2⟩
      have HS2 := Lib.hid (hS.out.to p2 kf2)
      clear p2 kf2 HC hS c0 c1 c2
      have q3 : IntKind.i64.wrap (cg + (lv1 Sg x t).2) = cg + (lv1 Sg x t).2 := by rw [IntKind.wrap_i64]; omega
      go_wp2_with fail
      go_roundw
      case rel => exact ⟨k + 1, by omega, by go_num, by rw [HE.out], by rw [HE.out]; exact HS2⟩
      case measure => simp [intOf]; omega
    · obtain rfl : k = n := by omega
      have HO := Lib.hid hS.out
      clear hS
      go_wp2_with fail
      go_ret
      exact ⟨ret_int (by rw [HLN.out]), by rw [HLN.out]; exact HO.out.px, HO.out.kf⟩
/-- Ready. -/
structure RM (W : World) (B : List Nat) (S : List CS) (C : List Nat) (T : List CS) (F : Nat → Prop) (w0 : World) (v : Value) (r : List Nat) (w : World) : Prop where
  bel : Below w0.heap.size w0 w
  row : w.ownsRow w0.heap.size 3 1 v r.length (nI r)
set_option maxRecDepth 100000 in
set_option maxHeartbeats 4000000 in
theorem mready_any {cap : Nat} (h : PC W B S C T F w) (hg : GdT 1000 T) (hl : RdX 97 C w A n l) (hn : n ≤ 1000) : Calls Try.prog 15 #[.slice A n cap] w fun e w' => ∃ A' c', e = .returned (.slice A' (rdy T l l.length).length c') ∧ Rd w' w'.heap.size A' (rdy T l l.length).length 1 (nI (rdy T l l.length)) ∧ Below w.heap.size w w' := by
  obtain ⟨i0, hi, hz0, hz1, hz2⟩ := info_parts inf3n
  have HP := Lib.hid h
  have HG : Hid (∀ t ∈ T, t.kd ≤ 2) := fun t ht => (hg t ht).1
  have HX := Lib.hid hl
  have HLN : Hid (l.length = n) := hl.1
  have HS : Hid (RM W B S C T F w (.slice none 0 0) (rdy T l 0) w) := ⟨Below.refl _ _, World.ownsRow_nil _ _ _ _⟩
  have b1 : (n : Int) ≤ 1000 := by omega
  have b2 : 0 ≤ (n : Int) := by omega
  clear h hg hl
  go_enter Try.func15, Try.ntmps15
  go_wp2_with fail
  go_loopw [3, 4] (fun v i wr => ∃ k : Nat, k ≤ n ∧ i = .int .i64 k ∧ Hid (RM W B S C T F w v (rdy T l k) wr)) (fun _ i _ => n - (intOf i).toNat)
  case atStart => exact ⟨0, by omega, rfl, HS⟩
  case round =>
    clear HS
    obtain ⟨k, hk, rfl, hS⟩ := hrel
    by_cases hlt : k < n
    · have k1 : (k : Int) < (n : Int) := by omega
      have k2 : 0 ≤ (k : Int) := by omega
      have hkl : k < l.length := by rw [HLN.out]; exact hlt
      have hx : l[k]? = some (l[k]'hkl) := List.getElem?_eq_getElem hkl
      have HK := Lib.hid hx
      obtain ⟨bb, off, cs, rfl, hbb, c0, c1, _⟩ := (HX.out.later hS.out.bel).at hx
      generalize l[k]'hkl = x at *
      have HC := Lib.hid (fun m => px_can x (HP.out.later (below_drewN hS.out.bel m)) HG.out)
      have HRL : Hid ((rdy T l k).length ≤ 1000) := by have := rdy_len T l k; show _ ≤ _; omega
      clear hx hkl hbb
      cases hcan : canO T x with
      | true =>
        rw [hcan] at HC
        have HR : Hid (rdy T l (k + 1) = rdy T l k ++ [k]) := rdy_yes HK.out hcan
        go_wp2_with fail
        go_quiet (exact Calls.quiet_of (HC.out _))
        have HS2 : Hid (RM W B S C T F w u3 (rdy T l k) (wr.drewN nq)) := ⟨below_drewN hS.out.bel nq, own_kept hS.out.row fun b e => rfl⟩
        clear hS c0 c1 HC
        generalize wr.drewN nq = w2 at *
        have hsz := HS2.out.bel.size
        go_wp2_with (at_builtin; go_loud (refine app_wp rfl (.tmp 22) (.tmp 24) 22 rfl w.heap.size 3 1 8 i0 (.int .i64 0) Try.underlying22 hi hz0 hz1 hz2 rfl (by decide) u3 (rdy T l k).length (nI (rdy T l k)) rfl (own_kept HS2.out.row fun b e => (below_al w2 (.cells #[.int .i64 (k : Int)] 3)).block b (HS2.out.row.lt b e).2) _ (some ⟨w2.heap.size, 0, none⟩) 1 1 (nI [k]) rfl (Rd.new w2 #[.int .i64 (k : Int)] 1 1 3 rfl) (nI_one _) (by have := HRL.out; unfold maxLen; omega) (by have := HRL.out; omega) (by simp; omega) ?_; intro v1 w3 ho1 hg1; have HS3 : Hid (RM W B S C T F w v1 (rdy T l (k + 1)) w3) := ⟨below_app (HS2.out.bel.alloc hsz _) (Nat.le_refl _) (by simp; omega) (own_kept HS2.out.row fun b e => (below_al w2 (.cells #[.int .i64 (k : Int)] 3)).block b (HS2.out.row.lt b e).2) hg1, by rw [HR.out, List.length_append, nI_app]; exact ho1⟩; clear ho1 hg1))
        go_roundw
        case rel => exact ⟨k + 1, by omega, by go_num, HS3⟩
        case measure => simp [intOf]; omega
      | false =>
        rw [hcan] at HC
        have HR : Hid (rdy T l (k + 1) = rdy T l k) := rdy_no HK.out hcan
        go_wp2_with fail
        go_quiet (exact Calls.quiet_of (HC.out _))
        have HS2 : Hid (RM W B S C T F w u3 (rdy T l k) (wr.drewN nq)) := ⟨below_drewN hS.out.bel nq, own_kept hS.out.row fun b e => rfl⟩
        clear hS c0 c1 HC
        generalize wr.drewN nq = w2 at *
        go_wp2_with fail
        go_roundw
        case rel => exact ⟨k + 1, by omega, by go_num, by rw [HR.out]; exact HS2⟩
        case measure => simp [intOf]; omega
    · obtain rfl : k = n := by omega
      obtain ⟨A9, c9, hv, _, _⟩ := own_cap hS.out.row
      subst hv
      have HO : Hid (Rd wr wr.heap.size A9 (rdy T l k).length 1 (nI (rdy T l k)) ∧ Below w.heap.size w wr) := ⟨Rd.of_own hS.out.row, hS.out.bel⟩
      clear hS
      go_wp2_with fail
      go_ret
      refine ⟨A9, c9, ?_, ?_, HO.out.2⟩
      · rw [HLN.out]; rfl
      · rw [HLN.out]; exact HO.out.1
end
end Go.Proofs.Ytmcacmbllpphiaa
