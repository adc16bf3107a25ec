/- Both sides fire one; receive; wait. Conditions: each theorem's own premises. -/
import Derived.Test.YtmadcnpkaijllaaGreatBstm
namespace Go.Proofs.YtmadcnpkaijllaaGreat
open Go.RowKit Ch
set_option linter.unusedVariables false
set_option maxRecDepth 100000
section
variable {W w w' w'' w1 w2 : World} {b t mo m n k q i j c f r : Nat} {B RC : List Nat} {X X' : List Oc} {T T' : List CS} {S S' : List It} {g g' : Int → Int} {now d p a : Int} {x : Oc} {s s' : CS} {v : Value} {e : Ending} {bb : Bool}
theorem Ch.RdK.ry {A : Option Addr} {n : Nat} {l : List Wk} (h : RdK w A n l) (y : RY w w') : RdK w' A n l := h.keep fun b cs e => (y.at e (by decide)).trans e.symm
theorem Ch.RdK.zo {A : Option Addr} {n : Nat} {l : List Wk} (h : RdK w A n l) (y : OZ w w') : RdK w' A n l := h.keep fun b cs e => (y b _ _ _ e (by decide)).trans e.symm
theorem gv_tk (h : Tk k s) (v : Int) : Tk k (gv s v).1 ∧ (gv s v).2.1.length ≤ 1 := by
  obtain ⟨h1, h2, h3, h4, h5, h6⟩ := h
  unfold gv
  cases hr : s.rs with
  | nil =>
    simp only
    split
    · rename_i hl
      exact ⟨⟨h1, h2, h3, h4, by show (s.l ++ [v]).length ≤ 1; rw [List.length_append]; simp only [List.length_singleton]; omega, by simp⟩, by simp⟩
    · exact ⟨⟨h1, h2, h3, h4, h5, h6⟩, by simp⟩
  | cons y l =>
    simp only
    rw [hr] at h6
    simp only [List.length_cons] at h6
    exact ⟨⟨h1, h2, h3, h4, h5, by show l.length ≤ k; omega⟩, by simp⟩
theorem put_both (h : BD W b t mo B RC X T m n S g now w) (iv : Iv k q X T m n S g now) (hk : k ≤ 120) (hx : X[i]? = some x) (a : Int) :
    ∃ T' ws kept, Pt (B.zip T) (on B x) a (B.zip T') ws kept ∧ RPt RC T (on RC x) a T' ws kept ∧ T'.length = T.length ∧ (∀ s ∈ T', Tk k s) ∧ ws.length ≤ 1 ∧ ((on RC x).ch = none → T' = T ∧ ws = [] ∧ kept = false) := by
  rcases h.chan iv hx with hq | ⟨j, c, c', s, hq, hB, hC, hT, e1, e2, hs⟩
  · exact ⟨T, [], false, Pt.none (on_none hq), ⟨.inl ⟨on_none hq, rfl, rfl, rfl⟩⟩, rfl, iv.ts, by simp, fun _ => ⟨rfl, rfl, rfl⟩⟩
  · have hg := gv_tk hs a
    have hs6 := hs.2.2.2.2.2
    have hs5 := hs.2.2.2.2.1
    refine ⟨T.set j (gv s a).1, (gv s a).2.1, (gv s a).2.2, ?_, ⟨.inr ⟨c', j, s, (gv s a).1, e2, hC, hT, hs.1, by rw [hs.2.1]; omega, by omega, by omega, rfl, rfl⟩⟩, by simp, Tk.set iv.ts hg.1 j, hg.2, fun e => by rw [e2] at e; cases e⟩
    rw [← zip_set hB]
    exact Pt.chan e1 (zip_at hB hT) hs.1 (by omega) rfl
theorem tk_none {n : Nat} {S : List It} {g : Int → Int} {a : Int} (h : (tk a n S g).1 = none) : tk a n S g = (none, n, S, g) := by
  cases S with
  | nil => rfl
  | cons x r =>
    unfold tk at h ⊢
    by_cases h1 : a < x.w
    · simp only [if_pos h1]
    · by_cases h2 : Gon x.w (g x.id) a
      · simp only [if_neg h1, if_pos h2] at h; cases h
      · simp only [if_neg h1, if_neg h2] at h; cases h
/-- Both fire: alike, and have come to be alike. -/
def PrF (W : World) (b t mo k q : Nat) (B RC : List Nat) (X : List Oc) (T : List CS) (m n : Nat) (S : List It) (g : Int → Int) (now a : Int) (w : World) : Prop :=
  ∃ (id kd yw at_ dt : Int) (ws : List Wk) (b9 d : Bool) (T' : List CS), ws.length ≤ 1 ∧ d = (tk a n S g).1.isSome ∧ Iv k (q + 1) X T' m (tk a n S g).2.1 (tk a n S g).2.2.1 (tk a n S g).2.2.2 now ∧
    Calls Tryz.prog 9 #[pS t, .int .i64 a] w fun e w1 => ∃ A c1, e = .returned (.tuple #[vF id kd yw at_ dt A ws.length c1 b9, .bool d]) ∧ RdK w1 A ws.length ws ∧ Bc b t mo now w1 ∧ Fz w w1 ∧
      ∀ w', Below w1.heap.size w1 w' → Calls Tryz.prog 23 #[pM mo, .int .i64 a] w' fun e w2 => ∃ A' c2, e = .returned (.tuple #[vF id kd yw at_ dt A' ws.length c2 b9, .bool d]) ∧ RdK w2 A' ws.length ws ∧ RdK w2 A ws.length ws ∧
        BD W b t mo B RC X T' m (tk a n S g).2.1 (tk a n S g).2.2.1 (tk a n S g).2.2.2 now w2 ∧ Fz w' w2
theorem pair_fire (h : BD W b t mo B RC X T m n S g now w) (iv : Iv k q X T m n S g now) (hk : k ≤ 120) (hq : q ≤ 200) (a : Int) : PrF W b t mo k q B RC X T m n S g now a w := by
  have hX := iv.xl
  have hS := iv.inv.len
  have hN := iv.nn
  have iT := iv.inv.take a
  have ivn : ∀ T', T'.length = T.length → (∀ s ∈ T', Tk k s) → Iv k (q + 1) X T' m (tk a n S g).2.1 (tk a n S g).2.2.1 (tk a n S g).2.2.2 now := fun T' h1 h2 =>
    ⟨iv.kd, fun y hy j hj => by rw [h1]; exact iv.ch y hy j hj, h2, iT.1, iv.m64, by have := iT.2.1; omega, iv.xl, iv.now⟩
  cases hy : (tk a n S g).1 with
  | none =>
    have e0 := tk_none hy
    have ivn0 := ivn T rfl iv.ts
    refine ⟨0, 0, 0, 0, 0, [], false, false, T, by simp, by rw [hy]; rfl, ivn0, ?_⟩
    rw [e0]
    refine (fire_no h.ss e0 (by omega) (by omega)).mono ?_
    intro e w1 hz
    refine ⟨none, 0, hz.1, RdK.nil _ _, hz.2.2.bc h.cb, hz.2.2.fz, fun w' hb => ?_⟩
    have hs2 := hz.2.1.later hb
    refine (rfire_no ((h.rs.oz hz.2.2).later hb) hs2.ms e0 iv.inv.ok iv.inv.both (by omega) (by omega)).mono ?_
    intro e w2 hr
    exact ⟨none, 0, hr.1, RdK.nil _ _, RdK.nil _ _, ⟨hs2.ry hr.2.2.2 hr.2.2.1, hr.2.1, h.eB, h.eC, hr.2.2.2.bc ((hz.2.2.bc h.cb).later hb), h.lo⟩, hr.2.2.2.fz⟩
  | some y =>
    have hm := iT.2.2 y hy
    have hr9 := iv.inv.rn y.id (mem_ids hm)
    obtain ⟨i, hi⟩ : ∃ i : Nat, y.id = (i : Int) := ⟨y.id.toNat, by omega⟩
    have hiX : i < X.length := by omega
    have hx : X[i]? = some X[i] := List.getElem?_eq_getElem hiX
    generalize X[i] = x at hx
    have hT : tk a n S g = (some ⟨(i : Int), y.w, y.s⟩, (tk a n S g).2.1, (tk a n S g).2.2.1, (tk a n S g).2.2.2) := by
      rw [← hi]
      show tk a n S g = (some y, (tk a n S g).2.1, (tk a n S g).2.2.1, (tk a n S g).2.2.2)
      rw [← hy]
    obtain ⟨T', ws, kept, h1, h2, h3, h4, h5, h6⟩ := put_both h iv hk hx a
    refine ⟨i, x.kd, y.w, a, x.dt, ws, kept, true, T', h5, by rw [hy]; rfl, ivn T' h3 h4, ?_⟩
    refine (fire_some h.ss hT (on_at hx) h1 (by rw [on_len]; omega) (by omega) (by omega)).mono ?_
    rintro e w1 ⟨A, c1, rfl, hrd, hss, hoz⟩
    refine ⟨A, c1, rfl, hrd, hoz.bc h.cb, hoz.fz, fun w' hb => ?_⟩
    have hs2 := hss.later hb
    have hrs := (h.rs.oz hoz).later hb
    have hrd2 := hrd.later hb
    have hbc := (hoz.bc h.cb).later hb
    cases hc : (on RC x).ch with
    | none =>
      obtain ⟨rfl, rfl, rfl⟩ := h6 hc
      refine (rfire_nil hrs hs2.ms hT (on_at hx) hc iv.inv.ok iv.inv.both (by omega) (by omega)).mono ?_
      intro e w2 hr
      exact ⟨none, 0, hr.1, RdK.nil _ _, hrd2.ry hr.2.2.2, ⟨hs2.ry hr.2.2.2 hr.2.2.1, hr.2.1, h.eB, h.eC, hr.2.2.2.bc hbc, h.lo⟩, hr.2.2.2.fz⟩
    | some c' =>
      refine (rfire_ch hrs hs2.ms hT (on_at hx) hc h2 iv.inv.ok iv.inv.both (by omega) (by omega)).mono ?_
      rintro e w2 ⟨A', c2, rfl, hr1, hr2⟩
      exact ⟨A', c2, rfl, hr1, hrd2.ry hr2.ry, ⟨hs2.ry hr2.ry hr2.ms, hr2.rs, by rw [h3]; exact h.eB, by rw [h3]; exact h.eC, hr2.ry.bc hbc, h.lo⟩, hr2.ry.fz⟩
/-! The channels. -/
theorem BD.sz (h : BD W b t mo B RC X T m n S g now w) (hz : SZ W RC T t (X.map (on B)) m n S g (B.zip T) v w e w') : BD W b t mo B RC X T m n S g now w' :=
  ⟨hz.2.1, h.rs.oz hz.2.2, h.eB, h.eC, hz.2.2.bc h.cb, h.lo⟩
/-- Both channels under a number, if there are any. -/
theorem BD.chs (h : BD W b t mo B RC X T m n S g now w) (iv : Iv k q X T m n S g now) (a : Int) : ((eA (X.map (on B)) a).ch = none ∧ (eA (X.map (on RC)) a).ch = none) ∨
    ∃ (j c c' : Nat) (s : CS), (eA (X.map (on B)) a).ch = some c ∧ (eA (X.map (on RC)) a).ch = some c' ∧ B[j]? = some c ∧ RC[j]? = some c' ∧ T[j]? = some s ∧ Tk k s := by
  by_cases ha : a < 0 ∨ (X.length : Int) ≤ a
  · rw [eA_no (by rw [on_len]; exact ha), eA_no (by rw [on_len]; exact ha)]
    exact .inl ⟨rfl, rfl⟩
  · obtain ⟨i, rfl⟩ : ∃ i : Nat, a = (i : Int) := ⟨a.toNat, by omega⟩
    have hi : i < X.length := by omega
    have hx : X[i]? = some X[i] := List.getElem?_eq_getElem hi
    rw [eA_at (on_at hx), eA_at (on_at hx)]
    rcases h.chan iv hx with hq | ⟨j, c, c', s, hq, hB, hC, hT, e1, e2, hs⟩
    · exact .inl ⟨on_none hq, on_none hq⟩
    · exact .inr ⟨j, c, c', s, e1, e2, hB, hC, hT, hs⟩
theorem rc_tk (h : Tk k s) : Tk k (rc s).1 ∧ (rc s).2.2.2.2 = [] := by
  obtain ⟨h1, h2, h3, h4, h5, h6⟩ := h
  unfold rc
  rw [h4]
  cases hl : s.l with
  | nil => exact ⟨⟨h1, h2, h3, h4, h5, h6⟩, rfl⟩
  | cons y l =>
    rw [hl] at h5
    simp only [List.length_cons] at h5
    exact ⟨⟨h1, h2, h3, by first | exact h4 | rfl, by show l.length ≤ 1; omega, h6⟩, rfl⟩
theorem wt_tk (h : Tk k s) (x : Wt) : Tk (k + 1) (wt s x false).1 := by
  obtain ⟨h1, h2, h3, h4, h5, h6⟩ := h
  unfold wt
  rw [if_neg (by simp), if_neg (by rw [h3]; simp)]
  split
  · exact ⟨h1, h2, h3, h4, h5, by show s.rs.length ≤ k + 1; omega⟩
  · exact ⟨h1, h2, h3, h4, h5, by show (s.rs ++ [x]).length ≤ k + 1; simp; omega⟩
theorem Iv.chs {T' : List CS} (iv : Iv k 0 X T m n S g now) (hT : T'.length = T.length) (h : ∀ s ∈ T', Tk (k + 1) s) : Iv (k + 1) 0 X T' m n S g now :=
  ⟨iv.up.kd, fun y hy j hj => by rw [hT]; exact iv.ch y hy j hj, h, iv.inv, iv.m64, iv.up.nn, iv.up.xl, iv.now⟩
/-- Both receive. -/
def PrR (W : World) (b t mo k : Nat) (now a : Int) (P P' : Option Addr) (w : World) : Prop :=
  ∃ (v : Int) (ok d : Bool) (ws : List Wk), ws.length ≤ 1 ∧ Calls Tryz.prog 26 #[.pointer P] w fun e w1 => ∃ A c1, e = .returned (.tuple #[.int .i64 v, .bool ok, .bool d, .slice A ws.length c1]) ∧ RdK w1 A ws.length ws ∧ Bc b t mo now w1 ∧ Fz w w1 ∧
    ∀ w', Below w1.heap.size w1 w' → (Calls Tryz.prog 27 #[pM mo, .int .i64 a] w' fun e w'' => e = .returned (.pointer P') ∧ w' = w'') ∧
      Calls Tryz.prog 28 #[.pointer P'] w' fun e w2 => ∃ A' c2, e = .returned (.tuple #[.int .i64 v, .bool ok, .bool d, .slice A' ws.length c2]) ∧ RdK w2 A' ws.length ws ∧ RdK w2 A ws.length ws ∧ BE W b t mo (k + 1) w2 ∧ Fz w' w2 ∧ Bc b t mo now w2
theorem pair_recv (h : BD W b t mo B RC X T m n S g now w) (iv : Iv k 0 X T m n S g now) (hk : k ≤ 120) (a : Int) : PrR W b t mo k now a (cp (eA (X.map (on B)) a).ch) (cp (eA (X.map (on RC)) a).ch) w := by
  rcases h.chs iv a with ⟨e1, e2⟩ | ⟨j, c, c', s, e1, e2, hB, hC, hT, hs⟩
  · have er := e2
    rw [e1, e2]
    refine ⟨0, false, false, [], by simp, (recv_nil w).mono ?_⟩
    rintro e w1 ⟨rfl, rfl⟩
    refine ⟨none, 0, rfl, RdK.nil _ _, h.cb, Fz.refl _, fun w' hb => ⟨?_, (mrecv_nil w').mono ?_⟩⟩
    · have := rchan_any a (h.later hb).rs
      rw [er] at this
      exact this
    · rintro e w2 ⟨rfl, rfl⟩
      exact ⟨none, 0, rfl, RdK.nil _ _, RdK.nil _ _, (h.later hb).be iv, Fz.refl _, (h.later hb).cb⟩
  · have er := e2
    rw [e1, e2]
    obtain ⟨ht1, ht2⟩ := rc_tk hs
    have l1 := hs.2.2.2.2.1
    have l2 := hs.2.2.2.1
    refine ⟨(rc s).2.1, (rc s).2.2.1, (rc s).2.2.2.1, (rc s).2.2.2.2, by rw [ht2]; simp, ?_⟩
    refine (ms_recv (s' := (rc s).1) h.ms (zip_at hB hT) (by rw [l2]; simp) rfl rfl).mono ?_
    rintro e w1 ⟨A, c1, rfl, hrd, hms, hkp⟩
    obtain ⟨hss, hoz⟩ := h.ss.chan hms hkp
    refine ⟨A, c1, rfl, hrd, hoz.bc h.cb, hoz.fz, fun w' hb => ?_⟩
    have hs2 := hss.later hb
    have hrs := (h.rs.oz hoz).later hb
    refine ⟨?_, ?_⟩
    · have := rchan_any a hrs
      rw [er] at this
      exact this
    · obtain ⟨ok, q1, q2⟩ := hs2.ms.ref hC hT
      refine (mrecv_any q1 (by omega) (by rw [l2]; simp)).mono ?_
      rintro e w2 ⟨A', c2, rfl, hr1, hr2⟩
      obtain ⟨q3, q4⟩ := q2 _ _ hr2
      have hbk := hs2.ms.rblk (List.mem_of_getElem? hC)
      have hry := RY.tn q4 hbk
      refine ⟨A', c2, rfl, hr1, (hrd.later hb).ry hry, ⟨B, RC, X, T.set j (rc s).1, m, n, S, g, now, ⟨?_, hrs.tn q4 hbk, by simp [h.eB], by simp [h.eC], hry.bc ((hoz.bc h.cb).later hb), h.lo⟩, iv.chs (by simp) fun y hy => ?_⟩, hry.fz, hry.bc ((hoz.bc h.cb).later hb)⟩
      · have := hs2.ry hry q3
        rw [zip_set hB] at this
        exact this
      · have := Tk.set iv.ts ht1 j y hy
        exact ⟨this.1, this.2.1, this.2.2.1, this.2.2.2.1, this.2.2.2.2.1, by have := this.2.2.2.2.2; omega⟩
/-- Both have a task wait. -/
def PrW (W : World) (b t mo k : Nat) (now a : Int) (x : Wt) (P P' : Option Addr) (w : World) : Prop :=
  ∃ (r : Int), Calls Tryz.prog 31 #[.pointer P, wG x, .bool false] w fun e w1 => e = .returned (.int .i64 r) ∧ Bc b t mo now w1 ∧ Fz w w1 ∧ (∀ (q : Nat) (cs : Array Value) (fr : Nat × Nat), w.heap[q]? = some (.cells cs 87 fr) → w1.heap[q]? = some (.cells cs 87 fr)) ∧
    ∀ w', Below w1.heap.size w1 w' → (Calls Tryz.prog 27 #[pM mo, .int .i64 a] w' fun e w'' => e = .returned (.pointer P') ∧ w' = w'') ∧
      Calls Tryz.prog 32 #[.pointer P', wG x, .bool false] w' fun e w2 => e = .returned (.int .i64 r) ∧ BE W b t mo (k + 1) w2 ∧ Fz w' w2 ∧ Bc b t mo now w2
theorem pair_wait (h : BD W b t mo B RC X T m n S g now w) (iv : Iv k 0 X T m n S g now) (hk : k ≤ 120) (a : Int) (x : Wt) (hx : Wf x.t) : PrW W b t mo k now a x (cp (eA (X.map (on B)) a).ch) (cp (eA (X.map (on RC)) a).ch) w := by
  rcases h.chs iv a with ⟨e1, e2⟩ | ⟨j, c, c', s, e1, e2, hB, hC, hT, hs⟩
  · have er := e2
    rw [e1, e2]
    refine ⟨6, (wait_nil x false w).mono ?_⟩
    rintro e w1 ⟨rfl, hb0⟩
    refine ⟨rfl, Bc.later h.cb hb0, Fz.of_below hb0, fun q cs fr e => (hb0.block q (lt_of_blk e)).trans e, fun w' hb => ⟨?_, (mwait_nil x false w').mono ?_⟩⟩
    · have := rchan_any a ((h.later hb0).later hb).rs
      rw [er] at this
      exact this
    · rintro e w2 ⟨rfl, hb2⟩
      exact ⟨rfl, (((h.later hb0).later hb).later hb2).be iv, Fz.of_below hb2, (((h.later hb0).later hb).later hb2).cb⟩
  · have er := e2
    rw [e1, e2]
    have ht1 := wt_tk hs x
    have l1 := hs.2.2.2.2.1
    have l2 := hs.2.2.2.1
    have l3 := hs.2.2.2.2.2
    have hq9 : ∀ b, (s.q b).length ≤ 1000000 := fun b => by
      cases b
      · show s.rs.length ≤ 1000000; omega
      · show s.ss.length ≤ 1000000; rw [l2]; simp
    refine ⟨(wt s x false).2, ?_⟩
    refine (ms_wait x false hx h.ms (zip_at hB hT) hq9 (s' := (wt s x false).1) rfl).mono ?_
    rintro e w1 ⟨rfl, hms, hkp⟩
    obtain ⟨hss, hoz⟩ := h.ss.chan hms hkp
    refine ⟨rfl, hoz.bc h.cb, hoz.fz, fun q cs fr e => hkp.at e (by decide), fun w' hb => ?_⟩
    have hs2 := hss.later hb
    have hrs := (h.rs.oz hoz).later hb
    refine ⟨?_, ?_⟩
    · have := rchan_any a hrs
      rw [er] at this
      exact this
    · obtain ⟨ok, q1, q2⟩ := hs2.ms.ref hC hT
      refine (mwait_any x false q1 (by rw [hs.1]; omega) (by rw [l2]; simp) (by omega) (by omega)).mono ?_
      rintro e w2 ⟨rfl, hr2⟩
      obtain ⟨q3, q4⟩ := q2 _ _ hr2
      have hbk := hs2.ms.rblk (List.mem_of_getElem? hC)
      have hry := RY.tn q4 hbk
      refine ⟨rfl, ⟨B, RC, X, T.set j (wt s x false).1, m, n, S, g, now, ⟨?_, hrs.tn q4 hbk, by simp [h.eB], by simp [h.eC], hry.bc ((hoz.bc h.cb).later hb), h.lo⟩, iv.chs (by simp) fun y hy => ?_⟩, hry.fz, hry.bc ((hoz.bc h.cb).later hb)⟩
      · have := hs2.ry hry q3
        rw [zip_set hB] at this
        exact this
      · have iv2 : ∀ s ∈ T, Tk (k + 1) s := iv.up.ts
        exact Tk.set iv2 ht1 j y hy
end
end Go.Proofs.YtmadcnpkaijllaaGreat
