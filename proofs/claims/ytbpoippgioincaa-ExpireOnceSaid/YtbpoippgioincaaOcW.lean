/- The walk of ExpireOnce. Condition: the slices read as they came. -/
import Derived.Test.YtbpoippgioincaaRwb
import Derived.Test.YtbpoippgioincaaOnc
import Derived.Test.YtbpoippgioincaaLsq
import Derived.Test.YtbpoippgioincaaObl
namespace Go.Proofs.Ytbpoippgioincaa
open Go.RowKit
set_option linter.unusedVariables false
set_option maxRecDepth 100000
theorem once_out (A0 : Option Addr) (n c0 : Nat) (A1 : Option Addr) (m c1 : Nat) (now : Int) (W : World) (h : 60 < n ∨ m < n ∨ 80 < m ∨ now < 0 ∨ 1099511627776 < now) : Calls Try.prog 5 #[.slice A0 n c0, .slice A1 m c1, .int .i64 now] W (BoolR true W) := by
  by_cases h0 : 60 < n
  · have g0 : (60 : Int) < (n : Int) := by omega
    clear h
    go_enter Try.func5, Try.ntmps5
    go_wp2_with fail
    refine (awaket_any W).mono ?_
    rintro e w' ⟨rfl, hb⟩
    have HB := Lib.hid hb
    clear hb
    go_wp2_with fail
    go_ret
    exact ⟨rfl, HB.out⟩
  have n0 : ¬ ((60 : Int) < (n : Int)) := by omega
  by_cases h1 : m < n
  · have g1 : (m : Int) < (n : Int) := by omega
    clear h
    go_enter Try.func5, Try.ntmps5
    go_wp2_with fail
    refine (awaket_any W).mono ?_
    rintro e w' ⟨rfl, hb⟩
    have HB := Lib.hid hb
    clear hb
    go_wp2_with fail
    go_ret
    exact ⟨rfl, HB.out⟩
  have n1 : ¬ ((m : Int) < (n : Int)) := by omega
  by_cases h2 : 80 < m
  · have g2 : (80 : Int) < (m : Int) := by omega
    clear h
    go_enter Try.func5, Try.ntmps5
    go_wp2_with fail
    refine (awaket_any W).mono ?_
    rintro e w' ⟨rfl, hb⟩
    have HB := Lib.hid hb
    clear hb
    go_wp2_with fail
    go_ret
    exact ⟨rfl, HB.out⟩
  have n2 : ¬ ((80 : Int) < (m : Int)) := by omega
  by_cases h3 : now < 0
  · have g3 : now < 0 := by omega
    clear h
    go_enter Try.func5, Try.ntmps5
    go_wp2_with fail
    refine (awaket_any W).mono ?_
    rintro e w' ⟨rfl, hb⟩
    have HB := Lib.hid hb
    clear hb
    go_wp2_with fail
    go_ret
    exact ⟨rfl, HB.out⟩
  have n3 : ¬ (now < 0) := by omega
  by_cases h4 : 1099511627776 < now
  · have g4 : 1099511627776 < now := by omega
    clear h
    go_enter Try.func5, Try.ntmps5
    go_wp2_with fail
    refine (awaket_any W).mono ?_
    rintro e w' ⟨rfl, hb⟩
    have HB := Lib.hid hb
    clear hb
    go_wp2_with fail
    go_ret
    exact ⟨rfl, HB.out⟩
  have n4 : ¬ (1099511627776 < now) := by omega
  exact absurd h (by omega)

/-- A number that this law allows. -/
def Bd (x : Int) : Prop := 0 ≤ x ∧ x ≤ 1099511627776
theorem Bd.fit {x : Int} (h : Bd x) : Fit x := ⟨h.1, by have := h.2; omega⟩
theorem gon_pos {wh per now : Int} (h1 : Bd wh) (h2 : Bd per) (h3 : Bd now) (hw : wh ≤ now) (hp : 0 < per) : Gon wh per now ∧ now < nx wh per now := by
  obtain ⟨a1, a2⟩ := h1
  obtain ⟨b1, b2⟩ := h2
  obtain ⟨c1, c2⟩ := h3
  have e := Int.mul_ediv_add_emod (now - wh) per
  have m0 := Int.emod_nonneg (now - wh) (show per ≠ 0 by omega)
  have m1 := Int.emod_lt_of_pos (now - wh) (show 0 < per by omega)
  have hn : now < nx wh per now := by
    unfold nx
    rw [if_neg (by omega), hd_in _ (by omega) (by omega)]
    omega
  refine ⟨⟨?_, hn⟩, hn⟩
  simp [nxB]
  omega
theorem fput_same {g : Int → Int} {k : Int} (h : g k = 0) : fput g k 0 = g := by
  funext y; unfold fput; split
  · rename_i e; rw [e, h]
  · rfl
theorem gon_zero {wh now : Int} : ¬ Gon wh 0 now := fun e => by have := (nxB_all e.1).1; omega
theorem getD_at {l : List Int} {i : Nat} {x : Int} (h : l[i]? = some x) : l.getD i 0 = x := by rw [List.getD_eq_getElem?_getD, h]; rfl
/-- The state of the taking: j have been taken. -/
def Tkg (W : World) (t : Nat) (l : List Int) (g : Int → Int) (n : Nat) (now : Int) (s j m : Nat) (S : List It) (w : World) : Prop :=
  XQ W t (W.heap.size + 1) W.heap.size (W.heap.size + 2) m S g s n (tkn (adds l n) j) w ∧ Stg (adds l n) now g j S
theorem take_step {W w : World} {t n k j m : Nat} {l z : List Int} {g : Int → Int} {now xw : Int} {q : Nat} {S : List It} (h : XS W t (W.heap.size + 1) W.heap.size (W.heap.size + 2) m (⟨(q : Int), xw, (q : Int) + 1⟩ :: S) g w) (hG : Stg (adds l k) now g j (⟨(q : Int), xw, (q : Int) + 1⟩ :: S)) (hT : Ok n (adds l k)) (hx : (adds l k)[j]? = some ⟨(q : Int), xw, (q : Int) + 1⟩)
    (b1 : Bd xw) (b2 : Bd (z.getD q 0)) (b3 : Bd now) (hg : g (q : Int) = z.getD q 0) (hl : (⟨(q : Int), xw, (q : Int) + 1⟩ :: S : List It).length ≤ 1000) (hm : m ≤ 1000000) (hw : xw ≤ now) :
    ∃ m2 S2, m2 ≤ m + 1 ∧ Calls Try.prog 34 #[pT t, .int .i64 now] w (fun e w' => e = .returned (.tuple #[vD (q : Int) xw now, .bool true]) ∧ XS W t (W.heap.size + 1) W.heap.size (W.heap.size + 2) m2 S2 g w' ∧ OX w w') ∧ Stg (adds l k) now g (j + 1) S2 := by
  by_cases hpos : 0 < z.getD q 0
  · have hg2 := gon_pos b1 b2 b3 hw hpos
    have hgon : Gon xw (g (q : Int)) now := by rw [hg]; exact hg2.1
    exact ⟨m + 1, _, by omega, h.run (tn_take_on h.tn hm hl hw hgon), hG.on hT h.tn.ok hx hw (by show 0 < g (q : Int); rw [hg]; exact hpos) rfl hgon.2⟩
  · have hg0 : g (q : Int) = 0 := by rw [hg]; have := b2.1; omega
    have e := fput_same hg0
    have hc := h.run (tn_take_end (now := now) h.tn hl hw (by show ¬ Gon xw (g (q : Int)) now; rw [hg0]; exact gon_zero))
    rw [show fput g (⟨(q : Int), xw, (q : Int) + 1⟩ : It).id 0 = g from e] at hc
    exact ⟨m, S, by omega, hc, hG.out hT h.tn.ok hx hw (by show ¬ 0 < g (q : Int); rw [hg0]; decide)⟩
set_option maxHeartbeats 16000000 in
theorem once_in (A0 : Option Addr) (n c0 : Nat) (A1 : Option Addr) (m c1 : Nat) (now : Int) (W : World) (l z : List Int) (hR : Rn W A0 n l) (hZ : Rn W A1 m z) (h1 : n ≤ 60) (h2 : n ≤ m) (h3 : m ≤ 80) (h4 : 0 ≤ now) (h5 : now ≤ 1099511627776) : Calls Try.prog 5 #[.slice A0 n c0, .slice A1 m c1, .int .i64 now] W (BoolR true W) := by
  obtain ⟨i0, hi, hz0, hz1, hz2⟩ := info_parts inf4
  have c1' : ¬ (60 : Int) < (n : Int) := by omega
  have c2' : ¬ (m : Int) < (n : Int) := by omega
  have c3' : ¬ (80 : Int) < (m : Int) := by omega
  have c4' : ¬ now < 0 := by omega
  have c5' : ¬ 1099511627776 < now := by omega
  have R1 := Lib.hid hR
  have R2 := Lib.hid hZ
  have BN : Hid (Bd now) := ⟨h4, h5⟩
  clear hR hZ h4 h5
  go_enter Try.func5, Try.ntmps5
  go_wp2_with fail
  refine (xs_new (Below.refl _ W)).mono ?_
  rintro e w0 ⟨rfl, h0, -⟩
  have H0 : Hid (XS W (W.heap.size + 3) (W.heap.size + 1) W.heap.size (W.heap.size + 2) 0 (adds l 0) (gp z 0) w0 ∧ ∀ i, i < 0 → Bd (l.getD i 0) ∧ Bd (z.getD i 0)) := ⟨h0, fun i h => absurd h (by omega)⟩
  clear h0
  go_wp2_with fail
  generalize W.heap.size + 3 = t at *
  go_loopw [8] (fun i wr => ∃ k : Nat, k ≤ n ∧ i = .int .i64 (k : Int) ∧ Hid (XS W t (W.heap.size + 1) W.heap.size (W.heap.size + 2) k (adds l k) (gp z k) wr ∧ ∀ i, i < k → Bd (l.getD i 0) ∧ Bd (z.getD i 0))) (fun i _ => n - (intOf i).toNat)
  case atStart => exact ⟨0, by omega, rfl, H0⟩
  case round =>
    clear H0
    obtain ⟨k, hk, rfl, hS⟩ := hrel
    by_cases hlt : k < n
    · obtain ⟨bb, off, x, rfl, hbb, hzx, hcx⟩ := R1.out.cell hS.out.1.bel hlt
      obtain ⟨bc, off2, y, rfl, hbc, hzy, hcy⟩ := R2.out.cell hS.out.1.bel (show k < m by omega)
      have k3 : (k : Int) < (n : Int) := by omega
      have k4 : (k : Int) < (m : Int) := by omega
      have b4 : IntKind.i64.wrap ((k : Int) + 1) = (k : Int) + 1 := by rw [IntKind.wrap_i64]; omega
      have HX := Lib.hid hzx
      have HY := Lib.hid hzy
      have hlen := adds_len l k
      clear hzx hzy
      by_cases x1 : x < 0
      · go_wp2_with fail
        refine (awaket_any wr).mono ?_
        rintro e w2 ⟨rfl, hb⟩
        have H9 := Lib.hid (XS.later hS.out.1 hb).bel
        clear hb hS
        go_wp2_with fail
        go_ret
        exact ⟨rfl, H9.out⟩
      by_cases x2 : 1099511627776 < x
      · go_wp2_with fail
        refine (awaket_any wr).mono ?_
        rintro e w2 ⟨rfl, hb⟩
        have H9 := Lib.hid (XS.later hS.out.1 hb).bel
        clear hb hS
        go_wp2_with fail
        go_ret
        exact ⟨rfl, H9.out⟩
      by_cases x3 : y < 0
      · go_wp2_with fail
        refine (awaket_any wr).mono ?_
        rintro e w2 ⟨rfl, hb⟩
        have H9 := Lib.hid (XS.later hS.out.1 hb).bel
        clear hb hS
        go_wp2_with fail
        go_ret
        exact ⟨rfl, H9.out⟩
      by_cases x4 : 1099511627776 < y
      · go_wp2_with fail
        refine (awaket_any wr).mono ?_
        rintro e w2 ⟨rfl, hb⟩
        have H9 := Lib.hid (XS.later hS.out.1 hb).bel
        clear hb hS
        go_wp2_with fail
        go_ret
        exact ⟨rfl, H9.out⟩
      have BX : Hid (Bd x ∧ Bd y) := by show Bd x ∧ Bd y; unfold Bd; omega
      go_upto_region 11 with (fail)
      have KP : Hid (∀ w', Below W.heap.size W w' → w'.cell? ⟨bb, off + k, none⟩ = some (.int .i64 x) ∧ w'.cell? ⟨bc, off2 + k, none⟩ = some (.int .i64 y)) := fun w' hb => by
        have e1 := hS.out.1.bel
        exact ⟨by rw [cell_blk (hb.block bb hbb), ← cell_blk (e1.block bb hbb)]; exact hcx, by rw [cell_blk (hb.block bc hbc), ← cell_blk (e1.block bc hbc)]; exact hcy⟩
      have H2 := Lib.hid ((XS.later hS.out.1 (Below.refl _ _).drew).run (tn_arm (k : Int) x y (XS.later hS.out.1 (Below.refl _ _).drew).tn (wf_small (by omega) (by omega)) BX.out.1.fit BX.out.2.fit (by omega) (by omega)))
      rw [del_none (adds_new l k), adds_succ HX.out, gp_succ HY.out] at H2
      refine but_startQ 1000 (fun w' => w'.cell? ⟨bb, off + k, none⟩ = some (.int .i64 x) ∧ w'.cell? ⟨bc, off2 + k, none⟩ = some (.int .i64 y)) (by kernel_rfl) (by as_aux_lemma => kernel_rfl) ?_
      intro hTidy
      have hHeld := KP.out wr.drew hS.out.1.bel.drew
      change AnyBut _ _ _ _ _ _ 12 _ _ _
      refine but_takeQ (i := 0) (v := ?_) rfl hTidy (by kernel_rfl) (by kernel_rfl) (fun _ _ _ h => h) (Or.inl ⟨by rfl, ?_⟩) hHeld ?_
      rotate_left
      · intro w hSw
        (try dsimp only at hSw)
        go_split_ands
        go_simp
        try with_reducible rfl
      try simp only [List.getElem_toArray, List.getElem_cons_zero, Act.put, List.setIfInBounds_toArray, List.set_cons_zero, List.set_cons_succ]
      refine but_takeQ (i := 1) (v := ?_) rfl hTidy (by kernel_rfl) (by kernel_rfl) (fun _ _ _ h => h) (Or.inl ⟨by rfl, ?_⟩) hHeld ?_
      rotate_left
      · intro w hSw
        (try dsimp only at hSw)
        go_split_ands
        go_simp
        try with_reducible rfl
      try simp only [List.getElem_toArray, List.getElem_cons_succ, List.getElem_cons_zero, Act.put, List.setIfInBounds_toArray, List.set_cons_zero, List.set_cons_succ]
      refine but_takeQ (i := 2) (v := ?_) rfl hTidy (by kernel_rfl) (by kernel_rfl) (fun _ _ _ h => h) (Or.inl ⟨by rfl, ?_⟩) hHeld ?_
      rotate_left
      · intro w hSw
        (try dsimp only at hSw)
        go_split_ands
        go_simp
        try with_reducible rfl
      try simp only [List.getElem_toArray, List.getElem_cons_succ, List.getElem_cons_zero, Act.put, List.setIfInBounds_toArray, List.set_cons_zero, List.set_cons_succ]
      refine but_takeQ (i := 3) (v := ?_) rfl hTidy (by kernel_rfl) (by kernel_rfl) (fun _ _ _ h => h) (Or.inl ⟨by rfl, ?_⟩) hHeld ?_
      rotate_left
      · intro w hSw
        (try dsimp only at hSw)
        go_split_ands
        go_simp
        try with_reducible rfl
      try simp only [List.getElem_toArray, List.getElem_cons_succ, List.getElem_cons_zero, Act.put, List.setIfInBounds_toArray, List.set_cons_zero, List.set_cons_succ]
      refine but_takeQ (i := 4) (v := ?_) rfl hTidy (by kernel_rfl) (by kernel_rfl) (fun _ _ _ h => h) (Or.inl ⟨by rfl, ?_⟩) hHeld ?_
      rotate_left
      · intro w hSw
        (try dsimp only at hSw)
        go_split_ands
        go_simp
        try with_reducible rfl
      try simp only [List.getElem_toArray, List.getElem_cons_succ, List.getElem_cons_zero, Act.put, List.setIfInBounds_toArray, List.set_cons_zero, List.set_cons_succ]
      refine but_takeQ (i := 5) (v := ?_) rfl hTidy (by kernel_rfl) (by kernel_rfl) (fun _ _ _ h => h) (Or.inl ⟨by rfl, ?_⟩) hHeld ?_
      rotate_left
      · intro w hSw
        (try dsimp only at hSw)
        go_split_ands
        go_simp
        try with_reducible rfl
      try simp only [List.getElem_toArray, List.getElem_cons_succ, List.getElem_cons_zero, Act.put, List.setIfInBounds_toArray, List.set_cons_zero, List.set_cons_succ]
      refine but_takeQ (i := 6) (v := ?_) rfl hTidy (by kernel_rfl) (by kernel_rfl) (fun _ _ _ h => h) (Or.inl ⟨by rfl, ?_⟩) hHeld ?_
      rotate_left
      · intro w hSw
        (try dsimp only at hSw)
        go_split_ands
        go_simp
        try with_reducible rfl
      try simp only [List.getElem_toArray, List.getElem_cons_succ, List.getElem_cons_zero, Act.put, List.setIfInBounds_toArray, List.set_cons_zero, List.set_cons_succ]
      refine but_takeQ (i := 7) (v := ?_) rfl hTidy (by kernel_rfl) (by kernel_rfl) (fun _ _ _ h => h) (Or.inl ⟨by rfl, ?_⟩) hHeld ?_
      rotate_left
      · intro w hSw
        (try dsimp only at hSw)
        go_split_ands
        go_simp
        try with_reducible rfl
      try simp only [List.getElem_toArray, List.getElem_cons_succ, List.getElem_cons_zero, Act.put, List.setIfInBounds_toArray, List.set_cons_zero, List.set_cons_succ]
      refine but_takeQ (i := 8) (v := ?_) rfl hTidy (by kernel_rfl) (by kernel_rfl) (fun _ _ _ h => h) (Or.inl ⟨by rfl, ?_⟩) hHeld ?_
      rotate_left
      · intro w hSw
        (try dsimp only at hSw)
        go_split_ands
        go_simp
        try with_reducible rfl
      try simp only [List.getElem_toArray, List.getElem_cons_succ, List.getElem_cons_zero, Act.put, List.setIfInBounds_toArray, List.set_cons_zero, List.set_cons_succ]
      refine but_takeQ (i := 9) (v := ?_) rfl hTidy (by kernel_rfl) (by kernel_rfl) (fun _ _ _ h => h) (Or.inl ⟨by rfl, ?_⟩) hHeld ?_
      rotate_left
      · intro w hSw
        (try dsimp only at hSw)
        go_split_ands
        go_simp
        try with_reducible rfl
      try simp only [List.getElem_toArray, List.getElem_cons_succ, List.getElem_cons_zero, Act.put, List.setIfInBounds_toArray, List.set_cons_zero, List.set_cons_succ]
      refine but_one (i := 10) (by kernel_rfl) rfl ?_
      intro K hK
      go_simp
      go_at_call 30
      refine H2.out.mono ?_
      rintro e w3 ⟨rfl, h, -⟩
      have H3 := Lib.hid h
      clear h
      try dsimp only
      have hHeld2 := KP.out w3 H3.out.bel
      refine hK _ _ (fun _ => hHeld2) ?_
      clear hK K hHeld
      have hHeld := hHeld2
      clear hHeld2
      try simp only [List.getElem_toArray, List.getElem_cons_succ, List.getElem_cons_zero, Act.put, List.setIfInBounds_toArray, List.set_cons_zero, List.set_cons_succ]
      refine but_takeQ (i := 11) (v := ?_) rfl hTidy (by kernel_rfl) (by kernel_rfl) (fun _ _ _ h => h) (Or.inl ⟨by rfl, ?_⟩) hHeld ?_
      rotate_left
      · intro w hSw
        (try dsimp only at hSw)
        go_split_ands
        go_simp
        try with_reducible rfl
      try simp only [List.getElem_toArray, List.getElem_cons_succ, List.getElem_cons_zero, Act.put, List.setIfInBounds_toArray, List.set_cons_zero, List.set_cons_succ]
      refine but_done (by kernel_rfl) ?_
      try clear hHeld
      clear hTidy
      have HE : Hid (XS W t (W.heap.size + 1) W.heap.size (W.heap.size + 2) (k + 1) (adds l (k + 1)) (gp z (k + 1)) w3 ∧ ∀ i, i < k + 1 → Bd (l.getD i 0) ∧ Bd (z.getD i 0)) := ⟨H3.out, fun i hi => by
        by_cases e : i = k
        · subst e; rw [getD_at HX.out, getD_at HY.out]; exact BX.out
        · exact hS.out.2 i (by omega)⟩
      clear KP H2 H3 hS
      go_wp2_with fail
      go_roundw
      case rel => exact ⟨k + 1, by omega, by go_num, HE⟩
      case measure => simp [intOf]; omega
    · obtain rfl : k = n := by omega
      have k3 : ¬ (k : Int) < (k : Int) := by omega
      go_wp2_with (at_make; go_loud (refine wpList_make_full _ rfl _ _ 75 rfl W.heap.size 4 i0 (.bool false) 1 Try.underlying75 hi hz0 hz1 .i64 .i64 _ _ k rfl rfl rfl rfl (by rw [hz2]; omega) (by unfold maxLen; omega) hS.out.1.bel.size ?_; intro w1 hown0 hgrow0; have HT : Hid (XQ W t (W.heap.size + 1) W.heap.size (W.heap.size + 2) k (adds l k) (gp z k) wr.heap.size k (tkn (adds l k) 0) w1) := ⟨hS.out.1.later ⟨hgrow0.os, hgrow0.tape, hgrow0.output, hgrow0.size, fun i hi => hgrow0.block i hi (by simp)⟩, by rw [tkn_zero, ← SB_new]; rw [show (Value.bool false).cells = #[.bool false] from rfl, toList_madeCells_one, Nat.mul_one] at hown0; exact hown0⟩; clear hown0 hgrow0))
      generalize wr.heap.size = s at *
      have HB := Lib.hid hS.out.2
      have HOK := Lib.hid HT.out.st.tn.ok
      have HG : Hid (∀ i, i < k → gp z k (i : Int) = z.getD i 0) := fun i hi => gp_at hi
      have HP : Hid (∃ m S, m ≤ k + 0 ∧ Tkg W t l (gp z k) k now s 0 m S w1) := ⟨k, adds l k, by omega, HT.out, Stg.start _ _ _⟩
      have HRn : Hid (∀ w, Below W.heap.size W w → ∀ i, i < k → ∃ bb off y, A0 = some ⟨bb, off, none⟩ ∧ bb < W.heap.size ∧ l.getD i 0 = y ∧ w.cell? ⟨bb, off + i, none⟩ = some (.int .i64 y)) := fun w hb i hi => by
        obtain ⟨bb, off, y, e1, e2, e3, e4⟩ := R1.out.cell hb hi
        exact ⟨bb, off, y, e1, e2, getD_at e3, e4⟩
      have HRz : Hid (∀ w, Below W.heap.size W w → ∀ i, i < k → ∃ bb off y, A1 = some ⟨bb, off, none⟩ ∧ bb < W.heap.size ∧ z.getD i 0 = y ∧ w.cell? ⟨bb, off + i, none⟩ = some (.int .i64 y)) := fun w hb i hi => by
        obtain ⟨bb, off, y, e1, e2, e3, e4⟩ := R2.out.cell hb (show i < m by omega)
        exact ⟨bb, off, y, e1, e2, getD_at e3, e4⟩
      clear HT hS hi hz0 hz1 hz2 i0 R1 R2 hlt
      generalize gp z k = g at *
      go_wp2_with fail
      generalize w1 = wb at *
      go_loopw [10, 11, 12] (fun la id i wr => ∃ j : Nat, j ≤ k ∧ la = .int .i64 (pvW (adds l k) j) ∧ id = .int .i64 (pvI (adds l k) j) ∧ i = .int .i64 (j : Int) ∧ Hid (∃ m S, m ≤ k + j ∧ Tkg W t l g k now s j m S wr)) (fun _ _ i _ => k - (intOf i).toNat)
      case atStart => exact ⟨0, by omega, rfl, rfl, rfl, HP⟩
      case round =>
        clear HP
        obtain ⟨j, hj, rfl, rfl, rfl, hS⟩ := hrel
        obtain ⟨m', S, hm', hQ, hG⟩ := hS.out
        have HQ := Lib.hid hQ
        have HG2 := Lib.hid hG
        have hll := hG.len
        rw [adds_len] at hll
        clear hS hQ hG
        by_cases hcase : ∃ x, (adds l k)[j]? = some x ∧ x.w ≤ now
        · obtain ⟨x, hxj, hxw⟩ := hcase
          have hjl : j < k := by have := at_lt hxj; rw [adds_len] at this; exact this
          obtain ⟨q, hq, hxe⟩ := adds_mem.1 (at_mem hxj)
          obtain ⟨S', hS'⟩ := HG2.out.head HOK.out HQ.out.st.tn.ok hxj hxw
          subst hS'
          have HPd : Hid (tkn (adds l k) (j + 1) = fun i => tkn (adds l k) j i || q == i) := tkn_succ hxj (by rw [hxe])
          have hpn : tkn (adds l k) j q = false := tkn_new HOK.out hxj (by rw [hxe])
          have HPv := Lib.hid (pv_succ hxj)
          have HPl : Hid (pvW (adds l k) j < x.w ∨ pvW (adds l k) j = x.w ∧ pvI (adds l k) j < x.id) := pv_lt HOK.out hxj (by rw [hxe]; exact (HB.out q hq).1.1) (fun y hy => by obtain ⟨i, _, rfl⟩ := adds_mem.1 hy; rfl)
          have HXJ := Lib.hid hxj
          have HOK9 := Lib.hid HQ.out.st.tn.ok
          obtain ⟨bb, off, y, hA, hbb, hy, hcy⟩ := HRn.out wr HQ.out.st.bel q hq
          rw [hy] at hxe
          have hyb := (HB.out q hq).1
          have hgq := HG.out q hq
          have hyb2 := (HB.out q hq)
          rw [hy] at hyb
          subst hxe
          simp only at hxw HPl HPv
          have HQ1 := Lib.hid HQ.out
          have HG1 := Lib.hid HG2.out
          have hll1 := hll
          have hQb := HQ.out.st.bel
          subst hA
          clear HQ HG2 hxj
          have q1 : ¬ (q : Int) < 0 := by omega
          have q0 : (0 : Int) ≤ (q : Int) := by omega
          have q2 : ¬ (k : Int) ≤ (q : Int) := by omega
          have q3 : (q : Int) < (k : Int) := by omega
          have q4 : ¬ now < y := by omega
          have q5 : ¬ k ≤ q := by omega
          have q8 : decide (now < y) = false := decide_eq_false q4
          have q6 : decide ((k : Int) ≤ (q : Int)) = false := decide_eq_false q2
          have q7 : decide (k ≤ q) = false := decide_eq_false q5
          have b5 : IntKind.i64.wrap ((j : Int) + 1) = (j : Int) + 1 := by rw [IntKind.wrap_i64]; omega
          generalize hyw : y = xw at *
          obtain ⟨m2, S2, hm2, HK, HN⟩ := take_step HQ1.out.st HG1.out HOK.out HXJ.out hyb (HB.out q hq).2 BN.out hgq (by simp at hll1 ⊢; omega) (by omega) hxw
          have HK := Lib.hid HK
          have HN := Lib.hid HN
          clear HG1 HOK9 hgq hll1 hll
          go_wp2_with fail
          refine HK.out.mono ?_
          rintro e w3 ⟨rfl, h, ho⟩
          have HE : Hid (XQ W t (W.heap.size + 1) W.heap.size (W.heap.size + 2) m2 S2 g s k (tkn (adds l k) j) (w3.alloc (.cells #[.int .i64 (q : Int), .int .i64 xw, .int .i64 now] 63))) := (HQ1.out.go ⟨h, ho⟩).box _
          have D4 := Lib.hid (Dbk.new w3 (q : Int) xw now)
          have hcy4 := (cell_blk (HE.out.st.bel.block bb hbb) (off + q)).trans ((cell_blk (hQb.block bb hbb) (off + q)).symm.trans hcy)
          have nrs : w3.heap.size ≠ s := by have := (HQ1.out.ls).2; have := (HQ1.out.go ⟨h, ho⟩).ls.2; omega
          clear h ho HQ1 HK hcy hQb
          go_upto_region 17 with (fail)
          generalize w3.alloc (.cells #[.int .i64 (q : Int), .int .i64 xw, .int .i64 now] 63) = w4 at *
          generalize w3.heap.size = r at *
          go_upto_region 18 with (fail)
          have s0 := HE.out.at hq
          rw [hpn] at s0
          have hQc := HE.out.st.bel
          have KQ : Hid (∀ w', Below w4.heap.size w4 w' → w'.cell? ⟨r, 0, none⟩ = some (.int .i64 (q : Int)) ∧ w'.cell? ⟨r, 1, none⟩ = some (.int .i64 xw) ∧ w'.cell? ⟨r, 2, none⟩ = some (.int .i64 now) ∧ w'.cell? ⟨s, q, none⟩ = some (.bool false) ∧ w'.cell? ⟨bb, off + q, none⟩ = some (.int .i64 xw)) := fun w' hb => by
            have d := (D4.out.later hb).cells
            have s9 := (HE.out.later hb).at hq
            rw [hpn] at s9
            have hb9 := hQc.size
            exact ⟨d.1, d.2.1, d.2.2.1, s9.1, by rw [cell_blk (hb.block bb (by omega))]; exact hcy4⟩
          clear hcy4 s0
          rcases HPl.out with hlt2 | ⟨heq2, hlt2⟩
          · have p1 : ¬ xw < pvW (adds l k) j := by omega
            have p4 : decide (xw < pvW (adds l k) j) = false := decide_eq_false p1
            have p2 : (xw == pvW (adds l k) j) = false := by simp; omega
            generalize pvW (adds l k) j = pw at *
            generalize pvI (adds l k) j = pi at *
            refine but_startQ 1000 (fun w' => w'.cell? ⟨r, 0, none⟩ = some (.int .i64 (q : Int)) ∧ w'.cell? ⟨r, 1, none⟩ = some (.int .i64 xw) ∧ w'.cell? ⟨r, 2, none⟩ = some (.int .i64 now) ∧ w'.cell? ⟨s, q, none⟩ = some (.bool false) ∧ w'.cell? ⟨bb, off + q, none⟩ = some (.int .i64 xw)) (by kernel_rfl) (by as_aux_lemma => kernel_rfl) ?_
            intro hTidy
            have hHeld := KQ.out w4.drew (Below.refl _ _).drew
            change AnyBut _ _ _ _ _ _ 57 _ _ _
            refine but_takeQ (i := 0) (v := ?_) rfl hTidy (by kernel_rfl) (by kernel_rfl) (fun _ _ _ h => h) (Or.inl ⟨by rfl, ?_⟩) hHeld ?_
            rotate_left
            · intro w hSw
              (try dsimp only at hSw)
              go_split_ands
              go_simp
              try with_reducible rfl
            try simp only [List.getElem_toArray, List.getElem_cons_zero, Act.put, List.setIfInBounds_toArray, List.set_cons_zero, List.set_cons_succ]
            refine but_takeQ (i := 1) (v := ?_) rfl hTidy (by kernel_rfl) (by kernel_rfl) (fun _ _ _ h => h) (Or.inl ⟨by rfl, ?_⟩) hHeld ?_
            rotate_left
            · intro w hSw
              (try dsimp only at hSw)
              go_split_ands
              go_simp
              try with_reducible rfl
            try simp only [List.getElem_toArray, List.getElem_cons_succ, List.getElem_cons_zero, Act.put, List.setIfInBounds_toArray, List.set_cons_zero, List.set_cons_succ]
            refine but_takeQ (i := 2) (v := ?_) rfl hTidy (by kernel_rfl) (by kernel_rfl) (fun _ _ _ h => h) (Or.inl ⟨by rfl, ?_⟩) hHeld ?_
            rotate_left
            · intro w hSw
              (try dsimp only at hSw)
              go_split_ands
              go_simp
              try with_reducible rfl
            try simp only [List.getElem_toArray, List.getElem_cons_succ, List.getElem_cons_zero, Act.put, List.setIfInBounds_toArray, List.set_cons_zero, List.set_cons_succ]
            refine but_takeQ (i := 3) (v := ?_) rfl hTidy (by kernel_rfl) (by kernel_rfl) (fun _ _ _ h => h) (Or.inl ⟨by rfl, ?_⟩) hHeld ?_
            rotate_left
            · intro w hSw
              (try dsimp only at hSw)
              go_split_ands
              go_simp
              try with_reducible rfl
            try simp only [List.getElem_toArray, List.getElem_cons_succ, List.getElem_cons_zero, Act.put, List.setIfInBounds_toArray, List.set_cons_zero, List.set_cons_succ]
            refine but_takeQ (i := 4) (v := ?_) rfl hTidy (by kernel_rfl) (by kernel_rfl) (fun _ _ _ h => h) (Or.inl ⟨by rfl, ?_⟩) hHeld ?_
            rotate_left
            · intro w hSw
              (try dsimp only at hSw)
              go_split_ands
              go_simp
              try with_reducible rfl
            try simp only [List.getElem_toArray, List.getElem_cons_succ, List.getElem_cons_zero, Act.put, List.setIfInBounds_toArray, List.set_cons_zero, List.set_cons_succ]
            refine but_takeQ (i := 5) (v := ?_) rfl hTidy (by kernel_rfl) (by kernel_rfl) (fun _ _ _ h => h) (Or.inl ⟨by rfl, ?_⟩) hHeld ?_
            rotate_left
            · intro w hSw
              (try dsimp only at hSw)
              go_split_ands
              go_simp
              try with_reducible rfl
            try simp only [List.getElem_toArray, List.getElem_cons_succ, List.getElem_cons_zero, Act.put, List.setIfInBounds_toArray, List.set_cons_zero, List.set_cons_succ]
            refine but_takeQ (i := 6) (v := ?_) rfl hTidy (by kernel_rfl) (by kernel_rfl) (fun _ _ _ h => h) (Or.inl ⟨by rfl, ?_⟩) hHeld ?_
            rotate_left
            · intro w hSw
              (try dsimp only at hSw)
              go_split_ands
              go_simp
              try with_reducible rfl
            try simp only [List.getElem_toArray, List.getElem_cons_succ, List.getElem_cons_zero, Act.put, List.setIfInBounds_toArray, List.set_cons_zero, List.set_cons_succ]
            refine but_takeQ (i := 7) (v := ?_) rfl hTidy (by kernel_rfl) (by kernel_rfl) (fun _ _ _ h => h) (Or.inl ⟨by rfl, ?_⟩) hHeld ?_
            rotate_left
            · intro w hSw
              (try dsimp only at hSw)
              go_split_ands
              go_simp
              try with_reducible rfl
            try simp only [List.getElem_toArray, List.getElem_cons_succ, List.getElem_cons_zero, Act.put, List.setIfInBounds_toArray, List.set_cons_zero, List.set_cons_succ]
            refine but_takeQ (i := 8) (v := ?_) rfl hTidy (by kernel_rfl) (by kernel_rfl) (fun _ _ _ h => h) (Or.inl ⟨by rfl, ?_⟩) hHeld ?_
            rotate_left
            · intro w hSw
              (try dsimp only at hSw)
              go_split_ands
              go_simp
              try with_reducible rfl
            try simp only [List.getElem_toArray, List.getElem_cons_succ, List.getElem_cons_zero, Act.put, List.setIfInBounds_toArray, List.set_cons_zero, List.set_cons_succ]
            refine but_takeQ (i := 9) (v := ?_) rfl hTidy (by kernel_rfl) (by kernel_rfl) (fun _ _ _ h => h) (Or.inl ⟨by rfl, ?_⟩) hHeld ?_
            rotate_left
            · intro w hSw
              (try dsimp only at hSw)
              go_split_ands
              go_simp
              try with_reducible rfl
            try simp only [List.getElem_toArray, List.getElem_cons_succ, List.getElem_cons_zero, Act.put, List.setIfInBounds_toArray, List.set_cons_zero, List.set_cons_succ]
            refine but_takeQ (i := 10) (v := ?_) rfl hTidy (by kernel_rfl) (by kernel_rfl) (fun _ _ _ h => h) (Or.inl ⟨by rfl, ?_⟩) hHeld ?_
            rotate_left
            · intro w hSw
              (try dsimp only at hSw)
              go_split_ands
              go_simp
              try with_reducible rfl
            try simp only [List.getElem_toArray, List.getElem_cons_succ, List.getElem_cons_zero, Act.put, List.setIfInBounds_toArray, List.set_cons_zero, List.set_cons_succ]
            refine but_takeQ (i := 11) (v := ?_) rfl hTidy (by kernel_rfl) (by kernel_rfl) (fun _ _ _ h => h) (Or.inl ⟨by rfl, ?_⟩) hHeld ?_
            rotate_left
            · intro w hSw
              (try dsimp only at hSw)
              go_split_ands
              go_simp
              try with_reducible rfl
            try simp only [List.getElem_toArray, List.getElem_cons_succ, List.getElem_cons_zero, Act.put, List.setIfInBounds_toArray, List.set_cons_zero, List.set_cons_succ]
            refine but_takeQ (i := 12) (v := ?_) rfl hTidy (by kernel_rfl) (by kernel_rfl) (fun _ _ _ h => h) (Or.inl ⟨by rfl, ?_⟩) hHeld ?_
            rotate_left
            · intro w hSw
              (try dsimp only at hSw)
              go_split_ands
              go_simp
              try with_reducible rfl
            try simp only [List.getElem_toArray, List.getElem_cons_succ, List.getElem_cons_zero, Act.put, List.setIfInBounds_toArray, List.set_cons_zero, List.set_cons_succ]
            refine but_takeQ (i := 13) (v := ?_) rfl hTidy (by kernel_rfl) (by kernel_rfl) (fun _ _ _ h => h) (Or.inl ⟨by rfl, ?_⟩) hHeld ?_
            rotate_left
            · intro w hSw
              (try dsimp only at hSw)
              go_split_ands
              go_simp
              try with_reducible rfl
            try simp only [List.getElem_toArray, List.getElem_cons_succ, List.getElem_cons_zero, Act.put, List.setIfInBounds_toArray, List.set_cons_zero, List.set_cons_succ]
            refine but_takeQ (i := 14) (v := ?_) rfl hTidy (by kernel_rfl) (by kernel_rfl) (fun _ _ _ h => h) (Or.inl ⟨by rfl, ?_⟩) hHeld ?_
            rotate_left
            · intro w hSw
              (try dsimp only at hSw)
              go_split_ands
              go_simp
              try with_reducible rfl
            try simp only [List.getElem_toArray, List.getElem_cons_succ, List.getElem_cons_zero, Act.put, List.setIfInBounds_toArray, List.set_cons_zero, List.set_cons_succ]
            refine but_takeQ (i := 15) (v := ?_) rfl hTidy (by kernel_rfl) (by kernel_rfl) (fun _ _ _ h => h) (Or.inl ⟨by rfl, ?_⟩) hHeld ?_
            rotate_left
            · intro w hSw
              (try dsimp only at hSw)
              go_split_ands
              go_simp
              try with_reducible rfl
            try simp only [List.getElem_toArray, List.getElem_cons_succ, List.getElem_cons_zero, Act.put, List.setIfInBounds_toArray, List.set_cons_zero, List.set_cons_succ]
            refine but_takeQ (i := 16) (v := ?_) rfl hTidy (by kernel_rfl) (by kernel_rfl) (fun _ _ _ h => h) (Or.inl ⟨by rfl, ?_⟩) hHeld ?_
            rotate_left
            · intro w hSw
              (try dsimp only at hSw)
              go_split_ands
              go_simp
              try with_reducible rfl
            try simp only [List.getElem_toArray, List.getElem_cons_succ, List.getElem_cons_zero, Act.put, List.setIfInBounds_toArray, List.set_cons_zero, List.set_cons_succ]
            refine but_takeQ (i := 17) (v := ?_) rfl hTidy (by kernel_rfl) (by kernel_rfl) (fun _ _ _ h => h) (Or.inl ⟨by rfl, ?_⟩) hHeld ?_
            rotate_left
            · intro w hSw
              (try dsimp only at hSw)
              go_split_ands
              go_simp
              try with_reducible rfl
            try simp only [List.getElem_toArray, List.getElem_cons_succ, List.getElem_cons_zero, Act.put, List.setIfInBounds_toArray, List.set_cons_zero, List.set_cons_succ]
            refine but_takeQ (i := 18) (v := ?_) rfl hTidy (by kernel_rfl) (by kernel_rfl) (fun _ _ _ h => h) (Or.inl ⟨by rfl, ?_⟩) hHeld ?_
            rotate_left
            · intro w hSw
              (try dsimp only at hSw)
              go_split_ands
              go_simp
              try with_reducible rfl
            try simp only [List.getElem_toArray, List.getElem_cons_succ, List.getElem_cons_zero, Act.put, List.setIfInBounds_toArray, List.set_cons_zero, List.set_cons_succ]
            refine but_takeQ (i := 19) (v := ?_) rfl hTidy (by kernel_rfl) (by kernel_rfl) (fun _ _ _ h => h) (Or.inl ⟨by rfl, ?_⟩) hHeld ?_
            rotate_left
            · intro w hSw
              (try dsimp only at hSw)
              go_split_ands
              go_simp
              try with_reducible rfl
            try simp only [List.getElem_toArray, List.getElem_cons_succ, List.getElem_cons_zero, Act.put, List.setIfInBounds_toArray, List.set_cons_zero, List.set_cons_succ]
            refine but_takeQ (i := 20) (v := ?_) rfl hTidy (by kernel_rfl) (by kernel_rfl) (fun _ _ _ h => h) (Or.inl ⟨by rfl, ?_⟩) hHeld ?_
            rotate_left
            · intro w hSw
              (try dsimp only at hSw)
              go_split_ands
              go_simp
              try with_reducible rfl
            try simp only [List.getElem_toArray, List.getElem_cons_succ, List.getElem_cons_zero, Act.put, List.setIfInBounds_toArray, List.set_cons_zero, List.set_cons_succ]
            refine but_takeQ (i := 21) (v := ?_) rfl hTidy (by kernel_rfl) (by kernel_rfl) (fun _ _ _ h => h) (Or.inl ⟨by rfl, ?_⟩) hHeld ?_
            rotate_left
            · intro w hSw
              (try dsimp only at hSw)
              go_split_ands
              go_simp
              try with_reducible rfl
            try simp only [List.getElem_toArray, List.getElem_cons_succ, List.getElem_cons_zero, Act.put, List.setIfInBounds_toArray, List.set_cons_zero, List.set_cons_succ]
            refine but_takeQ (i := 22) (v := ?_) rfl hTidy (by kernel_rfl) (by kernel_rfl) (fun _ _ _ h => h) (Or.inl ⟨by rfl, ?_⟩) hHeld ?_
            rotate_left
            · intro w hSw
              (try dsimp only at hSw)
              go_split_ands
              go_simp
              try with_reducible rfl
            try simp only [List.getElem_toArray, List.getElem_cons_succ, List.getElem_cons_zero, Act.put, List.setIfInBounds_toArray, List.set_cons_zero, List.set_cons_succ]
            refine but_takeQ (i := 23) (v := ?_) rfl hTidy (by kernel_rfl) (by kernel_rfl) (fun _ _ _ h => h) (Or.inl ⟨by rfl, ?_⟩) hHeld ?_
            rotate_left
            · intro w hSw
              (try dsimp only at hSw)
              go_split_ands
              go_simp
              try with_reducible rfl
            try simp only [List.getElem_toArray, List.getElem_cons_succ, List.getElem_cons_zero, Act.put, List.setIfInBounds_toArray, List.set_cons_zero, List.set_cons_succ]
            refine but_takeQ (i := 24) (v := ?_) rfl hTidy (by kernel_rfl) (by kernel_rfl) (fun _ _ _ h => h) (Or.inl ⟨by rfl, ?_⟩) hHeld ?_
            rotate_left
            · intro w hSw
              (try dsimp only at hSw)
              go_split_ands
              go_simp
              try with_reducible rfl
            try simp only [List.getElem_toArray, List.getElem_cons_succ, List.getElem_cons_zero, Act.put, List.setIfInBounds_toArray, List.set_cons_zero, List.set_cons_succ]
            refine but_takeQ (i := 25) (v := ?_) rfl hTidy (by kernel_rfl) (by kernel_rfl) (fun _ _ _ h => h) (Or.inl ⟨by rfl, ?_⟩) hHeld ?_
            rotate_left
            · intro w hSw
              (try dsimp only at hSw)
              go_split_ands
              go_simp
              try with_reducible rfl
            try simp only [List.getElem_toArray, List.getElem_cons_succ, List.getElem_cons_zero, Act.put, List.setIfInBounds_toArray, List.set_cons_zero, List.set_cons_succ]
            refine but_takeQ (i := 26) (v := ?_) rfl hTidy (by kernel_rfl) (by kernel_rfl) (fun _ _ _ h => h) (Or.inl ⟨by rfl, ?_⟩) hHeld ?_
            rotate_left
            · intro w hSw
              (try dsimp only at hSw)
              go_split_ands
              go_simp
              try with_reducible rfl
            try simp only [List.getElem_toArray, List.getElem_cons_succ, List.getElem_cons_zero, Act.put, List.setIfInBounds_toArray, List.set_cons_zero, List.set_cons_succ]
            refine but_takeQ (i := 27) (v := ?_) rfl hTidy (by kernel_rfl) (by kernel_rfl) (fun _ _ _ h => h) (Or.inl ⟨by rfl, ?_⟩) hHeld ?_
            rotate_left
            · intro w hSw
              (try dsimp only at hSw)
              go_split_ands
              go_simp
              try with_reducible rfl
            try simp only [List.getElem_toArray, List.getElem_cons_succ, List.getElem_cons_zero, Act.put, List.setIfInBounds_toArray, List.set_cons_zero, List.set_cons_succ]
            refine but_takeQ (i := 28) (v := ?_) rfl hTidy (by kernel_rfl) (by kernel_rfl) (fun _ _ _ h => h) (Or.inl ⟨by rfl, ?_⟩) hHeld ?_
            rotate_left
            · intro w hSw
              (try dsimp only at hSw)
              go_split_ands
              go_simp
              try with_reducible rfl
            try simp only [List.getElem_toArray, List.getElem_cons_succ, List.getElem_cons_zero, Act.put, List.setIfInBounds_toArray, List.set_cons_zero, List.set_cons_succ]
            refine but_takeQ (i := 29) (v := ?_) rfl hTidy (by kernel_rfl) (by kernel_rfl) (fun _ _ _ h => h) (Or.inl ⟨by rfl, ?_⟩) hHeld ?_
            rotate_left
            · intro w hSw
              (try dsimp only at hSw)
              go_split_ands
              go_simp
              try with_reducible rfl
            try simp only [List.getElem_toArray, List.getElem_cons_succ, List.getElem_cons_zero, Act.put, List.setIfInBounds_toArray, List.set_cons_zero, List.set_cons_succ]
            refine but_takeQ (i := 30) (v := ?_) rfl hTidy (by kernel_rfl) (by kernel_rfl) (fun _ _ _ h => h) (Or.inl ⟨by rfl, ?_⟩) hHeld ?_
            rotate_left
            · intro w hSw
              (try dsimp only at hSw)
              go_split_ands
              go_simp
              try with_reducible rfl
            try simp only [List.getElem_toArray, List.getElem_cons_succ, List.getElem_cons_zero, Act.put, List.setIfInBounds_toArray, List.set_cons_zero, List.set_cons_succ]
            refine but_takeQ (i := 31) (v := ?_) rfl hTidy (by kernel_rfl) (by kernel_rfl) (fun _ _ _ h => h) (Or.inl ⟨by rfl, ?_⟩) hHeld ?_
            rotate_left
            · intro w hSw
              (try dsimp only at hSw)
              go_split_ands
              go_simp
              try with_reducible rfl
            try simp only [List.getElem_toArray, List.getElem_cons_succ, List.getElem_cons_zero, Act.put, List.setIfInBounds_toArray, List.set_cons_zero, List.set_cons_succ]
            refine but_takeQ (i := 32) (v := ?_) rfl hTidy (by kernel_rfl) (by kernel_rfl) (fun _ _ _ h => h) (Or.inl ⟨by rfl, ?_⟩) hHeld ?_
            rotate_left
            · intro w hSw
              (try dsimp only at hSw)
              go_split_ands
              go_simp
              try with_reducible rfl
            try simp only [List.getElem_toArray, List.getElem_cons_succ, List.getElem_cons_zero, Act.put, List.setIfInBounds_toArray, List.set_cons_zero, List.set_cons_succ]
            refine but_takeQ (i := 33) (v := ?_) rfl hTidy (by kernel_rfl) (by kernel_rfl) (fun _ _ _ h => h) (Or.inl ⟨by rfl, ?_⟩) hHeld ?_
            rotate_left
            · intro w hSw
              (try dsimp only at hSw)
              go_split_ands
              go_simp
              try with_reducible rfl
            try simp only [List.getElem_toArray, List.getElem_cons_succ, List.getElem_cons_zero, Act.put, List.setIfInBounds_toArray, List.set_cons_zero, List.set_cons_succ]
            refine but_takeQ (i := 34) (v := ?_) rfl hTidy (by kernel_rfl) (by kernel_rfl) (fun _ _ _ h => h) (Or.inl ⟨by rfl, ?_⟩) hHeld ?_
            rotate_left
            · intro w hSw
              (try dsimp only at hSw)
              go_split_ands
              go_simp
              try with_reducible rfl
            try simp only [List.getElem_toArray, List.getElem_cons_succ, List.getElem_cons_zero, Act.put, List.setIfInBounds_toArray, List.set_cons_zero, List.set_cons_succ]
            refine but_takeQ (i := 35) (v := ?_) rfl hTidy (by kernel_rfl) (by kernel_rfl) (fun _ _ _ h => h) (Or.inl ⟨by rfl, ?_⟩) hHeld ?_
            rotate_left
            · intro w hSw
              (try dsimp only at hSw)
              go_split_ands
              go_simp
              try with_reducible rfl
            try simp only [List.getElem_toArray, List.getElem_cons_succ, List.getElem_cons_zero, Act.put, List.setIfInBounds_toArray, List.set_cons_zero, List.set_cons_succ]
            refine but_takeQ (i := 36) (v := ?_) rfl hTidy (by kernel_rfl) (by kernel_rfl) (fun _ _ _ h => h) (Or.inl ⟨by rfl, ?_⟩) hHeld ?_
            rotate_left
            · intro w hSw
              (try dsimp only at hSw)
              go_split_ands
              go_simp
              try with_reducible rfl
            try simp only [List.getElem_toArray, List.getElem_cons_succ, List.getElem_cons_zero, Act.put, List.setIfInBounds_toArray, List.set_cons_zero, List.set_cons_succ]
            refine but_takeQ (i := 37) (v := ?_) rfl hTidy (by kernel_rfl) (by kernel_rfl) (fun _ _ _ h => h) (Or.inl ⟨by rfl, ?_⟩) hHeld ?_
            rotate_left
            · intro w hSw
              (try dsimp only at hSw)
              go_split_ands
              go_simp
              try with_reducible rfl
            try simp only [List.getElem_toArray, List.getElem_cons_succ, List.getElem_cons_zero, Act.put, List.setIfInBounds_toArray, List.set_cons_zero, List.set_cons_succ]
            refine but_takeQ (i := 38) (v := ?_) rfl hTidy (by kernel_rfl) (by kernel_rfl) (fun _ _ _ h => h) (Or.inl ⟨by rfl, ?_⟩) hHeld ?_
            rotate_left
            · intro w hSw
              (try dsimp only at hSw)
              go_split_ands
              go_simp
              try with_reducible rfl
            try simp only [List.getElem_toArray, List.getElem_cons_succ, List.getElem_cons_zero, Act.put, List.setIfInBounds_toArray, List.set_cons_zero, List.set_cons_succ]
            refine but_takeQ (i := 39) (v := ?_) rfl hTidy (by kernel_rfl) (by kernel_rfl) (fun _ _ _ h => h) (Or.inl ⟨by rfl, ?_⟩) hHeld ?_
            rotate_left
            · intro w hSw
              (try dsimp only at hSw)
              go_split_ands
              go_simp
              try with_reducible rfl
            try simp only [List.getElem_toArray, List.getElem_cons_succ, List.getElem_cons_zero, Act.put, List.setIfInBounds_toArray, List.set_cons_zero, List.set_cons_succ]
            refine but_takeQ (i := 40) (v := ?_) rfl hTidy (by kernel_rfl) (by kernel_rfl) (fun _ _ _ h => h) (Or.inl ⟨by rfl, ?_⟩) hHeld ?_
            rotate_left
            · intro w hSw
              (try dsimp only at hSw)
              go_split_ands
              go_simp
              try with_reducible rfl
            try simp only [List.getElem_toArray, List.getElem_cons_succ, List.getElem_cons_zero, Act.put, List.setIfInBounds_toArray, List.set_cons_zero, List.set_cons_succ]
            refine but_takeQ (i := 41) (v := ?_) rfl hTidy (by kernel_rfl) (by kernel_rfl) (fun _ _ _ h => h) (Or.inl ⟨by rfl, ?_⟩) hHeld ?_
            rotate_left
            · intro w hSw
              (try dsimp only at hSw)
              go_split_ands
              go_simp
              try with_reducible rfl
            try simp only [List.getElem_toArray, List.getElem_cons_succ, List.getElem_cons_zero, Act.put, List.setIfInBounds_toArray, List.set_cons_zero, List.set_cons_succ]
            refine but_takeQ (i := 42) (v := ?_) rfl hTidy (by kernel_rfl) (by kernel_rfl) (fun _ _ _ h => h) (Or.inl ⟨by rfl, ?_⟩) hHeld ?_
            rotate_left
            · intro w hSw
              (try dsimp only at hSw)
              go_split_ands
              go_simp
              try with_reducible rfl
            try simp only [List.getElem_toArray, List.getElem_cons_succ, List.getElem_cons_zero, Act.put, List.setIfInBounds_toArray, List.set_cons_zero, List.set_cons_succ]
            refine but_takeQ (i := 43) (v := ?_) rfl hTidy (by kernel_rfl) (by kernel_rfl) (fun _ _ _ h => h) (Or.inl ⟨by rfl, ?_⟩) hHeld ?_
            rotate_left
            · intro w hSw
              (try dsimp only at hSw)
              go_split_ands
              go_simp
              try with_reducible rfl
            try simp only [List.getElem_toArray, List.getElem_cons_succ, List.getElem_cons_zero, Act.put, List.setIfInBounds_toArray, List.set_cons_zero, List.set_cons_succ]
            refine but_takeQ (i := 44) (v := ?_) rfl hTidy (by kernel_rfl) (by kernel_rfl) (fun _ _ _ h => h) (Or.inl ⟨by rfl, ?_⟩) hHeld ?_
            rotate_left
            · intro w hSw
              (try dsimp only at hSw)
              go_split_ands
              go_simp
              try with_reducible rfl
            try simp only [List.getElem_toArray, List.getElem_cons_succ, List.getElem_cons_zero, Act.put, List.setIfInBounds_toArray, List.set_cons_zero, List.set_cons_succ]
            refine but_takeQ (i := 45) (v := ?_) rfl hTidy (by kernel_rfl) (by kernel_rfl) (fun _ _ _ h => h) (Or.inl ⟨by rfl, ?_⟩) hHeld ?_
            rotate_left
            · intro w hSw
              (try dsimp only at hSw)
              go_split_ands
              go_simp
              try with_reducible rfl
            try simp only [List.getElem_toArray, List.getElem_cons_succ, List.getElem_cons_zero, Act.put, List.setIfInBounds_toArray, List.set_cons_zero, List.set_cons_succ]
            refine but_takeQ (i := 46) (v := ?_) rfl hTidy (by kernel_rfl) (by kernel_rfl) (fun _ _ _ h => h) (Or.inl ⟨by rfl, ?_⟩) hHeld ?_
            rotate_left
            · intro w hSw
              (try dsimp only at hSw)
              go_split_ands
              go_simp
              try with_reducible rfl
            try simp only [List.getElem_toArray, List.getElem_cons_succ, List.getElem_cons_zero, Act.put, List.setIfInBounds_toArray, List.set_cons_zero, List.set_cons_succ]
            refine but_takeQ (i := 47) (v := ?_) rfl hTidy (by kernel_rfl) (by kernel_rfl) (fun _ _ _ h => h) (Or.inl ⟨by rfl, ?_⟩) hHeld ?_
            rotate_left
            · intro w hSw
              (try dsimp only at hSw)
              go_split_ands
              go_simp
              try with_reducible rfl
            try simp only [List.getElem_toArray, List.getElem_cons_succ, List.getElem_cons_zero, Act.put, List.setIfInBounds_toArray, List.set_cons_zero, List.set_cons_succ]
            refine but_takeQ (i := 48) (v := ?_) rfl hTidy (by kernel_rfl) (by kernel_rfl) (fun _ _ _ h => h) (Or.inl ⟨by rfl, ?_⟩) hHeld ?_
            rotate_left
            · intro w hSw
              (try dsimp only at hSw)
              go_split_ands
              go_simp
              try with_reducible rfl
            try simp only [List.getElem_toArray, List.getElem_cons_succ, List.getElem_cons_zero, Act.put, List.setIfInBounds_toArray, List.set_cons_zero, List.set_cons_succ]
            refine but_takeQ (i := 49) (v := ?_) rfl hTidy (by kernel_rfl) (by kernel_rfl) (fun _ _ _ h => h) (Or.inl ⟨by rfl, ?_⟩) hHeld ?_
            rotate_left
            · intro w hSw
              (try dsimp only at hSw)
              go_split_ands
              go_simp
              try with_reducible rfl
            try simp only [List.getElem_toArray, List.getElem_cons_succ, List.getElem_cons_zero, Act.put, List.setIfInBounds_toArray, List.set_cons_zero, List.set_cons_succ]
            refine but_takeQ (i := 50) (v := ?_) rfl hTidy (by kernel_rfl) (by kernel_rfl) (fun _ _ _ h => h) (Or.inl ⟨by rfl, ?_⟩) hHeld ?_
            rotate_left
            · intro w hSw
              (try dsimp only at hSw)
              go_split_ands
              go_simp
              try with_reducible rfl
            try simp only [List.getElem_toArray, List.getElem_cons_succ, List.getElem_cons_zero, Act.put, List.setIfInBounds_toArray, List.set_cons_zero, List.set_cons_succ]
            refine but_takeQ (i := 51) (v := undef) rfl hTidy (by kernel_rfl) (by kernel_rfl) (fun _ _ _ h => h) (Or.inr ⟨by rfl, rfl⟩) hHeld ?_
            try simp only [List.getElem_toArray, List.getElem_cons_succ, List.getElem_cons_zero, Act.put, List.setIfInBounds_toArray, List.set_cons_zero, List.set_cons_succ]
            refine but_takeQ (i := 52) (v := undef) rfl hTidy (by kernel_rfl) (by kernel_rfl) (fun _ _ _ h => h) (Or.inr ⟨by rfl, rfl⟩) hHeld ?_
            try simp only [List.getElem_toArray, List.getElem_cons_succ, List.getElem_cons_zero, Act.put, List.setIfInBounds_toArray, List.set_cons_zero, List.set_cons_succ]
            refine but_takeQ (i := 53) (v := undef) rfl hTidy (by kernel_rfl) (by kernel_rfl) (fun _ _ _ h => h) (Or.inr ⟨by rfl, rfl⟩) hHeld ?_
            try simp only [List.getElem_toArray, List.getElem_cons_succ, List.getElem_cons_zero, Act.put, List.setIfInBounds_toArray, List.set_cons_zero, List.set_cons_succ]
            refine but_takeQ (i := 54) (v := undef) rfl hTidy (by kernel_rfl) (by kernel_rfl) (fun _ _ _ h => h) (Or.inr ⟨by rfl, rfl⟩) hHeld ?_
            try simp only [List.getElem_toArray, List.getElem_cons_succ, List.getElem_cons_zero, Act.put, List.setIfInBounds_toArray, List.set_cons_zero, List.set_cons_succ]
            refine but_takeQ (i := 55) (v := ?_) rfl hTidy (by kernel_rfl) (by kernel_rfl) (fun _ _ _ h => h) (Or.inl ⟨by rfl, ?_⟩) hHeld ?_
            rotate_left
            · intro w hSw
              (try dsimp only at hSw)
              go_split_ands
              go_simp
              try with_reducible rfl
            try simp only [List.getElem_toArray, List.getElem_cons_succ, List.getElem_cons_zero, Act.put, List.setIfInBounds_toArray, List.set_cons_zero, List.set_cons_succ]
            refine but_takeQ (i := 56) (v := ?_) rfl hTidy (by kernel_rfl) (by kernel_rfl) (fun _ _ _ h => h) (Or.inl ⟨by rfl, ?_⟩) hHeld ?_
            rotate_left
            · intro w hSw
              (try dsimp only at hSw)
              go_split_ands
              go_simp
              try with_reducible rfl
            try simp only [List.getElem_toArray, List.getElem_cons_succ, List.getElem_cons_zero, Act.put, List.setIfInBounds_toArray, List.set_cons_zero, List.set_cons_succ]
            refine but_done (by kernel_rfl) ?_
            try clear hHeld
            clear hTidy
            have HE2 := Lib.hid (HE.out.later (Below.refl _ _).drew)
            have D5 := Lib.hid (D4.out.later (Below.refl _ _).drew)
            clear HE D4 KQ hQc
            generalize w4.drew = w5 at *
            obtain ⟨r0, r1, r2, -⟩ := D5.out.cells
            obtain ⟨s0, s1⟩ := HE2.out.at hq
            have HE3 : Hid (XQ W t (W.heap.size + 1) W.heap.size (W.heap.size + 2) m2 S2 g s k (tkn (adds l k) (j + 1)) (w5.setCell ⟨s, q, none⟩ (.bool true))) := by rw [HPd.out]; exact HE2.out.set q
            go_upto_region 21 with (fail)
            have D6 : Hid (Dbk (w5.setCell ⟨s, q, none⟩ (.bool true)) r (q : Int) xw now) := (Below.heap_setCell _ _ _ _ (show r ≠ s from nrs)).trans D5.out
            generalize w5.setCell ⟨s, q, none⟩ (.bool true) = w6 at *
            clear r0 r1 r2 s0 s1 HE2 D5
            obtain ⟨r0, r1, r2, -⟩ := D6.out.cells
            go_wp2_with fail
            go_quiet (fail)
            have HE4 := Lib.hid (HE3.out.drewN nq)
            generalize w6.drewN nq = w7 at *
            clear HE3 D6 r0 r1 r2
            go_wp2_with fail
            go_roundw
            case rel => exact ⟨j + 1, by omega, by rw [HPv.out.1], by rw [HPv.out.2], by go_num, ⟨m2, S2, by omega, HE4.out, HN.out⟩⟩
            case measure => simp [intOf]; omega
          · have p1 : ¬ xw < pvW (adds l k) j := by omega
            have p4 : decide (xw < pvW (adds l k) j) = false := decide_eq_false p1
            have p2 : (xw == pvW (adds l k) j) = true := by simp; omega
            have p3 : ¬ (q : Int) < pvI (adds l k) j := by omega
            have p5 : decide ((q : Int) < pvI (adds l k) j) = false := decide_eq_false p3
            clear heq2
            generalize pvW (adds l k) j = pw at *
            generalize pvI (adds l k) j = pi at *
            refine but_startQ 1000 (fun w' => w'.cell? ⟨r, 0, none⟩ = some (.int .i64 (q : Int)) ∧ w'.cell? ⟨r, 1, none⟩ = some (.int .i64 xw) ∧ w'.cell? ⟨r, 2, none⟩ = some (.int .i64 now) ∧ w'.cell? ⟨s, q, none⟩ = some (.bool false) ∧ w'.cell? ⟨bb, off + q, none⟩ = some (.int .i64 xw)) (by kernel_rfl) (by as_aux_lemma => kernel_rfl) ?_
            intro hTidy
            have hHeld := KQ.out w4.drew (Below.refl _ _).drew
            change AnyBut _ _ _ _ _ _ 57 _ _ _
            refine but_takeQ (i := 0) (v := ?_) rfl hTidy (by kernel_rfl) (by kernel_rfl) (fun _ _ _ h => h) (Or.inl ⟨by rfl, ?_⟩) hHeld ?_
            rotate_left
            · intro w hSw
              (try dsimp only at hSw)
              go_split_ands
              go_simp
              try with_reducible rfl
            try simp only [List.getElem_toArray, List.getElem_cons_zero, Act.put, List.setIfInBounds_toArray, List.set_cons_zero, List.set_cons_succ]
            refine but_takeQ (i := 1) (v := ?_) rfl hTidy (by kernel_rfl) (by kernel_rfl) (fun _ _ _ h => h) (Or.inl ⟨by rfl, ?_⟩) hHeld ?_
            rotate_left
            · intro w hSw
              (try dsimp only at hSw)
              go_split_ands
              go_simp
              try with_reducible rfl
            try simp only [List.getElem_toArray, List.getElem_cons_succ, List.getElem_cons_zero, Act.put, List.setIfInBounds_toArray, List.set_cons_zero, List.set_cons_succ]
            refine but_takeQ (i := 2) (v := ?_) rfl hTidy (by kernel_rfl) (by kernel_rfl) (fun _ _ _ h => h) (Or.inl ⟨by rfl, ?_⟩) hHeld ?_
            rotate_left
            · intro w hSw
              (try dsimp only at hSw)
              go_split_ands
              go_simp
              try with_reducible rfl
            try simp only [List.getElem_toArray, List.getElem_cons_succ, List.getElem_cons_zero, Act.put, List.setIfInBounds_toArray, List.set_cons_zero, List.set_cons_succ]
            refine but_takeQ (i := 3) (v := ?_) rfl hTidy (by kernel_rfl) (by kernel_rfl) (fun _ _ _ h => h) (Or.inl ⟨by rfl, ?_⟩) hHeld ?_
            rotate_left
            · intro w hSw
              (try dsimp only at hSw)
              go_split_ands
              go_simp
              try with_reducible rfl
            try simp only [List.getElem_toArray, List.getElem_cons_succ, List.getElem_cons_zero, Act.put, List.setIfInBounds_toArray, List.set_cons_zero, List.set_cons_succ]
            refine but_takeQ (i := 4) (v := ?_) rfl hTidy (by kernel_rfl) (by kernel_rfl) (fun _ _ _ h => h) (Or.inl ⟨by rfl, ?_⟩) hHeld ?_
            rotate_left
            · intro w hSw
              (try dsimp only at hSw)
              go_split_ands
              go_simp
              try with_reducible rfl
            try simp only [List.getElem_toArray, List.getElem_cons_succ, List.getElem_cons_zero, Act.put, List.setIfInBounds_toArray, List.set_cons_zero, List.set_cons_succ]
            refine but_takeQ (i := 5) (v := ?_) rfl hTidy (by kernel_rfl) (by kernel_rfl) (fun _ _ _ h => h) (Or.inl ⟨by rfl, ?_⟩) hHeld ?_
            rotate_left
            · intro w hSw
              (try dsimp only at hSw)
              go_split_ands
              go_simp
              try with_reducible rfl
            try simp only [List.getElem_toArray, List.getElem_cons_succ, List.getElem_cons_zero, Act.put, List.setIfInBounds_toArray, List.set_cons_zero, List.set_cons_succ]
            refine but_takeQ (i := 6) (v := ?_) rfl hTidy (by kernel_rfl) (by kernel_rfl) (fun _ _ _ h => h) (Or.inl ⟨by rfl, ?_⟩) hHeld ?_
            rotate_left
            · intro w hSw
              (try dsimp only at hSw)
              go_split_ands
              go_simp
              try with_reducible rfl
            try simp only [List.getElem_toArray, List.getElem_cons_succ, List.getElem_cons_zero, Act.put, List.setIfInBounds_toArray, List.set_cons_zero, List.set_cons_succ]
            refine but_takeQ (i := 7) (v := ?_) rfl hTidy (by kernel_rfl) (by kernel_rfl) (fun _ _ _ h => h) (Or.inl ⟨by rfl, ?_⟩) hHeld ?_
            rotate_left
            · intro w hSw
              (try dsimp only at hSw)
              go_split_ands
              go_simp
              try with_reducible rfl
            try simp only [List.getElem_toArray, List.getElem_cons_succ, List.getElem_cons_zero, Act.put, List.setIfInBounds_toArray, List.set_cons_zero, List.set_cons_succ]
            refine but_takeQ (i := 8) (v := ?_) rfl hTidy (by kernel_rfl) (by kernel_rfl) (fun _ _ _ h => h) (Or.inl ⟨by rfl, ?_⟩) hHeld ?_
            rotate_left
            · intro w hSw
              (try dsimp only at hSw)
              go_split_ands
              go_simp
              try with_reducible rfl
            try simp only [List.getElem_toArray, List.getElem_cons_succ, List.getElem_cons_zero, Act.put, List.setIfInBounds_toArray, List.set_cons_zero, List.set_cons_succ]
            refine but_takeQ (i := 9) (v := ?_) rfl hTidy (by kernel_rfl) (by kernel_rfl) (fun _ _ _ h => h) (Or.inl ⟨by rfl, ?_⟩) hHeld ?_
            rotate_left
            · intro w hSw
              (try dsimp only at hSw)
              go_split_ands
              go_simp
              try with_reducible rfl
            try simp only [List.getElem_toArray, List.getElem_cons_succ, List.getElem_cons_zero, Act.put, List.setIfInBounds_toArray, List.set_cons_zero, List.set_cons_succ]
            refine but_takeQ (i := 10) (v := ?_) rfl hTidy (by kernel_rfl) (by kernel_rfl) (fun _ _ _ h => h) (Or.inl ⟨by rfl, ?_⟩) hHeld ?_
            rotate_left
            · intro w hSw
              (try dsimp only at hSw)
              go_split_ands
              go_simp
              try with_reducible rfl
            try simp only [List.getElem_toArray, List.getElem_cons_succ, List.getElem_cons_zero, Act.put, List.setIfInBounds_toArray, List.set_cons_zero, List.set_cons_succ]
            refine but_takeQ (i := 11) (v := ?_) rfl hTidy (by kernel_rfl) (by kernel_rfl) (fun _ _ _ h => h) (Or.inl ⟨by rfl, ?_⟩) hHeld ?_
            rotate_left
            · intro w hSw
              (try dsimp only at hSw)
              go_split_ands
              go_simp
              try with_reducible rfl
            try simp only [List.getElem_toArray, List.getElem_cons_succ, List.getElem_cons_zero, Act.put, List.setIfInBounds_toArray, List.set_cons_zero, List.set_cons_succ]
            refine but_takeQ (i := 12) (v := ?_) rfl hTidy (by kernel_rfl) (by kernel_rfl) (fun _ _ _ h => h) (Or.inl ⟨by rfl, ?_⟩) hHeld ?_
            rotate_left
            · intro w hSw
              (try dsimp only at hSw)
              go_split_ands
              go_simp
              try with_reducible rfl
            try simp only [List.getElem_toArray, List.getElem_cons_succ, List.getElem_cons_zero, Act.put, List.setIfInBounds_toArray, List.set_cons_zero, List.set_cons_succ]
            refine but_takeQ (i := 13) (v := ?_) rfl hTidy (by kernel_rfl) (by kernel_rfl) (fun _ _ _ h => h) (Or.inl ⟨by rfl, ?_⟩) hHeld ?_
            rotate_left
            · intro w hSw
              (try dsimp only at hSw)
              go_split_ands
              go_simp
              try with_reducible rfl
            try simp only [List.getElem_toArray, List.getElem_cons_succ, List.getElem_cons_zero, Act.put, List.setIfInBounds_toArray, List.set_cons_zero, List.set_cons_succ]
            refine but_takeQ (i := 14) (v := ?_) rfl hTidy (by kernel_rfl) (by kernel_rfl) (fun _ _ _ h => h) (Or.inl ⟨by rfl, ?_⟩) hHeld ?_
            rotate_left
            · intro w hSw
              (try dsimp only at hSw)
              go_split_ands
              go_simp
              try with_reducible rfl
            try simp only [List.getElem_toArray, List.getElem_cons_succ, List.getElem_cons_zero, Act.put, List.setIfInBounds_toArray, List.set_cons_zero, List.set_cons_succ]
            refine but_takeQ (i := 15) (v := ?_) rfl hTidy (by kernel_rfl) (by kernel_rfl) (fun _ _ _ h => h) (Or.inl ⟨by rfl, ?_⟩) hHeld ?_
            rotate_left
            · intro w hSw
              (try dsimp only at hSw)
              go_split_ands
              go_simp
              try with_reducible rfl
            try simp only [List.getElem_toArray, List.getElem_cons_succ, List.getElem_cons_zero, Act.put, List.setIfInBounds_toArray, List.set_cons_zero, List.set_cons_succ]
            refine but_takeQ (i := 16) (v := ?_) rfl hTidy (by kernel_rfl) (by kernel_rfl) (fun _ _ _ h => h) (Or.inl ⟨by rfl, ?_⟩) hHeld ?_
            rotate_left
            · intro w hSw
              (try dsimp only at hSw)
              go_split_ands
              go_simp
              try with_reducible rfl
            try simp only [List.getElem_toArray, List.getElem_cons_succ, List.getElem_cons_zero, Act.put, List.setIfInBounds_toArray, List.set_cons_zero, List.set_cons_succ]
            refine but_takeQ (i := 17) (v := ?_) rfl hTidy (by kernel_rfl) (by kernel_rfl) (fun _ _ _ h => h) (Or.inl ⟨by rfl, ?_⟩) hHeld ?_
            rotate_left
            · intro w hSw
              (try dsimp only at hSw)
              go_split_ands
              go_simp
              try with_reducible rfl
            try simp only [List.getElem_toArray, List.getElem_cons_succ, List.getElem_cons_zero, Act.put, List.setIfInBounds_toArray, List.set_cons_zero, List.set_cons_succ]
            refine but_takeQ (i := 18) (v := ?_) rfl hTidy (by kernel_rfl) (by kernel_rfl) (fun _ _ _ h => h) (Or.inl ⟨by rfl, ?_⟩) hHeld ?_
            rotate_left
            · intro w hSw
              (try dsimp only at hSw)
              go_split_ands
              go_simp
              try with_reducible rfl
            try simp only [List.getElem_toArray, List.getElem_cons_succ, List.getElem_cons_zero, Act.put, List.setIfInBounds_toArray, List.set_cons_zero, List.set_cons_succ]
            refine but_takeQ (i := 19) (v := ?_) rfl hTidy (by kernel_rfl) (by kernel_rfl) (fun _ _ _ h => h) (Or.inl ⟨by rfl, ?_⟩) hHeld ?_
            rotate_left
            · intro w hSw
              (try dsimp only at hSw)
              go_split_ands
              go_simp
              try with_reducible rfl
            try simp only [List.getElem_toArray, List.getElem_cons_succ, List.getElem_cons_zero, Act.put, List.setIfInBounds_toArray, List.set_cons_zero, List.set_cons_succ]
            refine but_takeQ (i := 20) (v := ?_) rfl hTidy (by kernel_rfl) (by kernel_rfl) (fun _ _ _ h => h) (Or.inl ⟨by rfl, ?_⟩) hHeld ?_
            rotate_left
            · intro w hSw
              (try dsimp only at hSw)
              go_split_ands
              go_simp
              try with_reducible rfl
            try simp only [List.getElem_toArray, List.getElem_cons_succ, List.getElem_cons_zero, Act.put, List.setIfInBounds_toArray, List.set_cons_zero, List.set_cons_succ]
            refine but_takeQ (i := 21) (v := ?_) rfl hTidy (by kernel_rfl) (by kernel_rfl) (fun _ _ _ h => h) (Or.inl ⟨by rfl, ?_⟩) hHeld ?_
            rotate_left
            · intro w hSw
              (try dsimp only at hSw)
              go_split_ands
              go_simp
              try with_reducible rfl
            try simp only [List.getElem_toArray, List.getElem_cons_succ, List.getElem_cons_zero, Act.put, List.setIfInBounds_toArray, List.set_cons_zero, List.set_cons_succ]
            refine but_takeQ (i := 22) (v := ?_) rfl hTidy (by kernel_rfl) (by kernel_rfl) (fun _ _ _ h => h) (Or.inl ⟨by rfl, ?_⟩) hHeld ?_
            rotate_left
            · intro w hSw
              (try dsimp only at hSw)
              go_split_ands
              go_simp
              try with_reducible rfl
            try simp only [List.getElem_toArray, List.getElem_cons_succ, List.getElem_cons_zero, Act.put, List.setIfInBounds_toArray, List.set_cons_zero, List.set_cons_succ]
            refine but_takeQ (i := 23) (v := ?_) rfl hTidy (by kernel_rfl) (by kernel_rfl) (fun _ _ _ h => h) (Or.inl ⟨by rfl, ?_⟩) hHeld ?_
            rotate_left
            · intro w hSw
              (try dsimp only at hSw)
              go_split_ands
              go_simp
              try with_reducible rfl
            try simp only [List.getElem_toArray, List.getElem_cons_succ, List.getElem_cons_zero, Act.put, List.setIfInBounds_toArray, List.set_cons_zero, List.set_cons_succ]
            refine but_takeQ (i := 24) (v := ?_) rfl hTidy (by kernel_rfl) (by kernel_rfl) (fun _ _ _ h => h) (Or.inl ⟨by rfl, ?_⟩) hHeld ?_
            rotate_left
            · intro w hSw
              (try dsimp only at hSw)
              go_split_ands
              go_simp
              try with_reducible rfl
            try simp only [List.getElem_toArray, List.getElem_cons_succ, List.getElem_cons_zero, Act.put, List.setIfInBounds_toArray, List.set_cons_zero, List.set_cons_succ]
            refine but_takeQ (i := 25) (v := ?_) rfl hTidy (by kernel_rfl) (by kernel_rfl) (fun _ _ _ h => h) (Or.inl ⟨by rfl, ?_⟩) hHeld ?_
            rotate_left
            · intro w hSw
              (try dsimp only at hSw)
              go_split_ands
              go_simp
              try with_reducible rfl
            try simp only [List.getElem_toArray, List.getElem_cons_succ, List.getElem_cons_zero, Act.put, List.setIfInBounds_toArray, List.set_cons_zero, List.set_cons_succ]
            refine but_takeQ (i := 26) (v := ?_) rfl hTidy (by kernel_rfl) (by kernel_rfl) (fun _ _ _ h => h) (Or.inl ⟨by rfl, ?_⟩) hHeld ?_
            rotate_left
            · intro w hSw
              (try dsimp only at hSw)
              go_split_ands
              go_simp
              try with_reducible rfl
            try simp only [List.getElem_toArray, List.getElem_cons_succ, List.getElem_cons_zero, Act.put, List.setIfInBounds_toArray, List.set_cons_zero, List.set_cons_succ]
            refine but_takeQ (i := 27) (v := ?_) rfl hTidy (by kernel_rfl) (by kernel_rfl) (fun _ _ _ h => h) (Or.inl ⟨by rfl, ?_⟩) hHeld ?_
            rotate_left
            · intro w hSw
              (try dsimp only at hSw)
              go_split_ands
              go_simp
              try with_reducible rfl
            try simp only [List.getElem_toArray, List.getElem_cons_succ, List.getElem_cons_zero, Act.put, List.setIfInBounds_toArray, List.set_cons_zero, List.set_cons_succ]
            refine but_takeQ (i := 28) (v := ?_) rfl hTidy (by kernel_rfl) (by kernel_rfl) (fun _ _ _ h => h) (Or.inl ⟨by rfl, ?_⟩) hHeld ?_
            rotate_left
            · intro w hSw
              (try dsimp only at hSw)
              go_split_ands
              go_simp
              try with_reducible rfl
            try simp only [List.getElem_toArray, List.getElem_cons_succ, List.getElem_cons_zero, Act.put, List.setIfInBounds_toArray, List.set_cons_zero, List.set_cons_succ]
            refine but_takeQ (i := 29) (v := ?_) rfl hTidy (by kernel_rfl) (by kernel_rfl) (fun _ _ _ h => h) (Or.inl ⟨by rfl, ?_⟩) hHeld ?_
            rotate_left
            · intro w hSw
              (try dsimp only at hSw)
              go_split_ands
              go_simp
              try with_reducible rfl
            try simp only [List.getElem_toArray, List.getElem_cons_succ, List.getElem_cons_zero, Act.put, List.setIfInBounds_toArray, List.set_cons_zero, List.set_cons_succ]
            refine but_takeQ (i := 30) (v := ?_) rfl hTidy (by kernel_rfl) (by kernel_rfl) (fun _ _ _ h => h) (Or.inl ⟨by rfl, ?_⟩) hHeld ?_
            rotate_left
            · intro w hSw
              (try dsimp only at hSw)
              go_split_ands
              go_simp
              try with_reducible rfl
            try simp only [List.getElem_toArray, List.getElem_cons_succ, List.getElem_cons_zero, Act.put, List.setIfInBounds_toArray, List.set_cons_zero, List.set_cons_succ]
            refine but_takeQ (i := 31) (v := ?_) rfl hTidy (by kernel_rfl) (by kernel_rfl) (fun _ _ _ h => h) (Or.inl ⟨by rfl, ?_⟩) hHeld ?_
            rotate_left
            · intro w hSw
              (try dsimp only at hSw)
              go_split_ands
              go_simp
              try with_reducible rfl
            try simp only [List.getElem_toArray, List.getElem_cons_succ, List.getElem_cons_zero, Act.put, List.setIfInBounds_toArray, List.set_cons_zero, List.set_cons_succ]
            refine but_takeQ (i := 32) (v := ?_) rfl hTidy (by kernel_rfl) (by kernel_rfl) (fun _ _ _ h => h) (Or.inl ⟨by rfl, ?_⟩) hHeld ?_
            rotate_left
            · intro w hSw
              (try dsimp only at hSw)
              go_split_ands
              go_simp
              try with_reducible rfl
            try simp only [List.getElem_toArray, List.getElem_cons_succ, List.getElem_cons_zero, Act.put, List.setIfInBounds_toArray, List.set_cons_zero, List.set_cons_succ]
            refine but_takeQ (i := 33) (v := ?_) rfl hTidy (by kernel_rfl) (by kernel_rfl) (fun _ _ _ h => h) (Or.inl ⟨by rfl, ?_⟩) hHeld ?_
            rotate_left
            · intro w hSw
              (try dsimp only at hSw)
              go_split_ands
              go_simp
              try with_reducible rfl
            try simp only [List.getElem_toArray, List.getElem_cons_succ, List.getElem_cons_zero, Act.put, List.setIfInBounds_toArray, List.set_cons_zero, List.set_cons_succ]
            refine but_takeQ (i := 34) (v := ?_) rfl hTidy (by kernel_rfl) (by kernel_rfl) (fun _ _ _ h => h) (Or.inl ⟨by rfl, ?_⟩) hHeld ?_
            rotate_left
            · intro w hSw
              (try dsimp only at hSw)
              go_split_ands
              go_simp
              try with_reducible rfl
            try simp only [List.getElem_toArray, List.getElem_cons_succ, List.getElem_cons_zero, Act.put, List.setIfInBounds_toArray, List.set_cons_zero, List.set_cons_succ]
            refine but_takeQ (i := 35) (v := ?_) rfl hTidy (by kernel_rfl) (by kernel_rfl) (fun _ _ _ h => h) (Or.inl ⟨by rfl, ?_⟩) hHeld ?_
            rotate_left
            · intro w hSw
              (try dsimp only at hSw)
              go_split_ands
              go_simp
              try with_reducible rfl
            try simp only [List.getElem_toArray, List.getElem_cons_succ, List.getElem_cons_zero, Act.put, List.setIfInBounds_toArray, List.set_cons_zero, List.set_cons_succ]
            refine but_takeQ (i := 36) (v := ?_) rfl hTidy (by kernel_rfl) (by kernel_rfl) (fun _ _ _ h => h) (Or.inl ⟨by rfl, ?_⟩) hHeld ?_
            rotate_left
            · intro w hSw
              (try dsimp only at hSw)
              go_split_ands
              go_simp
              try with_reducible rfl
            try simp only [List.getElem_toArray, List.getElem_cons_succ, List.getElem_cons_zero, Act.put, List.setIfInBounds_toArray, List.set_cons_zero, List.set_cons_succ]
            refine but_takeQ (i := 37) (v := ?_) rfl hTidy (by kernel_rfl) (by kernel_rfl) (fun _ _ _ h => h) (Or.inl ⟨by rfl, ?_⟩) hHeld ?_
            rotate_left
            · intro w hSw
              (try dsimp only at hSw)
              go_split_ands
              go_simp
              try with_reducible rfl
            try simp only [List.getElem_toArray, List.getElem_cons_succ, List.getElem_cons_zero, Act.put, List.setIfInBounds_toArray, List.set_cons_zero, List.set_cons_succ]
            refine but_takeQ (i := 38) (v := ?_) rfl hTidy (by kernel_rfl) (by kernel_rfl) (fun _ _ _ h => h) (Or.inl ⟨by rfl, ?_⟩) hHeld ?_
            rotate_left
            · intro w hSw
              (try dsimp only at hSw)
              go_split_ands
              go_simp
              try with_reducible rfl
            try simp only [List.getElem_toArray, List.getElem_cons_succ, List.getElem_cons_zero, Act.put, List.setIfInBounds_toArray, List.set_cons_zero, List.set_cons_succ]
            refine but_takeQ (i := 39) (v := ?_) rfl hTidy (by kernel_rfl) (by kernel_rfl) (fun _ _ _ h => h) (Or.inl ⟨by rfl, ?_⟩) hHeld ?_
            rotate_left
            · intro w hSw
              (try dsimp only at hSw)
              go_split_ands
              go_simp
              try with_reducible rfl
            try simp only [List.getElem_toArray, List.getElem_cons_succ, List.getElem_cons_zero, Act.put, List.setIfInBounds_toArray, List.set_cons_zero, List.set_cons_succ]
            refine but_takeQ (i := 40) (v := ?_) rfl hTidy (by kernel_rfl) (by kernel_rfl) (fun _ _ _ h => h) (Or.inl ⟨by rfl, ?_⟩) hHeld ?_
            rotate_left
            · intro w hSw
              (try dsimp only at hSw)
              go_split_ands
              go_simp
              try with_reducible rfl
            try simp only [List.getElem_toArray, List.getElem_cons_succ, List.getElem_cons_zero, Act.put, List.setIfInBounds_toArray, List.set_cons_zero, List.set_cons_succ]
            refine but_takeQ (i := 41) (v := ?_) rfl hTidy (by kernel_rfl) (by kernel_rfl) (fun _ _ _ h => h) (Or.inl ⟨by rfl, ?_⟩) hHeld ?_
            rotate_left
            · intro w hSw
              (try dsimp only at hSw)
              go_split_ands
              go_simp
              try with_reducible rfl
            try simp only [List.getElem_toArray, List.getElem_cons_succ, List.getElem_cons_zero, Act.put, List.setIfInBounds_toArray, List.set_cons_zero, List.set_cons_succ]
            refine but_takeQ (i := 42) (v := ?_) rfl hTidy (by kernel_rfl) (by kernel_rfl) (fun _ _ _ h => h) (Or.inl ⟨by rfl, ?_⟩) hHeld ?_
            rotate_left
            · intro w hSw
              (try dsimp only at hSw)
              go_split_ands
              go_simp
              try with_reducible rfl
            try simp only [List.getElem_toArray, List.getElem_cons_succ, List.getElem_cons_zero, Act.put, List.setIfInBounds_toArray, List.set_cons_zero, List.set_cons_succ]
            refine but_takeQ (i := 43) (v := ?_) rfl hTidy (by kernel_rfl) (by kernel_rfl) (fun _ _ _ h => h) (Or.inl ⟨by rfl, ?_⟩) hHeld ?_
            rotate_left
            · intro w hSw
              (try dsimp only at hSw)
              go_split_ands
              go_simp
              try with_reducible rfl
            try simp only [List.getElem_toArray, List.getElem_cons_succ, List.getElem_cons_zero, Act.put, List.setIfInBounds_toArray, List.set_cons_zero, List.set_cons_succ]
            refine but_takeQ (i := 44) (v := ?_) rfl hTidy (by kernel_rfl) (by kernel_rfl) (fun _ _ _ h => h) (Or.inl ⟨by rfl, ?_⟩) hHeld ?_
            rotate_left
            · intro w hSw
              (try dsimp only at hSw)
              go_split_ands
              go_simp
              try with_reducible rfl
            try simp only [List.getElem_toArray, List.getElem_cons_succ, List.getElem_cons_zero, Act.put, List.setIfInBounds_toArray, List.set_cons_zero, List.set_cons_succ]
            refine but_takeQ (i := 45) (v := ?_) rfl hTidy (by kernel_rfl) (by kernel_rfl) (fun _ _ _ h => h) (Or.inl ⟨by rfl, ?_⟩) hHeld ?_
            rotate_left
            · intro w hSw
              (try dsimp only at hSw)
              go_split_ands
              go_simp
              try with_reducible rfl
            try simp only [List.getElem_toArray, List.getElem_cons_succ, List.getElem_cons_zero, Act.put, List.setIfInBounds_toArray, List.set_cons_zero, List.set_cons_succ]
            refine but_takeQ (i := 46) (v := ?_) rfl hTidy (by kernel_rfl) (by kernel_rfl) (fun _ _ _ h => h) (Or.inl ⟨by rfl, ?_⟩) hHeld ?_
            rotate_left
            · intro w hSw
              (try dsimp only at hSw)
              go_split_ands
              go_simp
              try with_reducible rfl
            try simp only [List.getElem_toArray, List.getElem_cons_succ, List.getElem_cons_zero, Act.put, List.setIfInBounds_toArray, List.set_cons_zero, List.set_cons_succ]
            refine but_takeQ (i := 47) (v := ?_) rfl hTidy (by kernel_rfl) (by kernel_rfl) (fun _ _ _ h => h) (Or.inl ⟨by rfl, ?_⟩) hHeld ?_
            rotate_left
            · intro w hSw
              (try dsimp only at hSw)
              go_split_ands
              go_simp
              try with_reducible rfl
            try simp only [List.getElem_toArray, List.getElem_cons_succ, List.getElem_cons_zero, Act.put, List.setIfInBounds_toArray, List.set_cons_zero, List.set_cons_succ]
            refine but_takeQ (i := 48) (v := ?_) rfl hTidy (by kernel_rfl) (by kernel_rfl) (fun _ _ _ h => h) (Or.inl ⟨by rfl, ?_⟩) hHeld ?_
            rotate_left
            · intro w hSw
              (try dsimp only at hSw)
              go_split_ands
              go_simp
              try with_reducible rfl
            try simp only [List.getElem_toArray, List.getElem_cons_succ, List.getElem_cons_zero, Act.put, List.setIfInBounds_toArray, List.set_cons_zero, List.set_cons_succ]
            refine but_takeQ (i := 49) (v := ?_) rfl hTidy (by kernel_rfl) (by kernel_rfl) (fun _ _ _ h => h) (Or.inl ⟨by rfl, ?_⟩) hHeld ?_
            rotate_left
            · intro w hSw
              (try dsimp only at hSw)
              go_split_ands
              go_simp
              try with_reducible rfl
            try simp only [List.getElem_toArray, List.getElem_cons_succ, List.getElem_cons_zero, Act.put, List.setIfInBounds_toArray, List.set_cons_zero, List.set_cons_succ]
            refine but_takeQ (i := 50) (v := ?_) rfl hTidy (by kernel_rfl) (by kernel_rfl) (fun _ _ _ h => h) (Or.inl ⟨by rfl, ?_⟩) hHeld ?_
            rotate_left
            · intro w hSw
              (try dsimp only at hSw)
              go_split_ands
              go_simp
              try with_reducible rfl
            try simp only [List.getElem_toArray, List.getElem_cons_succ, List.getElem_cons_zero, Act.put, List.setIfInBounds_toArray, List.set_cons_zero, List.set_cons_succ]
            refine but_takeQ (i := 51) (v := ?_) rfl hTidy (by kernel_rfl) (by kernel_rfl) (fun _ _ _ h => h) (Or.inl ⟨by rfl, ?_⟩) hHeld ?_
            rotate_left
            · intro w hSw
              (try dsimp only at hSw)
              go_split_ands
              go_simp
              try with_reducible rfl
            try simp only [List.getElem_toArray, List.getElem_cons_succ, List.getElem_cons_zero, Act.put, List.setIfInBounds_toArray, List.set_cons_zero, List.set_cons_succ]
            refine but_takeQ (i := 52) (v := ?_) rfl hTidy (by kernel_rfl) (by kernel_rfl) (fun _ _ _ h => h) (Or.inl ⟨by rfl, ?_⟩) hHeld ?_
            rotate_left
            · intro w hSw
              (try dsimp only at hSw)
              go_split_ands
              go_simp
              try with_reducible rfl
            try simp only [List.getElem_toArray, List.getElem_cons_succ, List.getElem_cons_zero, Act.put, List.setIfInBounds_toArray, List.set_cons_zero, List.set_cons_succ]
            refine but_takeQ (i := 53) (v := ?_) rfl hTidy (by kernel_rfl) (by kernel_rfl) (fun _ _ _ h => h) (Or.inl ⟨by rfl, ?_⟩) hHeld ?_
            rotate_left
            · intro w hSw
              (try dsimp only at hSw)
              go_split_ands
              go_simp
              try with_reducible rfl
            try simp only [List.getElem_toArray, List.getElem_cons_succ, List.getElem_cons_zero, Act.put, List.setIfInBounds_toArray, List.set_cons_zero, List.set_cons_succ]
            refine but_takeQ (i := 54) (v := ?_) rfl hTidy (by kernel_rfl) (by kernel_rfl) (fun _ _ _ h => h) (Or.inl ⟨by rfl, ?_⟩) hHeld ?_
            rotate_left
            · intro w hSw
              (try dsimp only at hSw)
              go_split_ands
              go_simp
              try with_reducible rfl
            try simp only [List.getElem_toArray, List.getElem_cons_succ, List.getElem_cons_zero, Act.put, List.setIfInBounds_toArray, List.set_cons_zero, List.set_cons_succ]
            refine but_takeQ (i := 55) (v := ?_) rfl hTidy (by kernel_rfl) (by kernel_rfl) (fun _ _ _ h => h) (Or.inl ⟨by rfl, ?_⟩) hHeld ?_
            rotate_left
            · intro w hSw
              (try dsimp only at hSw)
              go_split_ands
              go_simp
              try with_reducible rfl
            try simp only [List.getElem_toArray, List.getElem_cons_succ, List.getElem_cons_zero, Act.put, List.setIfInBounds_toArray, List.set_cons_zero, List.set_cons_succ]
            refine but_takeQ (i := 56) (v := ?_) rfl hTidy (by kernel_rfl) (by kernel_rfl) (fun _ _ _ h => h) (Or.inl ⟨by rfl, ?_⟩) hHeld ?_
            rotate_left
            · intro w hSw
              (try dsimp only at hSw)
              go_split_ands
              go_simp
              try with_reducible rfl
            try simp only [List.getElem_toArray, List.getElem_cons_succ, List.getElem_cons_zero, Act.put, List.setIfInBounds_toArray, List.set_cons_zero, List.set_cons_succ]
            refine but_done (by kernel_rfl) ?_
            try clear hHeld
            clear hTidy
            have HE2 := Lib.hid (HE.out.later (Below.refl _ _).drew)
            have D5 := Lib.hid (D4.out.later (Below.refl _ _).drew)
            clear HE D4 KQ hQc
            generalize w4.drew = w5 at *
            obtain ⟨r0, r1, r2, -⟩ := D5.out.cells
            obtain ⟨s0, s1⟩ := HE2.out.at hq
            have HE3 : Hid (XQ W t (W.heap.size + 1) W.heap.size (W.heap.size + 2) m2 S2 g s k (tkn (adds l k) (j + 1)) (w5.setCell ⟨s, q, none⟩ (.bool true))) := by rw [HPd.out]; exact HE2.out.set q
            go_upto_region 21 with (fail)
            have D6 : Hid (Dbk (w5.setCell ⟨s, q, none⟩ (.bool true)) r (q : Int) xw now) := (Below.heap_setCell _ _ _ _ (show r ≠ s from nrs)).trans D5.out
            generalize w5.setCell ⟨s, q, none⟩ (.bool true) = w6 at *
            clear r0 r1 r2 s0 s1 HE2 D5
            obtain ⟨r0, r1, r2, -⟩ := D6.out.cells
            go_wp2_with fail
            go_quiet (fail)
            have HE4 := Lib.hid (HE3.out.drewN nq)
            generalize w6.drewN nq = w7 at *
            clear HE3 D6 r0 r1 r2
            go_wp2_with fail
            go_roundw
            case rel => exact ⟨j + 1, by omega, by rw [HPv.out.1], by rw [HPv.out.2], by go_num, ⟨m2, S2, by omega, HE4.out, HN.out⟩⟩
            case measure => simp [intOf]; omega
        · have hleft : Left (adds l k) now j := left_of HOK.out fun x hx => by
            have h9 : ¬ x.w ≤ now := fun e => hcase ⟨x, hx, e⟩
            omega
          have HL := Lib.hid hleft
          have HK := Lib.hid (HQ.out.st.run (tn_take_no HQ.out.st.tn (by omega) (HG2.out.idle hleft)))
          clear hcase hleft
          go_wp2_with fail
          refine HK.out.mono ?_
          rintro e w3 ⟨rfl, h, ho⟩
          have HE : Hid (XQ W t (W.heap.size + 1) W.heap.size (W.heap.size + 2) m' S g s k (tkn (adds l k) j) (w3.alloc (.cells #[.int .i64 0, .int .i64 0, .int .i64 0] 63))) := (HQ.out.go ⟨h, ho⟩).box _
          clear h ho HQ HK
          go_wp2_with fail
          generalize w3.alloc (.cells #[.int .i64 0, .int .i64 0, .int .i64 0] 63) = wc at *
          go_loopw [15] (fun i wr => ∃ q : Nat, q ≤ k ∧ i = .int .i64 (q : Int) ∧ Hid (XQ W t (W.heap.size + 1) W.heap.size (W.heap.size + 2) m' S g s k (tkn (adds l k) j) wr)) (fun i _ => k - (intOf i).toNat)
          case atStart => exact ⟨0, by omega, rfl, HE⟩
          case round =>
            clear HE
            obtain ⟨q, hq, rfl, HQ⟩ := hrel
            by_cases hqk : q < k
            · obtain ⟨bb, off, lq, hA, hbb, hlq, hcl⟩ := HRn.out W (Below.refl _ _) q hqk
              obtain ⟨bc, off2, zq, hA1, hbc, hzq, hcz⟩ := HRz.out W (Below.refl _ _) q hqk
              have htk := tkn_end HOK.out HG2.out HL.out hqk
              have hst := stays HOK.out HG2.out HL.out hqk
              rw [HG.out q hqk, hlq, hzq] at hst
              rw [hlq] at htk
              subst hA
              subst hA1
              have q3 : (q : Int) < (k : Int) := by omega
              have q4 : (q : Int) < (m : Int) := by omega
              have q0 : (0 : Int) ≤ (q : Int) := by omega
              have q1 : ¬ (q : Int) < 0 := by omega
              have b5 : IntKind.i64.wrap ((q : Int) + 1) = (q : Int) + 1 := by rw [IntKind.wrap_i64]; omega
              by_cases hln : lq ≤ now
              · rw [decide_eq_true hln] at htk
                have hln2 : ¬ now < lq := by omega
                have d1 : decide (now < lq) = false := decide_eq_false hln2
                have d2 : decide (lq ≤ now) = true := decide_eq_true hln
                by_cases hzp : 0 < zq
                · have hst := hst.2 (.inr hzp)
                  have d3 : decide (0 < zq) = true := decide_eq_true hzp
                  obtain ⟨p, y, hpy, hyi⟩ := ids_mem hst
                  have hyw := HG2.out.later HL.out y (at_mem hpy)
                  have hyn : ¬ y.w ≤ now := by omega
                  have d4 : decide (y.w ≤ now) = false := decide_eq_false hyn
                  have HK := Lib.hid (HQ.out.st.run (tn_armed_yes (x := y) HQ.out.st.tn (at_mem hpy) (by omega)))
                  rw [hyi] at HK
                  clear hst
                  go_wp2_with fail
                  refine HK.out.mono ?_
                  rintro e w3 ⟨rfl, h, ho⟩
                  have HE := Lib.hid (HQ.out.go ⟨h, ho⟩)
                  clear h ho HQ HK
                  go_upto_region 27 with (fail)
                  have KQ : Hid (∀ w', Below w3.heap.size w3 w' → w'.cell? ⟨s, q, none⟩ = some (.bool true) ∧ w'.cell? ⟨bb, off + q, none⟩ = some (.int .i64 lq) ∧ w'.cell? ⟨bc, off2 + q, none⟩ = some (.int .i64 zq)) := fun w' hb => by
                    have hb9 := HE.out.st.bel
                    have s9 := (HE.out.later hb).at hqk
                    rw [htk] at s9
                    exact ⟨s9.1, by rw [cell_blk (hb.block bb (by have := hb9.size; omega)), cell_blk (hb9.block bb hbb)]; exact hcl, by rw [cell_blk (hb.block bc (by have := hb9.size; omega)), cell_blk (hb9.block bc hbc)]; exact hcz⟩
                  refine but_startQ 1000 (fun w' => w'.cell? ⟨s, q, none⟩ = some (.bool true) ∧ w'.cell? ⟨bb, off + q, none⟩ = some (.int .i64 lq) ∧ w'.cell? ⟨bc, off2 + q, none⟩ = some (.int .i64 zq)) (by kernel_rfl) (by as_aux_lemma => kernel_rfl) ?_
                  intro hTidy
                  have hHeld := KQ.out w3.drew (Below.refl _ _).drew
                  change AnyBut _ _ _ _ _ _ 36 _ _ _
                  refine but_takeQ (i := 0) (v := ?_) rfl hTidy (by kernel_rfl) (by kernel_rfl) (fun _ _ _ h => h) (Or.inl ⟨by rfl, ?_⟩) hHeld ?_
                  rotate_left
                  · intro w hSw
                    (try dsimp only at hSw)
                    go_split_ands
                    go_simp
                    try with_reducible rfl
                  try simp only [List.getElem_toArray, List.getElem_cons_zero, Act.put, List.setIfInBounds_toArray, List.set_cons_zero, List.set_cons_succ]
                  refine but_takeQ (i := 1) (v := ?_) rfl hTidy (by kernel_rfl) (by kernel_rfl) (fun _ _ _ h => h) (Or.inl ⟨by rfl, ?_⟩) hHeld ?_
                  rotate_left
                  · intro w hSw
                    (try dsimp only at hSw)
                    go_split_ands
                    go_simp
                    try with_reducible rfl
                  try simp only [List.getElem_toArray, List.getElem_cons_succ, List.getElem_cons_zero, Act.put, List.setIfInBounds_toArray, List.set_cons_zero, List.set_cons_succ]
                  refine but_takeQ (i := 2) (v := ?_) rfl hTidy (by kernel_rfl) (by kernel_rfl) (fun _ _ _ h => h) (Or.inl ⟨by rfl, ?_⟩) hHeld ?_
                  rotate_left
                  · intro w hSw
                    (try dsimp only at hSw)
                    go_split_ands
                    go_simp
                    try with_reducible rfl
                  try simp only [List.getElem_toArray, List.getElem_cons_succ, List.getElem_cons_zero, Act.put, List.setIfInBounds_toArray, List.set_cons_zero, List.set_cons_succ]
                  refine but_takeQ (i := 3) (v := ?_) rfl hTidy (by kernel_rfl) (by kernel_rfl) (fun _ _ _ h => h) (Or.inl ⟨by rfl, ?_⟩) hHeld ?_
                  rotate_left
                  · intro w hSw
                    (try dsimp only at hSw)
                    go_split_ands
                    go_simp
                    try with_reducible rfl
                  try simp only [List.getElem_toArray, List.getElem_cons_succ, List.getElem_cons_zero, Act.put, List.setIfInBounds_toArray, List.set_cons_zero, List.set_cons_succ]
                  refine but_takeQ (i := 4) (v := ?_) rfl hTidy (by kernel_rfl) (by kernel_rfl) (fun _ _ _ h => h) (Or.inl ⟨by rfl, ?_⟩) hHeld ?_
                  rotate_left
                  · intro w hSw
                    (try dsimp only at hSw)
                    go_split_ands
                    go_simp
                    try with_reducible rfl
                  try simp only [List.getElem_toArray, List.getElem_cons_succ, List.getElem_cons_zero, Act.put, List.setIfInBounds_toArray, List.set_cons_zero, List.set_cons_succ]
                  refine but_takeQ (i := 5) (v := ?_) rfl hTidy (by kernel_rfl) (by kernel_rfl) (fun _ _ _ h => h) (Or.inl ⟨by rfl, ?_⟩) hHeld ?_
                  rotate_left
                  · intro w hSw
                    (try dsimp only at hSw)
                    go_split_ands
                    go_simp
                    try with_reducible rfl
                  try simp only [List.getElem_toArray, List.getElem_cons_succ, List.getElem_cons_zero, Act.put, List.setIfInBounds_toArray, List.set_cons_zero, List.set_cons_succ]
                  refine but_takeQ (i := 6) (v := ?_) rfl hTidy (by kernel_rfl) (by kernel_rfl) (fun _ _ _ h => h) (Or.inl ⟨by rfl, ?_⟩) hHeld ?_
                  rotate_left
                  · intro w hSw
                    (try dsimp only at hSw)
                    go_split_ands
                    go_simp
                    try with_reducible rfl
                  try simp only [List.getElem_toArray, List.getElem_cons_succ, List.getElem_cons_zero, Act.put, List.setIfInBounds_toArray, List.set_cons_zero, List.set_cons_succ]
                  refine but_takeQ (i := 7) (v := ?_) rfl hTidy (by kernel_rfl) (by kernel_rfl) (fun _ _ _ h => h) (Or.inl ⟨by rfl, ?_⟩) hHeld ?_
                  rotate_left
                  · intro w hSw
                    (try dsimp only at hSw)
                    go_split_ands
                    go_simp
                    try with_reducible rfl
                  try simp only [List.getElem_toArray, List.getElem_cons_succ, List.getElem_cons_zero, Act.put, List.setIfInBounds_toArray, List.set_cons_zero, List.set_cons_succ]
                  refine but_takeQ (i := 8) (v := ?_) rfl hTidy (by kernel_rfl) (by kernel_rfl) (fun _ _ _ h => h) (Or.inl ⟨by rfl, ?_⟩) hHeld ?_
                  rotate_left
                  · intro w hSw
                    (try dsimp only at hSw)
                    go_split_ands
                    go_simp
                    try with_reducible rfl
                  try simp only [List.getElem_toArray, List.getElem_cons_succ, List.getElem_cons_zero, Act.put, List.setIfInBounds_toArray, List.set_cons_zero, List.set_cons_succ]
                  refine but_takeQ (i := 9) (v := ?_) rfl hTidy (by kernel_rfl) (by kernel_rfl) (fun _ _ _ h => h) (Or.inl ⟨by rfl, ?_⟩) hHeld ?_
                  rotate_left
                  · intro w hSw
                    (try dsimp only at hSw)
                    go_split_ands
                    go_simp
                    try with_reducible rfl
                  try simp only [List.getElem_toArray, List.getElem_cons_succ, List.getElem_cons_zero, Act.put, List.setIfInBounds_toArray, List.set_cons_zero, List.set_cons_succ]
                  refine but_takeQ (i := 10) (v := ?_) rfl hTidy (by kernel_rfl) (by kernel_rfl) (fun _ _ _ h => h) (Or.inl ⟨by rfl, ?_⟩) hHeld ?_
                  rotate_left
                  · intro w hSw
                    (try dsimp only at hSw)
                    go_split_ands
                    go_simp
                    try with_reducible rfl
                  try simp only [List.getElem_toArray, List.getElem_cons_succ, List.getElem_cons_zero, Act.put, List.setIfInBounds_toArray, List.set_cons_zero, List.set_cons_succ]
                  refine but_takeQ (i := 11) (v := ?_) rfl hTidy (by kernel_rfl) (by kernel_rfl) (fun _ _ _ h => h) (Or.inl ⟨by rfl, ?_⟩) hHeld ?_
                  rotate_left
                  · intro w hSw
                    (try dsimp only at hSw)
                    go_split_ands
                    go_simp
                    try with_reducible rfl
                  try simp only [List.getElem_toArray, List.getElem_cons_succ, List.getElem_cons_zero, Act.put, List.setIfInBounds_toArray, List.set_cons_zero, List.set_cons_succ]
                  refine but_takeQ (i := 12) (v := ?_) rfl hTidy (by kernel_rfl) (by kernel_rfl) (fun _ _ _ h => h) (Or.inl ⟨by rfl, ?_⟩) hHeld ?_
                  rotate_left
                  · intro w hSw
                    (try dsimp only at hSw)
                    go_split_ands
                    go_simp
                    try with_reducible rfl
                  try simp only [List.getElem_toArray, List.getElem_cons_succ, List.getElem_cons_zero, Act.put, List.setIfInBounds_toArray, List.set_cons_zero, List.set_cons_succ]
                  refine but_takeQ (i := 13) (v := ?_) rfl hTidy (by kernel_rfl) (by kernel_rfl) (fun _ _ _ h => h) (Or.inl ⟨by rfl, ?_⟩) hHeld ?_
                  rotate_left
                  · intro w hSw
                    (try dsimp only at hSw)
                    go_split_ands
                    go_simp
                    try with_reducible rfl
                  try simp only [List.getElem_toArray, List.getElem_cons_succ, List.getElem_cons_zero, Act.put, List.setIfInBounds_toArray, List.set_cons_zero, List.set_cons_succ]
                  refine but_takeQ (i := 14) (v := ?_) rfl hTidy (by kernel_rfl) (by kernel_rfl) (fun _ _ _ h => h) (Or.inl ⟨by rfl, ?_⟩) hHeld ?_
                  rotate_left
                  · intro w hSw
                    (try dsimp only at hSw)
                    go_split_ands
                    go_simp
                    try with_reducible rfl
                  try simp only [List.getElem_toArray, List.getElem_cons_succ, List.getElem_cons_zero, Act.put, List.setIfInBounds_toArray, List.set_cons_zero, List.set_cons_succ]
                  refine but_takeQ (i := 15) (v := ?_) rfl hTidy (by kernel_rfl) (by kernel_rfl) (fun _ _ _ h => h) (Or.inl ⟨by rfl, ?_⟩) hHeld ?_
                  rotate_left
                  · intro w hSw
                    (try dsimp only at hSw)
                    go_split_ands
                    go_simp
                    try with_reducible rfl
                  try simp only [List.getElem_toArray, List.getElem_cons_succ, List.getElem_cons_zero, Act.put, List.setIfInBounds_toArray, List.set_cons_zero, List.set_cons_succ]
                  refine but_takeQ (i := 16) (v := ?_) rfl hTidy (by kernel_rfl) (by kernel_rfl) (fun _ _ _ h => h) (Or.inl ⟨by rfl, ?_⟩) hHeld ?_
                  rotate_left
                  · intro w hSw
                    (try dsimp only at hSw)
                    go_split_ands
                    go_simp
                    try with_reducible rfl
                  try simp only [List.getElem_toArray, List.getElem_cons_succ, List.getElem_cons_zero, Act.put, List.setIfInBounds_toArray, List.set_cons_zero, List.set_cons_succ]
                  refine but_takeQ (i := 17) (v := ?_) rfl hTidy (by kernel_rfl) (by kernel_rfl) (fun _ _ _ h => h) (Or.inl ⟨by rfl, ?_⟩) hHeld ?_
                  rotate_left
                  · intro w hSw
                    (try dsimp only at hSw)
                    go_split_ands
                    go_simp
                    try with_reducible rfl
                  try simp only [List.getElem_toArray, List.getElem_cons_succ, List.getElem_cons_zero, Act.put, List.setIfInBounds_toArray, List.set_cons_zero, List.set_cons_succ]
                  refine but_takeQ (i := 18) (v := ?_) rfl hTidy (by kernel_rfl) (by kernel_rfl) (fun _ _ _ h => h) (Or.inl ⟨by rfl, ?_⟩) hHeld ?_
                  rotate_left
                  · intro w hSw
                    (try dsimp only at hSw)
                    go_split_ands
                    go_simp
                    try with_reducible rfl
                  try simp only [List.getElem_toArray, List.getElem_cons_succ, List.getElem_cons_zero, Act.put, List.setIfInBounds_toArray, List.set_cons_zero, List.set_cons_succ]
                  refine but_takeQ (i := 19) (v := ?_) rfl hTidy (by kernel_rfl) (by kernel_rfl) (fun _ _ _ h => h) (Or.inl ⟨by rfl, ?_⟩) hHeld ?_
                  rotate_left
                  · intro w hSw
                    (try dsimp only at hSw)
                    go_split_ands
                    go_simp
                    try with_reducible rfl
                  try simp only [List.getElem_toArray, List.getElem_cons_succ, List.getElem_cons_zero, Act.put, List.setIfInBounds_toArray, List.set_cons_zero, List.set_cons_succ]
                  refine but_takeQ (i := 20) (v := ?_) rfl hTidy (by kernel_rfl) (by kernel_rfl) (fun _ _ _ h => h) (Or.inl ⟨by rfl, ?_⟩) hHeld ?_
                  rotate_left
                  · intro w hSw
                    (try dsimp only at hSw)
                    go_split_ands
                    go_simp
                    try with_reducible rfl
                  try simp only [List.getElem_toArray, List.getElem_cons_succ, List.getElem_cons_zero, Act.put, List.setIfInBounds_toArray, List.set_cons_zero, List.set_cons_succ]
                  refine but_takeQ (i := 21) (v := ?_) rfl hTidy (by kernel_rfl) (by kernel_rfl) (fun _ _ _ h => h) (Or.inl ⟨by rfl, ?_⟩) hHeld ?_
                  rotate_left
                  · intro w hSw
                    (try dsimp only at hSw)
                    go_split_ands
                    go_simp
                    try with_reducible rfl
                  try simp only [List.getElem_toArray, List.getElem_cons_succ, List.getElem_cons_zero, Act.put, List.setIfInBounds_toArray, List.set_cons_zero, List.set_cons_succ]
                  refine but_takeQ (i := 22) (v := ?_) rfl hTidy (by kernel_rfl) (by kernel_rfl) (fun _ _ _ h => h) (Or.inl ⟨by rfl, ?_⟩) hHeld ?_
                  rotate_left
                  · intro w hSw
                    (try dsimp only at hSw)
                    go_split_ands
                    go_simp
                    try with_reducible rfl
                  try simp only [List.getElem_toArray, List.getElem_cons_succ, List.getElem_cons_zero, Act.put, List.setIfInBounds_toArray, List.set_cons_zero, List.set_cons_succ]
                  refine but_takeQ (i := 23) (v := ?_) rfl hTidy (by kernel_rfl) (by kernel_rfl) (fun _ _ _ h => h) (Or.inl ⟨by rfl, ?_⟩) hHeld ?_
                  rotate_left
                  · intro w hSw
                    (try dsimp only at hSw)
                    go_split_ands
                    go_simp
                    try with_reducible rfl
                  try simp only [List.getElem_toArray, List.getElem_cons_succ, List.getElem_cons_zero, Act.put, List.setIfInBounds_toArray, List.set_cons_zero, List.set_cons_succ]
                  refine but_takeQ (i := 24) (v := ?_) rfl hTidy (by kernel_rfl) (by kernel_rfl) (fun _ _ _ h => h) (Or.inl ⟨by rfl, ?_⟩) hHeld ?_
                  rotate_left
                  · intro w hSw
                    (try dsimp only at hSw)
                    go_split_ands
                    go_simp
                    try with_reducible rfl
                  try simp only [List.getElem_toArray, List.getElem_cons_succ, List.getElem_cons_zero, Act.put, List.setIfInBounds_toArray, List.set_cons_zero, List.set_cons_succ]
                  refine but_takeQ (i := 25) (v := ?_) rfl hTidy (by kernel_rfl) (by kernel_rfl) (fun _ _ _ h => h) (Or.inl ⟨by rfl, ?_⟩) hHeld ?_
                  rotate_left
                  · intro w hSw
                    (try dsimp only at hSw)
                    go_split_ands
                    go_simp
                    try with_reducible rfl
                  try simp only [List.getElem_toArray, List.getElem_cons_succ, List.getElem_cons_zero, Act.put, List.setIfInBounds_toArray, List.set_cons_zero, List.set_cons_succ]
                  refine but_takeQ (i := 26) (v := ?_) rfl hTidy (by kernel_rfl) (by kernel_rfl) (fun _ _ _ h => h) (Or.inl ⟨by rfl, ?_⟩) hHeld ?_
                  rotate_left
                  · intro w hSw
                    (try dsimp only at hSw)
                    go_split_ands
                    go_simp
                    try with_reducible rfl
                  try simp only [List.getElem_toArray, List.getElem_cons_succ, List.getElem_cons_zero, Act.put, List.setIfInBounds_toArray, List.set_cons_zero, List.set_cons_succ]
                  refine but_takeQ (i := 27) (v := ?_) rfl hTidy (by kernel_rfl) (by kernel_rfl) (fun _ _ _ h => h) (Or.inl ⟨by rfl, ?_⟩) hHeld ?_
                  rotate_left
                  · intro w hSw
                    (try dsimp only at hSw)
                    go_split_ands
                    go_simp
                    try with_reducible rfl
                  try simp only [List.getElem_toArray, List.getElem_cons_succ, List.getElem_cons_zero, Act.put, List.setIfInBounds_toArray, List.set_cons_zero, List.set_cons_succ]
                  refine but_takeQ (i := 28) (v := ?_) rfl hTidy (by kernel_rfl) (by kernel_rfl) (fun _ _ _ h => h) (Or.inl ⟨by rfl, ?_⟩) hHeld ?_
                  rotate_left
                  · intro w hSw
                    (try dsimp only at hSw)
                    go_split_ands
                    go_simp
                    try with_reducible rfl
                  try simp only [List.getElem_toArray, List.getElem_cons_succ, List.getElem_cons_zero, Act.put, List.setIfInBounds_toArray, List.set_cons_zero, List.set_cons_succ]
                  refine but_takeQ (i := 29) (v := ?_) rfl hTidy (by kernel_rfl) (by kernel_rfl) (fun _ _ _ h => h) (Or.inl ⟨by rfl, ?_⟩) hHeld ?_
                  rotate_left
                  · intro w hSw
                    (try dsimp only at hSw)
                    go_split_ands
                    go_simp
                    try with_reducible rfl
                  try simp only [List.getElem_toArray, List.getElem_cons_succ, List.getElem_cons_zero, Act.put, List.setIfInBounds_toArray, List.set_cons_zero, List.set_cons_succ]
                  refine but_takeQ (i := 30) (v := ?_) rfl hTidy (by kernel_rfl) (by kernel_rfl) (fun _ _ _ h => h) (Or.inl ⟨by rfl, ?_⟩) hHeld ?_
                  rotate_left
                  · intro w hSw
                    (try dsimp only at hSw)
                    go_split_ands
                    go_simp
                    try with_reducible rfl
                  try simp only [List.getElem_toArray, List.getElem_cons_succ, List.getElem_cons_zero, Act.put, List.setIfInBounds_toArray, List.set_cons_zero, List.set_cons_succ]
                  refine but_takeQ (i := 31) (v := ?_) rfl hTidy (by kernel_rfl) (by kernel_rfl) (fun _ _ _ h => h) (Or.inl ⟨by rfl, ?_⟩) hHeld ?_
                  rotate_left
                  · intro w hSw
                    (try dsimp only at hSw)
                    go_split_ands
                    go_simp
                    try with_reducible rfl
                  try simp only [List.getElem_toArray, List.getElem_cons_succ, List.getElem_cons_zero, Act.put, List.setIfInBounds_toArray, List.set_cons_zero, List.set_cons_succ]
                  refine but_takeQ (i := 32) (v := ?_) rfl hTidy (by kernel_rfl) (by kernel_rfl) (fun _ _ _ h => h) (Or.inl ⟨by rfl, ?_⟩) hHeld ?_
                  rotate_left
                  · intro w hSw
                    (try dsimp only at hSw)
                    go_split_ands
                    go_simp
                    try with_reducible rfl
                  try simp only [List.getElem_toArray, List.getElem_cons_succ, List.getElem_cons_zero, Act.put, List.setIfInBounds_toArray, List.set_cons_zero, List.set_cons_succ]
                  refine but_takeQ (i := 33) (v := ?_) rfl hTidy (by kernel_rfl) (by kernel_rfl) (fun _ _ _ h => h) (Or.inl ⟨by rfl, ?_⟩) hHeld ?_
                  rotate_left
                  · intro w hSw
                    (try dsimp only at hSw)
                    go_split_ands
                    go_simp
                    try with_reducible rfl
                  try simp only [List.getElem_toArray, List.getElem_cons_succ, List.getElem_cons_zero, Act.put, List.setIfInBounds_toArray, List.set_cons_zero, List.set_cons_succ]
                  refine but_takeQ (i := 34) (v := ?_) rfl hTidy (by kernel_rfl) (by kernel_rfl) (fun _ _ _ h => h) (Or.inl ⟨by rfl, ?_⟩) hHeld ?_
                  rotate_left
                  · intro w hSw
                    (try dsimp only at hSw)
                    go_split_ands
                    go_simp
                    try with_reducible rfl
                  try simp only [List.getElem_toArray, List.getElem_cons_succ, List.getElem_cons_zero, Act.put, List.setIfInBounds_toArray, List.set_cons_zero, List.set_cons_succ]
                  refine but_takeQ (i := 35) (v := ?_) rfl hTidy (by kernel_rfl) (by kernel_rfl) (fun _ _ _ h => h) (Or.inl ⟨by rfl, ?_⟩) hHeld ?_
                  rotate_left
                  · intro w hSw
                    (try dsimp only at hSw)
                    go_split_ands
                    go_simp
                    try with_reducible rfl
                  try simp only [List.getElem_toArray, List.getElem_cons_succ, List.getElem_cons_zero, Act.put, List.setIfInBounds_toArray, List.set_cons_zero, List.set_cons_succ]
                  refine but_done (by kernel_rfl) ?_
                  try clear hHeld
                  clear hTidy
                  have HE2 := Lib.hid (HE.out.later (Below.refl _ _).drew)
                  clear HE KQ
                  go_wp2_with fail
                  go_roundw
                  case rel => exact ⟨q + 1, by omega, by go_num, HE2⟩
                  case measure => simp [intOf]; omega
                · have d3 : decide (0 < zq) = false := decide_eq_false hzp
                  have hst : (q : Int) ∉ ids S := fun e => by rcases hst.1 e with h | h <;> omega
                  have HK := Lib.hid (HQ.out.st.run (tn_armed_no (k := (q : Int)) HQ.out.st.tn (wf_small (by omega) (by omega)) hst))
                  clear hst
                  go_wp2_with fail
                  refine HK.out.mono ?_
                  rintro e w3 ⟨rfl, h, ho⟩
                  have HE := Lib.hid (HQ.out.go ⟨h, ho⟩)
                  clear h ho HQ HK
                  go_upto_region 27 with (fail)
                  have KQ : Hid (∀ w', Below w3.heap.size w3 w' → w'.cell? ⟨s, q, none⟩ = some (.bool true) ∧ w'.cell? ⟨bb, off + q, none⟩ = some (.int .i64 lq) ∧ w'.cell? ⟨bc, off2 + q, none⟩ = some (.int .i64 zq)) := fun w' hb => by
                    have hb9 := HE.out.st.bel
                    have s9 := (HE.out.later hb).at hqk
                    rw [htk] at s9
                    exact ⟨s9.1, by rw [cell_blk (hb.block bb (by have := hb9.size; omega)), cell_blk (hb9.block bb hbb)]; exact hcl, by rw [cell_blk (hb.block bc (by have := hb9.size; omega)), cell_blk (hb9.block bc hbc)]; exact hcz⟩
                  refine but_startQ 1000 (fun w' => w'.cell? ⟨s, q, none⟩ = some (.bool true) ∧ w'.cell? ⟨bb, off + q, none⟩ = some (.int .i64 lq) ∧ w'.cell? ⟨bc, off2 + q, none⟩ = some (.int .i64 zq)) (by kernel_rfl) (by as_aux_lemma => kernel_rfl) ?_
                  intro hTidy
                  have hHeld := KQ.out w3.drew (Below.refl _ _).drew
                  change AnyBut _ _ _ _ _ _ 36 _ _ _
                  refine but_takeQ (i := 0) (v := ?_) rfl hTidy (by kernel_rfl) (by kernel_rfl) (fun _ _ _ h => h) (Or.inl ⟨by rfl, ?_⟩) hHeld ?_
                  rotate_left
                  · intro w hSw
                    (try dsimp only at hSw)
                    go_split_ands
                    go_simp
                    try with_reducible rfl
                  try simp only [List.getElem_toArray, List.getElem_cons_zero, Act.put, List.setIfInBounds_toArray, List.set_cons_zero, List.set_cons_succ]
                  refine but_takeQ (i := 1) (v := ?_) rfl hTidy (by kernel_rfl) (by kernel_rfl) (fun _ _ _ h => h) (Or.inl ⟨by rfl, ?_⟩) hHeld ?_
                  rotate_left
                  · intro w hSw
                    (try dsimp only at hSw)
                    go_split_ands
                    go_simp
                    try with_reducible rfl
                  try simp only [List.getElem_toArray, List.getElem_cons_succ, List.getElem_cons_zero, Act.put, List.setIfInBounds_toArray, List.set_cons_zero, List.set_cons_succ]
                  refine but_takeQ (i := 2) (v := ?_) rfl hTidy (by kernel_rfl) (by kernel_rfl) (fun _ _ _ h => h) (Or.inl ⟨by rfl, ?_⟩) hHeld ?_
                  rotate_left
                  · intro w hSw
                    (try dsimp only at hSw)
                    go_split_ands
                    go_simp
                    try with_reducible rfl
                  try simp only [List.getElem_toArray, List.getElem_cons_succ, List.getElem_cons_zero, Act.put, List.setIfInBounds_toArray, List.set_cons_zero, List.set_cons_succ]
                  refine but_takeQ (i := 3) (v := ?_) rfl hTidy (by kernel_rfl) (by kernel_rfl) (fun _ _ _ h => h) (Or.inl ⟨by rfl, ?_⟩) hHeld ?_
                  rotate_left
                  · intro w hSw
                    (try dsimp only at hSw)
                    go_split_ands
                    go_simp
                    try with_reducible rfl
                  try simp only [List.getElem_toArray, List.getElem_cons_succ, List.getElem_cons_zero, Act.put, List.setIfInBounds_toArray, List.set_cons_zero, List.set_cons_succ]
                  refine but_takeQ (i := 4) (v := ?_) rfl hTidy (by kernel_rfl) (by kernel_rfl) (fun _ _ _ h => h) (Or.inl ⟨by rfl, ?_⟩) hHeld ?_
                  rotate_left
                  · intro w hSw
                    (try dsimp only at hSw)
                    go_split_ands
                    go_simp
                    try with_reducible rfl
                  try simp only [List.getElem_toArray, List.getElem_cons_succ, List.getElem_cons_zero, Act.put, List.setIfInBounds_toArray, List.set_cons_zero, List.set_cons_succ]
                  refine but_takeQ (i := 5) (v := ?_) rfl hTidy (by kernel_rfl) (by kernel_rfl) (fun _ _ _ h => h) (Or.inl ⟨by rfl, ?_⟩) hHeld ?_
                  rotate_left
                  · intro w hSw
                    (try dsimp only at hSw)
                    go_split_ands
                    go_simp
                    try with_reducible rfl
                  try simp only [List.getElem_toArray, List.getElem_cons_succ, List.getElem_cons_zero, Act.put, List.setIfInBounds_toArray, List.set_cons_zero, List.set_cons_succ]
                  refine but_takeQ (i := 6) (v := ?_) rfl hTidy (by kernel_rfl) (by kernel_rfl) (fun _ _ _ h => h) (Or.inl ⟨by rfl, ?_⟩) hHeld ?_
                  rotate_left
                  · intro w hSw
                    (try dsimp only at hSw)
                    go_split_ands
                    go_simp
                    try with_reducible rfl
                  try simp only [List.getElem_toArray, List.getElem_cons_succ, List.getElem_cons_zero, Act.put, List.setIfInBounds_toArray, List.set_cons_zero, List.set_cons_succ]
                  refine but_takeQ (i := 7) (v := ?_) rfl hTidy (by kernel_rfl) (by kernel_rfl) (fun _ _ _ h => h) (Or.inl ⟨by rfl, ?_⟩) hHeld ?_
                  rotate_left
                  · intro w hSw
                    (try dsimp only at hSw)
                    go_split_ands
                    go_simp
                    try with_reducible rfl
                  try simp only [List.getElem_toArray, List.getElem_cons_succ, List.getElem_cons_zero, Act.put, List.setIfInBounds_toArray, List.set_cons_zero, List.set_cons_succ]
                  refine but_takeQ (i := 8) (v := ?_) rfl hTidy (by kernel_rfl) (by kernel_rfl) (fun _ _ _ h => h) (Or.inl ⟨by rfl, ?_⟩) hHeld ?_
                  rotate_left
                  · intro w hSw
                    (try dsimp only at hSw)
                    go_split_ands
                    go_simp
                    try with_reducible rfl
                  try simp only [List.getElem_toArray, List.getElem_cons_succ, List.getElem_cons_zero, Act.put, List.setIfInBounds_toArray, List.set_cons_zero, List.set_cons_succ]
                  refine but_takeQ (i := 9) (v := ?_) rfl hTidy (by kernel_rfl) (by kernel_rfl) (fun _ _ _ h => h) (Or.inl ⟨by rfl, ?_⟩) hHeld ?_
                  rotate_left
                  · intro w hSw
                    (try dsimp only at hSw)
                    go_split_ands
                    go_simp
                    try with_reducible rfl
                  try simp only [List.getElem_toArray, List.getElem_cons_succ, List.getElem_cons_zero, Act.put, List.setIfInBounds_toArray, List.set_cons_zero, List.set_cons_succ]
                  refine but_takeQ (i := 10) (v := ?_) rfl hTidy (by kernel_rfl) (by kernel_rfl) (fun _ _ _ h => h) (Or.inl ⟨by rfl, ?_⟩) hHeld ?_
                  rotate_left
                  · intro w hSw
                    (try dsimp only at hSw)
                    go_split_ands
                    go_simp
                    try with_reducible rfl
                  try simp only [List.getElem_toArray, List.getElem_cons_succ, List.getElem_cons_zero, Act.put, List.setIfInBounds_toArray, List.set_cons_zero, List.set_cons_succ]
                  refine but_takeQ (i := 11) (v := ?_) rfl hTidy (by kernel_rfl) (by kernel_rfl) (fun _ _ _ h => h) (Or.inl ⟨by rfl, ?_⟩) hHeld ?_
                  rotate_left
                  · intro w hSw
                    (try dsimp only at hSw)
                    go_split_ands
                    go_simp
                    try with_reducible rfl
                  try simp only [List.getElem_toArray, List.getElem_cons_succ, List.getElem_cons_zero, Act.put, List.setIfInBounds_toArray, List.set_cons_zero, List.set_cons_succ]
                  refine but_takeQ (i := 12) (v := ?_) rfl hTidy (by kernel_rfl) (by kernel_rfl) (fun _ _ _ h => h) (Or.inl ⟨by rfl, ?_⟩) hHeld ?_
                  rotate_left
                  · intro w hSw
                    (try dsimp only at hSw)
                    go_split_ands
                    go_simp
                    try with_reducible rfl
                  try simp only [List.getElem_toArray, List.getElem_cons_succ, List.getElem_cons_zero, Act.put, List.setIfInBounds_toArray, List.set_cons_zero, List.set_cons_succ]
                  refine but_takeQ (i := 13) (v := ?_) rfl hTidy (by kernel_rfl) (by kernel_rfl) (fun _ _ _ h => h) (Or.inl ⟨by rfl, ?_⟩) hHeld ?_
                  rotate_left
                  · intro w hSw
                    (try dsimp only at hSw)
                    go_split_ands
                    go_simp
                    try with_reducible rfl
                  try simp only [List.getElem_toArray, List.getElem_cons_succ, List.getElem_cons_zero, Act.put, List.setIfInBounds_toArray, List.set_cons_zero, List.set_cons_succ]
                  refine but_takeQ (i := 14) (v := ?_) rfl hTidy (by kernel_rfl) (by kernel_rfl) (fun _ _ _ h => h) (Or.inl ⟨by rfl, ?_⟩) hHeld ?_
                  rotate_left
                  · intro w hSw
                    (try dsimp only at hSw)
                    go_split_ands
                    go_simp
                    try with_reducible rfl
                  try simp only [List.getElem_toArray, List.getElem_cons_succ, List.getElem_cons_zero, Act.put, List.setIfInBounds_toArray, List.set_cons_zero, List.set_cons_succ]
                  refine but_takeQ (i := 15) (v := ?_) rfl hTidy (by kernel_rfl) (by kernel_rfl) (fun _ _ _ h => h) (Or.inl ⟨by rfl, ?_⟩) hHeld ?_
                  rotate_left
                  · intro w hSw
                    (try dsimp only at hSw)
                    go_split_ands
                    go_simp
                    try with_reducible rfl
                  try simp only [List.getElem_toArray, List.getElem_cons_succ, List.getElem_cons_zero, Act.put, List.setIfInBounds_toArray, List.set_cons_zero, List.set_cons_succ]
                  refine but_takeQ (i := 16) (v := ?_) rfl hTidy (by kernel_rfl) (by kernel_rfl) (fun _ _ _ h => h) (Or.inl ⟨by rfl, ?_⟩) hHeld ?_
                  rotate_left
                  · intro w hSw
                    (try dsimp only at hSw)
                    go_split_ands
                    go_simp
                    try with_reducible rfl
                  try simp only [List.getElem_toArray, List.getElem_cons_succ, List.getElem_cons_zero, Act.put, List.setIfInBounds_toArray, List.set_cons_zero, List.set_cons_succ]
                  refine but_takeQ (i := 17) (v := ?_) rfl hTidy (by kernel_rfl) (by kernel_rfl) (fun _ _ _ h => h) (Or.inl ⟨by rfl, ?_⟩) hHeld ?_
                  rotate_left
                  · intro w hSw
                    (try dsimp only at hSw)
                    go_split_ands
                    go_simp
                    try with_reducible rfl
                  try simp only [List.getElem_toArray, List.getElem_cons_succ, List.getElem_cons_zero, Act.put, List.setIfInBounds_toArray, List.set_cons_zero, List.set_cons_succ]
                  refine but_takeQ (i := 18) (v := ?_) rfl hTidy (by kernel_rfl) (by kernel_rfl) (fun _ _ _ h => h) (Or.inl ⟨by rfl, ?_⟩) hHeld ?_
                  rotate_left
                  · intro w hSw
                    (try dsimp only at hSw)
                    go_split_ands
                    go_simp
                    try with_reducible rfl
                  try simp only [List.getElem_toArray, List.getElem_cons_succ, List.getElem_cons_zero, Act.put, List.setIfInBounds_toArray, List.set_cons_zero, List.set_cons_succ]
                  refine but_takeQ (i := 19) (v := ?_) rfl hTidy (by kernel_rfl) (by kernel_rfl) (fun _ _ _ h => h) (Or.inl ⟨by rfl, ?_⟩) hHeld ?_
                  rotate_left
                  · intro w hSw
                    (try dsimp only at hSw)
                    go_split_ands
                    go_simp
                    try with_reducible rfl
                  try simp only [List.getElem_toArray, List.getElem_cons_succ, List.getElem_cons_zero, Act.put, List.setIfInBounds_toArray, List.set_cons_zero, List.set_cons_succ]
                  refine but_takeQ (i := 20) (v := ?_) rfl hTidy (by kernel_rfl) (by kernel_rfl) (fun _ _ _ h => h) (Or.inl ⟨by rfl, ?_⟩) hHeld ?_
                  rotate_left
                  · intro w hSw
                    (try dsimp only at hSw)
                    go_split_ands
                    go_simp
                    try with_reducible rfl
                  try simp only [List.getElem_toArray, List.getElem_cons_succ, List.getElem_cons_zero, Act.put, List.setIfInBounds_toArray, List.set_cons_zero, List.set_cons_succ]
                  refine but_takeQ (i := 21) (v := ?_) rfl hTidy (by kernel_rfl) (by kernel_rfl) (fun _ _ _ h => h) (Or.inl ⟨by rfl, ?_⟩) hHeld ?_
                  rotate_left
                  · intro w hSw
                    (try dsimp only at hSw)
                    go_split_ands
                    go_simp
                    try with_reducible rfl
                  try simp only [List.getElem_toArray, List.getElem_cons_succ, List.getElem_cons_zero, Act.put, List.setIfInBounds_toArray, List.set_cons_zero, List.set_cons_succ]
                  refine but_takeQ (i := 22) (v := ?_) rfl hTidy (by kernel_rfl) (by kernel_rfl) (fun _ _ _ h => h) (Or.inl ⟨by rfl, ?_⟩) hHeld ?_
                  rotate_left
                  · intro w hSw
                    (try dsimp only at hSw)
                    go_split_ands
                    go_simp
                    try with_reducible rfl
                  try simp only [List.getElem_toArray, List.getElem_cons_succ, List.getElem_cons_zero, Act.put, List.setIfInBounds_toArray, List.set_cons_zero, List.set_cons_succ]
                  refine but_takeQ (i := 23) (v := ?_) rfl hTidy (by kernel_rfl) (by kernel_rfl) (fun _ _ _ h => h) (Or.inl ⟨by rfl, ?_⟩) hHeld ?_
                  rotate_left
                  · intro w hSw
                    (try dsimp only at hSw)
                    go_split_ands
                    go_simp
                    try with_reducible rfl
                  try simp only [List.getElem_toArray, List.getElem_cons_succ, List.getElem_cons_zero, Act.put, List.setIfInBounds_toArray, List.set_cons_zero, List.set_cons_succ]
                  refine but_takeQ (i := 24) (v := ?_) rfl hTidy (by kernel_rfl) (by kernel_rfl) (fun _ _ _ h => h) (Or.inl ⟨by rfl, ?_⟩) hHeld ?_
                  rotate_left
                  · intro w hSw
                    (try dsimp only at hSw)
                    go_split_ands
                    go_simp
                    try with_reducible rfl
                  try simp only [List.getElem_toArray, List.getElem_cons_succ, List.getElem_cons_zero, Act.put, List.setIfInBounds_toArray, List.set_cons_zero, List.set_cons_succ]
                  refine but_takeQ (i := 25) (v := ?_) rfl hTidy (by kernel_rfl) (by kernel_rfl) (fun _ _ _ h => h) (Or.inl ⟨by rfl, ?_⟩) hHeld ?_
                  rotate_left
                  · intro w hSw
                    (try dsimp only at hSw)
                    go_split_ands
                    go_simp
                    try with_reducible rfl
                  try simp only [List.getElem_toArray, List.getElem_cons_succ, List.getElem_cons_zero, Act.put, List.setIfInBounds_toArray, List.set_cons_zero, List.set_cons_succ]
                  refine but_takeQ (i := 26) (v := ?_) rfl hTidy (by kernel_rfl) (by kernel_rfl) (fun _ _ _ h => h) (Or.inl ⟨by rfl, ?_⟩) hHeld ?_
                  rotate_left
                  · intro w hSw
                    (try dsimp only at hSw)
                    go_split_ands
                    go_simp
                    try with_reducible rfl
                  try simp only [List.getElem_toArray, List.getElem_cons_succ, List.getElem_cons_zero, Act.put, List.setIfInBounds_toArray, List.set_cons_zero, List.set_cons_succ]
                  refine but_takeQ (i := 27) (v := ?_) rfl hTidy (by kernel_rfl) (by kernel_rfl) (fun _ _ _ h => h) (Or.inl ⟨by rfl, ?_⟩) hHeld ?_
                  rotate_left
                  · intro w hSw
                    (try dsimp only at hSw)
                    go_split_ands
                    go_simp
                    try with_reducible rfl
                  try simp only [List.getElem_toArray, List.getElem_cons_succ, List.getElem_cons_zero, Act.put, List.setIfInBounds_toArray, List.set_cons_zero, List.set_cons_succ]
                  refine but_takeQ (i := 28) (v := ?_) rfl hTidy (by kernel_rfl) (by kernel_rfl) (fun _ _ _ h => h) (Or.inl ⟨by rfl, ?_⟩) hHeld ?_
                  rotate_left
                  · intro w hSw
                    (try dsimp only at hSw)
                    go_split_ands
                    go_simp
                    try with_reducible rfl
                  try simp only [List.getElem_toArray, List.getElem_cons_succ, List.getElem_cons_zero, Act.put, List.setIfInBounds_toArray, List.set_cons_zero, List.set_cons_succ]
                  refine but_takeQ (i := 29) (v := ?_) rfl hTidy (by kernel_rfl) (by kernel_rfl) (fun _ _ _ h => h) (Or.inl ⟨by rfl, ?_⟩) hHeld ?_
                  rotate_left
                  · intro w hSw
                    (try dsimp only at hSw)
                    go_split_ands
                    go_simp
                    try with_reducible rfl
                  try simp only [List.getElem_toArray, List.getElem_cons_succ, List.getElem_cons_zero, Act.put, List.setIfInBounds_toArray, List.set_cons_zero, List.set_cons_succ]
                  refine but_takeQ (i := 30) (v := ?_) rfl hTidy (by kernel_rfl) (by kernel_rfl) (fun _ _ _ h => h) (Or.inl ⟨by rfl, ?_⟩) hHeld ?_
                  rotate_left
                  · intro w hSw
                    (try dsimp only at hSw)
                    go_split_ands
                    go_simp
                    try with_reducible rfl
                  try simp only [List.getElem_toArray, List.getElem_cons_succ, List.getElem_cons_zero, Act.put, List.setIfInBounds_toArray, List.set_cons_zero, List.set_cons_succ]
                  refine but_takeQ (i := 31) (v := undef) rfl hTidy (by kernel_rfl) (by kernel_rfl) (fun _ _ _ h => h) (Or.inr ⟨by rfl, rfl⟩) hHeld ?_
                  try simp only [List.getElem_toArray, List.getElem_cons_succ, List.getElem_cons_zero, Act.put, List.setIfInBounds_toArray, List.set_cons_zero, List.set_cons_succ]
                  refine but_takeQ (i := 32) (v := undef) rfl hTidy (by kernel_rfl) (by kernel_rfl) (fun _ _ _ h => h) (Or.inr ⟨by rfl, rfl⟩) hHeld ?_
                  try simp only [List.getElem_toArray, List.getElem_cons_succ, List.getElem_cons_zero, Act.put, List.setIfInBounds_toArray, List.set_cons_zero, List.set_cons_succ]
                  refine but_takeQ (i := 33) (v := undef) rfl hTidy (by kernel_rfl) (by kernel_rfl) (fun _ _ _ h => h) (Or.inr ⟨by rfl, rfl⟩) hHeld ?_
                  try simp only [List.getElem_toArray, List.getElem_cons_succ, List.getElem_cons_zero, Act.put, List.setIfInBounds_toArray, List.set_cons_zero, List.set_cons_succ]
                  refine but_takeQ (i := 34) (v := ?_) rfl hTidy (by kernel_rfl) (by kernel_rfl) (fun _ _ _ h => h) (Or.inl ⟨by rfl, ?_⟩) hHeld ?_
                  rotate_left
                  · intro w hSw
                    (try dsimp only at hSw)
                    go_split_ands
                    go_simp
                    try with_reducible rfl
                  try simp only [List.getElem_toArray, List.getElem_cons_succ, List.getElem_cons_zero, Act.put, List.setIfInBounds_toArray, List.set_cons_zero, List.set_cons_succ]
                  refine but_takeQ (i := 35) (v := ?_) rfl hTidy (by kernel_rfl) (by kernel_rfl) (fun _ _ _ h => h) (Or.inl ⟨by rfl, ?_⟩) hHeld ?_
                  rotate_left
                  · intro w hSw
                    (try dsimp only at hSw)
                    go_split_ands
                    go_simp
                    try with_reducible rfl
                  try simp only [List.getElem_toArray, List.getElem_cons_succ, List.getElem_cons_zero, Act.put, List.setIfInBounds_toArray, List.set_cons_zero, List.set_cons_succ]
                  refine but_done (by kernel_rfl) ?_
                  try clear hHeld
                  clear hTidy
                  have HE2 := Lib.hid (HE.out.later (Below.refl _ _).drew)
                  clear HE KQ
                  go_wp2_with fail
                  go_roundw
                  case rel => exact ⟨q + 1, by omega, by go_num, HE2⟩
                  case measure => simp [intOf]; omega
              · rw [decide_eq_false hln] at htk
                have hln2 : now < lq := by omega
                have d1 : decide (now < lq) = true := decide_eq_true hln2
                have d2 : decide (lq ≤ now) = false := decide_eq_false hln
                have hst := hst.2 (.inl hln2)
                obtain ⟨p, y, hpy, hyi⟩ := ids_mem hst
                have hyw := HG2.out.later HL.out y (at_mem hpy)
                have hyn : ¬ y.w ≤ now := by omega
                have d4 : decide (y.w ≤ now) = false := decide_eq_false hyn
                have HK := Lib.hid (HQ.out.st.run (tn_armed_yes (x := y) HQ.out.st.tn (at_mem hpy) (by omega)))
                rw [hyi] at HK
                clear hst
                go_wp2_with fail
                refine HK.out.mono ?_
                rintro e w3 ⟨rfl, h, ho⟩
                have HE := Lib.hid (HQ.out.go ⟨h, ho⟩)
                clear h ho HQ HK
                go_upto_region 27 with (fail)
                have KQ : Hid (∀ w', Below w3.heap.size w3 w' → w'.cell? ⟨s, q, none⟩ = some (.bool false) ∧ w'.cell? ⟨bb, off + q, none⟩ = some (.int .i64 lq) ∧ w'.cell? ⟨bc, off2 + q, none⟩ = some (.int .i64 zq)) := fun w' hb => by
                  have hb9 := HE.out.st.bel
                  have s9 := (HE.out.later hb).at hqk
                  rw [htk] at s9
                  exact ⟨s9.1, by rw [cell_blk (hb.block bb (by have := hb9.size; omega)), cell_blk (hb9.block bb hbb)]; exact hcl, by rw [cell_blk (hb.block bc (by have := hb9.size; omega)), cell_blk (hb9.block bc hbc)]; exact hcz⟩
                refine but_startQ 1000 (fun w' => w'.cell? ⟨s, q, none⟩ = some (.bool false) ∧ w'.cell? ⟨bb, off + q, none⟩ = some (.int .i64 lq) ∧ w'.cell? ⟨bc, off2 + q, none⟩ = some (.int .i64 zq)) (by kernel_rfl) (by as_aux_lemma => kernel_rfl) ?_
                intro hTidy
                have hHeld := KQ.out w3.drew (Below.refl _ _).drew
                change AnyBut _ _ _ _ _ _ 36 _ _ _
                refine but_takeQ (i := 0) (v := ?_) rfl hTidy (by kernel_rfl) (by kernel_rfl) (fun _ _ _ h => h) (Or.inl ⟨by rfl, ?_⟩) hHeld ?_
                rotate_left
                · intro w hSw
                  (try dsimp only at hSw)
                  go_split_ands
                  go_simp
                  try with_reducible rfl
                try simp only [List.getElem_toArray, List.getElem_cons_zero, Act.put, List.setIfInBounds_toArray, List.set_cons_zero, List.set_cons_succ]
                refine but_takeQ (i := 1) (v := ?_) rfl hTidy (by kernel_rfl) (by kernel_rfl) (fun _ _ _ h => h) (Or.inl ⟨by rfl, ?_⟩) hHeld ?_
                rotate_left
                · intro w hSw
                  (try dsimp only at hSw)
                  go_split_ands
                  go_simp
                  try with_reducible rfl
                try simp only [List.getElem_toArray, List.getElem_cons_succ, List.getElem_cons_zero, Act.put, List.setIfInBounds_toArray, List.set_cons_zero, List.set_cons_succ]
                refine but_takeQ (i := 2) (v := ?_) rfl hTidy (by kernel_rfl) (by kernel_rfl) (fun _ _ _ h => h) (Or.inl ⟨by rfl, ?_⟩) hHeld ?_
                rotate_left
                · intro w hSw
                  (try dsimp only at hSw)
                  go_split_ands
                  go_simp
                  try with_reducible rfl
                try simp only [List.getElem_toArray, List.getElem_cons_succ, List.getElem_cons_zero, Act.put, List.setIfInBounds_toArray, List.set_cons_zero, List.set_cons_succ]
                refine but_takeQ (i := 3) (v := ?_) rfl hTidy (by kernel_rfl) (by kernel_rfl) (fun _ _ _ h => h) (Or.inl ⟨by rfl, ?_⟩) hHeld ?_
                rotate_left
                · intro w hSw
                  (try dsimp only at hSw)
                  go_split_ands
                  go_simp
                  try with_reducible rfl
                try simp only [List.getElem_toArray, List.getElem_cons_succ, List.getElem_cons_zero, Act.put, List.setIfInBounds_toArray, List.set_cons_zero, List.set_cons_succ]
                refine but_takeQ (i := 4) (v := ?_) rfl hTidy (by kernel_rfl) (by kernel_rfl) (fun _ _ _ h => h) (Or.inl ⟨by rfl, ?_⟩) hHeld ?_
                rotate_left
                · intro w hSw
                  (try dsimp only at hSw)
                  go_split_ands
                  go_simp
                  try with_reducible rfl
                try simp only [List.getElem_toArray, List.getElem_cons_succ, List.getElem_cons_zero, Act.put, List.setIfInBounds_toArray, List.set_cons_zero, List.set_cons_succ]
                refine but_takeQ (i := 5) (v := ?_) rfl hTidy (by kernel_rfl) (by kernel_rfl) (fun _ _ _ h => h) (Or.inl ⟨by rfl, ?_⟩) hHeld ?_
                rotate_left
                · intro w hSw
                  (try dsimp only at hSw)
                  go_split_ands
                  go_simp
                  try with_reducible rfl
                try simp only [List.getElem_toArray, List.getElem_cons_succ, List.getElem_cons_zero, Act.put, List.setIfInBounds_toArray, List.set_cons_zero, List.set_cons_succ]
                refine but_takeQ (i := 6) (v := ?_) rfl hTidy (by kernel_rfl) (by kernel_rfl) (fun _ _ _ h => h) (Or.inl ⟨by rfl, ?_⟩) hHeld ?_
                rotate_left
                · intro w hSw
                  (try dsimp only at hSw)
                  go_split_ands
                  go_simp
                  try with_reducible rfl
                try simp only [List.getElem_toArray, List.getElem_cons_succ, List.getElem_cons_zero, Act.put, List.setIfInBounds_toArray, List.set_cons_zero, List.set_cons_succ]
                refine but_takeQ (i := 7) (v := ?_) rfl hTidy (by kernel_rfl) (by kernel_rfl) (fun _ _ _ h => h) (Or.inl ⟨by rfl, ?_⟩) hHeld ?_
                rotate_left
                · intro w hSw
                  (try dsimp only at hSw)
                  go_split_ands
                  go_simp
                  try with_reducible rfl
                try simp only [List.getElem_toArray, List.getElem_cons_succ, List.getElem_cons_zero, Act.put, List.setIfInBounds_toArray, List.set_cons_zero, List.set_cons_succ]
                refine but_takeQ (i := 8) (v := ?_) rfl hTidy (by kernel_rfl) (by kernel_rfl) (fun _ _ _ h => h) (Or.inl ⟨by rfl, ?_⟩) hHeld ?_
                rotate_left
                · intro w hSw
                  (try dsimp only at hSw)
                  go_split_ands
                  go_simp
                  try with_reducible rfl
                try simp only [List.getElem_toArray, List.getElem_cons_succ, List.getElem_cons_zero, Act.put, List.setIfInBounds_toArray, List.set_cons_zero, List.set_cons_succ]
                refine but_takeQ (i := 9) (v := ?_) rfl hTidy (by kernel_rfl) (by kernel_rfl) (fun _ _ _ h => h) (Or.inl ⟨by rfl, ?_⟩) hHeld ?_
                rotate_left
                · intro w hSw
                  (try dsimp only at hSw)
                  go_split_ands
                  go_simp
                  try with_reducible rfl
                try simp only [List.getElem_toArray, List.getElem_cons_succ, List.getElem_cons_zero, Act.put, List.setIfInBounds_toArray, List.set_cons_zero, List.set_cons_succ]
                refine but_takeQ (i := 10) (v := ?_) rfl hTidy (by kernel_rfl) (by kernel_rfl) (fun _ _ _ h => h) (Or.inl ⟨by rfl, ?_⟩) hHeld ?_
                rotate_left
                · intro w hSw
                  (try dsimp only at hSw)
                  go_split_ands
                  go_simp
                  try with_reducible rfl
                try simp only [List.getElem_toArray, List.getElem_cons_succ, List.getElem_cons_zero, Act.put, List.setIfInBounds_toArray, List.set_cons_zero, List.set_cons_succ]
                refine but_takeQ (i := 11) (v := ?_) rfl hTidy (by kernel_rfl) (by kernel_rfl) (fun _ _ _ h => h) (Or.inl ⟨by rfl, ?_⟩) hHeld ?_
                rotate_left
                · intro w hSw
                  (try dsimp only at hSw)
                  go_split_ands
                  go_simp
                  try with_reducible rfl
                try simp only [List.getElem_toArray, List.getElem_cons_succ, List.getElem_cons_zero, Act.put, List.setIfInBounds_toArray, List.set_cons_zero, List.set_cons_succ]
                refine but_takeQ (i := 12) (v := ?_) rfl hTidy (by kernel_rfl) (by kernel_rfl) (fun _ _ _ h => h) (Or.inl ⟨by rfl, ?_⟩) hHeld ?_
                rotate_left
                · intro w hSw
                  (try dsimp only at hSw)
                  go_split_ands
                  go_simp
                  try with_reducible rfl
                try simp only [List.getElem_toArray, List.getElem_cons_succ, List.getElem_cons_zero, Act.put, List.setIfInBounds_toArray, List.set_cons_zero, List.set_cons_succ]
                refine but_takeQ (i := 13) (v := ?_) rfl hTidy (by kernel_rfl) (by kernel_rfl) (fun _ _ _ h => h) (Or.inl ⟨by rfl, ?_⟩) hHeld ?_
                rotate_left
                · intro w hSw
                  (try dsimp only at hSw)
                  go_split_ands
                  go_simp
                  try with_reducible rfl
                try simp only [List.getElem_toArray, List.getElem_cons_succ, List.getElem_cons_zero, Act.put, List.setIfInBounds_toArray, List.set_cons_zero, List.set_cons_succ]
                refine but_takeQ (i := 14) (v := ?_) rfl hTidy (by kernel_rfl) (by kernel_rfl) (fun _ _ _ h => h) (Or.inl ⟨by rfl, ?_⟩) hHeld ?_
                rotate_left
                · intro w hSw
                  (try dsimp only at hSw)
                  go_split_ands
                  go_simp
                  try with_reducible rfl
                try simp only [List.getElem_toArray, List.getElem_cons_succ, List.getElem_cons_zero, Act.put, List.setIfInBounds_toArray, List.set_cons_zero, List.set_cons_succ]
                refine but_takeQ (i := 15) (v := ?_) rfl hTidy (by kernel_rfl) (by kernel_rfl) (fun _ _ _ h => h) (Or.inl ⟨by rfl, ?_⟩) hHeld ?_
                rotate_left
                · intro w hSw
                  (try dsimp only at hSw)
                  go_split_ands
                  go_simp
                  try with_reducible rfl
                try simp only [List.getElem_toArray, List.getElem_cons_succ, List.getElem_cons_zero, Act.put, List.setIfInBounds_toArray, List.set_cons_zero, List.set_cons_succ]
                refine but_takeQ (i := 16) (v := ?_) rfl hTidy (by kernel_rfl) (by kernel_rfl) (fun _ _ _ h => h) (Or.inl ⟨by rfl, ?_⟩) hHeld ?_
                rotate_left
                · intro w hSw
                  (try dsimp only at hSw)
                  go_split_ands
                  go_simp
                  try with_reducible rfl
                try simp only [List.getElem_toArray, List.getElem_cons_succ, List.getElem_cons_zero, Act.put, List.setIfInBounds_toArray, List.set_cons_zero, List.set_cons_succ]
                refine but_takeQ (i := 17) (v := ?_) rfl hTidy (by kernel_rfl) (by kernel_rfl) (fun _ _ _ h => h) (Or.inl ⟨by rfl, ?_⟩) hHeld ?_
                rotate_left
                · intro w hSw
                  (try dsimp only at hSw)
                  go_split_ands
                  go_simp
                  try with_reducible rfl
                try simp only [List.getElem_toArray, List.getElem_cons_succ, List.getElem_cons_zero, Act.put, List.setIfInBounds_toArray, List.set_cons_zero, List.set_cons_succ]
                refine but_takeQ (i := 18) (v := ?_) rfl hTidy (by kernel_rfl) (by kernel_rfl) (fun _ _ _ h => h) (Or.inl ⟨by rfl, ?_⟩) hHeld ?_
                rotate_left
                · intro w hSw
                  (try dsimp only at hSw)
                  go_split_ands
                  go_simp
                  try with_reducible rfl
                try simp only [List.getElem_toArray, List.getElem_cons_succ, List.getElem_cons_zero, Act.put, List.setIfInBounds_toArray, List.set_cons_zero, List.set_cons_succ]
                refine but_takeQ (i := 19) (v := ?_) rfl hTidy (by kernel_rfl) (by kernel_rfl) (fun _ _ _ h => h) (Or.inl ⟨by rfl, ?_⟩) hHeld ?_
                rotate_left
                · intro w hSw
                  (try dsimp only at hSw)
                  go_split_ands
                  go_simp
                  try with_reducible rfl
                try simp only [List.getElem_toArray, List.getElem_cons_succ, List.getElem_cons_zero, Act.put, List.setIfInBounds_toArray, List.set_cons_zero, List.set_cons_succ]
                refine but_takeQ (i := 20) (v := undef) rfl hTidy (by kernel_rfl) (by kernel_rfl) (fun _ _ _ h => h) (Or.inr ⟨by rfl, rfl⟩) hHeld ?_
                try simp only [List.getElem_toArray, List.getElem_cons_succ, List.getElem_cons_zero, Act.put, List.setIfInBounds_toArray, List.set_cons_zero, List.set_cons_succ]
                refine but_takeQ (i := 21) (v := undef) rfl hTidy (by kernel_rfl) (by kernel_rfl) (fun _ _ _ h => h) (Or.inr ⟨by rfl, rfl⟩) hHeld ?_
                try simp only [List.getElem_toArray, List.getElem_cons_succ, List.getElem_cons_zero, Act.put, List.setIfInBounds_toArray, List.set_cons_zero, List.set_cons_succ]
                refine but_takeQ (i := 22) (v := undef) rfl hTidy (by kernel_rfl) (by kernel_rfl) (fun _ _ _ h => h) (Or.inr ⟨by rfl, rfl⟩) hHeld ?_
                try simp only [List.getElem_toArray, List.getElem_cons_succ, List.getElem_cons_zero, Act.put, List.setIfInBounds_toArray, List.set_cons_zero, List.set_cons_succ]
                refine but_takeQ (i := 23) (v := undef) rfl hTidy (by kernel_rfl) (by kernel_rfl) (fun _ _ _ h => h) (Or.inr ⟨by rfl, rfl⟩) hHeld ?_
                try simp only [List.getElem_toArray, List.getElem_cons_succ, List.getElem_cons_zero, Act.put, List.setIfInBounds_toArray, List.set_cons_zero, List.set_cons_succ]
                refine but_takeQ (i := 24) (v := undef) rfl hTidy (by kernel_rfl) (by kernel_rfl) (fun _ _ _ h => h) (Or.inr ⟨by rfl, rfl⟩) hHeld ?_
                try simp only [List.getElem_toArray, List.getElem_cons_succ, List.getElem_cons_zero, Act.put, List.setIfInBounds_toArray, List.set_cons_zero, List.set_cons_succ]
                refine but_takeQ (i := 25) (v := ?_) rfl hTidy (by kernel_rfl) (by kernel_rfl) (fun _ _ _ h => h) (Or.inl ⟨by rfl, ?_⟩) hHeld ?_
                rotate_left
                · intro w hSw
                  (try dsimp only at hSw)
                  go_split_ands
                  go_simp
                  try with_reducible rfl
                try simp only [List.getElem_toArray, List.getElem_cons_succ, List.getElem_cons_zero, Act.put, List.setIfInBounds_toArray, List.set_cons_zero, List.set_cons_succ]
                refine but_takeQ (i := 26) (v := ?_) rfl hTidy (by kernel_rfl) (by kernel_rfl) (fun _ _ _ h => h) (Or.inl ⟨by rfl, ?_⟩) hHeld ?_
                rotate_left
                · intro w hSw
                  (try dsimp only at hSw)
                  go_split_ands
                  go_simp
                  try with_reducible rfl
                try simp only [List.getElem_toArray, List.getElem_cons_succ, List.getElem_cons_zero, Act.put, List.setIfInBounds_toArray, List.set_cons_zero, List.set_cons_succ]
                refine but_takeQ (i := 27) (v := ?_) rfl hTidy (by kernel_rfl) (by kernel_rfl) (fun _ _ _ h => h) (Or.inl ⟨by rfl, ?_⟩) hHeld ?_
                rotate_left
                · intro w hSw
                  (try dsimp only at hSw)
                  go_split_ands
                  go_simp
                  try with_reducible rfl
                try simp only [List.getElem_toArray, List.getElem_cons_succ, List.getElem_cons_zero, Act.put, List.setIfInBounds_toArray, List.set_cons_zero, List.set_cons_succ]
                refine but_takeQ (i := 28) (v := ?_) rfl hTidy (by kernel_rfl) (by kernel_rfl) (fun _ _ _ h => h) (Or.inl ⟨by rfl, ?_⟩) hHeld ?_
                rotate_left
                · intro w hSw
                  (try dsimp only at hSw)
                  go_split_ands
                  go_simp
                  try with_reducible rfl
                try simp only [List.getElem_toArray, List.getElem_cons_succ, List.getElem_cons_zero, Act.put, List.setIfInBounds_toArray, List.set_cons_zero, List.set_cons_succ]
                refine but_takeQ (i := 29) (v := ?_) rfl hTidy (by kernel_rfl) (by kernel_rfl) (fun _ _ _ h => h) (Or.inl ⟨by rfl, ?_⟩) hHeld ?_
                rotate_left
                · intro w hSw
                  (try dsimp only at hSw)
                  go_split_ands
                  go_simp
                  try with_reducible rfl
                try simp only [List.getElem_toArray, List.getElem_cons_succ, List.getElem_cons_zero, Act.put, List.setIfInBounds_toArray, List.set_cons_zero, List.set_cons_succ]
                refine but_takeQ (i := 30) (v := ?_) rfl hTidy (by kernel_rfl) (by kernel_rfl) (fun _ _ _ h => h) (Or.inl ⟨by rfl, ?_⟩) hHeld ?_
                rotate_left
                · intro w hSw
                  (try dsimp only at hSw)
                  go_split_ands
                  go_simp
                  try with_reducible rfl
                try simp only [List.getElem_toArray, List.getElem_cons_succ, List.getElem_cons_zero, Act.put, List.setIfInBounds_toArray, List.set_cons_zero, List.set_cons_succ]
                refine but_takeQ (i := 31) (v := ?_) rfl hTidy (by kernel_rfl) (by kernel_rfl) (fun _ _ _ h => h) (Or.inl ⟨by rfl, ?_⟩) hHeld ?_
                rotate_left
                · intro w hSw
                  (try dsimp only at hSw)
                  go_split_ands
                  go_simp
                  try with_reducible rfl
                try simp only [List.getElem_toArray, List.getElem_cons_succ, List.getElem_cons_zero, Act.put, List.setIfInBounds_toArray, List.set_cons_zero, List.set_cons_succ]
                refine but_takeQ (i := 32) (v := ?_) rfl hTidy (by kernel_rfl) (by kernel_rfl) (fun _ _ _ h => h) (Or.inl ⟨by rfl, ?_⟩) hHeld ?_
                rotate_left
                · intro w hSw
                  (try dsimp only at hSw)
                  go_split_ands
                  go_simp
                  try with_reducible rfl
                try simp only [List.getElem_toArray, List.getElem_cons_succ, List.getElem_cons_zero, Act.put, List.setIfInBounds_toArray, List.set_cons_zero, List.set_cons_succ]
                refine but_takeQ (i := 33) (v := ?_) rfl hTidy (by kernel_rfl) (by kernel_rfl) (fun _ _ _ h => h) (Or.inl ⟨by rfl, ?_⟩) hHeld ?_
                rotate_left
                · intro w hSw
                  (try dsimp only at hSw)
                  go_split_ands
                  go_simp
                  try with_reducible rfl
                try simp only [List.getElem_toArray, List.getElem_cons_succ, List.getElem_cons_zero, Act.put, List.setIfInBounds_toArray, List.set_cons_zero, List.set_cons_succ]
                refine but_takeQ (i := 34) (v := ?_) rfl hTidy (by kernel_rfl) (by kernel_rfl) (fun _ _ _ h => h) (Or.inl ⟨by rfl, ?_⟩) hHeld ?_
                rotate_left
                · intro w hSw
                  (try dsimp only at hSw)
                  go_split_ands
                  go_simp
                  try with_reducible rfl
                try simp only [List.getElem_toArray, List.getElem_cons_succ, List.getElem_cons_zero, Act.put, List.setIfInBounds_toArray, List.set_cons_zero, List.set_cons_succ]
                refine but_takeQ (i := 35) (v := ?_) rfl hTidy (by kernel_rfl) (by kernel_rfl) (fun _ _ _ h => h) (Or.inl ⟨by rfl, ?_⟩) hHeld ?_
                rotate_left
                · intro w hSw
                  (try dsimp only at hSw)
                  go_split_ands
                  go_simp
                  try with_reducible rfl
                try simp only [List.getElem_toArray, List.getElem_cons_succ, List.getElem_cons_zero, Act.put, List.setIfInBounds_toArray, List.set_cons_zero, List.set_cons_succ]
                refine but_done (by kernel_rfl) ?_
                try clear hHeld
                clear hTidy
                have HE2 := Lib.hid (HE.out.later (Below.refl _ _).drew)
                clear HE KQ
                go_wp2_with fail
                go_roundw
                case rel => exact ⟨q + 1, by omega, by go_num, HE2⟩
                case measure => simp [intOf]; omega
            · obtain rfl : q = k := by omega
              have q3 : ¬ (q : Int) < (q : Int) := by omega
              have j3 : (j : Int) ≤ (q : Int) := by omega
              have HS := Lib.hid HQ.out.st
              clear HQ
              go_wp2_with fail
              refine (awaket_any wr).mono ?_
              rintro e w9 ⟨rfl, hb⟩
              have H9 := Lib.hid (HS.out.later hb).bel
              clear hb HS
              go_wp2_with fail
              go_ret
              exact ⟨rfl, H9.out⟩
theorem once_walk (A0 : Option Addr) (n c0 : Nat) (A1 : Option Addr) (m c1 : Nat) (now : Int) (W : World) (l z : List Int) (hR : Rn W A0 n l) (hZ : Rn W A1 m z) : Calls Try.prog 5 #[.slice A0 n c0, .slice A1 m c1, .int .i64 now] W (BoolR true W) := by
  by_cases h : 60 < n ∨ m < n ∨ 80 < m ∨ now < 0 ∨ 1099511627776 < now
  · exact once_out A0 n c0 A1 m c1 now W h
  · exact once_in A0 n c0 A1 m c1 now W l z hR hZ (by omega) (by omega) (by omega) (by omega) (by omega)
end Go.Proofs.Ytbpoippgioincaa
