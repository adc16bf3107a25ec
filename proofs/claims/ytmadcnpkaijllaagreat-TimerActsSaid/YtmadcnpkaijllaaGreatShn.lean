/- What the law's shows wants: channels that are not there, what was made under a number, both sets at first. Conditions: each theorem's own premises. -/
import Derived.Test.YtmadcnpkaijllaaGreatBfi
namespace Go.Proofs.YtmadcnpkaijllaaGreat
open Go.RowKit Ch
set_option linter.unusedVariables false
set_option maxRecDepth 100000
theorem mcan_nil (b : Bool) (w : World) : Calls Tryz.prog 38 #[.pointer none, .bool b] w fun e w' => e = .returned (.bool false) ∧ w = w' := by
  go_enter Tryz.func38, Tryz.ntmps38
  go_wp2_with fail
  go_ret
  exact ⟨rfl, rfl⟩
theorem clen_nil (w : World) : Calls Tryz.prog 39 #[.pointer none] w fun e w' => e = .returned (.int .i64 0) ∧ w = w' := by
  go_enter Tryz.func39, Tryz.ntmps39
  go_wp2_with fail
  go_ret
  exact ⟨rfl, rfl⟩
theorem ccap_nil (w : World) : Calls Tryz.prog 40 #[.pointer none] w fun e w' => e = .returned (.int .i64 0) ∧ w = w' := by
  go_enter Tryz.func40, Tryz.ntmps40
  go_wp2_with fail
  go_ret
  exact ⟨rfl, rfl⟩
theorem MT.start {rA rN : Value} (w : World) {B : Nat} (h : B ≤ w.heap.size) : MT B w.heap.size rA rN none 0 [] (fun _ => 0) (w.alloc (.cells #[.slice none 0 0, .int .i64 0, .slice none 0 0, rA, rN] 35)) :=
  ⟨none, 0, none, 0, [], rfl, ⟨⟨heap_alloc_new w _, Wn.nil _ _ _ _ (by omega), h, .inl ⟨rfl, rfl⟩, by decide, by decide, by decide⟩, World.ownsRow_nil _ _ _ _, fun h0 => absurd h0 (by simp)⟩, List.nodup_nil, fun k => Iff.rfl, fun x h => (by cases h)⟩
theorem RS.start {W : World} (w : World) (h : W.heap.size ≤ w.heap.size) : RS W w.heap.size [] 0 0 [] (fun _ => 0) (w.alloc (.cells #[.slice none 0 0, .int .i64 0, .slice none 0 0, .slice none 0 0, .int .i64 0] 35)) :=
  ⟨none, none, 0, MT.start w h, World.ownsRow_nil _ _ _ _⟩
section
variable {RC : List Nat} {RT : List CS} {W w w' : World} {t m n k b mo : Nat} {E : List On} {S : List It} {g : Int → Int} {L : List (Nat × CS)} {B : List Nat} {X : List Oc} {T : List CS} {now : Int}
theorem kind_bel (k : Int) (h : SS W RC RT t E m n S g L w) : Calls Tryz.prog 35 #[pS t, .int .i64 k] w fun e w' => e = .returned (.int .i64 (eA E k).kd) ∧ Below w.heap.size w w' := by
  obtain ⟨x, hx⟩ : ∃ x, eA E k = x := ⟨_, rfl⟩
  have hg := get_any k h
  rw [hx] at hg ⊢
  clear h hx
  have hfd := fd0 x
  go_enter Tryz.func35, Tryz.ntmps35
  go_wp2_with fail
  refine hg.mono ?_
  rintro e w' ⟨rfl, hb⟩
  have HB := Lib.hid hb
  clear hb
  go_wp2_with fail
  go_ret
  exact ⟨rfl, HB.out⟩
theorem chan_bel (k : Int) (h : SS W RC RT t E m n S g L w) : Calls Tryz.prog 25 #[pS t, .int .i64 k] w fun e w' => e = .returned (.pointer (cp (eA E k).ch)) ∧ Below w.heap.size w w' := by
  obtain ⟨x, hx⟩ : ∃ x, eA E k = x := ⟨_, rfl⟩
  have hg := get_any k h
  rw [hx] at hg ⊢
  clear h hx
  have hfd := fd2 x
  go_enter Tryz.func25, Tryz.ntmps25
  go_wp2_with fail
  refine hg.mono ?_
  rintro e w' ⟨rfl, hb⟩
  have HB := Lib.hid hb
  clear hb
  go_wp2_with fail
  go_ret
  exact ⟨rfl, HB.out⟩
theorem gen_bel (k : Int) (h : SS W RC RT t E m n S g L w) : Calls Tryz.prog 16 #[pS t, .int .i64 k] w fun e w' => e = .returned (.int .i64 (eA E k).gn) ∧ Below w.heap.size w w' := by
  obtain ⟨x, hx⟩ : ∃ x, eA E k = x := ⟨_, rfl⟩
  have hg := get_any k h
  rw [hx] at hg ⊢
  clear h hx
  have hfd := fd3 x
  go_enter Tryz.func16, Tryz.ntmps16
  go_wp2_with fail
  refine hg.mono ?_
  rintro e w' ⟨rfl, hb⟩
  have HB := Lib.hid hb
  clear hb
  go_wp2_with fail
  go_ret
  exact ⟨rfl, HB.out⟩
/-- The channel under a number, and what a receive of both tells. -/
theorem recv_pack (h : BD W b t mo B RC X T m n S g now w) (iv : Iv k 0 X T m n S g now) (hk : k ≤ 120) (a : Int) : ∃ P P' : Option Addr, ∀ w', BD W b t mo B RC X T m n S g now w' →
    (Calls Tryz.prog 25 #[pS t, .int .i64 a] w' fun e w2 => e = .returned (.pointer P) ∧ Below w'.heap.size w' w2) ∧ PrR W b t mo k now a P P' w' :=
  ⟨_, _, fun w' h' => ⟨chan_bel a h'.ss, pair_recv h' iv hk a⟩⟩
theorem wait_pack (h : BD W b t mo B RC X T m n S g now w) (iv : Iv k 0 X T m n S g now) (hk : k ≤ 120) (a : Int) (x : Wt) (hx : Wf x.t) : ∃ P P' : Option Addr, ∀ w', BD W b t mo B RC X T m n S g now w' →
    (Calls Tryz.prog 25 #[pS t, .int .i64 a] w' fun e w2 => e = .returned (.pointer P) ∧ Below w'.heap.size w' w2) ∧ PrW W b t mo k now a x P P' w' :=
  ⟨_, _, fun w' h' => ⟨chan_bel a h'.ss, pair_wait h' iv hk a x hx⟩⟩
end
section
variable {W w w' : World} {b t mo m n k i j c : Nat} {B B' RC : List Nat} {X : List Oc} {T : List CS} {S : List It} {g : Int → Int} {now a : Int} {x : Oc} {s : CS}
theorem eA_on (B B' : List Nat) (a : Int) : (eA (X.map (on B)) a).kd = (eA (X.map (on B')) a).kd ∧ (eA (X.map (on B)) a).gn = (eA (X.map (on B')) a).gn := by
  by_cases ha : a < 0 ∨ (X.length : Int) ≤ a
  · rw [eA_no (by rw [on_len]; exact ha), eA_no (by rw [on_len]; exact ha)]
    exact ⟨rfl, rfl⟩
  · obtain ⟨i, rfl⟩ : ∃ i : Nat, a = (i : Int) := ⟨a.toNat, by omega⟩
    have hi : i < X.length := by omega
    have hx : X[i]? = some X[i] := List.getElem?_eq_getElem hi
    rw [eA_at (on_at hx), eA_at (on_at hx)]
    exact ⟨rfl, rfl⟩
/-- What both channels under a number answer, if there are any. -/
theorem BD.looks (h : BD W b t mo B RC X T m n S g now w) (iv : Iv k 0 X T m n S g now) (a : Int) : ∃ (d z : Bool) (P P' : Option Addr), P = cp (eA (X.map (on B)) a).ch ∧ P' = cp (eA (X.map (on RC)) a).ch ∧ P.isNone = z ∧ P'.isNone = z ∧
    ∀ w', BD W b t mo B RC X T m n S g now w' → (Calls Tryz.prog 15 #[.pointer P, .bool false] w' fun e w2 => e = .returned (.bool d) ∧ ∃ n, w2 = w'.drewN n) ∧ (Calls Tryz.prog 38 #[.pointer P', .bool false] w' fun e w2 => e = .returned (.bool d) ∧ ∃ n, w2 = w'.drewN n) ∧
      (Calls Tryz.prog 39 #[.pointer P] w' fun e w2 => e = .returned (.int .i64 0) ∧ w' = w2) ∧ (Calls Tryz.prog 40 #[.pointer P] w' fun e w2 => e = .returned (.int .i64 0) ∧ w' = w2) := by
  rcases h.chs iv a with ⟨e1, e2⟩ | ⟨j, c, c', s, e1, e2, hB, hC, hT, hs⟩
  · refine ⟨false, true, none, none, by rw [e1]; rfl, by rw [e2]; rfl, rfl, rfl, fun w' h' => ⟨?_, ?_, clen_nil w', ccap_nil w'⟩⟩
    · refine (can_nil false w').mono ?_
      rintro e w2 ⟨rfl, rfl⟩
      exact ⟨rfl, 0, rfl⟩
    · refine (mcan_nil false w').mono ?_
      rintro e w2 ⟨rfl, rfl⟩
      exact ⟨rfl, 0, rfl⟩
  · refine ⟨can s false, false, some ⟨c, 0, none⟩, some ⟨c', 0, none⟩, by rw [e1]; rfl, by rw [e2]; rfl, rfl, rfl, fun w' h' => ⟨ms_can false h'.ms (zip_at hB hT), ?_, ?_, ?_⟩⟩
    · obtain ⟨ok, q1, q2⟩ := h'.ms.ref hC hT
      exact mcan false q1 (by rw [hs.1]; omega)
    · have := ms_len h'.ms (zip_at hB hT)
      rwa [if_pos hs.1] at this
    · have := ms_cap h'.ms (zip_at hB hT)
      rwa [if_pos hs.1] at this
end
end Go.Proofs.YtmadcnpkaijllaaGreat
