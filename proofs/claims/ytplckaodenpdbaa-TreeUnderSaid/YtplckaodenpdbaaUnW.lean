/- TreeUnder walked: who hangs on whom is so by way of all between. No condition. -/
import Derived.Test.YtplckaodenpdbaaBld
namespace Go.Proofs.Ytplckaodenpdbaa
open Go.RowKit
set_option linter.unusedVariables false
set_option maxRecDepth 100000

/-- The tree as it stands, and the row of those that were named beside it. -/
def US (W : World) (t : Nat) (f : Nat → Int) (k : Nat) (P : Option Addr) (c : Nat) (w : World) : Prop := LS W t (bt f (fun _ => true) k) [⟨P, c, ups (bt f (fun _ => true) k)⟩] w
set_option maxHeartbeats 4000000 in
theorem unders_any {A : Option Addr} {n c0 : Nat} {l : List Int} (W : World) (hr : Rn W A n l) (a b : Int) : Calls Try.prog 6 #[.slice A n c0, .int .i64 a, .int .i64 b] W (BoolR true W) := by
  have HAW := Lib.hid fun w => awake_any w
  obtain ⟨i3, hi3, hy0, hy1, hy2⟩ := info_parts inf3
  by_cases c1 : (60 : Int) < (n : Int)
  · clear hr
    go_enter Try.func6, Try.ntmps6
    go_wp2_with fail
    refine (HAW.out _).mono ?_
    rintro e w' ⟨rfl, hb⟩
    have HB := Lib.hid hb
    clear hb
    go_wp2_with fail
    go_ret
    exact ⟨rfl, HB.out⟩
  have HRN := Lib.hid hr
  have HN := Lib.hid (new_ls (Below.refl W.heap.size W))
  have hn1 : (n : Int) ≤ 60 := by omega
  obtain ⟨f, hf⟩ : ∃ f : Nat → Int, Hid (f = fun i => l.getD i 0) := ⟨_, rfl⟩
  clear hr
  go_enter Try.func6, Try.ntmps6
  go_wp2_with (go_at_call 9; (with_reducible refine HN.out.mono ?_); rintro e w1 ⟨t, rfl, h1⟩; have H1 := Lib.hid h1; clear h1 HN)
  refine (root_ls H1.out (by simp) false).mono ?_
  rintro e w2 ⟨rfl, HL⟩
  clear H1
  have H2 : Hid (US W t f 0 (some ⟨w2.heap.size, 0, none⟩) 1 (w2.alloc (.cells #[.int .i64 (-1)] 3))) := by
    refine HL.out.row (l := [-1]) ?_ (below_al _ _)
    exact World.ownsRow_lit (base := w2.heap.size) (e := 3) (size := 1) w2 #[.int .i64 (-1)] 1 (Nat.le_refl _) (by decide) rfl
  clear HL
  go_wp2_with fail
  go_loopw [8, 9] (fun v x wr => ∃ (k c m : Nat) (P : Option Addr), k ≤ n ∧ x = .int .i64 k ∧ v = .slice P m c ∧ m = k + 1 ∧ Hid (US W t f k P c wr)) (fun _ x _ => n - (intOf x).toNat)
  case atStart => exact ⟨0, 1, 1, _, by omega, rfl, rfl, rfl, H2⟩
  case round =>
    clear H2
    obtain ⟨k, c, m, P, hk, rfl, rfl, hm, hL⟩ := hrel
    by_cases hlt : k < n
    · have b1 : (k : Int) < (n : Int) := by omega
      have b2 : (0 : Int) ≤ (k : Int) := by omega
      have hm9 : m ≤ 100 := by omega
      have HM : Hid (m = (ups (bt f (fun _ => true) k)).length) := by show _ = _; rw [ups_len, bt_len]; exact hm
      obtain ⟨b, off, z, rfl, hbl, hz, hc⟩ := HRN.out.cell hL.out.bel hlt
      have hp : (pk z (k + 1) : Int) = (pk (f k) (k + 1) : Int) := by rw [hf.out]; simp [List.getD_eq_getElem?_getD, hz]
      have HR := Lib.hid (round_at (w := wr) z k (by omega))
      have HA := Lib.hid (bt_add hL.out (by omega) hp (show true = _ from rfl))
      have HP := Lib.hid hp
      clear hm hz hp hL
      generalize pk z (k + 1) = p at HR HA HP
      go_wp2_with (first | (go_at_call 22; (with_reducible refine HR.out.mono ?_); rintro e w' ⟨rfl, rfl⟩; clear HR) | (go_at_call 10; (with_reducible refine HA.out.mono ?_); rintro e w3 ⟨rfl, HL3⟩; clear HA) | (at_builtin; go_loud (refine wpList_append_lies _ rfl (.tmp 48) (.tmp 50) 41 rfl 0 3 i3 _ 1 8 Try.underlying41 hi3 hy0 hy1 hy2 rfl (by omega) (.slice P m c) m (iV (ups (bt f (fun _ => true) k))) rfl ((HL3.out.alloc _).own' (i := 0) rfl HM.out) ⟨w3.heap.size, 0, none⟩ 1 1 [.int .i64 (p : Int)] rfl rfl (World.news_of_block (cs := #[.int .i64 (p : Int)]) (heap_alloc_new w3 _)) (int_cell _) (by omega) (by unfold maxLen; omega) (by omega) (by omega) (w3.heap.size + 1) (by first | (simp; done) | (simp; rfl)) ?_; intro g cap w4 hown hgrow hat hlt1; have HL4 := Lib.hid (LS.app (HL3.out.alloc _) (i := 0) rfl HM.out hown hgrow (hat.imp id (fun e => by rw [e]; simp))); clear hown hgrow hat hlt1 HL3)))
      go_roundw
      case rel =>
        refine ⟨k + 1, cap, m + 1, _, by omega, by go_num, rfl, by have := HM.out; rw [ups_len, bt_len] at this; omega, ?_⟩
        show LS W t (bt f _ (k + 1)) [⟨_, _, ups (bt f _ (k + 1))⟩] w4
        rw [show ups (bt f (fun _ => true) (k + 1)) = ups (bt f (fun _ => true) k) ++ [(p : Int)] from by rw [bt, ups_app, HP.out]]
        exact HL4.out
      case measure => simp [intOf]; omega
    · obtain rfl : k = n := by omega
      have hm' := hm
      subst hm'
      clear hm HRN hf
      have hk9 : (k : Int) + 1 ≤ 61 := by omega
      obtain ⟨S, hS⟩ : ∃ S, bt f (fun _ => true) k = S := ⟨_, rfl⟩
      have HL : Hid (LS W t S [⟨P, c, ups S⟩] wr) := by rw [← hS]; exact hL.out
      have HSl : Hid (S.length = k + 1) := by rw [← hS]; exact bt_len k
      have HS0 : Hid (S[0]? = some (-1, false)) := by rw [← hS]; exact bt_zero k
      have HSj : Hid (∀ j, 0 < j → j < k + 1 → ∃ p : Nat, S[j]? = some ((p : Int), true) ∧ p < j) := by
        rintro j h1 h2
        obtain ⟨i, rfl⟩ : ∃ i, j = i + 1 := ⟨j - 1, by omega⟩
        rw [← hS]
        exact ⟨_, bt_at (by omega), pk_lt _ (by omega)⟩
      clear hS hL
      have HRa := Lib.hid (round_at (w := wr) a k (by omega))
      have HRb := Lib.hid (round_at (w := wr) b k (by omega))
      have hx := pk_lt a (m := k + 1) (by omega)
      have hy := pk_lt b (m := k + 1) (by omega)
      generalize pk a (k + 1) = x at HRa hx
      generalize pk b (k + 1) = y at HRb hy
      go_wp2_with (go_at_call 22; first | ((with_reducible refine HRa.out.mono ?_); rintro e w' ⟨rfl, rfl⟩) | ((with_reducible refine HRb.out.mono ?_); rintro e w' ⟨rfl, rfl⟩))
      clear HRa HRb
      go_loopw [15, 16] (fun s15 s16 w9 => ∃ (v : Bool) (z : Int), s15 = .bool v ∧ s16 = .int .i64 z ∧ Hid (wr = w9) ∧ Hid ((z = -1 ∧ v = upTo S x y) ∨ ∃ j : Nat, z = (j : Int) ∧ j < k + 1 ∧ (v || upTo S j y) = upTo S x y)) (fun _ s16 _ => (intOf s16 + 1).toNat)
      case atStart => exact ⟨false, (x : Int), rfl, rfl, rfl, .inr ⟨x, rfl, hx, rfl⟩⟩
      case round =>
        obtain ⟨v, z, rfl, rfl, hwr, hz⟩ := hrel
        have hwr' := hwr.out
        subst hwr'
        clear hwr
        rcases hz.out with ⟨rfl, hv⟩ | ⟨j, rfl, hj, hv⟩
        · have HV := Lib.hid hv
          clear hz hv
          have HB := Lib.hid HL.out.bel
          have HU1 := Lib.hid (under_ls HL.out x (by rw [HSl.out]; exact hx) (y : Int))
          have HU2 := Lib.hid (under_ls HL.out x (by rw [HSl.out]; exact hx) (x : Int))
          have HU3 := Lib.hid (under_ls HL.out y (by rw [HSl.out]; exact hy) (x : Int))
          have HU4 := Lib.hid (ununder_ls HL.out ((k : Int) + 1) 0 (.inr (by rw [HSl.out]; omega)))
          have HU5 : Hid (Calls Try.prog 21 #[.pointer (some ⟨t, 0, none⟩), .int .i64 0, .int .i64 (-1)] wr fun e w' => e = .returned (.bool false) ∧ wr = w') := under_ls HL.out 0 (by rw [HSl.out]; omega) (-1)
          rw [upZ_nat] at HU1 HU2 HU3
          rw [upTo_self] at HU2
          have hwf := HL.out.wf
          cases hB : upTo S x y with
          | true =>
            rw [hB] at HU1 HV
            have hV := HV.out
            subst hV
            by_cases hxy : x = y
            · subst hxy
              clear HU1 HU3 hB HL hwf hx hy HSj HS0 HSl
              go_wp2_with (first | (go_at_call 21; first | ((with_reducible refine HU2.out.mono ?_); rintro e w' ⟨rfl, rfl⟩) | ((with_reducible refine HU4.out.mono ?_); rintro e w' ⟨rfl, rfl⟩) | ((with_reducible refine HU5.out.mono ?_); rintro e w' ⟨rfl, rfl⟩)) | (go_at_call 8; (with_reducible refine (HAW.out _).mono ?_); rintro e w' ⟨rfl, hb⟩; have HB2 := Lib.hid (HB.out.trans (hb.mono HB.out.size)); clear hb))
              go_ret
              exact ⟨rfl, HB2.out⟩
            · rw [upTo_anti hwf hB hxy] at HU3
              have b1 : ((x : Int) == (y : Int)) = false := beq_eq_false_iff_ne.2 (by omega)
              clear hB HL hwf hx hy HSj HS0 HSl hxy
              go_wp2_with (first | (go_at_call 21; first | ((with_reducible refine HU1.out.mono ?_); rintro e w' ⟨rfl, rfl⟩) | ((with_reducible refine HU2.out.mono ?_); rintro e w' ⟨rfl, rfl⟩) | ((with_reducible refine HU3.out.mono ?_); rintro e w' ⟨rfl, rfl⟩) | ((with_reducible refine HU4.out.mono ?_); rintro e w' ⟨rfl, rfl⟩) | ((with_reducible refine HU5.out.mono ?_); rintro e w' ⟨rfl, rfl⟩)) | (go_at_call 8; (with_reducible refine (HAW.out _).mono ?_); rintro e w' ⟨rfl, hb⟩; have HB2 := Lib.hid (HB.out.trans (hb.mono HB.out.size)); clear hb))
              go_ret
              exact ⟨rfl, HB2.out⟩
          | false =>
            rw [hB] at HU1 HV
            have hV := HV.out
            subst hV
            clear hB HL hwf hx hy HSj HS0 HSl HU3
            go_wp2_with (first | (go_at_call 21; first | ((with_reducible refine HU1.out.mono ?_); rintro e w' ⟨rfl, rfl⟩) | ((with_reducible refine HU2.out.mono ?_); rintro e w' ⟨rfl, rfl⟩) | ((with_reducible refine HU4.out.mono ?_); rintro e w' ⟨rfl, rfl⟩) | ((with_reducible refine HU5.out.mono ?_); rintro e w' ⟨rfl, rfl⟩)) | (go_at_call 8; (with_reducible refine (HAW.out _).mono ?_); rintro e w' ⟨rfl, hb⟩; have HB2 := Lib.hid (HB.out.trans (hb.mono HB.out.size)); clear hb))
            go_ret
            exact ⟨rfl, HB2.out⟩
        · have HV := Lib.hid hv
          clear hz hv
          have b1 : (j : Int) < (k : Int) + 1 := by omega
          have b2 : (0 : Int) ≤ (j : Int) := by omega
          have b3 : j < k + 1 := hj
          have ho := HL.out.own (i := 0) rfl
          have hul : (ups S).length = k + 1 := by rw [ups_len, HSl.out]
          obtain ⟨q, hq, _⟩ := row_form ho (by rw [hul]; omega)
          have hq' : P = some ⟨q, 0, none⟩ := hq
          subst hq'
          have HO := Lib.hid ho
          clear ho hq hul
          rcases Nat.eq_zero_or_pos j with rfl | h0
          · have hc := HO.out.at rfl (i := 0) (x := -1) (by rw [ups, List.getElem?_map, HS0.out]; rfl)
            have HE : Hid ((v || ((0 : Int) == (y : Int))) = upTo S x y) := by
              rw [← HV.out, upTo_stop (j := 0) (by rw [HS0.out]; intro p hp; simp at hp)]
              show _ = (v || (0 == y))
              have e : ((0 : Int) == (y : Int)) = ((0 : Nat) == y) := by
                by_cases e : 0 = y
                · subst e; rfl
                · rw [beq_eq_false_iff_ne.2 e, beq_eq_false_iff_ne.2 (by omega)]
              rw [e]
            clear HV HO
            cases v
            all_goals
              go_wp2_with fail
              go_roundw
              case rel => exact ⟨_, -1, rfl, rfl, trivial, .inl ⟨rfl, HE.out⟩⟩
              case measure => simp [intOf]
          · obtain ⟨p, hp, hpj⟩ := HSj.out j h0 hj
            have hc := HO.out.at rfl (i := j) (x := (p : Int)) (by rw [ups, List.getElem?_map, hp]; rfl)
            have HE : Hid (((v || ((j : Int) == (y : Int))) || upTo S p y) = upTo S x y) := by
              rw [← HV.out, upTo_step hp hpj]
              have e : ((j : Int) == (y : Int)) = (j == y) := by
                by_cases e : j = y
                · subst e; simp
                · rw [beq_eq_false_iff_ne.2 e, beq_eq_false_iff_ne.2 (by omega)]
              show _ = _
              rw [e, Bool.or_assoc]
            have HPJ := Lib.hid hpj
            clear HV HO hp hpj
            cases v
            all_goals
              go_wp2_with fail
              go_roundw
              case rel => exact ⟨_, (p : Int), rfl, rfl, trivial, .inr ⟨p, rfl, by have := HPJ.out; omega, HE.out⟩⟩
              case measure => have := HPJ.out; simp [intOf]; omega
end Go.Proofs.Ytplckaodenpdbaa
