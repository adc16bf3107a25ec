/- What Walk, Under and Kids tell of a tree in memory. Conditions: each theorem's own premises. -/
import Derived.Test.YtdpapnfjpefhkaaGreatTMemm
import Derived.Test.YtdpapnfjpefhkaaGreatTShl
namespace Go.Proofs.YtdpapnfjpefhkaaGreat.Tr
open Go.RowKit
set_option linter.unusedVariables false
set_option maxRecDepth 100000
def Grew (B : Nat) (w w' : World) (P : Option Addr) (l l2 : List Int) (e : Ending) : Prop :=
 ∃ g c', e = .returned (.slice (some ⟨g, 0, none⟩) (l ++ l2).length c') ∧ Rw B w' (some ⟨g, 0, none⟩) c' (l ++ l2) ∧ (blk P = some g ∨ w.heap.size ≤ g) ∧ Tn (fun k => blk P = some k) w w'
structure WS (F : Nat → Prop) (V : Nat → Value) (S : TS) (W : World) (t : Nat) (P0 : Option Addr) (ks : List Int) (kb : Option Addr) (kc : Nat) (w : World) (g c : Nat) (l : List Int) : Prop where
 tr : TR F 0 V S w t
 own : Rw 0 w (some ⟨g, 0, none⟩) c l
 at' : blk P0 = some g ∨ W.heap.size ≤ g
 tn : Tn (fun k => blk P0 = some k) W w
 nf : ¬ F g
 kid : Rw 0 w kb kc ks
 kf : ∀ k, blk kb = some k → F k
theorem WS.more {V : Nat → Value} {F : Nat → Prop} {S : TS} {W w w' : World} {t g c : Nat} {P0 kb : Option Addr} {kc : Nat} {ks l l2 : List Int} {e : Ending} (h : WS F V S W t P0 ks kb kc w g c l) (hF : ∀ k, F k → k < W.heap.size) (hg : Grew 0 w w' (some ⟨g, 0, none⟩) l l2 e) :
  ∃ g' c' n', Hid (n' = (l ++ l2).length) ∧ e = .returned (.slice (some ⟨g', 0, none⟩) n' c') ∧ Hid (WS F V S W t P0 ks kb kc w' g' c' (l ++ l2)) := by
 obtain ⟨g', c', he, ho, hat, tn⟩ := hg
 have hs := h.tn.size
 have keepF : ∀ k, k < w.heap.size → F k → w'.heap[k]? = w.heap[k]? := fun k hk hf => tn.block k hk fun e => h.nf (by cases e; exact hf)
 refine ⟨g', c', _, rfl, he, h.tr.keep keepF, ho, ?_, ?_, ?_, ?_, h.kf⟩
 · rcases hat with e | e
   · cases e; exact h.at'
   · exact .inr (by omega)
 · refine h.tn.comp tn fun b hb => ?_
   cases hb
   exact h.at'
 · intro hf
   rcases hat with e | e
   · cases e; exact h.nf hf
   · have := hF _ hf; omega
 · exact row_keep h.kid fun k hk => keepF k (row_lt h.kid hk).2 (h.kf k hk)
def wks (S : TS) (i k : Nat) : List Nat := ((kids S i).take k).flatMap (walk S)
theorem wks_succ {S : TS} {i k j : Nat} (h : (kids S i)[k]? = some j) : wks S i (k + 1) = wks S i k ++ walk S j := by
 unfold wks
 rw [List.take_add_one, h, List.flatMap_append]
 simp
theorem wks_len {S : TS} (i k : Nat) : (wks S i k).length ≤ ((kids S i).flatMap (walk S)).length := by
 unfold wks
 conv => rhs; rw [← List.take_append_drop k (kids S i)]
 rw [List.flatMap_append, List.length_append]; omega
theorem wks_all {S : TS} (i k : Nat) (h : (kids S i).length ≤ k) : i :: wks S i k = walk S i := by
 unfold wks
 rw [List.take_of_length_le h, ← walk_eq]
section
variable {V : Nat → Value} {F : Nat → Prop} {t : Nat} {S : TS}
theorem TR.row {w : World} (h : TR F 0 V S w t) (i : Nat) (hi : i < S.length) : ∃ P c D d q, TX F 0 V w t P c D ∧ P = some ⟨q, 0, none⟩ ∧ D.length = S.length ∧ D[i]? = some d ∧ d.ks = nz (kids S i) ∧ Rw 0 w d.P d.c d.ks ∧ S[i]? = some (d.par, d.lk) ∧
  w.cell? ⟨t, 1, none⟩ = some (.slice (some ⟨q, 0, none⟩) S.length c) ∧ w.cell? ⟨q, i * 3, none⟩ = some (.int .i64 d.par) ∧ w.cell? ⟨q, i * 3 + 1, none⟩ = some (.bool d.lk) ∧ w.cell? ⟨q, i * 3 + 2, none⟩ = some (.slice d.P d.ks.length d.c) ∧ (∀ k, blk d.P = some k → F k) := by
 obtain ⟨P, c, D, x, o⟩ := h.ex
 obtain ⟨d, hd, h1, hks⟩ := o.one hi
 obtain ⟨q, rfl, _⟩ := x.form hd
 obtain ⟨e1, e2, e3⟩ := x.cells rfl hd
 have h0 := x.c0
 rw [o.1] at h0
 exact ⟨_, c, D, d, q, x, rfl, o.1, hd, hks, x.kid i d hd, h1, h0, e1, e2, e3, fun k hk => x.fk i d k hd hk⟩
theorem walk_runs : ∀ n (i : Nat), S.length - i < n → i < S.length → ∀ (w : World) (P : Option Addr) (c : Nat) (l : List Int), TR F 0 V S w t → Rw 0 w P c l → (∀ k, blk P = some k → ¬ F k) → (∀ k, F k → k < w.heap.size) → l.length + (walk S i).length ≤ 1000 →
  Calls Tryz.prog 96 #[.pointer (some ⟨t, 1, none⟩), .slice P l.length c, .int .i64 (i : Int)] w fun e w' => Grew 0 w w' P l (nz (walk S i)) e := by
 intro n
 induction n with
 | zero => intro i hn; omega
 | succ n ih =>
  intro i hn hi w P c l h hl hnf hF hlen
  obtain ⟨i3, hi3, hy0, hy1, hy2⟩ := info_parts inf3
  have HB := Lib.hid (below_al w (.cells #[.int .i64 (i : Int)] 3))
  have hw1 : 1 ≤ (walk S i).length := by rw [walk_eq]; simp
  have hl9 : l.length ≤ 999 := by omega
  have b1 : (i : Int) < (S.length : Int) := by omega
  have b2 : (0 : Int) ≤ (i : Int) := by omega
  have HT := Lib.hid h
  have HR := Lib.hid hl
  -- the world behind the first append
  have key : ∀ g cap w1, (w.alloc (.cells #[.int .i64 (i : Int)] 3)).grownBy w1 (Value.slice P l.length c).ownBlock → w1.ownsRow 0 3 1 (.slice (some ⟨g, 0, none⟩) (l.length + 1) cap) (l.length + 1) (iV l ++ [.int .i64 (i : Int)]) → ((Value.slice P l.length c).ownBlock = some g ∨ g = w.heap.size + 1) →
    ∃ kb kc ks q c0, ks = nz (kids S i) ∧ WS F V S w t P ks kb kc w1 g cap (l ++ [(i : Int)]) ∧ w1.cell? ⟨t, 1, none⟩ = some (.slice (some ⟨q, 0, none⟩) S.length c0) ∧ w1.cell? ⟨q, i * 3 + 2, none⟩ = some (.slice kb ks.length kc) := by
   intro g cap w1 hg ho hat
   have hs := HB.out.size
   rw [own_blk] at hg hat
   have T := Tn.grown HB.out hg
   have hT1 : TR F 0 V S w1 t := HT.out.keep fun k hk hf => T.block k hk fun e => hnf k e hf
   obtain ⟨P', c', D, d, q, x, hP, hDl, hd, hks, hr, hsd, h0, e1, e2, e3, hf⟩ := hT1.row i hi
   refine ⟨d.P, d.c, d.ks, q, c', hks, ⟨hT1, ?_, hat.imp id (by omega), T, ?_, hr, hf⟩, h0, e3⟩
   · unfold Rw
     rw [show (l ++ [(i : Int)]).length = l.length + 1 from by simp, iV_app]
     exact ho
   · intro hfg
     rcases hat with e | e
     · exact hnf g e hfg
     · have := hF g hfg; omega
  have KEY := Lib.hid key
  have HNF := Lib.hid hnf
  have HFF := Lib.hid hF
  have HI := Lib.hid ih
  clear key hnf hF ih h hl
  go_enter Tryz.func96, Tryz.ntmps96
  go_wp2_with (at_builtin; go_loud (refine wpList_append_lies _ rfl (.tmp 9) (.tmp 11) 111 rfl 0 3 i3 _ 1 8 Tryz.underlying111 hi3 hy0 hy1 hy2 rfl (by omega) (.slice P l.length c) l.length (iV l) rfl (row_later HR.out HB.out) ⟨w.heap.size, 0, none⟩ 1 1 [.int .i64 (i : Int)] rfl rfl (World.news_of_block (cs := #[.int .i64 (i : Int)]) (heap_alloc_new w _)) (int_cell _) (by omega) (by unfold maxLen; omega) (by omega) (by omega) (w.heap.size + 1) (by first | (simp; done) | (simp; rfl)) ?_; intro g cap w1 hown hgrow hat hlt1; obtain ⟨kb, kc, ks, q, c0, hks, hWS, hc1, hc2⟩ := KEY.out g cap w1 hgrow hown hat; have HW := Lib.hid hWS; have HK := Lib.hid hks; clear hks hWS hown hgrow hat hlt1))
  have HS : Hid (WS F V S w t P ks kb kc w1 g cap (l ++ [(i : Int)] ++ nz (wks S i 0))) := by
   rw [show l ++ [(i : Int)] ++ nz (wks S i 0) = l ++ [(i : Int)] from by simp [wks, nz]]; exact HW.out
  have HL0 : Hid (l.length + 1 = (l ++ [(i : Int)] ++ nz (wks S i 0)).length) := by show _ = _; simp [wks, nz]
  have hkl : ks.length = (kids S i).length := by rw [HK.out, nz_len]
  have hk9 : ks.length ≤ 1000 := by
   have := once_len S.length (kids S i) ((kids_rise S i).imp fun h => by omega) (fun x hx => (kids_lt hx).2)
   have := HT.out.le
   omega
  clear HW KEY HR HB HT hc1 hc2
  have HKL := Lib.hid hkl
  clear hkl
  go_loopw [1, 22] (fun v x wr => ∃ (k g c n : Nat) (m : List Int), k ≤ ks.length ∧ x = .int .i64 k ∧ v = .slice (some ⟨g, 0, none⟩) n c ∧ Hid (n = m.length) ∧ Hid (m = l ++ [(i : Int)] ++ nz (wks S i k)) ∧ Hid (WS F V S w t P ks kb kc wr g c m)) (fun _ x _ => ks.length - (intOf x).toNat)
  case atStart => exact ⟨0, g, cap, _, _, by omega, rfl, rfl, HL0, rfl, HS⟩
  case round =>
   clear HS HL0
   obtain ⟨k, g, c, n0, m, hk, rfl, rfl, hn0, hm, hW⟩ := hrel
   by_cases hlt : k < ks.length
   · have b3 : (k : Int) < (ks.length : Int) := by omega
     have b4 : (0 : Int) ≤ (k : Int) := by omega
     have hj : k < (kids S i).length := by have := HKL.out; omega
     obtain ⟨j, hjk⟩ : ∃ j, (kids S i)[k]? = some j := ⟨_, List.getElem?_eq_getElem hj⟩
     have hjm := List.mem_of_getElem? hjk
     obtain ⟨b, hb, _⟩ := row_form hW.out.kid (by omega)
     have hcell := hW.out.kid.at hb (i := k) (x := (j : Int)) (by rw [HK.out, nz, List.getElem?_map, hjk]; rfl)
     subst hb
     have HJ := Lib.hid hjm
     have HJK := Lib.hid hjk
     have hlen2 : m.length + (walk S j).length ≤ 1000 := by
      have e1 := wks_len (S := S) i (k + 1)
      rw [wks_succ hjk] at e1
      have e2 : (walk S i).length = ((kids S i).flatMap (walk S)).length + 1 := by rw [walk_eq]; simp
      have e3 : m.length = l.length + 1 + (wks S i k).length := by rw [hm.out]; simp [nz]; omega
      rw [List.length_append] at e1
      omega
     have hcall := HI.out j (by have := kids_lt hjm; omega) (kids_lt hjm).2 wr (some ⟨g, 0, none⟩) c m hW.out.tr hW.out.own (fun k e hf => hW.out.nf (by cases e; exact hf)) (fun k hf => Nat.lt_of_lt_of_le (HFF.out k hf) hW.out.tn.size) hlen2
     rw [← hn0.out] at hcall
     have HC := Lib.hid hcall
     clear hcall hjm hjk hj
     go_wp2_with (go_at_call 96; (with_reducible refine HC.out.mono ?_); rintro e w' hgrew; obtain ⟨g2, c2, n2, HN2, rfl, HW2⟩ := hW.out.more HFF.out hgrew; clear hgrew)
     go_roundw
     case rel =>
      refine ⟨k + 1, g2, c2, n2, _, by omega, by go_num, rfl, HN2, ?_, HW2⟩
      show _ = _
      rw [hm.out, wks_succ HJK.out, nz_app, List.append_assoc]
     case measure => simp [intOf]; omega
   · obtain rfl : k = ks.length := by omega
     go_wp2_with fail
     go_ret
     have e : m = l ++ nz (walk S i) := by
      rw [hm.out, ← wks_all i ks.length (by rw [HKL.out]; omega)]
      simp [nz]
     rw [e] at hW hn0
     rw [hn0.out]
     exact ⟨g, c, rfl, hW.out.own, hW.out.at', hW.out.tn⟩
def RowR (l : List Int) (w : World) (e : Ending) (w' : World) : Prop := ∃ P c n, Hid (n = l.length) ∧ e = .returned (.slice P n c) ∧ Hid (Rw w.heap.size w' P c l) ∧ Hid (Below w.heap.size w w')
theorem RowR.none (w : World) : RowR [] w (.returned (.slice none 0 0)) w := ⟨_, _, _, rfl, rfl, World.ownsRow_nil _ _ _ _, Below.refl _ _⟩
theorem row_high {w : World} {B e s n c : Nat} {P : Option Addr} {xs : List Value} {B' : Nat} (h : w.ownsRow B e s (.slice P n c) n xs) (hB : ∀ k, blk P = some k → B' ≤ k) : w.ownsRow B' e s (.slice P n c) n xs := by
 refine ⟨h.1, ?_⟩
 rcases h.2 with h1 | ⟨g, cap, cur, h1, h2, h3⟩
 · exact .inl h1
 · refine .inr ⟨g, cap, cur, h1, hB g ?_, h3⟩
   injection h1 with h1; rw [h1]; rfl
theorem walk_yes (w : World) (h : TR F 0 V S w t) (hF : ∀ k, F k → k < w.heap.size) (i : Nat) (hi : i < S.length) : Calls Tryz.prog 74 #[.pointer (some ⟨t, 1, none⟩), .int .i64 (i : Int)] w (RowR (nz (walk S i)) w) := by
 have H := Lib.hid (has_yes w h i hi)
 have HC := Lib.hid (walk_runs _ i (Nat.lt_succ_self _) hi w none 0 [] h (World.ownsRow_nil _ _ _ _) (fun k e => by cases e) hF (by have := walk_len h.wf hi; have := h.le; simp; omega))
 clear h hi hF
 go_enter Tryz.func74, Tryz.ntmps74
 go_wp2_with fail
 refine H.out.mono ?_
 rintro e w' ⟨rfl, rfl⟩
 go_wp2_with fail
 refine HC.out.mono ?_
 rintro e w' ⟨g, c, rfl, ho, hat, tn⟩
 have HE : Hid (RowR (nz (walk S i)) w (.returned (.slice (some ⟨g, 0, none⟩) ([] ++ nz (walk S i)).length c)) w') := by
  refine ⟨_, _, _, rfl, rfl, row_high ho fun k hk => ?_, tn.os, tn.tape, tn.output, tn.size, fun k hk => tn.block k hk (by intro e; cases e)⟩
  have hk : g = k := by simpa [blk] using hk
  rcases hat with e | e
  · cases e
  · omega
 rw [List.nil_append] at HE ⊢
 clear ho hat tn
 generalize (nz (walk S i)).length = n0 at HE ⊢
 go_wp2_with fail
 go_ret
 exact HE.out
end
end Go.Proofs.YtdpapnfjpefhkaaGreat.Tr
