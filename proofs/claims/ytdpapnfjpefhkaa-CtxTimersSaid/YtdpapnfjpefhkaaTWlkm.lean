/- What Walk, Under and Kids tell of a tree in memory. Conditions: each theorem's own premises.
What Detach does to a tree in memory. Conditions: each theorem's own premises. -/
import Derived.Test.YtdpapnfjpefhkaaTMemm
import Derived.Lib.OwnBridge
namespace Go.Proofs.Ytdpapnfjpefhkaa.Tr
open Go.RowKit
set_option linter.unusedVariables false
set_option maxRecDepth 100000

/-- A row of one's own has grown by l2; nothing but it has turned. -/
def Grew (B : Nat) (w w' : World) (P : Option Addr) (l l2 : List Int) (e : Ending) : Prop :=
  ∃ g c', e = .returned (.slice (some ⟨g, 0, none⟩) (l ++ l2).length c') ∧ Rw B w' (some ⟨g, 0, none⟩) c' (l ++ l2) ∧ (blk P = some g ∨ w.heap.size ≤ g) ∧ Tn (fun k => blk P = some k) w w'
/-- In the loop over kids: what has been walked. -/
structure WS (F : Nat → Prop) (V : Nat → Value) (S : TS) (W : World) (t : Nat) (P0 : Option Addr) (ks : List Int) (kb : Option Addr) (kc : Nat) (w : World) (g c : Nat) (l : List Int) : Prop where
  tr : TR F 0 V S w t
  own : Rw 0 w (some ⟨g, 0, none⟩) c l
  at' : blk P0 = some g ∨ W.heap.size ≤ g
  tn : Tn (fun k => blk P0 = some k) W w
  nf : ¬ F g
  kid : Rw 0 w kb kc ks
  kf : ∀ k, blk kb = some k → F k
theorem WS.more {V : Nat → Value} {F : Nat → Prop} {S : TS} {W w w' : World} {t g c : Nat} {P0 kb : Option Addr} {kc : Nat} {ks l l2 : List Int} {e : Ending} (h : WS F V S W t P0 ks kb kc w g c l) (hF : ∀ k, F k → k < W.heap.size) (hg : Grew 0 w w' (some ⟨g, 0, none⟩) l l2 e) :
    ∃ g' c' n', Hid (n' = (l ++ l2).length) ∧ e = .returned (.slice (some ⟨g', 0, none⟩) n' c') ∧ Hid (WS F V S W t P0 ks kb kc w' g' c' (l ++ l2)) := by
  obtain ⟨g', c', he, ho, hat, tn⟩ := hg
  have hs := h.tn.size
  have keepF : ∀ k, k < w.heap.size → F k → w'.heap[k]? = w.heap[k]? := fun k hk hf => tn.block k hk fun e => h.nf (by cases e; exact hf)
  refine ⟨g', c', _, rfl, he, h.tr.keep keepF, ho, ?_, ?_, ?_, ?_, h.kf⟩
  · rcases hat with e | e
    · cases e; exact h.at'
    · exact .inr (by omega)
  · refine h.tn.comp tn fun b hb => ?_
    cases hb
    exact h.at'
  · intro hf
    rcases hat with e | e
    · cases e; exact h.nf hf
    · have := hF _ hf; omega
  · exact row_keep h.kid fun k hk => keepF k (row_lt h.kid hk).2 (h.kf k hk)
/-- The walks of the first k kids. -/
def wks (S : TS) (i k : Nat) : List Nat := ((kids S i).take k).flatMap (walk S)
theorem wks_succ {S : TS} {i k j : Nat} (h : (kids S i)[k]? = some j) : wks S i (k + 1) = wks S i k ++ walk S j := by
  unfold wks
  rw [List.take_add_one, h, List.flatMap_append]
  simp
theorem wks_len {S : TS} (i k : Nat) : (wks S i k).length ≤ ((kids S i).flatMap (walk S)).length := by
  unfold wks
  conv => rhs; rw [← List.take_append_drop k (kids S i)]
  rw [List.flatMap_append, List.length_append]; omega
theorem wks_all {S : TS} (i k : Nat) (h : (kids S i).length ≤ k) : i :: wks S i k = walk S i := by
  unfold wks
  rw [List.take_of_length_le h, ← walk_eq]
section
variable {V : Nat → Value} {F : Nat → Prop} {t : Nat} {S : TS}
/-- A kids' row. -/
theorem TR.row {w : World} (h : TR F 0 V S w t) (i : Nat) (hi : i < S.length) : ∃ P c D d q, TX F 0 V w t P c D ∧ P = some ⟨q, 0, none⟩ ∧ D.length = S.length ∧ D[i]? = some d ∧ d.ks = nz (kids S i) ∧ Rw 0 w d.P d.c d.ks ∧ S[i]? = some (d.par, d.lk) ∧
    w.cell? ⟨t, 1, none⟩ = some (.slice (some ⟨q, 0, none⟩) S.length c) ∧ w.cell? ⟨q, i * 3, none⟩ = some (.int .i64 d.par) ∧ w.cell? ⟨q, i * 3 + 1, none⟩ = some (.bool d.lk) ∧ w.cell? ⟨q, i * 3 + 2, none⟩ = some (.slice d.P d.ks.length d.c) ∧ (∀ k, blk d.P = some k → F k) := by
  obtain ⟨P, c, D, x, o⟩ := h.ex
  obtain ⟨d, hd, h1, hks⟩ := o.one hi
  obtain ⟨q, rfl, _⟩ := x.form hd
  obtain ⟨e1, e2, e3⟩ := x.cells rfl hd
  have h0 := x.c0
  rw [o.1] at h0
  exact ⟨_, c, D, d, q, x, rfl, o.1, hd, hks, x.kid i d hd, h1, h0, e1, e2, e3, fun k hk => x.fk i d k hd hk⟩
theorem walk_runs : ∀ n (i : Nat), S.length - i < n → i < S.length → ∀ (w : World) (P : Option Addr) (c : Nat) (l : List Int), TR F 0 V S w t → Rw 0 w P c l → (∀ k, blk P = some k → ¬ F k) → (∀ k, F k → k < w.heap.size) → l.length + (walk S i).length ≤ 1000 →
    Calls Try.prog 67 #[.pointer (some ⟨t, 1, none⟩), .slice P l.length c, .int .i64 (i : Int)] w fun e w' => Grew 0 w w' P l (nz (walk S i)) e := by
  intro n
  induction n with
  | zero => intro i hn; omega
  | succ n ih =>
    intro i hn hi w P c l h hl hnf hF hlen
    obtain ⟨i3, hi3, hy0, hy1, hy2⟩ := info_parts inf3
    have HB := Lib.hid (below_al w (.cells #[.int .i64 (i : Int)] 3))
    have hw1 : 1 ≤ (walk S i).length := by rw [walk_eq]; simp
    have hl9 : l.length ≤ 999 := by omega
    have b1 : (i : Int) < (S.length : Int) := by omega
    have b2 : (0 : Int) ≤ (i : Int) := by omega
    have HT := Lib.hid h
    have HR := Lib.hid hl
    -- the world behind the first append
    have key : ∀ g cap w1, (w.alloc (.cells #[.int .i64 (i : Int)] 3)).grownBy w1 (Value.slice P l.length c).ownBlock → w1.ownsRow 0 3 1 (.slice (some ⟨g, 0, none⟩) (l.length + 1) cap) (l.length + 1) (iV l ++ [.int .i64 (i : Int)]) → ((Value.slice P l.length c).ownBlock = some g ∨ g = w.heap.size + 1) →
        ∃ kb kc ks q c0, ks = nz (kids S i) ∧ WS F V S w t P ks kb kc w1 g cap (l ++ [(i : Int)]) ∧ w1.cell? ⟨t, 1, none⟩ = some (.slice (some ⟨q, 0, none⟩) S.length c0) ∧ w1.cell? ⟨q, i * 3 + 2, none⟩ = some (.slice kb ks.length kc) := by
      intro g cap w1 hg ho hat
      have hs := HB.out.size
      rw [own_blk] at hg hat
      have T := Tn.grown HB.out hg
      have hT1 : TR F 0 V S w1 t := HT.out.keep fun k hk hf => T.block k hk fun e => hnf k e hf
      obtain ⟨P', c', D, d, q, x, hP, hDl, hd, hks, hr, hsd, h0, e1, e2, e3, hf⟩ := hT1.row i hi
      refine ⟨d.P, d.c, d.ks, q, c', hks, ⟨hT1, ?_, hat.imp id (by omega), T, ?_, hr, hf⟩, h0, e3⟩
      · unfold Rw
        rw [show (l ++ [(i : Int)]).length = l.length + 1 from by simp, iV_app]
        exact ho
      · intro hfg
        rcases hat with e | e
        · exact hnf g e hfg
        · have := hF g hfg; omega
    have KEY := Lib.hid key
    have HNF := Lib.hid hnf
    have HFF := Lib.hid hF
    have HI := Lib.hid ih
    clear key hnf hF ih h hl
    go_enter Try.func67, Try.ntmps67
    go_wp2_with (at_builtin; go_loud (refine wpList_append_lies _ rfl (.tmp 9) (.tmp 11) 22 rfl 0 3 i3 _ 1 8 Try.underlying22 hi3 hy0 hy1 hy2 rfl (by omega) (.slice P l.length c) l.length (iV l) rfl (row_later HR.out HB.out) ⟨w.heap.size, 0, none⟩ 1 1 [.int .i64 (i : Int)] rfl rfl (World.news_of_block (cs := #[.int .i64 (i : Int)]) (heap_alloc_new w _)) (int_cell _) (by omega) (by unfold maxLen; omega) (by omega) (by omega) (w.heap.size + 1) (by first | (simp; done) | (simp; rfl)) ?_; intro g cap w1 hown hgrow hat hlt1; obtain ⟨kb, kc, ks, q, c0, hks, hWS, hc1, hc2⟩ := KEY.out g cap w1 hgrow hown hat; have HW := Lib.hid hWS; have HK := Lib.hid hks; clear hks hWS hown hgrow hat hlt1))
    have HS : Hid (WS F V S w t P ks kb kc w1 g cap (l ++ [(i : Int)] ++ nz (wks S i 0))) := by
      rw [show l ++ [(i : Int)] ++ nz (wks S i 0) = l ++ [(i : Int)] from by simp [wks, nz]]; exact HW.out
    have HL0 : Hid (l.length + 1 = (l ++ [(i : Int)] ++ nz (wks S i 0)).length) := by show _ = _; simp [wks, nz]
    have hkl : ks.length = (kids S i).length := by rw [HK.out, nz_len]
    have hk9 : ks.length ≤ 1000 := by
      have := once_len S.length (kids S i) ((kids_rise S i).imp fun h => by omega) (fun x hx => (kids_lt hx).2)
      have := HT.out.le
      omega
    clear HW KEY HR HB HT hc1 hc2
    have HKL := Lib.hid hkl
    clear hkl
    go_loopw [1, 22] (fun v x wr => ∃ (k g c n : Nat) (m : List Int), k ≤ ks.length ∧ x = .int .i64 k ∧ v = .slice (some ⟨g, 0, none⟩) n c ∧ Hid (n = m.length) ∧ Hid (m = l ++ [(i : Int)] ++ nz (wks S i k)) ∧ Hid (WS F V S w t P ks kb kc wr g c m)) (fun _ x _ => ks.length - (intOf x).toNat)
    case atStart => exact ⟨0, g, cap, _, _, by omega, rfl, rfl, HL0, rfl, HS⟩
    case round =>
      clear HS HL0
      obtain ⟨k, g, c, n0, m, hk, rfl, rfl, hn0, hm, hW⟩ := hrel
      by_cases hlt : k < ks.length
      · have b3 : (k : Int) < (ks.length : Int) := by omega
        have b4 : (0 : Int) ≤ (k : Int) := by omega
        have hj : k < (kids S i).length := by have := HKL.out; omega
        obtain ⟨j, hjk⟩ : ∃ j, (kids S i)[k]? = some j := ⟨_, List.getElem?_eq_getElem hj⟩
        have hjm := List.mem_of_getElem? hjk
        obtain ⟨b, hb, _⟩ := row_form hW.out.kid (by omega)
        have hcell := hW.out.kid.at hb (i := k) (x := (j : Int)) (by rw [HK.out, nz, List.getElem?_map, hjk]; rfl)
        subst hb
        have HJ := Lib.hid hjm
        have HJK := Lib.hid hjk
        have hlen2 : m.length + (walk S j).length ≤ 1000 := by
          have e1 := wks_len (S := S) i (k + 1)
          rw [wks_succ hjk] at e1
          have e2 : (walk S i).length = ((kids S i).flatMap (walk S)).length + 1 := by rw [walk_eq]; simp
          have e3 : m.length = l.length + 1 + (wks S i k).length := by rw [hm.out]; simp [nz]; omega
          rw [List.length_append] at e1
          omega
        have hcall := HI.out j (by have := kids_lt hjm; omega) (kids_lt hjm).2 wr (some ⟨g, 0, none⟩) c m hW.out.tr hW.out.own (fun k e hf => hW.out.nf (by cases e; exact hf)) (fun k hf => Nat.lt_of_lt_of_le (HFF.out k hf) hW.out.tn.size) hlen2
        rw [← hn0.out] at hcall
        have HC := Lib.hid hcall
        clear hcall hjm hjk hj
        go_wp2_with (go_at_call 67; (with_reducible refine HC.out.mono ?_); rintro e w' hgrew; obtain ⟨g2, c2, n2, HN2, rfl, HW2⟩ := hW.out.more HFF.out hgrew; clear hgrew)
        go_roundw
        case rel =>
          refine ⟨k + 1, g2, c2, n2, _, by omega, by go_num, rfl, HN2, ?_, HW2⟩
          show _ = _
          rw [hm.out, wks_succ HJK.out, nz_app, List.append_assoc]
        case measure => simp [intOf]; omega
      · obtain rfl : k = ks.length := by omega
        go_wp2_with fail
        go_ret
        have e : m = l ++ nz (walk S i) := by
          rw [hm.out, ← wks_all i ks.length (by rw [HKL.out]; omega)]
          simp [nz]
        rw [e] at hW hn0
        rw [hn0.out]
        exact ⟨g, c, rfl, hW.out.own, hW.out.at', hW.out.tn⟩
/-- A new row of one's own is told; all else lies. -/
def RowR (l : List Int) (w : World) (e : Ending) (w' : World) : Prop := ∃ P c n, Hid (n = l.length) ∧ e = .returned (.slice P n c) ∧ Hid (Rw w.heap.size w' P c l) ∧ Hid (Below w.heap.size w w')
theorem RowR.none (w : World) : RowR [] w (.returned (.slice none 0 0)) w := ⟨_, _, _, rfl, rfl, World.ownsRow_nil _ _ _ _, Below.refl _ _⟩
theorem row_high {w : World} {B e s n c : Nat} {P : Option Addr} {xs : List Value} {B' : Nat} (h : w.ownsRow B e s (.slice P n c) n xs) (hB : ∀ k, blk P = some k → B' ≤ k) : w.ownsRow B' e s (.slice P n c) n xs := by
  refine ⟨h.1, ?_⟩
  rcases h.2 with h1 | ⟨g, cap, cur, h1, h2, h3⟩
  · exact .inl h1
  · refine .inr ⟨g, cap, cur, h1, hB g ?_, h3⟩
    injection h1 with h1; rw [h1]; rfl
theorem walk_no (w : World) (h : TR F 0 V S w t) (i : Int) (hi : i < 0 ∨ (S.length : Int) ≤ i) : Calls Try.prog 52 #[.pointer (some ⟨t, 1, none⟩), .int .i64 i] w (RowR [] w) := by
  have H := Lib.hid (has_no w h i hi)
  clear h hi
  go_enter Try.func52, Try.ntmps52
  go_wp2_with fail
  refine H.out.mono ?_
  rintro e w' ⟨rfl, rfl⟩
  go_wp2_with fail
  go_ret
  exact RowR.none w
theorem walk_yes (w : World) (h : TR F 0 V S w t) (hF : ∀ k, F k → k < w.heap.size) (i : Nat) (hi : i < S.length) : Calls Try.prog 52 #[.pointer (some ⟨t, 1, none⟩), .int .i64 (i : Int)] w (RowR (nz (walk S i)) w) := by
  have H := Lib.hid (has_yes w h i hi)
  have HC := Lib.hid (walk_runs _ i (Nat.lt_succ_self _) hi w none 0 [] h (World.ownsRow_nil _ _ _ _) (fun k e => by cases e) hF (by have := walk_len h.wf hi; have := h.le; simp; omega))
  clear h hi hF
  go_enter Try.func52, Try.ntmps52
  go_wp2_with fail
  refine H.out.mono ?_
  rintro e w' ⟨rfl, rfl⟩
  go_wp2_with fail
  refine HC.out.mono ?_
  rintro e w' ⟨g, c, rfl, ho, hat, tn⟩
  have HE : Hid (RowR (nz (walk S i)) w (.returned (.slice (some ⟨g, 0, none⟩) ([] ++ nz (walk S i)).length c)) w') := by
    refine ⟨_, _, _, rfl, rfl, row_high ho fun k hk => ?_, tn.os, tn.tape, tn.output, tn.size, fun k hk => tn.block k hk (by intro e; cases e)⟩
    have hk : g = k := by simpa [blk] using hk
    rcases hat with e | e
    · cases e
    · omega
  rw [List.nil_append] at HE ⊢
  clear ho hat tn
  generalize (nz (walk S i)).length = n0 at HE ⊢
  go_wp2_with fail
  go_ret
  exact HE.out
/-- Up from i one comes to top, whatever top is. -/
def upZ (S : TS) (i : Nat) (top : Int) : Bool := decide (0 ≤ top) && upTo S i top.toNat
theorem upZ_nat (S : TS) (i j : Nat) : upZ S i (j : Int) = upTo S i j := by simp [upZ]
theorem upZ_self {S : TS} {i : Nat} {top : Int} (h : (i : Int) = top) : upZ S i top = true := by
  subst h; rw [upZ_nat]; exact upTo_self _ _
theorem upZ_step {S : TS} {i p : Nat} {top : Int} (h : S[i]? = some ((p : Int), true)) (hp : p < i) (hne : (i : Int) ≠ top) : upZ S i top = upZ S p top := by
  unfold upZ
  by_cases c : 0 ≤ top
  · rw [upTo_step h hp, show (i == top.toNat) = false from beq_eq_false_iff_ne.2 (by omega), Bool.false_or]
  · rw [decide_eq_false c]; rfl
theorem upZ_stop {S : TS} {i : Nat} {top : Int} (h : ∀ p, S[i]? ≠ some (p, true)) (hne : (i : Int) ≠ top) : upZ S i top = false := by
  unfold upZ
  by_cases c : 0 ≤ top
  · rw [upTo_stop h, show (i == top.toNat) = false from beq_eq_false_iff_ne.2 (by omega), Bool.and_false]
  · rw [decide_eq_false c]; rfl
end
end Go.Proofs.Ytdpapnfjpefhkaa.Tr
namespace Go.Proofs.Ytdpapnfjpefhkaa.Tr
open Go.RowKit Go.Sort Go.Lib
set_option linter.unusedVariables false
set_option maxRecDepth 100000

/-- The closure: is it the one that the box holds. -/
theorem is_it (k x : Int) (b : Nat) (W : World) (hc : W.cell? ⟨b, 0, none⟩ = some (.int .i64 k)) : FnGives Try.prog 62 #[.pointer (some ⟨b, 0, none⟩)] #[.int .i64 x] (.bool (x == k)) W := by
  show Calls Try.prog 62 #[.int .i64 x, .pointer (some ⟨b, 0, none⟩)] W _
  go_enter Try.func62, Try.ntmps62
  go_wp2
  go_ret
  exact ⟨rfl, 0, rfl⟩
theorem is_at (k : Int) (b : Nat) (w : World) (hb : b < w.heap.size) (hc : w.cell? ⟨b, 0, none⟩ = some (.int .i64 k)) : PredAt Try.prog 62 #[.pointer (some ⟨b, 0, none⟩)] (Value.int .i64) (fun x => x == k) w :=
  fun W x hB => is_it k x b W ((hB.cell (p := ⟨b, 0, none⟩) hb).trans hc)
theorem is_over (k : Int) (b blk off size : Nat) (w : World) (hb : b < w.heap.size) (hne : b ≠ blk) (hc : w.cell? ⟨b, 0, none⟩ = some (.int .i64 k)) : PredOver Try.prog 62 #[.pointer (some ⟨b, 0, none⟩)] (Value.int .i64) (fun x => x == k) blk off size w :=
  fun n os dk x _ => is_it k x b _ (by
    unfold sortWorld
    rw [cell?_grow _ _ _ (by show b < (putRow _ _ _ _ _).heap.size; rw [size_putRow]; exact hb), cell?_putRow_other _ _ blk off _ _ (Or.inl hne)]
    exact hc)
theorem tn_putRow {enc : Int → Value} {w : World} {g q : Nat} {d : Array Int} : Tn (fun k => some g = some k) w (putRow enc (Sort.ahead w q) g 0 d) :=
  ⟨rfl, rfl, rfl, by simp [putRow, mapBlock, Sort.ahead], fun k hk hn => by
    have : g ≠ k := fun e => hn (by rw [e])
    simp [putRow, mapBlock, Sort.ahead, Array.getElem?_modify, this]⟩
/-- slices.DeleteFunc at a row of one's own. -/
def DelR (P : Option Addr) (c : Nat) (l : List Int) (w : World) (e : Ending) (w' : World) : Prop := ∃ n, Hid (n = l.length) ∧ e = .returned (.slice P n c) ∧ Hid (Rw 0 w' P c l) ∧ Hid (Tn (fun k => blk P = some k) w w')
theorem del_call {w : World} {P : Option Addr} {c b : Nat} {l : List Int} (k : Int) (h : Rw 0 w P c l) (hne : l ≠ []) (hb : b < w.heap.size) (hbP : blk P ≠ some b) (hc : w.cell? ⟨b, 0, none⟩ = some (.int .i64 k)) :
    Calls Try.prog 61 #[.slice P l.length c, .func (.func 62) #[] #[.pointer (some ⟨b, 0, none⟩)]] w (DelR P c (l.filter fun x => !(x == k)) w) := by
  obtain ⟨g, rfl, hlc⟩ := row_form h (by cases l with | nil => exact absurd rfl hne | cons => simp)
  have hcap := row_cap h
  obtain ⟨g', cap', e1, _, hg, _, _, _, hH⟩ := Lib.holds_of_ownsRow (enc := Value.int .i64) h (by intro e; cases e)
  injection e1 with e1 e2 e3
  injection e1 with e1
  injection e1 with e1
  subst e1
  have eg : ∀ args w, (callFunc 62 args).run Try.prog w = .ok (.enter 62 args) w := enters_of Try.func62 (by kernel_rfl) rfl
  have hk : (l.filter fun x => !(x == k)).length ≤ l.length := List.length_filter_le _ _
  refine (AnyE.slices_DeleteFunc Try.deleteIt (Value.int .i64) (fun _ => rfl) (fun x => x == k) 62 #[.pointer (some ⟨b, 0, none⟩)] eg 0 Try.zeroValue3 g 0 c l.toArray w (is_at k b w hb hc) (is_over k b g 0 _ w hb (fun e => hbP (by rw [e]; rfl)) hc) hH (by simp; omega) (by simpa using hlc)).mono ?_
  rintro e w' ⟨rfl, q, rfl⟩
  refine ⟨_, rfl, rfl, ?_, ?_⟩
  · have := Lib.ownsRow_putRow (q := q) (k := (l.filter fun x => !(x == k)).length) (ys := (l.filter fun x => !(x == k)) ++ List.replicate (l.length - (l.filter fun x => !(x == k)).length) 0) h (by rw [List.length_append, List.length_replicate]; omega) hk
    rw [List.take_left] at this
    show Rw _ _ _ _ _
    unfold Rw iV
    simpa using this
  · exact tn_putRow
theorem below_ad (w : World) (o : Obj) (n : Nat) : Below w.heap.size w ((w.alloc o).drewN n) := (below_al w o).trans ((below_drewN _ n).mono (by simp))
section
variable {V : Nat → Value} {F : Nat → Prop} {t : Nat} {S : TS}
theorem detach_no (w : World) (h : TR F 0 V S w t) (i : Int) (hi : i < 0 ∨ (S.length : Int) ≤ i) : Calls Try.prog 44 #[.pointer (some ⟨t, 1, none⟩), .int .i64 i] w (BoolR false w) := by
  have H0 := Lib.hid fun n => has_no _ (h.later (below_ad w (.cells #[.int .i64 i] 3) n)) i hi
  clear h hi
  go_enter Try.func44, Try.ntmps44
  go_wp2_with fail
  go_quiet (exact Calls.quiet_of_same ((H0.out _).mono fun _ _ h => ⟨h.1, h.2.symm⟩))
  go_wp2_with fail
  go_ret
  exact ⟨rfl, (below_al w _).trans ((below_drewN _ _).mono (by simp))⟩
theorem detach_off (w : World) (h : TR F 0 V S w t) (i : Nat) {p : Int} (hs : S[i]? = some (p, false)) : Calls Try.prog 44 #[.pointer (some ⟨t, 1, none⟩), .int .i64 (i : Int)] w (BoolR false w) := by
  have hi := (List.getElem?_eq_some_iff.1 hs).1
  have b1 : (i : Int) < (S.length : Int) := by omega
  have b2 : (0 : Int) ≤ (i : Int) := by omega
  have hT := h.later (below_al w (.cells #[.int .i64 (i : Int)] 3))
  obtain ⟨P, c, D, d, q, x, hP, hDl, hd, hks, hr, hsd, h0, e1, e2, e3, hf⟩ := hT.row i hi
  have e : d.lk = false := by rw [hs] at hsd; simp at hsd; exact hsd.2
  rw [e] at e2
  have H0 := Lib.hid fun n => has_yes _ (h.later (below_ad w (.cells #[.int .i64 (i : Int)] 3) n)) i hi
  clear hs hT x hP hDl hd hks hr hsd e1 e3 hf e h
  go_enter Try.func44, Try.ntmps44
  go_wp2_with fail
  go_quiet (exact Calls.quiet_of_same ((H0.out _).mono fun _ _ h => ⟨h.1, h.2.symm⟩))
  go_wp2_with fail
  go_ret
  exact ⟨rfl, (below_al w _).trans ((below_drewN _ _).mono (by simp))⟩
/-- On the way of a Detach: D is what the nodes are, the box b holds k. -/
structure DS (F : Nat → Prop) (V : Nat → Value) (t : Nat) (W : World) (P : Option Addr) (c : Nat) (D : List Nd) (b : Nat) (k : Int) (w : World) : Prop where
  tx : TX F 0 V w t P c D
  tn : Tn F W w
  box : w.cell? ⟨b, 0, none⟩ = some (.int .i64 k)
  bl : b < w.heap.size
  bn : ¬ F b
theorem DS.later {W w w' : World} {P : Option Addr} {c b : Nat} {D : List Nd} {k : Int} (h : DS F V t W P c D b k w) (hb : Below w.heap.size w w') : DS F V t W P c D b k w' :=
  ⟨h.tx.later hb, h.tn.later hb, (hb.cell (p := ⟨b, 0, none⟩) h.bl).trans h.box, Nat.lt_of_lt_of_le h.bl hb.size, h.bn⟩
theorem DS.off {W w : World} {P : Option Addr} {c b i q : Nat} {D : List Nd} {d : Nd} {k : Int} (h : DS F V t W P c D b k w) (hd : D[i]? = some d) (hP : P = some ⟨q, 0, none⟩) (x : Bool) : DS F V t W P c (D.set i { d with lk := x }) b k (w.setCell ⟨q, i * 3 + 1, none⟩ (.bool x)) := by
  obtain ⟨h1, h2⟩ := h.tx.lkTo hd hP x
  have hq : q ≠ b := fun e => h.bn (by rw [← e]; exact h.tx.fP q (by rw [hP]; rfl))
  refine ⟨h1, h.tn.trans h2, ?_, by rw [size_set]; exact h.bl, h.bn⟩
  rw [cell_blk (Below.heap_setCell w ⟨q, i * 3 + 1, none⟩ (.bool x) b (fun e => hq e.symm)) 0]
  exact h.box
theorem detach_yes (w : World) (h : TR F 0 V S w t) (hF : ∀ k, F k → k < w.heap.size) (i : Nat) {p : Nat} (hs : S[i]? = some ((p : Int), true)) : Calls Try.prog 44 #[.pointer (some ⟨t, 1, none⟩), .int .i64 (i : Int)] w fun e w' => e = .returned (.bool true) ∧ Go F 0 V t (cut S i) w w' := by
  have hi := (List.getElem?_eq_some_iff.1 hs).1
  have hpi := (h.wf i _ _ hs).2.1
  have hp : p < S.length := by omega
  have b1 : (i : Int) < (S.length : Int) := by omega
  have b2 : (0 : Int) ≤ (i : Int) := by omega
  have b3 : (p : Int) < (S.length : Int) := by omega
  have b4 : (0 : Int) ≤ (p : Int) := by omega
  have hT := h.later (below_al w (.cells #[.int .i64 (i : Int)] 3))
  obtain ⟨P, c, D, x, o⟩ := hT.ex
  obtain ⟨d, hd, hsd, hks⟩ := o.one hi
  obtain ⟨dp, hdp, hsp, hkp⟩ := o.one hp
  obtain ⟨q, rfl, hqc⟩ := x.form hd
  have hpar : d.par = (p : Int) ∧ d.lk = true := by rw [hs] at hsd; simp at hsd; exact ⟨hsd.1.symm, hsd.2⟩
  have h0 := x.c0
  rw [o.1] at h0
  obtain ⟨e1, e2, e3⟩ := x.cells rfl hd
  rw [hpar.2] at e2
  have S1 : DS F V t w (some ⟨q, 0, none⟩) c D w.heap.size (i : Int) (w.alloc (.cells #[.int .i64 (i : Int)] 3)) := ⟨x, .of_below (below_al w _), by simp, by simp, fun hf => by have := hF _ hf; omega⟩
  have HS1 := Lib.hid S1
  have H0 := Lib.hid fun n => has_yes _ (h.later (below_ad w (.cells #[.int .i64 (i : Int)] 3) n)) i hi
  clear x hT S1 hF
  go_enter Try.func44, Try.ntmps44
  go_wp2_with fail
  go_quiet (exact Calls.quiet_of_same ((H0.out _).mono fun _ _ h => ⟨h.1, h.2.symm⟩))
  go_wp2_with fail
  have hne : i ≠ p := by omega
  obtain ⟨w1, hw1⟩ : ∃ w1, (w.alloc (.cells #[.int .i64 (i : Int)] 3)).drewN nq = w1 := ⟨_, rfl⟩
  have D1 : Hid (DS F V t w (some ⟨q, 0, none⟩) c D w.heap.size (i : Int) w1) := by rw [← hw1]; exact HS1.out.later (below_drewN _ _)
  rw [hw1]
  clear hw1 h0 e1 e2 e3 H0 HS1
  have HD := Lib.hid hd
  have HDP := Lib.hid hdp
  have HO := Lib.hid o
  have HT := Lib.hid h
  have HSS := Lib.hid hs
  have HPAR := Lib.hid hpar
  have hDl := o.1
  have HKP : Hid (dp.ks ≠ []) := by
    show dp.ks ≠ []
    rw [hkp]
    intro e
    have hm := mem_kids.2 ⟨hs, (by omega : p < i)⟩
    have e2 : (kids S p).length = 0 := by rw [← nz_len, e]; rfl
    rw [List.length_eq_zero_iff.1 e2] at hm
    cases hm
  clear hd hdp o h hs hpar hks hkp hsd hsp
  have h0 := D1.out.tx.c0
  rw [hDl] at h0
  have h1 := D1.out.box
  go_quiet (fail)
  obtain ⟨w2, hw2⟩ : ∃ w2, w1.drewN nq = w2 := ⟨_, rfl⟩
  have D2 : Hid (DS F V t w (some ⟨q, 0, none⟩) c D w.heap.size (i : Int) w2) := by rw [← hw2]; exact D1.out.later (below_drewN _ _)
  rw [hw2]
  clear hw2 h0 h1 D1
  have h0 := (D2.out.tx.cells rfl HD.out).2.1
  have h1 := D2.out.tx.fz rfl (i * 3 + 1)
  go_wp2_with fail
  have D3 : Hid (DS F V t w (some ⟨q, 0, none⟩) c (D.set i { d with lk := false }) w.heap.size (i : Int) (w2.setCell ⟨q, i * 3 + 1, none⟩ (.bool false))) := D2.out.off HD.out rfl false
  obtain ⟨w3, hw3⟩ : ∃ w3, w2.setCell ⟨q, i * 3 + 1, none⟩ (.bool false) = w3 := ⟨_, rfl⟩
  rw [hw3] at D3 ⊢
  clear hw3 h0 h1 D2
  have HDI : Hid ((D.set i { d with lk := false })[i]? = some { d with lk := false }) := by
    show _ = _
    rw [List.getElem?_set, if_pos rfl, if_pos (List.getElem?_eq_some_iff.1 HD.out).1]
  have HDP2 : Hid ((D.set i { d with lk := false })[p]? = some dp) := by
    show _ = _
    rw [List.getElem?_set, if_neg hne]; exact HDP.out
  have h0 := D3.out.tx.c0
  rw [List.length_set, hDl] at h0
  have h1 : w3.cell? ⟨q, i * 3, none⟩ = some (.int .i64 (p : Int)) := by
    have := (D3.out.tx.cells rfl HDI.out).1
    rw [this]; show some (Value.int .i64 d.par) = _; rw [HPAR.out.1]
  go_quiet (fail)
  obtain ⟨w4, hw4⟩ : ∃ w4, w3.drewN nq = w4 := ⟨_, rfl⟩
  have D4 : Hid (DS F V t w (some ⟨q, 0, none⟩) c (D.set i { d with lk := false }) w.heap.size (i : Int) w4) := by rw [← hw4]; exact D3.out.later (below_drewN _ _)
  rw [hw4]
  clear hw4 h0 h1 D3
  have h0 := (D4.out.tx.cells rfl HDP2.out).2.2
  have HC := Lib.hid (del_call (i : Int) (D4.out.tx.kid p dp HDP2.out) HKP.out D4.out.bl (fun e => D4.out.bn (D4.out.tx.fk p dp _ HDP2.out e)) D4.out.box)
  obtain ⟨g, hg, _⟩ := row_form (D4.out.tx.kid p dp HDP2.out) (by have := HKP.out; cases hk : dp.ks with | nil => exact absurd hk this | cons => simp)
  have HG := Lib.hid hg
  clear hg
  go_wp2_with (go_at_call 61; (with_reducible refine HC.out.mono ?_); rintro e w5 ⟨n, hn, rfl, hr, ht⟩; have e5 := ht.out.block q (row_lt D4.out.tx.own rfl).2 (fun e => D4.out.tx.nePK HDP2.out (k := q) rfl e); have h5 : w5.cell? ⟨q, p * 3 + 2, none⟩ = some (.slice dp.P dp.ks.length dp.c) := (cell_blk e5 _).trans h0; have h6 : w5.frozen? ⟨q, p * 3 + 2, none⟩ = false := (World.frozen?_of_block (a := ⟨q, p * 3 + 2, none⟩) e5).trans (D4.out.tx.fz rfl _); clear e5 h0)
  go_ret
  have hr2 := hr.out
  rw [HG.out] at hr2
  have K := D4.out.tx.kidTo HDP2.out rfl ht.out hr2 (.inl (by rw [HG.out]; rfl))
  rw [hn.out, HG.out]
  refine ⟨rfl, ⟨HT.out.wf.cut i, by rw [cut_len]; exact HT.out.le, _, _, _, K.1.mono ?_, HO.out.cut HT.out.wf HD.out HDP.out HPAR.out.1 HPAR.out.2 _ _⟩, ?_⟩
  · rintro k _ (hk | hk)
    · exact .inl hk
    · exact .inr (Nat.le_trans D4.out.tn.size hk)
  · exact D4.out.tn.trans K.2
end
end Go.Proofs.Ytdpapnfjpefhkaa.Tr
