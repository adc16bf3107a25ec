/- shapeOf and shapesOf tell the shape of an error, and of each of some. Conditions: the errors lie in memory. -/
import Derived.Test.YtbefcakakoaieaaBld
import Derived.Deep.RegionHeld3
import Derived.Stop.Asserts
namespace Go.Proofs.Ytbefcakakoaieaa
open Go.RowKit Go.Extern.Stop Go.Stop Go.Extern

def ShpPost (c : Int) (o : ByteArray) (ks : Fo) (W : World) (e : Ending) (w : World) : Prop :=
  Below W.heap.size W w ∧ ∃ p n cap, e = .returned (.agg #[.int .i64 c, .string o, .slice p n cap]) ∧ KAt w (Btw W.heap.size w.heap.size) ks p n cap
def SlsPost (ks : Fo) (W : World) (e : Ending) (w : World) : Prop :=
  Below W.heap.size W w ∧ ∃ p cap, e = .returned (.slice p ks.len cap) ∧ KAt w (Btw W.heap.size w.heap.size) ks p ks.len cap

/-- The slice of a row of errors. -/
def REt (W : World) (S : Nat → Prop) (ks : Fo) (p : Option Addr) (n cap : Nat) : Prop :=
  n = ks.len ∧ n ≤ cap ∧ n < 4611686018427387904 ∧ ∃ b o, (0 < n → p = some ⟨b, o, none⟩) ∧ EAt W S ks b o

def ShpC (c : Int) (o : ByteArray) (ks : Fo) : Prop :=
  shortF (.cons c o ks .nil) → ∀ (W : World) (v : Value), EIs W (Lt W.heap.size) c o ks v → Calls Try.prog 31 #[v] W (ShpPost c o ks W)
def SlsC (ks : Fo) : Prop :=
  ks.len ≤ 1000 → shortF ks → ∀ (W : World) (p : Option Addr) (n cap : Nat), REt W (Lt W.heap.size) ks p n cap → Calls Try.prog 34 #[.slice p n cap] W (SlsPost ks W)

theorem Try.ta4040 (v : Value) (w : World) : (Instr.typeAssert (.iface 51 v) 29 51 true).run Try.prog w = .ok (.tuple #[v, .bool true]) w := by kernel_rfl
theorem Try.ta6340 (v : Value) (w : World) : (Instr.typeAssert (.iface 63 v) 29 51 true).run Try.prog w = .ok (.tuple #[.agg #[.int .i64 0], .bool false]) w := by kernel_rfl
theorem Try.tan40 (w : World) : (Instr.typeAssert .nilIface 29 51 true).run Try.prog w = .ok (.tuple #[.agg #[.int .i64 0], .bool false]) w := by kernel_rfl
theorem Try.ta6363 (v : Value) (w : World) : (Instr.typeAssert (.iface 63 v) 29 63 true).run Try.prog w = .ok (.tuple #[v, .bool true]) w := by kernel_rfl
theorem Try.tan63 (w : World) : (Instr.typeAssert .nilIface 29 63 true).run Try.prog w = .ok (.tuple #[.pointer none, .bool false]) w := by kernel_rfl

theorem shp_end (c : Int) (W w : World) (p : Option Addr) (cap : Nat) (hb : Below W.heap.size W w) {e : Ending} (he : e = .returned (.agg #[.int .i64 c, .string ⟨#[]⟩, .slice p 0 cap])) : ShpPost c ⟨#[]⟩ .nil W e w :=
  ⟨hb, p, 0, cap, he, KAt.nil _ _ _ _⟩

set_option maxRecDepth 100000 in
theorem shp_code (c : Int) (W : World) :
    Calls Try.prog 31 #[.iface 51 (.agg #[.int .i64 c])] W (ShpPost c ⟨#[]⟩ .nil W) := by
  have t1 := Try.ta4040
  go_enter Try.func31, Try.ntmps31
  go_wp2_with fail
  exact bodyPost_ret (v := .agg #[.int .i64 c, .string ⟨#[]⟩, .slice none 0 0]) (by simp [results, Try.results31, go_sem]) rfl (shp_end c W _ none 0 ((below_al _ _).alloc (by simp) _) rfl)
set_option maxRecDepth 100000 in
theorem shp_nil (W : World) :
    Calls Try.prog 31 #[.nilIface] W (ShpPost 0 ⟨#[]⟩ .nil W) := by
  have t1 := Try.tan40
  have t2 := Try.tan63
  go_enter Try.func31, Try.ntmps31
  go_wp2_with fail
  exact bodyPost_ret (v := .agg #[.int .i64 0, .string ⟨#[]⟩, .slice none 0 0]) (by simp [results, Try.results31, go_sem]) rfl (shp_end 0 W _ none 0 (below_al _ _) rfl)

theorem REt.below {W W' : World} {L B : Nat} {ks : Fo} {p : Option Addr} {n cap : Nat} (h : REt W (Lt L) ks p n cap) (hb : Below B W W') (hB : L ≤ B) : REt W' (Lt L) ks p n cap := by
  obtain ⟨h1, h2, h3, b, o, h4, h5⟩ := h
  exact ⟨h1, h2, h3, b, o, h4, h5.agr (fun x hx => hb.block x (Nat.lt_of_lt_of_le hx hB)) (fun _ h => h)⟩
theorem REt.mono {W : World} {L L' : Nat} {ks : Fo} {p : Option Addr} {n cap : Nat} (h : REt W (Lt L) ks p n cap) (hL : L ≤ L') : REt W (Lt L') ks p n cap := by
  obtain ⟨h1, h2, h3, b, o, h4, h5⟩ := h
  exact ⟨h1, h2, h3, b, o, h4, h5.agr (fun _ _ => rfl) (fun _ h => Nat.lt_of_lt_of_le h hL)⟩

/-- The call's contract where the region meets it. -/
theorem sls_at {ks : Fo} (h : SlsC ks) (hl : ks.len ≤ 1000) (hs : shortF ks) {W0 : World} {p : Option Addr} {n cap : Nat} (hE : REt W0 (Lt W0.heap.size) ks p n cap) (W : World) (hb : Below W0.heap.size W0 W) :
    Calls Try.prog 34 #[.slice p n cap] W (SlsPost ks W) :=
  h hl hs W p n cap ((hE.below hb (Nat.le_refl _)).mono hb.size)

theorem shS_call {W w w' : World} {g : Nat} {x y : Option Value} (hg : g < W.heap.size) (h : w.cell? ⟨g, 0, none⟩ = x ∧ w.cell? ⟨g, 1, none⟩ = y ∧ Hid (Below W.heap.size W w) ∧ Hid (Own w W.heap.size 3)) (hb : Below w.heap.size w w') :
    w'.cell? ⟨g, 0, none⟩ = x ∧ w'.cell? ⟨g, 1, none⟩ = y ∧ Hid (Below W.heap.size W w') ∧ Hid (Own w' W.heap.size 3) := by
  obtain ⟨h0, h1, h2, h3⟩ := h
  have hs := h2.out.size
  exact ⟨by rw [cell_blk (hb.block g (by omega))]; exact h0, by rw [cell_blk (hb.block g (by omega))]; exact h1, h2.out.trans (hb.mono hs), h3.out.below hb⟩

theorem shS_sets {W w : World} {g : Nat} {x y : Option Value} {u0 u1 u2 : Value} (hg : g < W.heap.size) (h : w.cell? ⟨g, 0, none⟩ = x ∧ w.cell? ⟨g, 1, none⟩ = y ∧ Hid (Below W.heap.size W w) ∧ Hid (Own w W.heap.size 3)) :
    (((w.setCell ⟨W.heap.size, 0, none⟩ u0).setCell ⟨W.heap.size, 1, none⟩ u1).setCell ⟨W.heap.size, 2, none⟩ u2).cell? ⟨g, 0, none⟩ = x ∧ (((w.setCell ⟨W.heap.size, 0, none⟩ u0).setCell ⟨W.heap.size, 1, none⟩ u1).setCell ⟨W.heap.size, 2, none⟩ u2).cell? ⟨g, 1, none⟩ = y ∧
    Hid (Below W.heap.size W (((w.setCell ⟨W.heap.size, 0, none⟩ u0).setCell ⟨W.heap.size, 1, none⟩ u1).setCell ⟨W.heap.size, 2, none⟩ u2)) ∧ Hid (Own (((w.setCell ⟨W.heap.size, 0, none⟩ u0).setCell ⟨W.heap.size, 1, none⟩ u1).setCell ⟨W.heap.size, 2, none⟩ u2) W.heap.size 3) := by
  obtain ⟨h0, h1, h2, h3⟩ := h
  refine ⟨?_, ?_, ((h2.out.setCell (Nat.le_refl _) _).setCell (Nat.le_refl _) _).setCell (Nat.le_refl _) _, ((h3.out.set _ _).set _ _).set _ _⟩
  · rw [cell_set_other (.inl (by omega)), cell_set_other (.inl (by omega)), cell_set_other (.inl (by omega))]; exact h0
  · rw [cell_set_other (.inl (by omega)), cell_set_other (.inl (by omega)), cell_set_other (.inl (by omega))]; exact h1
theorem own3 {w : World} {K : Nat} (h : Own w K 3) : ∃ x0 x1 x2, w.cell? ⟨K, 0, none⟩ = some x0 ∧ w.cell? ⟨K, 1, none⟩ = some x1 ∧ w.cell? ⟨K, 2, none⟩ = some x2 ∧ w.frozen? ⟨K, 0, none⟩ = false ∧ w.frozen? ⟨K, 1, none⟩ = false ∧ w.frozen? ⟨K, 2, none⟩ = false := by
  obtain ⟨x0, h0⟩ := h.cell 0 (by omega)
  obtain ⟨x1, h1⟩ := h.cell 1 (by omega)
  obtain ⟨x2, h2⟩ := h.cell 2 (by omega)
  exact ⟨x0, x1, x2, h0, h1, h2, h.frz 0, h.frz 1, h.frz 2⟩

set_option maxRecDepth 100000 in
theorem shp_group (o : ByteArray) (ks : Fo) (h : SlsC ks) (hl : ks.len ≤ 1000) (hs : shortF ks) (W : World) (g : Nat) (p : Option Addr) (cap : Nat) (hg : g < W.heap.size)
    (h0 : W.cell? ⟨g, 0, none⟩ = some (.string o)) (h1 : W.cell? ⟨g, 1, none⟩ = some (.slice p ks.len cap)) (hE : REt W (Lt W.heap.size) ks p ks.len cap) :
    Calls Try.prog 31 #[.iface 63 (.pointer (some ⟨g, 0, none⟩))] W (ShpPost 0 o ks W) := by
  have t1 := Try.ta6340
  have t2 := Try.ta6363
  have HC := Lib.hid (sls_at h hl hs hE)
  clear h hE hs
  go_enter Try.func31, Try.ntmps31
  go_wp2_with fail
  have c0 : (W.alloc (.cells #[.int .i64 0, .string ⟨#[]⟩, .slice none 0 0] 24)).cell? ⟨g, 0, none⟩ = some (.string o) := by rw [cell_al _ hg]; exact h0
  have c1 : (W.alloc (.cells #[.int .i64 0, .string ⟨#[]⟩, .slice none 0 0] 24)).cell? ⟨g, 1, none⟩ = some (.slice p ks.len cap) := by rw [cell_al _ hg]; exact h1
  have c2 : Hid (Below W.heap.size W (W.alloc (.cells #[.int .i64 0, .string ⟨#[]⟩, .slice none 0 0] 24))) := below_al _ _
  have c3 : Hid (Own (W.alloc (.cells #[.int .i64 0, .string ⟨#[]⟩, .slice none 0 0] 24)) W.heap.size 3) := ⟨_, _, heap_alloc_new W _, by simp⟩
  generalize W.alloc (.cells #[.int .i64 0, .string ⟨#[]⟩, .slice none 0 0] 24) = w1 at *
  clear t1 t2 h0 h1
  have hgN : ¬ g = W.heap.size := by omega
  go_region_held3 (fun w' => w'.cell? ⟨g, 0, none⟩ = some (.string o) ∧ w'.cell? ⟨g, 1, none⟩ = some (.slice p ks.len cap) ∧ Hid (Below W.heap.size W w') ∧ Hid (Own w' W.heap.size 3))
    (first
      | exact ⟨c0, c1, Below.drew c2, c3⟩
      | exact shS_call hg (by assumption) hb'
      | exact shS_sets hg (by assumption))
    (first | (go_at_call 34; refine (HC.out _ (Below.drew c2)).mono ?_; rintro e w' ⟨hb', p', cap', rfl, kq⟩; have KQ := Lib.hid kq; clear kq; obtain ⟨x0, x1, x2, f0, f1, f2, z0, z1, z2⟩ := own3 (shS_call (w := w1.drew) hg ⟨c0, c1, Below.drew c2, c3⟩ hb').2.2.2))
  go_wp2_with fail
  refine bodyPost_ret (v := .agg #[.int .i64 0, .string o, .slice p' ks.len cap']) (by simp [results, Try.results31, go_sem, f0, f1, f2]) rfl ?_
  have hw1 : W.heap.size < w1.heap.size := c3.out.lt
  have hbel : Below W.heap.size W _ := ‹_ ∧ _ ∧ Hid (Below W.heap.size W _) ∧ _›.2.2.1.out
  refine ⟨hbel, p', ks.len, cap', rfl, KQ.out.agr (fun b hb => ?_) (fun b hb => ⟨?_, ?_⟩)⟩
  · have hb1 : w1.heap.size ≤ b := hb.1
    rw [heap_set_other (by omega), heap_set_other (by omega), heap_set_other (by omega)]
  · have hb1 : w1.heap.size ≤ b := hb.1
    omega
  · rw [size_set, size_set, size_set]; exact hb.2

theorem shp_tree (c : Int) (o : ByteArray) (ks : Fo) (h : SlsC ks) : ShpC c o ks := by
  intro hs W v hv
  have nilOf : ∀ {k : Fo}, k.len = 0 → k = .nil := fun {k} hk => by cases k with | nil => rfl | cons _ _ _ _ => simp [Fo.len] at hk
  rcases hv with ⟨h1, h2, h3, rfl⟩ | ⟨rfl, g, rfl, h2, h3, p, cap, h4, h5, h6, b, o', h7, h8⟩ | ⟨rfl, h2, h3, hv⟩
  · obtain rfl := str_empty h2
    obtain rfl := nilOf h3
    exact shp_code c W
  · refine shp_group o ks h hs.1 hs.2.1 W g p cap h2 h3 h4 ⟨rfl, h5, h6, b, o', fun hp => (h7 hp).1, fun hp => (h7 hp).2, h8⟩
  · obtain rfl := str_empty h2
    obtain rfl := nilOf h3
    subst hv
    exact shp_nil W

/-- One more shape in a row of the call's own: three cells. -/
theorem step_shp {wr w' : World} {K n k : Nat} {P : Fo} {c : Int} {op : ByteArray} {ks : Fo} {p : Option Addr} {cap : Nat}
    (hO : Own wr K (n * 3)) (hP : FRow wr (Btw (K + 1) wr.heap.size) P K 0) (hk : P.len = k) (hkn : k < n)
    (hb : Below wr.heap.size wr w') (hE : KAt w' (Btw wr.heap.size w'.heap.size) ks p ks.len cap) :
    Below K wr (((w'.setCell ⟨K, k * 3, none⟩ (.int .i64 c)).setCell ⟨K, k * 3 + 1, none⟩ (.string op)).setCell ⟨K, k * 3 + 2, none⟩ (.slice p ks.len cap)) ∧
      Own (((w'.setCell ⟨K, k * 3, none⟩ (.int .i64 c)).setCell ⟨K, k * 3 + 1, none⟩ (.string op)).setCell ⟨K, k * 3 + 2, none⟩ (.slice p ks.len cap)) K (n * 3) ∧
      FRow (((w'.setCell ⟨K, k * 3, none⟩ (.int .i64 c)).setCell ⟨K, k * 3 + 1, none⟩ (.string op)).setCell ⟨K, k * 3 + 2, none⟩ (.slice p ks.len cap))
        (Btw (K + 1) (((w'.setCell ⟨K, k * 3, none⟩ (.int .i64 c)).setCell ⟨K, k * 3 + 1, none⟩ (.string op)).setCell ⟨K, k * 3 + 2, none⟩ (.slice p ks.len cap)).heap.size) (P.app (.cons c op ks .nil)) K 0 := by
  have hKs := hO.lt
  have hO2 : Own w' K (n * 3) := hO.below hb
  have hsz := hb.size
  refine ⟨(((hb.mono (B' := K) (by omega)).setCell (p := ⟨K, k * 3, none⟩) (Nat.le_refl _) _).setCell (p := ⟨K, k * 3 + 1, none⟩) (Nat.le_refl _) _).setCell (p := ⟨K, k * 3 + 2, none⟩) (Nat.le_refl _) _, ((hO2.set _ _).set _ _).set _ _, ?_⟩
  rw [size_set, size_set, size_set]
  refine FRow.snoc P 0 (FRow.agr (S := Btw (K + 1) wr.heap.size) (W := wr) ?_ ?_ P K 0 ?_ hP) ?_
  · intro b hB
    have := hB.1
    rw [heap_set_other (by omega), heap_set_other (by omega), heap_set_other (by omega)]; exact hb.block b hB.2
  · intro b hB; exact ⟨hB.1, by have := hB.2; omega⟩
  · intro i hi
    rw [cell_set_other (.inr (by omega)), cell_set_other (.inr (by omega)), cell_set_other (.inr (by omega))]; exact cell_blk (hb.block K hKs) _
  · obtain ⟨e1, e2, e3, b', o', e4, e5, e6⟩ := hE
    refine ⟨?_, ?_, ⟨p, cap, ?_, e2, e3, b', o', fun hp => ⟨e4 hp, ?_⟩, ?_⟩, trivial⟩
    · rw [Nat.zero_add, hk, cell_set_other (.inr (by omega)), cell_set_other (.inr (by omega))]; exact cell_set_same hO2 (by omega)
    · rw [Nat.zero_add, hk, cell_set_other (.inr (by omega))]; exact cell_set_same (hO2.set _ _) (by omega)
    · rw [Nat.zero_add, hk]; exact cell_set_same ((hO2.set _ _).set _ _) (by omega)
    · have := e5 (by omega); exact ⟨by have := this.1; omega, this.2⟩
    · refine FRow.agr (W := w') (S := Btw wr.heap.size w'.heap.size) ?_ ?_ ks b' o' ?_ e6
      · intro b hB
        have := hB.1
        rw [heap_set_other (by omega), heap_set_other (by omega), heap_set_other (by omega)]
      · intro b hB; exact ⟨by have := hB.1; omega, hB.2⟩
      · intro i hi
        have := (e5 (by omega)).1
        rw [cell_set_other (.inl (by omega)), cell_set_other (.inl (by omega)), cell_set_other (.inl (by omega))]

theorem Try.info27 : (Try.prog.info? 24).map (fun i => (i.zero, i.size, i.bytes)) = some (some (.agg #[.int .i64 0, .string ⟨#[]⟩, .slice none 0 0]), 3, 48) := by kernel_rfl
set_option maxRecDepth 100000 in
theorem sls_nil (W : World) (p : Option Addr) (cap : Nat) : Calls Try.prog 34 #[.slice p 0 cap] W (SlsPost .nil W) := by
  obtain ⟨i0, hi, hz0, hz1, hz2⟩ := info_parts Try.info27
  go_enter Try.func34, Try.ntmps34
  go_wp2_with (at_make; refine wpList_make_full _ rfl _ _ 22 rfl W.heap.size 24 i0 (.agg #[.int .i64 0, .string ⟨#[]⟩, .slice none 0 0]) 3 Try.underlying22 hi hz0 hz1 .i64 .i64 _ _ 0 rfl rfl rfl rfl (by rw [hz2]; omega) (by unfold maxLen; omega) (by simp) ?_; go_loud (intro w0 hown0 hgrow0; have HB := Lib.hid (below_grown hgrow0); clear hown0 hgrow0))
  go_loopw [11] (fun i wr => i = .int .i64 0 ∧ wr = w0) (fun _ _ => 0)
  case atStart => exact ⟨rfl, rfl⟩
  case round =>
    obtain ⟨rfl, rfl⟩ := hrel
    go_wp2_with fail
    go_ret
    exact ⟨HB.out, _, 0, rfl, KAt.nil _ _ _ _⟩

set_option maxRecDepth 100000 in
theorem sls_some (ks : Fo) (hks : Hid (ks.All ShpC)) (hsh : Hid (shortF ks)) (W : World) (b off n cap : Nat) (hn : Hid (n = ks.len)) (hn0 : 0 < n) (hn1 : n ≤ 1000) (hncap : n ≤ cap) (hE : Hid (EAt W (Lt W.heap.size) ks b off)) :
    Calls Try.prog 34 #[.slice (some ⟨b, off, none⟩) n cap] W (SlsPost ks W) := by
  obtain ⟨i0, hi, hz0, hz1, hz2⟩ := info_parts Try.info27
  go_enter Try.func34, Try.ntmps34
  go_wp2_with (at_make; refine wpList_make_full _ rfl _ _ 22 rfl W.heap.size 24 i0 (.agg #[.int .i64 0, .string ⟨#[]⟩, .slice none 0 0]) 3 Try.underlying22 hi hz0 hz1 .i64 .i64 _ _ n rfl rfl rfl rfl (by rw [hz2]; omega) (by unfold maxLen; omega) (by simp) ?_; go_loud (intro w0 hown0 hgrow0; have HB := Lib.hid (below_grown hgrow0); have HO := Lib.hid (Own.of_row hown0); have hs0 := (Own.of_row hown0).lt; clear hown0 hgrow0))
  go_loopw [11] (fun i wr => ∃ (P R : Fo) (k : Nat), Hid (ks = P.app R ∧ P.len = k ∧ k + R.len = n) ∧ k ≤ n ∧ i = .int .i64 k ∧ Hid (Below W.heap.size W wr) ∧ Hid (Own wr W.heap.size (n * 3)) ∧ Hid (FRow wr (Btw (W.heap.size + 1) wr.heap.size) P W.heap.size 0) ∧ Hid (R.All ShpC) ∧ Hid (shortF R) ∧ Hid (EAt wr (Lt W.heap.size) R b (off + k)) ∧ W.heap.size < wr.heap.size) (fun i _ => n - (intOf i).toNat)
  case atStart =>
    refine ⟨.nil, ks, 0, ⟨rfl, rfl, ?_⟩, by omega, rfl, HB, HO, trivial, hks, hsh, ?_, hs0⟩
    · have := hn.out; omega
    · exact hE.out.agr (fun x hx => HB.out.block x hx) (fun _ h => h)
  case round =>
    obtain ⟨P, R, k, hk1, hkn, rfl, hb, hO', hP, hAll, hl', hFA, hL1⟩ := hrel
    clear HB HO hs0
    cases R with
    | nil =>
      obtain rfl : k = n := by have := hk1.out.2.2; simp only [Fo.len] at this; omega
      go_wp2_with fail
      go_ret
      have hPo := hP.out
      obtain ⟨hk2, hk3, hk4⟩ := hk1.out
      rw [Fo.app_nil] at hk2
      subst hk2
      rw [← hk3]
      exact ⟨hb.out, _, _, rfl, rfl, Nat.le_refl _, by omega, _, _, fun _ => rfl, fun _ => ⟨Nat.le_refl _, hL1⟩, FRow.agr (fun _ _ => rfl) (fun x hx => ⟨by have := hx.1; omega, hx.2⟩) _ _ _ (fun _ _ => rfl) hPo⟩
    | cons c' o' ks' R' =>
      have hlt : k < n := by have := hk1.out.2.2; simp only [Fo.len] at this; omega
      obtain ⟨hbL, ⟨v, q1, q2⟩, q5⟩ := EAt.head hFA.out
      have Q5 := Lib.hid q5
      have HC := Lib.hid (hAll.out.1 ⟨hl'.out.1, hl'.out.2.1, trivial⟩ wr v (q2.agr (fun _ _ => rfl) (fun x hx => Nat.lt_trans hx hL1)))
      clear q2 q5
      go_wp2_with fail
      refine HC.out.mono ?_
      rintro e w' ⟨hb', p', n', cap', rfl, hE'⟩
      obtain rfl : n' = ks'.len := hE'.1
      obtain ⟨s1, s2, s3⟩ := step_shp (c := c') (op := o') hO'.out hP.out hk1.out.2.1 hlt hb' hE'
      have S1 := Lib.hid s1
      have S2 := Lib.hid s2
      have S3 := Lib.hid s3
      have hO2 : Own w' W.heap.size (n * 3) := hO'.out.below hb'
      obtain ⟨x0, f0⟩ := hO2.cell (k * 3) (by omega)
      obtain ⟨x1, f1⟩ := hO2.cell (k * 3 + 1) (by omega)
      obtain ⟨x2, f2⟩ := hO2.cell (k * 3 + 2) (by omega)
      have z0 := hO2.frz (k * 3)
      have z1 := hO2.frz (k * 3 + 1)
      have z2 := hO2.frz (k * 3 + 2)
      have hs2 : W.heap.size < w'.heap.size := by have := hb'.size; omega
      clear hO2 hb' hE' s1 s2 s3
      go_wp2_with fail
      go_roundw
      case rel =>
        refine ⟨P.app (.cons c' o' ks' .nil), R', k + 1, ⟨?_, ?_, ?_⟩, by omega, by go_num, ?_, S2.out, S3.out, hAll.out.2, hl'.out.2.2, ?_, ?_⟩
        · rw [← Fo.app_cons]; exact hk1.out.1
        · rw [Fo.len_app]; simp only [Fo.len]; have := hk1.out.2.1; omega
        · have := hk1.out.2.2; simp only [Fo.len] at this; omega
        · exact hb.out.trans S1.out
        · have h5 : EAt wr (Lt W.heap.size) R' b (off + (k + 1)) := by have := Q5.out; rw [show off + (k + 1) = off + k + 1 by omega]; exact this
          exact h5.agr (fun x hx => S1.out.block x hx) (fun _ h => h)
        · rw [size_set, size_set, size_set]; exact hs2
      case measure => simp [intOf]; omega

theorem sls_of (ks : Fo) (h : ks.All ShpC) : SlsC ks := by
  intro h1 h2 W p n cap ⟨e1, e2, e3, b, o, e4, e5⟩
  cases ks with
  | nil => obtain rfl : n = 0 := e1; exact sls_nil W p cap
  | cons c op k r =>
    have hn : 0 < n := by rw [e1]; simp [Fo.len]
    obtain rfl := e4 hn
    exact sls_some _ h h2 W b o n cap e1 hn (by omega) e2 e5
theorem shp_all : ∀ F : Fo, F.All ShpC
  | .nil => trivial
  | .cons c o ks r => ⟨shp_tree c o ks (sls_of ks (shp_all ks)), shp_all r⟩
theorem sls_any (ks : Fo) : SlsC ks := sls_of ks (shp_all ks)
theorem shp_any (c : Int) (o : ByteArray) (ks : Fo) : ShpC c o ks := shp_tree c o ks (sls_any ks)
#print axioms shp_any
end Go.Proofs.Ytbefcakakoaieaa
