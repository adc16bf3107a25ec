/- build and Make make an error of a shape. Conditions: the shape lies in memory; Make's may be, or not. -/
import Derived.Test.YtbefcakakoaieaaFit
import Derived.Test.YtbefcakakoaieaaOwn
import Derived.OwnWalk
namespace Go.Proofs.Ytbefcakakoaieaa
open Go.RowKit

def BldPost (c : Int) (o : ByteArray) (ks : Fo) (W : World) (e : Ending) (w : World) : Prop :=
  Below W.heap.size W w ∧ ∃ v, e = .returned v ∧ EIs w (Btw W.heap.size w.heap.size) c o ks v

def BldC (c : Int) (o : ByteArray) (ks : Fo) : Prop :=
  okF (.cons c o ks .nil) → shortF (.cons c o ks .nil) → ∀ (W : World) (p : Option Addr) (n cap : Nat), KAt W (Lt W.heap.size) ks p n cap →
    Calls Try.prog 30 #[.agg #[.int .i64 c, .string o, .slice p n cap]] W (BldPost c o ks W)

theorem bld_code (c : Int) (o : ByteArray) (ks : Fo) (W : World) (p : Option Addr) (n cap : Nat) (hc : 0 < c) (ho : o.size = 0) (hn : ks.len = 0) :
    Calls Try.prog 30 #[.agg #[.int .i64 c, .string o, .slice p n cap]] W (BldPost c o ks W) := by
  go_enter Try.func30, Try.ntmps30
  go_wp2_with fail
  go_ret
  exact ⟨(Below.refl _ _).alloc (Nat.le_refl _) _, _, rfl, .inl ⟨hc, ho, hn, rfl⟩⟩

theorem Try.info29 : (Try.prog.info? 29).map (fun i => (i.zero, i.size, i.bytes)) = some (some .nilIface, 1, 16) := by kernel_rfl

set_option maxRecDepth 100000 in
theorem bld_group (o : ByteArray) (ks : Fo) (hks : Hid (ks.All BldC)) (hok : Hid (okF ks)) (W : World) (p : Option Addr) (n cap : Nat) (hk : Hid (KAt W (Lt W.heap.size) ks p n cap)) (hn : 0 < n) (hn2 : n ≤ 1000) (hlens : Hid (shortF ks)) :
    Calls Try.prog 30 #[.agg #[.int .i64 0, .string o, .slice p n cap]] W (BldPost 0 o ks W) := by
  obtain ⟨b, off, rfl, hF⟩ : ∃ b off, p = some ⟨b, off, none⟩ ∧ Hid (n = ks.len ∧ n ≤ cap ∧ FAt W (Lt W.heap.size) ks b off) := by
    obtain ⟨e1, e2, e3, b, off, e4, e5⟩ := hk.out
    exact ⟨b, off, e4 hn, e1, e2, e5⟩
  have hncap : n ≤ cap := hF.out.2.1
  obtain ⟨i0, hi, hz0, hz1, hz2⟩ := info_parts Try.info29
  go_enter Try.func30, Try.ntmps30
  go_wp2_with (at_make; refine wpList_make_full _ rfl _ _ 45 rfl (W.heap.size + 1) 29 i0 .nilIface 1 Try.underlying45 hi hz0 hz1 .i64 .i64 _ _ n rfl rfl rfl rfl (by rw [hz2]; omega) (by unfold maxLen; omega) (by simp) ?_
               intro w0 hown0 hgrow0
               have hO0 := Own.of_row hown0
               have hB0 := below_grown hgrow0
               simp only [Nat.mul_one] at hO0
               have hO : Hid (Own w0 (W.heap.size + 1) n) := by show Own _ _ _; simpa using hO0
               have hB : Hid (Below W.heap.size W w0) := ((Below.refl W.heap.size W).alloc (Nat.le_refl _) _).trans (hB0.mono (by simp))
               have hs0 : W.heap.size + 1 < w0.heap.size := by have := hO0.lt; simpa using this
               have hc0 : w0.cell? ⟨W.heap.size, 1, none⟩ = some (.string o) := by rw [cell_blk (hB0.block W.heap.size (by simp)) 1]; simp
               have hc1 : w0.cell? ⟨W.heap.size, 2, none⟩ = some (.slice (some ⟨b, off, none⟩) n cap) := by rw [cell_blk (hB0.block W.heap.size (by simp)) 2]; simp
               clear hown0 hgrow0 hO0 hB0)
  go_loopw [20] (fun i wr => ∃ (P R : Fo) (k : Nat), Hid (ks = P.app R ∧ P.len = k ∧ k + R.len = n) ∧ k ≤ n ∧ i = .int .i64 k ∧ Hid (Below W.heap.size W wr) ∧ Hid (Own wr (W.heap.size + 1) n) ∧ wr.cell? ⟨W.heap.size, 1, none⟩ = some (.string o) ∧ Hid (ERow wr (Btw (W.heap.size + 2) wr.heap.size) P (W.heap.size + 1) 0) ∧ Hid (R.All BldC) ∧ Hid (okF R) ∧ Hid (shortF R) ∧ Hid (FAt wr (Lt W.heap.size) R b (off + k * 3)) ∧ W.heap.size + 1 < wr.heap.size) (fun i _ => n - (intOf i).toNat)
  case atStart =>
    refine ⟨.nil, ks, 0, ⟨rfl, rfl, ?_⟩, by omega, rfl, hB, hO, hc0, trivial, hks, hok, hlens, ?_, hs0⟩
    · have := hF.out.1; omega
    · have h5 : FAt W (Lt W.heap.size) ks b (off + 0 * 3) := by have := hF.out.2.2; simpa using this
      exact FAt.below hB.out (Nat.le_refl _) _ _ _ h5
  case round =>
    obtain ⟨P, R, k, hk1, hkn, rfl, hb, hO', hc0', hP, hAll, hok', hl', hFA, hL1⟩ := hrel
    clear hc0 hc1 hs0 hO hB
    cases R with
    | nil =>
      obtain rfl : k = n := by have := hk1.out.2.2; simp only [Fo.len] at this; omega
      go_wp2_with fail
      go_ret
      have hbo := hb.out
      have hOo := hO'.out
      have hPo := hP.out
      obtain ⟨hk2, hk3, hk4⟩ := hk1.out
      rw [Fo.app_nil] at hk2
      subst hk2
      refine ⟨hbo.alloc (by have := hbo.size; omega) _, _, rfl, grp_mk (K := W.heap.size + 1) (n := k) (cap := k) ?_ ?_ ?_ ?_ ?_ (Nat.le_refl _) (by omega) ?_⟩
      · exact ⟨by omega, by simp⟩
      · exact ⟨by omega, by simp; omega⟩
      · simp
      · simp
      · omega
      · refine ERow.agr (W := wr) (S := Btw (W.heap.size + 2) wr.heap.size) (fun x hx => (below_al wr _).block x hx.2) (fun x hx => ⟨by have := hx.1; omega, by have := hx.2; simp; omega⟩) ks _ 0 (fun i hi => cell_blk ((below_al wr _).block _ hOo.lt) _) hPo
    | cons c' o' ks' R' =>
      have hlt : k < n := by have := hk1.out.2.2; simp only [Fo.len] at this; omega
      obtain ⟨hbL, q1, q2, ⟨p', cap', q3, q4⟩, q5⟩ := FAt.head hFA.out
      have Q4 := Lib.hid q4
      have Q5 := Lib.hid q5
      clear q4 q5
      have hokc : okF (.cons c' o' ks' .nil) := ⟨hok'.out.1, trivial⟩
      have hbo := hb.out
      have HC := Lib.hid (hAll.out.1 hokc ⟨hl'.out.1, hl'.out.2.1, trivial⟩ (wr.alloc (.cells #[.int .i64 c', .string o', .slice p' ks'.len cap'] 24)) p' ks'.len cap' ((Q4.out.below (below_al wr _) (by have := hbo.size; omega)).mono (by have := hbo.size; simp; omega)))
      clear hokc hbo
      go_wp2_with fail
      refine HC.out.mono ?_
      rintro e w' ⟨hb', v, rfl, hE⟩
      obtain ⟨vT, vu, rfl⟩ := hE.made ⟨hok'.out.1, trivial⟩
      obtain ⟨s1, s2, s3⟩ := step_err hO'.out hP.out hk1.out.2.1 hlt hb' hE
      have S1 := Lib.hid s1
      have S2 := Lib.hid s2
      have S3 := Lib.hid s3
      have hO2 : Own w' (W.heap.size + 1) n := (hO'.out.below (below_al wr _)).below (hb'.mono (Nat.le_refl _))
      obtain ⟨old, hold⟩ := hO2.cell k hlt
      have hfr := hO2.frz k
      have hc2 : w'.cell? ⟨W.heap.size, 1, none⟩ = some (.string o) := by
        rw [cell_blk (hb'.block W.heap.size (by simp; omega)) 1, cell_blk ((below_al wr _).block W.heap.size (by omega)) 1]; exact hc0'
      have hs2 : W.heap.size + 1 < w'.heap.size := by have := hb'.size; simp at this; omega
      clear hO2 hb' hE s1 s2 s3 hc0'
      go_wp2_with fail
      go_roundw
      case rel =>
        refine ⟨P.app (.cons c' o' ks' .nil), R', k + 1, ⟨?_, ?_, ?_⟩, by omega, by go_num, ?_, S2.out, ?_, S3.out, hAll.out.2, hok'.out.2, hl'.out.2.2, ?_, ?_⟩
        · rw [← Fo.app_cons]; exact hk1.out.1
        · rw [Fo.len_app]; simp only [Fo.len]; have := hk1.out.2.1; omega
        · have := hk1.out.2.2; simp only [Fo.len] at this; omega
        · exact hb.out.trans (S1.out.mono (by omega))
        · rw [cell_set_other (.inl (by omega))]; exact hc2
        · have h5 : FAt wr (Lt W.heap.size) R' b (off + (k + 1) * 3) := by have := Q5.out; rw [show off + (k + 1) * 3 = off + k * 3 + 3 by omega]; exact this
          exact FAt.below S1.out (by omega) _ _ _ h5
        · rw [size_set]; exact hs2
      case measure => simp [intOf]; omega
theorem bld_tree (c : Int) (o : ByteArray) (ks : Fo) (h : ks.All BldC) : BldC c o ks := by
  intro hok hsh W p n cap hk
  have hn := hk.1
  rcases hok.1 with ⟨h1, h2, h3⟩ | ⟨rfl, h2, h3, h4⟩
  · exact bld_code c o ks W p n cap h1 h2 h3
  · exact bld_group o ks h h4 W p n cap hk (by omega) (by have := hsh.1; omega) hsh.2.1
theorem bld_all : ∀ F : Fo, F.All BldC
  | .nil => trivial
  | .cons c o ks r => ⟨bld_tree c o ks (bld_all ks), bld_all r⟩

theorem make_no (c : Int) (o : ByteArray) (ks : Fo) (h : mayB c o ks = false) (W : World) (p : Option Addr) (n cap : Nat) (hk : KAt W (Lt W.heap.size) ks p n cap) :
    Calls Try.prog 20 #[.agg #[.int .i64 c, .string o, .slice p n cap]] W fun e w => e = .returned .nilIface ∧ Below W.heap.size W w := by
  have HC := Lib.hid (may_any c o ks (W.alloc (.cells #[.int .i64 c, .string o, .slice p n cap] 24)) p n cap ((hk.below (below_al W _) (Nat.le_refl _)).mono (by simp)))
  have HB := Lib.hid (below_al W (.cells #[.int .i64 c, .string o, .slice p n cap] 24))
  clear hk
  go_enter Try.func20, Try.ntmps20
  go_wp2_with fail
  refine HC.out.mono ?_
  rintro e w' ⟨rfl, hb⟩
  rw [h]
  have HB2 := Lib.hid hb
  clear hb
  go_wp2_with fail
  go_ret
  exact ⟨rfl, HB.out.trans (HB2.out.mono (by simp))⟩
theorem make_yes (c : Int) (o : ByteArray) (ks : Fo) (h : mayB c o ks = true) (W : World) (p : Option Addr) (n cap : Nat) (hk : KAt W (Lt W.heap.size) ks p n cap) :
    Calls Try.prog 20 #[.agg #[.int .i64 c, .string o, .slice p n cap]] W (BldPost c o ks W) := by
  have HC := Lib.hid (may_any c o ks (W.alloc (.cells #[.int .i64 c, .string o, .slice p n cap] 24)) p n cap ((hk.below (below_al W _) (Nat.le_refl _)).mono (by simp)))
  have HB := Lib.hid (below_al W (.cells #[.int .i64 c, .string o, .slice p n cap] 24))
  have HD := Lib.hid (bld_tree c o ks (bld_all ks) (okF_of_fits _ _ _ h) (shortF_of_fits _ _ _ (by omega) (by omega) h))
  have HK := Lib.hid hk
  clear hk
  go_enter Try.func20, Try.ntmps20
  go_wp2_with fail
  refine HC.out.mono ?_
  rintro e w' ⟨rfl, hb⟩
  rw [h]
  have hsz := hb.size
  have hb1 := HB.out.trans (hb.mono (by simp))
  have HB2 := Lib.hid hb1
  have hc : w'.cell? ⟨W.heap.size, 0, none⟩ = some (.int .i64 c) := by rw [cell_blk (hb.block W.heap.size (by simp)) 0]; simp
  have hc1 : w'.cell? ⟨W.heap.size, 1, none⟩ = some (.string o) := by rw [cell_blk (hb.block W.heap.size (by simp)) 1]; simp
  have hc2 : w'.cell? ⟨W.heap.size, 2, none⟩ = some (.slice p n cap) := by rw [cell_blk (hb.block W.heap.size (by simp)) 2]; simp
  simp only [size_al] at hsz
  clear hb hb1
  go_wp2_with fail
  refine (HD.out w' p n cap ((HK.out.below HB2.out (Nat.le_refl _)).mono (by omega))).mono ?_
  rintro e w2 ⟨hb3, v, rfl, hE⟩
  have H3 := Lib.hid hb3
  have HE := Lib.hid hE
  clear hb3 hE
  go_wp2_with fail
  go_ret
  exact ⟨HB2.out.trans (H3.out.mono (by omega)), v, rfl, HE.out.agr (fun _ _ => rfl) (fun b hb => ⟨by have := hb.1; omega, hb.2⟩)⟩
#print axioms make_yes
end Go.Proofs.Ytbefcakakoaieaa
