/- strconv.Itoa of a number from 100 on, whatever stands in the table that it reads: a plain function of both. Condition: the table's cells are numbers. -/
import Derived.Test.YtbefcakakoaieaaFmt
import Derived.Test.YtbefcakakoaieaaTxt
import Derived.Lib.ItoaMem
import Derived.Lib.ItoaNum
namespace Go.Proofs.Ytbefcakakoaieaa
open Go.RowKit Go.Sort Go.Lib
set_option linter.unusedVariables false
set_option maxRecDepth 100000

/-- The table reads as T. -/
def TabT (T : Nat → Nat) (W : World) : Prop := 0 < W.heap.size ∧ ∀ i, i < 20 → W.cell? ⟨0, i, none⟩ = some (.int .u64 (T i : Int)) ∧ T i < 18446744073709551616
theorem TabT.below {T : Nat → Nat} {W W' : World} (h : TabT T W) (hb : Below W.heap.size W W') : TabT T W' :=
  ⟨by have := hb.size; have := h.1; omega, fun i hi => ⟨(cell_blk (hb.block 0 h.1) _).trans (h.2 i hi).1, (h.2 i hi).2⟩⟩
/-- How many places are taken for u. -/
def numT (T : Nat → Nat) (u : Nat) : Nat := Lib.l10 (Lib.bitLen u) + if T (Lib.l10 (Lib.bitLen u)) ≤ u then 1 else 0
/-- What strconv.Itoa says. -/
def itoT (T : Nat → Nat) (c : Int) : List UInt8 := if c < 100 then Lib.itoa c else (fmtF (numT T c.toNat) c.toNat (Array.replicate (numT T c.toNat) 0)).toList
theorem fmtT_size : ∀ (n v : Nat) (d : Array UInt8), (fmtT n v d).size = d.size
  | 0, _, _ => rfl
  | 1, _, d => by simp [fmtT]
  | n + 2, v, d => by
    show (fmtT n (v / 100) (put2 d n v)).size = _
    rw [fmtT_size n, put2_size]
theorem fmtF_size (n : Nat) : ∀ (v : Nat) (d : Array UInt8), (fmtF n v d).size = d.size := by
  induction n using Nat.strongRecOn with
  | ind n ih =>
    intro v d
    by_cases h : 8 ≤ n
    · obtain ⟨m, rfl⟩ : ∃ m, n = m + 8 := ⟨n - 8, by omega⟩
      show (fmtF m _ _).size = _
      rw [ih m (by omega)]
      simp only [put2_size]
    · have : fmtF n v d = fmtT n v d := by
        have h8 : n = 0 ∨ n = 1 ∨ n = 2 ∨ n = 3 ∨ n = 4 ∨ n = 5 ∨ n = 6 ∨ n = 7 := by omega
        rcases h8 with rfl | rfl | rfl | rfl | rfl | rfl | rfl | rfl <;> rfl
      rw [this, fmtT_size]

theorem num_any (T : Nat → Nat) (u : Nat) (h1 : 1 ≤ u) (h2 : u < 18446744073709551616) (w : World) (ht : TabT T w) : Calls Try.prog 58 #[.int .u64 u] w fun e w' => e = .returned (.int .i64 (numT T u : Nat)) ∧ w' = w := by
  obtain ⟨hnd, h19⟩ := Lib.numDigits_eq u h1 h2
  have hL : Lib.bitLen u ≤ 64 := Lib.bitLen_le u 64 (Nat.le_refl _) h2
  have hto : ((u : Int)).toNat = u := by omega
  have hnum : numT T u = Lib.l10 (Lib.bitLen u) + if T (Lib.l10 (Lib.bitLen u)) ≤ u then 1 else 0 := rfl
  obtain ⟨hcell, hT⟩ := ht.2 (Lib.l10 (Lib.bitLen u)) (by omega)
  generalize hq : Lib.l10 (Lib.bitLen u) = q at hnd h19 hcell hnum hT
  generalize hTT : T q = t at hnum hcell hT
  have h20 : q < 20 := by omega
  clear hnd ht
  by_cases hle : t ≤ u
  · rw [if_pos hle] at hnum
    have HN := Lib.hid hnum
    clear hnum
    go_enter Try.func58, Try.ntmps58
    go_wp2_with (first
      | (go_at_call 62; refine (Try.bits_Len64 _ _ (by omega) (by omega)).mono ?_; rintro e w' ⟨rfl, rfl⟩)
      | (go_at_call 61; refine (Try.internal_strconv_log10Pow2 _ (by first | exact hL | (rw [hto]; exact hL)) _).mono ?_; rintro e w' ⟨rfl, rfl⟩)
      | (go_at_call 63; refine (Try.internal_strconv_bool2_int _ _).mono ?_; rintro e w' ⟨rfl, rfl⟩))
    go_ret
    refine ⟨?_, rfl⟩
    rw [HN.out]
    try rfl
  · rw [if_neg hle] at hnum
    have HN := Lib.hid hnum
    clear hnum
    go_enter Try.func58, Try.ntmps58
    go_wp2_with (first
      | (go_at_call 62; refine (Try.bits_Len64 _ _ (by omega) (by omega)).mono ?_; rintro e w' ⟨rfl, rfl⟩)
      | (go_at_call 61; refine (Try.internal_strconv_log10Pow2 _ (by first | exact hL | (rw [hto]; exact hL)) _).mono ?_; rintro e w' ⟨rfl, rfl⟩)
      | (go_at_call 63; refine (Try.internal_strconv_bool2_int _ _).mono ?_; rintro e w' ⟨rfl, rfl⟩))
    go_ret
    refine ⟨?_, rfl⟩
    rw [HN.out]
    try rfl

theorem below_grow (W : World) (k : Nat) (os : Array Obj) : Below W.heap.size W (grow (W.drewN k) os) := by
  refine ⟨rfl, rfl, rfl, ?_, fun i hi => ?_⟩
  · simp [grow]
  · simp only [grow]
    rw [Array.getElem?_append_left (by simpa using hi)]; rfl
theorem numT_facts (T : Nat → Nat) (u : Nat) (h1 : 1 ≤ u) (h2 : u < 18446744073709551616) : numT T u ≤ 20 ∧ u < 10 ^ (numT T u + 1) := by
  obtain ⟨hnd, h19⟩ := Lib.numDigits_eq u h1 h2
  have hp := Lib.lt_pow_nDigits u
  have hle : Lib.nDigits u ≤ numT T u + 1 := by
    unfold numT
    split at hnd <;> omega
  refine ⟨?_, Nat.lt_of_lt_of_le hp (Nat.pow_le_pow_right (by omega) hle)⟩
  unfold numT
  split <;> omega

set_option maxHeartbeats 6400000 in
theorem form_any (T : Nat → Nat) (u : Nat) (h0 : 100 ≤ u) (h1 : u ≤ 9223372036854775807) (w : World) (ht : TabT T w) :
    Calls Try.prog 56 #[.int .i64 u, .int .i64 10] w (StrPost (fmtF (numT T u) u (Array.replicate (numT T u) 0)).toList w) := by
  obtain ⟨hn20, hu⟩ := numT_facts T u (by omega) (by omega)
  have hsz := fmtF_size (numT T u) u (Array.replicate (numT T u) 0)
  rw [Array.size_replicate] at hsz
  have HT := Lib.hid ht
  have HN := Lib.hid (num_any T u (by omega) (by omega) (w.alloc (.cells Lib.zeros24 97)) (ht.below (below_al _ _)))
  clear ht
  generalize hm : numT T u = m at *
  have hb3 : m ≤ 23 := by omega
  have hal : Try.prog.arrayLen 97 = 24 := by simp [Program.arrayLen, Try.underlying97]
  have hsl1 : ∀ W, (Instr.sliceAt 97 (.pointer (some ⟨w.heap.size, 0, none⟩)) (some (.int .i64 1)) (some (.int .i64 (1 + (m : Int)))) none).run Try.prog W = .ok (.slice (some ⟨w.heap.size, 1, none⟩) m 23) W := fun W => by
    rw [run_sliceAt_array_lh W 97 ⟨w.heap.size, 0, none⟩ (by simp [Program.arrayLen, Program.elem, Try.underlying97]) .i64 .i64 1 (1 + (m : Int)) (by omega) (by omega) (by rw [hal]; omega)]
    go_simp
    omega
  have hH0 := Lib.holds_zero w 97 m (by omega)
  have hfmt := fmt_any w.heap.size 1 23 u (Array.replicate m 0) (w.alloc (.cells Lib.zeros24 97)) hH0 (by rw [Array.size_replicate]; exact hu) (by omega) (by rw [Array.size_replicate]; omega)
  rw [Array.size_replicate] at hfmt
  generalize hdk : fmtF m u (Array.replicate m 0) = dk at *
  have HH0 := Lib.hid hH0
  have HF := Lib.hid hfmt
  clear hH0 hal hm hdk hu hfmt
  go_enter Try.func56, Try.ntmps56
  go_wp2_with (first
    | (go_at_call 58; refine HN.out.mono ?_; rintro e w' ⟨rfl, rfl⟩))
  go_at_call 59
  refine HF.out.mono ?_
  rintro e w' ⟨rfl, k, rfl⟩
  have hcv : (convert 61 9 (.slice (some ⟨w.heap.size, 1, none⟩) m 23)).run Try.prog ((putRow bC (w.alloc (.cells Lib.zeros24 97)) w.heap.size 1 dk).drewN k) = .ok (.string ⟨dk.toList.toArray⟩) ((putRow bC (w.alloc (.cells Lib.zeros24 97)) w.heap.size 1 dk).drewN k) := by
    have h := run_convert_bytes_back (P := Try.prog) ((putRow bC (w.alloc (.cells Lib.zeros24 97)) w.heap.size 1 dk).drewN k) 61 9 5 ⟨w.heap.size, 1, none⟩ 23 dk.toList Try.underlying61 Try.underlying5 Try.underlying9 (fun j hj => by
      have hj2 : j < dk.size := by simpa using hj
      rw [Lib.add_plain, World.cell?_drewN]
      have h9 := cell?_putRow bC (w.alloc (.cells Lib.zeros24 97)) w.heap.size 1 _ dk HH0.out (by rw [hsz, Array.size_replicate]) j hj2
      rw [h9]
      simp [bC, hj2])
    rw [show dk.toList.length = m by simpa using hsz] at h
    exact h
  go_wp2
  go_ret
  obtain ⟨os, eo⟩ := Lib.fin_pos w (.cells Lib.zeros24 97) dk k
  refine ⟨rfl, ?_⟩
  have e2 : (putRow bC (w.alloc (.cells Lib.zeros24 97)) w.heap.size 1 dk).drewN k = grow (w.drewN k) os := eo
  rw [e2]
  exact below_grow _ _ _

theorem itoa_in (T : Nat → Nat) (u : Nat) (h0 : 100 ≤ u) (h1 : u ≤ 9223372036854775807) (w : World) (ht : TabT T w) : Calls Try.prog 54 #[.int .i64 u] w (StrPost (itoT T u) w) := by
  have he : itoT T u = (fmtF (numT T u) u (Array.replicate (numT T u) 0)).toList := by
    unfold itoT
    rw [if_neg (by omega)]
    rfl
  rw [he]
  have HF := Lib.hid (form_any T u h0 h1 w ht)
  clear ht he
  generalize (fmtF (numT T u) u (Array.replicate (numT T u) 0)).toList = l at *
  have H2 : Hid (Calls Try.prog 55 #[.int .i64 u] w (StrPost l w)) := by
    show Calls _ _ _ _ _
    go_enter Try.func55, Try.ntmps55
    go_wp2_with fail
    refine HF.out.mono ?_
    rintro e w' ⟨rfl, hb⟩
    have HB := Lib.hid hb
    clear hb
    go_wp2_with fail
    go_ret
    exact ⟨rfl, HB.out⟩
  go_enter Try.func54, Try.ntmps54
  go_wp2_with fail
  refine H2.out.mono ?_
  rintro e w' ⟨rfl, hb⟩
  have HB := Lib.hid hb
  clear hb
  go_wp2_with fail
  go_ret
  exact ⟨rfl, HB.out⟩
/-- Whatever stands in the table: a code can be told. -/
theorem ItOk.tab (T : Nat → Nat) (W : World) (ht : TabT T W) (c : Int) (h0 : 0 ≤ c) (h1 : c ≤ 9223372036854775807) : ItOk (itoT T) W c := by
  obtain ⟨u, rfl⟩ := Int.eq_ofNat_of_zero_le h0
  by_cases h : 100 ≤ u
  · refine ⟨?_, fun w hb => itoa_in T u h (by omega) w (ht.below hb)⟩
    unfold itoT
    rw [if_neg (by omega)]
    have := (numT_facts T u (by omega) (by omega)).1
    rw [Array.length_toList, fmtF_size, Array.size_replicate]
    show numT T u ≤ 24
    omega
  · have hs := ItOk.small W u (by omega) (by omega)
    have he : itoT T (u : Int) = Lib.itoa u := if_pos (by omega)
    refine ⟨by rw [he]; exact hs.1, fun w hb => by rw [he]; exact hs.2 w hb⟩
#print axioms ItOk.tab
end Go.Proofs.Ytbefcakakoaieaa
