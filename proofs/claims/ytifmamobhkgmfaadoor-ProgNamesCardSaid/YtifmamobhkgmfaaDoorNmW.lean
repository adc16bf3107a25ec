/- The law ProgNames, walked. Condition: the table lies in its variable. -/
import Derived.Test.YtifmamobhkgmfaaDoorAwk
namespace Go.Proofs.YtifmamobhkgmfaaDoor
open Go.RowKit
set_option linter.unusedVariables false

def inB (a : Int) : Bool := decide (1 ≤ a ∧ a ≤ 32)
theorem nm_size : ∀ k : Fin 33, k.val ≠ 0 → (row k.val).nm ≠ [] ∧ (row k.val).nm.length ≤ 8 ∧ ∀ x ∈ (row k.val).nm, 97 ≤ x.toNat ∧ x.toNat ≤ 122 := by decide +kernel
theorem nm_inj : ∀ k j : Fin 33, k.val ≠ 0 → j.val ≠ 0 → (row k.val).nm = (row j.val).nm → k = j := by decide +kernel


set_option maxHeartbeats 1000000 in
theorem names_in_yes (a b : Int) (s t : ByteArray) (w : World) (hF : Hid (FT w)) (h1 : 1 ≤ a) (h2 : a ≤ 32) (hs : Hid (nmB a = s)) (ht : Hid (nmB b = t)) (gs : s.toList.isEmpty = false) (h3 : 1 ≤ b) (h4 : b ≤ 32) (gt : t.toList.isEmpty = false) (gst : (s.toList == t.toList) = (a == b))
    (hz : s.size ≤ 8) (hby : Hid (∀ i (h : i < s.size), 97 ≤ s[i].toNat ∧ s[i].toNat ≤ 122)) :
    Calls Tryd.prog 7 #[.int .i64 a, .int .i64 b] w (BoolR true w) := by
  have HX := Lib.hid (Name_any a w hF)
  have HY : Hid (∀ w1, FT w1 → Calls Tryd.prog 12 #[.int .i64 b] w1 (StrR (nmB b) w1)) := fun w1 h => Name_any b w1 h
  rw [hs.out] at HX
  rw [ht.out] at HY
  go_enter Tryd.func7, Tryd.ntmps7
  go_wp2_with fail
  refine HX.out.mono ?_
  rintro e w1 ⟨rfl, hb⟩
  have HB1 := Lib.hid hb
  clear hb
  go_wp2_with fail
  refine (HY.out w1 (hF.out.later HB1.out)).mono ?_
  rintro e w2 ⟨rfl, hb⟩
  have HB2 := Lib.hid (HB1.out.trans (hb.mono HB1.out.size))
  clear hb HX HY
  go_wp2_with fail
  go_loopw [7] (fun i wr => ∃ k : Nat, k ≤ s.size ∧ i = .int .i64 k ∧ Hid (Below w.heap.size w wr)) (fun i _ => s.size - (intOf i).toNat)
  case atStart => exact ⟨0, by omega, rfl, HB2.out⟩
  case round =>
    obtain ⟨k, hk, rfl, hB⟩ := hrel
    by_cases hlt : k < s.size
    · have hc := hby.out k hlt
      go_wp2_with fail
      go_roundw
      case rel => exact ⟨k + 1, by omega, by go_num, hB⟩
      case measure => simp [intOf]; omega
    · obtain rfl : k = s.size := by omega
      go_wp2_with fail
      refine (awake_any wr (hF.out.later hB.out)).mono ?_
      rintro e w3 ⟨rfl, hb⟩
      have HB3 := Lib.hid (hB.out.trans (hb.mono hB.out.size))
      clear hb
      go_wp2_with fail
      go_ret
      exact ⟨rfl, HB3.out⟩
set_option maxHeartbeats 1000000 in
theorem names_in_lo (a b : Int) (s t : ByteArray) (w : World) (hF : Hid (FT w)) (h1 : 1 ≤ a) (h2 : a ≤ 32) (hs : Hid (nmB a = s)) (ht : Hid (nmB b = t)) (gs : s.toList.isEmpty = false) (h3 : b < 1) (gt : t.toList.isEmpty = true) (gst : (s.toList == t.toList) = false) (gab : (a == b) = false)
    (hz : s.size ≤ 8) (hby : Hid (∀ i (h : i < s.size), 97 ≤ s[i].toNat ∧ s[i].toNat ≤ 122)) :
    Calls Tryd.prog 7 #[.int .i64 a, .int .i64 b] w (BoolR true w) := by
  have HX := Lib.hid (Name_any a w hF)
  have HY : Hid (∀ w1, FT w1 → Calls Tryd.prog 12 #[.int .i64 b] w1 (StrR (nmB b) w1)) := fun w1 h => Name_any b w1 h
  rw [hs.out] at HX
  rw [ht.out] at HY
  go_enter Tryd.func7, Tryd.ntmps7
  go_wp2_with fail
  refine HX.out.mono ?_
  rintro e w1 ⟨rfl, hb⟩
  have HB1 := Lib.hid hb
  clear hb
  go_wp2_with fail
  refine (HY.out w1 (hF.out.later HB1.out)).mono ?_
  rintro e w2 ⟨rfl, hb⟩
  have HB2 := Lib.hid (HB1.out.trans (hb.mono HB1.out.size))
  clear hb HX HY
  go_wp2_with fail
  go_loopw [7] (fun i wr => ∃ k : Nat, k ≤ s.size ∧ i = .int .i64 k ∧ Hid (Below w.heap.size w wr)) (fun i _ => s.size - (intOf i).toNat)
  case atStart => exact ⟨0, by omega, rfl, HB2.out⟩
  case round =>
    obtain ⟨k, hk, rfl, hB⟩ := hrel
    by_cases hlt : k < s.size
    · have hc := hby.out k hlt
      go_wp2_with fail
      go_roundw
      case rel => exact ⟨k + 1, by omega, by go_num, hB⟩
      case measure => simp [intOf]; omega
    · obtain rfl : k = s.size := by omega
      go_wp2_with fail
      refine (awake_any wr (hF.out.later hB.out)).mono ?_
      rintro e w3 ⟨rfl, hb⟩
      have HB3 := Lib.hid (hB.out.trans (hb.mono hB.out.size))
      clear hb
      go_wp2_with fail
      go_ret
      exact ⟨rfl, HB3.out⟩
set_option maxHeartbeats 1000000 in
theorem names_in_hi (a b : Int) (s t : ByteArray) (w : World) (hF : Hid (FT w)) (h1 : 1 ≤ a) (h2 : a ≤ 32) (hs : Hid (nmB a = s)) (ht : Hid (nmB b = t)) (gs : s.toList.isEmpty = false) (h3 : 1 ≤ b) (h4 : 32 < b) (gt : t.toList.isEmpty = true) (gst : (s.toList == t.toList) = false) (gab : (a == b) = false)
    (hz : s.size ≤ 8) (hby : Hid (∀ i (h : i < s.size), 97 ≤ s[i].toNat ∧ s[i].toNat ≤ 122)) :
    Calls Tryd.prog 7 #[.int .i64 a, .int .i64 b] w (BoolR true w) := by
  have HX := Lib.hid (Name_any a w hF)
  have HY : Hid (∀ w1, FT w1 → Calls Tryd.prog 12 #[.int .i64 b] w1 (StrR (nmB b) w1)) := fun w1 h => Name_any b w1 h
  rw [hs.out] at HX
  rw [ht.out] at HY
  go_enter Tryd.func7, Tryd.ntmps7
  go_wp2_with fail
  refine HX.out.mono ?_
  rintro e w1 ⟨rfl, hb⟩
  have HB1 := Lib.hid hb
  clear hb
  go_wp2_with fail
  refine (HY.out w1 (hF.out.later HB1.out)).mono ?_
  rintro e w2 ⟨rfl, hb⟩
  have HB2 := Lib.hid (HB1.out.trans (hb.mono HB1.out.size))
  clear hb HX HY
  go_wp2_with fail
  go_loopw [7] (fun i wr => ∃ k : Nat, k ≤ s.size ∧ i = .int .i64 k ∧ Hid (Below w.heap.size w wr)) (fun i _ => s.size - (intOf i).toNat)
  case atStart => exact ⟨0, by omega, rfl, HB2.out⟩
  case round =>
    obtain ⟨k, hk, rfl, hB⟩ := hrel
    by_cases hlt : k < s.size
    · have hc := hby.out k hlt
      go_wp2_with fail
      go_roundw
      case rel => exact ⟨k + 1, by omega, by go_num, hB⟩
      case measure => simp [intOf]; omega
    · obtain rfl : k = s.size := by omega
      go_wp2_with fail
      refine (awake_any wr (hF.out.later hB.out)).mono ?_
      rintro e w3 ⟨rfl, hb⟩
      have HB3 := Lib.hid (hB.out.trans (hb.mono hB.out.size))
      clear hb
      go_wp2_with fail
      go_ret
      exact ⟨rfl, HB3.out⟩
set_option maxHeartbeats 1000000 in
theorem names_lo_yes (a b : Int) (s t : ByteArray) (w : World) (hF : Hid (FT w)) (h1 : a < 1) (hs : Hid (nmB a = s)) (ht : Hid (nmB b = t)) (gs : s.toList.isEmpty = true) (h3 : 1 ≤ b) (h4 : b ≤ 32) (gt : t.toList.isEmpty = false) (gz : s.size = 0) :
    Calls Tryd.prog 7 #[.int .i64 a, .int .i64 b] w (BoolR true w) := by
  have HX := Lib.hid (Name_any a w hF)
  have HY : Hid (∀ w1, FT w1 → Calls Tryd.prog 12 #[.int .i64 b] w1 (StrR (nmB b) w1)) := fun w1 h => Name_any b w1 h
  rw [hs.out] at HX
  rw [ht.out] at HY
  go_enter Tryd.func7, Tryd.ntmps7
  go_wp2_with fail
  refine HX.out.mono ?_
  rintro e w1 ⟨rfl, hb⟩
  have HB1 := Lib.hid hb
  clear hb
  go_wp2_with fail
  refine (HY.out w1 (hF.out.later HB1.out)).mono ?_
  rintro e w2 ⟨rfl, hb⟩
  have HB2 := Lib.hid (HB1.out.trans (hb.mono HB1.out.size))
  clear hb HX HY
  go_wp2_with fail
  go_loopw [7] (fun i wr => i = .int .i64 0 ∧ Hid (Below w.heap.size w wr)) (fun i _ => 0)
  case atStart => exact ⟨rfl, HB2.out⟩
  case round =>
    obtain ⟨rfl, hB⟩ := hrel
    go_wp2_with fail
    refine (awake_any wr (hF.out.later hB.out)).mono ?_
    rintro e w3 ⟨rfl, hb⟩
    have HB3 := Lib.hid (hB.out.trans (hb.mono hB.out.size))
    clear hb
    go_wp2_with fail
    go_ret
    exact ⟨rfl, HB3.out⟩

set_option maxHeartbeats 1000000 in
theorem names_lo_lo (a b : Int) (s t : ByteArray) (w : World) (hF : Hid (FT w)) (h1 : a < 1) (hs : Hid (nmB a = s)) (ht : Hid (nmB b = t)) (gs : s.toList.isEmpty = true) (h3 : b < 1) (gt : t.toList.isEmpty = true) (gz : s.size = 0) :
    Calls Tryd.prog 7 #[.int .i64 a, .int .i64 b] w (BoolR true w) := by
  have HX := Lib.hid (Name_any a w hF)
  have HY : Hid (∀ w1, FT w1 → Calls Tryd.prog 12 #[.int .i64 b] w1 (StrR (nmB b) w1)) := fun w1 h => Name_any b w1 h
  rw [hs.out] at HX
  rw [ht.out] at HY
  go_enter Tryd.func7, Tryd.ntmps7
  go_wp2_with fail
  refine HX.out.mono ?_
  rintro e w1 ⟨rfl, hb⟩
  have HB1 := Lib.hid hb
  clear hb
  go_wp2_with fail
  refine (HY.out w1 (hF.out.later HB1.out)).mono ?_
  rintro e w2 ⟨rfl, hb⟩
  have HB2 := Lib.hid (HB1.out.trans (hb.mono HB1.out.size))
  clear hb HX HY
  go_wp2_with fail
  go_loopw [7] (fun i wr => i = .int .i64 0 ∧ Hid (Below w.heap.size w wr)) (fun i _ => 0)
  case atStart => exact ⟨rfl, HB2.out⟩
  case round =>
    obtain ⟨rfl, hB⟩ := hrel
    go_wp2_with fail
    refine (awake_any wr (hF.out.later hB.out)).mono ?_
    rintro e w3 ⟨rfl, hb⟩
    have HB3 := Lib.hid (hB.out.trans (hb.mono hB.out.size))
    clear hb
    go_wp2_with fail
    go_ret
    exact ⟨rfl, HB3.out⟩

set_option maxHeartbeats 1000000 in
theorem names_lo_hi (a b : Int) (s t : ByteArray) (w : World) (hF : Hid (FT w)) (h1 : a < 1) (hs : Hid (nmB a = s)) (ht : Hid (nmB b = t)) (gs : s.toList.isEmpty = true) (h3 : 1 ≤ b) (h4 : 32 < b) (gt : t.toList.isEmpty = true) (gz : s.size = 0) :
    Calls Tryd.prog 7 #[.int .i64 a, .int .i64 b] w (BoolR true w) := by
  have HX := Lib.hid (Name_any a w hF)
  have HY : Hid (∀ w1, FT w1 → Calls Tryd.prog 12 #[.int .i64 b] w1 (StrR (nmB b) w1)) := fun w1 h => Name_any b w1 h
  rw [hs.out] at HX
  rw [ht.out] at HY
  go_enter Tryd.func7, Tryd.ntmps7
  go_wp2_with fail
  refine HX.out.mono ?_
  rintro e w1 ⟨rfl, hb⟩
  have HB1 := Lib.hid hb
  clear hb
  go_wp2_with fail
  refine (HY.out w1 (hF.out.later HB1.out)).mono ?_
  rintro e w2 ⟨rfl, hb⟩
  have HB2 := Lib.hid (HB1.out.trans (hb.mono HB1.out.size))
  clear hb HX HY
  go_wp2_with fail
  go_loopw [7] (fun i wr => i = .int .i64 0 ∧ Hid (Below w.heap.size w wr)) (fun i _ => 0)
  case atStart => exact ⟨rfl, HB2.out⟩
  case round =>
    obtain ⟨rfl, hB⟩ := hrel
    go_wp2_with fail
    refine (awake_any wr (hF.out.later hB.out)).mono ?_
    rintro e w3 ⟨rfl, hb⟩
    have HB3 := Lib.hid (hB.out.trans (hb.mono hB.out.size))
    clear hb
    go_wp2_with fail
    go_ret
    exact ⟨rfl, HB3.out⟩

set_option maxHeartbeats 1000000 in
theorem names_hi_yes (a b : Int) (s t : ByteArray) (w : World) (hF : Hid (FT w)) (h1 : 1 ≤ a) (h2 : 32 < a) (hs : Hid (nmB a = s)) (ht : Hid (nmB b = t)) (gs : s.toList.isEmpty = true) (h3 : 1 ≤ b) (h4 : b ≤ 32) (gt : t.toList.isEmpty = false) (gz : s.size = 0) :
    Calls Tryd.prog 7 #[.int .i64 a, .int .i64 b] w (BoolR true w) := by
  have HX := Lib.hid (Name_any a w hF)
  have HY : Hid (∀ w1, FT w1 → Calls Tryd.prog 12 #[.int .i64 b] w1 (StrR (nmB b) w1)) := fun w1 h => Name_any b w1 h
  rw [hs.out] at HX
  rw [ht.out] at HY
  go_enter Tryd.func7, Tryd.ntmps7
  go_wp2_with fail
  refine HX.out.mono ?_
  rintro e w1 ⟨rfl, hb⟩
  have HB1 := Lib.hid hb
  clear hb
  go_wp2_with fail
  refine (HY.out w1 (hF.out.later HB1.out)).mono ?_
  rintro e w2 ⟨rfl, hb⟩
  have HB2 := Lib.hid (HB1.out.trans (hb.mono HB1.out.size))
  clear hb HX HY
  go_wp2_with fail
  go_loopw [7] (fun i wr => i = .int .i64 0 ∧ Hid (Below w.heap.size w wr)) (fun i _ => 0)
  case atStart => exact ⟨rfl, HB2.out⟩
  case round =>
    obtain ⟨rfl, hB⟩ := hrel
    go_wp2_with fail
    refine (awake_any wr (hF.out.later hB.out)).mono ?_
    rintro e w3 ⟨rfl, hb⟩
    have HB3 := Lib.hid (hB.out.trans (hb.mono hB.out.size))
    clear hb
    go_wp2_with fail
    go_ret
    exact ⟨rfl, HB3.out⟩

set_option maxHeartbeats 1000000 in
theorem names_hi_lo (a b : Int) (s t : ByteArray) (w : World) (hF : Hid (FT w)) (h1 : 1 ≤ a) (h2 : 32 < a) (hs : Hid (nmB a = s)) (ht : Hid (nmB b = t)) (gs : s.toList.isEmpty = true) (h3 : b < 1) (gt : t.toList.isEmpty = true) (gz : s.size = 0) :
    Calls Tryd.prog 7 #[.int .i64 a, .int .i64 b] w (BoolR true w) := by
  have HX := Lib.hid (Name_any a w hF)
  have HY : Hid (∀ w1, FT w1 → Calls Tryd.prog 12 #[.int .i64 b] w1 (StrR (nmB b) w1)) := fun w1 h => Name_any b w1 h
  rw [hs.out] at HX
  rw [ht.out] at HY
  go_enter Tryd.func7, Tryd.ntmps7
  go_wp2_with fail
  refine HX.out.mono ?_
  rintro e w1 ⟨rfl, hb⟩
  have HB1 := Lib.hid hb
  clear hb
  go_wp2_with fail
  refine (HY.out w1 (hF.out.later HB1.out)).mono ?_
  rintro e w2 ⟨rfl, hb⟩
  have HB2 := Lib.hid (HB1.out.trans (hb.mono HB1.out.size))
  clear hb HX HY
  go_wp2_with fail
  go_loopw [7] (fun i wr => i = .int .i64 0 ∧ Hid (Below w.heap.size w wr)) (fun i _ => 0)
  case atStart => exact ⟨rfl, HB2.out⟩
  case round =>
    obtain ⟨rfl, hB⟩ := hrel
    go_wp2_with fail
    refine (awake_any wr (hF.out.later hB.out)).mono ?_
    rintro e w3 ⟨rfl, hb⟩
    have HB3 := Lib.hid (hB.out.trans (hb.mono hB.out.size))
    clear hb
    go_wp2_with fail
    go_ret
    exact ⟨rfl, HB3.out⟩

set_option maxHeartbeats 1000000 in
theorem names_hi_hi (a b : Int) (s t : ByteArray) (w : World) (hF : Hid (FT w)) (h1 : 1 ≤ a) (h2 : 32 < a) (hs : Hid (nmB a = s)) (ht : Hid (nmB b = t)) (gs : s.toList.isEmpty = true) (h3 : 1 ≤ b) (h4 : 32 < b) (gt : t.toList.isEmpty = true) (gz : s.size = 0) :
    Calls Tryd.prog 7 #[.int .i64 a, .int .i64 b] w (BoolR true w) := by
  have HX := Lib.hid (Name_any a w hF)
  have HY : Hid (∀ w1, FT w1 → Calls Tryd.prog 12 #[.int .i64 b] w1 (StrR (nmB b) w1)) := fun w1 h => Name_any b w1 h
  rw [hs.out] at HX
  rw [ht.out] at HY
  go_enter Tryd.func7, Tryd.ntmps7
  go_wp2_with fail
  refine HX.out.mono ?_
  rintro e w1 ⟨rfl, hb⟩
  have HB1 := Lib.hid hb
  clear hb
  go_wp2_with fail
  refine (HY.out w1 (hF.out.later HB1.out)).mono ?_
  rintro e w2 ⟨rfl, hb⟩
  have HB2 := Lib.hid (HB1.out.trans (hb.mono HB1.out.size))
  clear hb HX HY
  go_wp2_with fail
  go_loopw [7] (fun i wr => i = .int .i64 0 ∧ Hid (Below w.heap.size w wr)) (fun i _ => 0)
  case atStart => exact ⟨rfl, HB2.out⟩
  case round =>
    obtain ⟨rfl, hB⟩ := hrel
    go_wp2_with fail
    refine (awake_any wr (hF.out.later hB.out)).mono ?_
    rintro e w3 ⟨rfl, hb⟩
    have HB3 := Lib.hid (hB.out.trans (hb.mono hB.out.size))
    clear hb
    go_wp2_with fail
    go_ret
    exact ⟨rfl, HB3.out⟩

theorem nmB_out {a : Int} (h : ¬ (1 ≤ a ∧ a ≤ 32)) : nmB a = ⟨#[]⟩ := by unfold nmB rowI; rw [if_neg h]
theorem nmB_data (a : Int) : (nmB a).data.toList = (rowI a).nm := by simp [nmB]
theorem nmB_in {a : Int} (h1 : 1 ≤ a) (h2 : a ≤ 32) : ∃ k : Fin 33, k.val ≠ 0 ∧ a = (k.val : Int) ∧ (rowI a).nm = (row k.val).nm := by
  obtain ⟨k, rfl⟩ := Int.eq_ofNat_of_zero_le (show 0 ≤ a by omega)
  exact ⟨⟨k, by omega⟩, by show k ≠ 0; omega, rfl, by rw [rowI_nat k (by omega) (by omega)]⟩
theorem nm_in_ne {a : Int} (h1 : 1 ≤ a) (h2 : a ≤ 32) : (nmB a).toList.isEmpty = false := by
  obtain ⟨k, hk, rfl, e⟩ := nmB_in h1 h2
  rw [ByteArray.toList_eq, nmB_data, e]
  have := (nm_size k hk).1
  cases h : (row k.val).nm with
  | nil => exact absurd h this
  | cons x r => rfl
theorem nm_in_eq {a b : Int} (h1 : 1 ≤ a) (h2 : a ≤ 32) (h3 : 1 ≤ b) (h4 : b ≤ 32) : ((nmB a).toList == (nmB b).toList) = (a == b) := by
  rw [ByteArray.toList_eq, ByteArray.toList_eq, nmB_data, nmB_data]
  obtain ⟨k, hk, rfl, e⟩ := nmB_in h1 h2
  obtain ⟨j, hj, rfl, e'⟩ := nmB_in h3 h4
  rw [e, e']
  by_cases h : k = j
  · subst h; simp
  · have h5 : (row k.val).nm ≠ (row j.val).nm := fun h6 => h (nm_inj k j hk hj h6)
    have h6 : ((k.val : Int) == (j.val : Int)) = false := by simp; omega
    rw [h6]; simpa using h5
theorem nm_in_out {a b : Int} (h1 : 1 ≤ a) (h2 : a ≤ 32) (h3 : ¬ (1 ≤ b ∧ b ≤ 32)) : ((nmB a).toList == (nmB b).toList) = false := by
  have h := nm_in_ne h1 h2
  rw [nmB_out h3]
  rw [ByteArray.toList_eq] at h ⊢
  rw [ByteArray.toList_eq]
  cases hl : (nmB a).data.toList with
  | nil => rw [hl] at h; cases h
  | cons x r => rfl
theorem nm_bytes {a : Int} (h1 : 1 ≤ a) (h2 : a ≤ 32) : (nmB a).size ≤ 8 ∧ ∀ i (h : i < (nmB a).size), 97 ≤ (nmB a)[i].toNat ∧ (nmB a)[i].toNat ≤ 122 := by
  obtain ⟨k, hk, rfl, e⟩ := nmB_in h1 h2
  obtain ⟨_, n2, n3⟩ := nm_size k hk
  have hl := nmB_data (k.val : Int)
  rw [e] at hl
  have hs : (nmB (k.val : Int)).size = (row k.val).nm.length := by rw [← hl]; exact Array.length_toList.symm
  refine ⟨by omega, fun i h => n3 _ ?_⟩
  rw [← hl]
  exact Array.getElem_mem_toList h
theorem nm_out_empty {a : Int} (h : ¬ (1 ≤ a ∧ a ≤ 32)) : (nmB a).toList.isEmpty = true ∧ (nmB a).size = 0 := by rw [nmB_out h, ByteArray.toList_eq]; exact ⟨rfl, rfl⟩
theorem names_any (a b : Int) (w : World) (hF : FT w) : Calls Tryd.prog 7 #[.int .i64 a, .int .i64 b] w (BoolR true w) := by
  by_cases ha : a < 1
  · have o := nm_out_empty (a := a) (by omega)
    by_cases hb : b < 1
    · exact names_lo_lo a b _ _ w hF ha rfl rfl o.1 hb (nm_out_empty (by omega)).1 o.2
    · by_cases hc : b ≤ 32
      · exact names_lo_yes a b _ _ w hF ha rfl rfl o.1 (by omega) hc (nm_in_ne (by omega) hc) o.2
      · exact names_lo_hi a b _ _ w hF ha rfl rfl o.1 (by omega) (by omega) (nm_out_empty (by omega)).1 o.2
  · by_cases ha2 : a ≤ 32
    · have y := nm_in_ne (by omega) ha2
      obtain ⟨z, u⟩ := nm_bytes (by omega) ha2
      by_cases hb : b < 1
      · exact names_in_lo a b _ _ w hF (by omega) ha2 rfl rfl y hb (nm_out_empty (by omega)).1 (nm_in_out (by omega) ha2 (by omega)) (by simp; omega) z u
      · by_cases hc : b ≤ 32
        · exact names_in_yes a b _ _ w hF (by omega) ha2 rfl rfl y (by omega) hc (nm_in_ne (by omega) hc) (nm_in_eq (by omega) ha2 (by omega) hc) z u
        · exact names_in_hi a b _ _ w hF (by omega) ha2 rfl rfl y (by omega) (by omega) (nm_out_empty (by omega)).1 (nm_in_out (by omega) ha2 (by omega)) (by simp; omega) z u
    · have o := nm_out_empty (a := a) (by omega)
      by_cases hb : b < 1
      · exact names_hi_lo a b _ _ w hF (by omega) (by omega) rfl rfl o.1 hb (nm_out_empty (by omega)).1 o.2
      · by_cases hc : b ≤ 32
        · exact names_hi_yes a b _ _ w hF (by omega) (by omega) rfl rfl o.1 (by omega) hc (nm_in_ne (by omega) hc) o.2
        · exact names_hi_hi a b _ _ w hF (by omega) (by omega) rfl rfl o.1 (by omega) (by omega) (nm_out_empty (by omega)).1 o.2
end Go.Proofs.YtifmamobhkgmfaaDoor
