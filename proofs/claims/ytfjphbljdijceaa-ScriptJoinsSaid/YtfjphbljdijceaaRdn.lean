/- readNumber reads eight bytes as a number. Condition: the bytes lie there. -/
import Derived.Test.YtfjphbljdijceaaMem
namespace Go.Proofs.Ytfjphbljdijceaa
open Go.RowKit
set_option linter.unusedVariables false

theorem val_snoc (l : List Int) (b : Int) : val (l ++ [b]) = val l + b * 256 ^ l.length := by
  induction l with
  | nil => simp [val]
  | cons a l ih =>
    simp only [List.cons_append, val, ih, List.length_cons, Int.pow_succ]
    rw [Int.mul_add, ← Int.mul_assoc, Int.add_assoc]
    congr 2
    rw [Int.mul_comm 256 b, Int.mul_assoc, Int.mul_comm 256]

theorem wrap64_eq (x : Int) : wrap64 x = w64 x := by simp [wrap64, w64]

theorem or_step (l : List Int) (hb : Byt l) (k : Nat) (hk : k < 8) (x : Int) (hx : l[k]? = some x) :
    bits BinOp.or IntKind.u64 (val (l.take k)) (IntKind.u64.wrap (x * 2 ^ (8 * k))) = val (l.take (k + 1)) := by
  obtain ⟨hky, rfl⟩ := List.getElem?_eq_some_iff.1 hx
  have h1 := hb l[k] (List.getElem_mem hky)
  have hlen : (l.take k).length = k := by rw [List.length_take]; omega
  have h2 := val_range (l.take k) (byt_take hb k)
  rw [List.take_succ_eq_append_getElem hky, val_snoc, hlen]
  rw [hlen] at h2
  have e1 : (2 : Int) ^ (8 * k) = 256 ^ k := by rw [Int.pow_mul]; rfl
  have e2 : (256 : Int) ^ k * 256 ^ (7 - k) = 72057594037927936 := by rw [← Int.pow_add, show k + (7 - k) = 7 from by omega]; rfl
  have e3 : (0 : Int) < 256 ^ k := Int.pow_pos (by omega)
  have e4 : (0 : Int) < 256 ^ (7 - k) := Int.pow_pos (by omega)
  rw [e1]
  generalize l[k] = x at *
  generalize val (l.take k) = v at *
  obtain ⟨p, hp⟩ : ∃ p : Nat, (256 : Int) ^ k = (p : Int) := ⟨256 ^ k, by rw [Int.natCast_pow]; rfl⟩
  have hpp : p = 2 ^ (8 * k) := by have h := hp.symm.trans e1.symm; have h' : ((2 ^ (8 * k) : Nat) : Int) = 2 ^ (8 * k) := by rw [Int.natCast_pow]; rfl
                                   omega
  have e5 : (256 : Int) ^ k ≤ 72057594037927936 := by
    have := Int.mul_le_mul_of_nonneg_left (show (1 : Int) ≤ 256 ^ (7 - k) from e4) (Int.le_of_lt e3)
    omega
  have e6 : x * 256 ^ k ≤ 255 * 256 ^ k := Int.mul_le_mul_of_nonneg_right (by omega) (Int.le_of_lt e3)
  have e7 : 0 ≤ x * 256 ^ k := Int.mul_nonneg h1.1 (Int.le_of_lt e3)
  rw [IntKind.wrap_u64, Int.emod_eq_of_lt e7 (by omega), u64_or _ _ h2.1 (by omega) e7 (by omega), Nat.or_comm, nat_join (8 * k) _ _ ?_ ?_]
  · omega
  · obtain ⟨m, rfl⟩ := Int.eq_ofNat_of_zero_le h1.1
    rw [hp, ← Int.natCast_mul, Int.toNat_natCast, hpp, Nat.mul_mod_left]
  · rw [← hpp]; omega

theorem readNumber_any (b off n cap : Nat) (l : List Int) (w : World) (hl : Hid (l.length = 8)) (hb : Hid (Byt l)) (hn : 8 ≤ n) (hc : Hid (∀ j x, l[j]? = some x → w.cell? ⟨b, off + j, none⟩ = some (.int .u8 x))) :
    Calls Try.prog 23 #[.slice (some ⟨b, off, none⟩) n cap] w fun e w' => e = .returned (.int .i64 (num l)) ∧ w = w' := by
  go_enter Try.func23, Try.ntmps23
  go_wp2
  go_loop [3, 5] (fun v i => ∃ k : Nat, k ≤ 8 ∧ i = .int .i64 k ∧ v = .int .u64 (val (l.take k))) (fun _ i => 8 - (intOf i).toNat)
  case atStart => exact ⟨0, by omega, rfl, rfl⟩
  case round =>
    obtain ⟨k, hk, rfl, rfl⟩ := hrel
    by_cases hlt : k < 8
    · have hky : k < l.length := by rw [hl.out]; exact hlt
      have hcell := hc.out k (l[k]'hky) (List.getElem?_eq_getElem hky)
      have hx := hb.out (l[k]'hky) (List.getElem_mem hky)
      have HX : Hid (l[k]? = some (l[k]'hky)) := List.getElem?_eq_getElem hky
      generalize l[k]'hky = x at *
      have h0 := hx.1
      have h1 := hx.2
      clear hx
      go_wp2
      go_round
      case rel => exact ⟨k + 1, by omega, by go_num, by rw [or_step l hb.out k hlt x HX.out]⟩
      case measure => simp [intOf]; omega
    · have e : k = 8 := by omega
      subst e
      have ht : val (l.take 8) = val l := by rw [List.take_of_length_le (by rw [hl.out]; omega)]
      rw [ht]
      clear ht
      have h := val_range l hb.out
      rw [hl.out] at h
      have h0 := h.1
      have h1 : val l < 18446744073709551616 := h.2
      clear h
      have HV : Hid (num l = w64 (val l)) := rfl
      generalize val l = v at *
      go_wp2
      go_ret
      exact ⟨by rw [HV.out, ← wrap64_eq]; rfl, rfl⟩
end Go.Proofs.Ytfjphbljdijceaa
