/- Encode and Decode by what is known of entries and bytes. Conditions: each theorem's own premises. -/
import Derived.Test.YtfjphbljdijceaaSam
namespace Go.Proofs.Ytfjphbljdijceaa
open Go.RowKit
set_option linter.unusedVariables false

def EncY (l : List En) (w : World) (e : Ending) (w' : World) : Prop :=
  Below w.heap.size w w' ∧ ∃ A c, (enL l).length ≤ c ∧ c ≤ 9223372036854775807 ∧ e = .returned (.tuple #[.slice A (enL l).length c, .int .i64 0]) ∧ RdB w' w'.heap.size A (enL l).length (enL l)
def EncN (w : World) (e : Ending) (w' : World) : Prop := Below w.heap.size w w' ∧ e = .returned (.tuple #[.slice none 0 0, .int .i64 1])
theorem enc_yes {A : Option Addr} {n cap : Nat} {l : List En} {w : World} (hR : RdE w A n l) (hn : n ≤ 2000) (ho : allOk l) : Calls Try.prog 10 #[.slice A n cap] w (EncY l w) := by
  refine (enc_any A n cap l w hR (by omega)).mono ?_
  rintro e w' ⟨hb, ⟨_, _, A', c, h1, h2, rfl, h3⟩ | ⟨h, _⟩⟩
  · exact ⟨hb, A', c, h1, h2, rfl, RdB.of (enL_byt ho) h3⟩
  · exact absurd ⟨by rw [hR.1]; exact hn, ho⟩ h
theorem enc_no {A : Option Addr} {n cap : Nat} {l : List En} {w : World} (hR : RdE w A n l) (hn : n ≤ 4611686018427387904) (ho : ¬ (l.length ≤ 2000 ∧ allOk l)) : Calls Try.prog 10 #[.slice A n cap] w (EncN w) := by
  refine (enc_any A n cap l w hR hn).mono ?_
  rintro e w' ⟨hb, ⟨h1, h2, _⟩ | ⟨_, rfl⟩⟩
  · exact absurd ⟨h1, h2⟩ ho
  · exact ⟨hb, rfl⟩
def DecY (o : List En) (w : World) (e : Ending) (w' : World) : Prop := Below w.heap.size w w' ∧ ∃ A c, e = .returned (.tuple #[.slice A o.length c, .int .i64 0]) ∧ RdE w' A o.length o
def DecN (w : World) (e : Ending) (w' : World) : Prop := Below w.heap.size w w' ∧ e = .returned (.tuple #[.slice none 0 0, .int .i64 2])
theorem dec_yes {A : Option Addr} {n cap : Nat} {l : List Int} {o : List En} {w : World} (hR : RdB w w.heap.size A n l) (hn : n ≤ cap) (hc : cap ≤ 9223372036854775807) (hn2 : n ≤ 4611686018427387904) (hd : dec l = some o) : Calls Try.prog 11 #[.slice A n cap] w (DecY o w) := by
  refine (dec_any A n cap l w hR hn2 hn hc).mono ?_
  rintro e w' ⟨hb, ⟨o', h1, A', c, rfl, h3⟩ | ⟨h, _⟩⟩
  · rw [hd] at h1
    cases h1
    exact ⟨hb, A', c, rfl, h3⟩
  · rw [hd] at h; cases h
theorem dec_not {A : Option Addr} {n cap : Nat} {l : List Int} {w : World} (hR : RdB w w.heap.size A n l) (hn : n ≤ cap) (hc : cap ≤ 9223372036854775807) (hn2 : n ≤ 4611686018427387904) (hd : dec l = none) : Calls Try.prog 11 #[.slice A n cap] w (DecN w) := by
  refine (dec_any A n cap l w hR hn2 hn hc).mono ?_
  rintro e w' ⟨hb, ⟨o', h1, _⟩ | ⟨_, rfl⟩⟩
  · rw [hd] at h1; cases h1
  · exact ⟨hb, rfl⟩
theorem RdE.later {w w' : World} {A : Option Addr} {n : Nat} {l : List En} (h : RdE w A n l) (hb : Below w.heap.size w w') : RdE w' A n l := ⟨h.1, h.2.later hb⟩
theorem RdB.later {w w' : World} {A : Option Addr} {n : Nat} {l : List Int} (h : RdB w w.heap.size A n l) (hb : Below w.heap.size w w') : RdB w' w'.heap.size A n l :=
  ⟨h.1, h.2.1, fun h0 => by
    obtain ⟨b, off, e, hl, hc⟩ := h.2.2 h0
    exact ⟨b, off, e, Nat.lt_of_lt_of_le hl hb.size, hc.later hl hb⟩⟩
/-- A new block of entries. -/
theorem RdE.new (w : World) (l : List En) (n : Nat) (cs : Array Value) (t : TypeId) (hn : l.length = n) (hc : cs.toList = flV l) : RdE (w.alloc (.cells cs t)) (some ⟨w.heap.size, 0, none⟩) n l := by
  refine ⟨hn, by rw [flV_len, hn], fun _ => ⟨w.heap.size, 0, rfl, by simp, fun j u hu => ?_⟩⟩
  rw [Nat.zero_add, World.cell?_alloc_at _ _ _ _ rfl, ← Array.getElem?_toList, hc]
  exact hu
/-- A new block of bytes. -/
theorem RdB.new (w : World) (l : List Int) (n : Nat) (cs : Array Value) (t : TypeId) (hn : l.length = n) (hb : Byt l) (hc : cs.toList = bV l) : RdB (w.alloc (.cells cs t)) (w.alloc (.cells cs t)).heap.size (some ⟨w.heap.size, 0, none⟩) n l := by
  refine ⟨hn, hb, fun _ => ⟨w.heap.size, 0, rfl, by simp, fun j x hx => ?_⟩⟩
  rw [Nat.zero_add, World.cell?_alloc_at _ _ _ _ rfl, ← Array.getElem?_toList, hc]
  exact bV_at hx
end Go.Proofs.Ytfjphbljdijceaa
