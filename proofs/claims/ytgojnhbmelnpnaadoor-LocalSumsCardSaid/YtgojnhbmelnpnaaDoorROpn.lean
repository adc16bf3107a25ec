/- Arguments opened: eight registers by value; a slice of triples. No condition. -/
import Derived.Test.YtgojnhbmelnpnaaDoorPOpn
import Derived.Test.YtgojnhbmelnpnaaDoorBlk
namespace Go.Proofs.YtgojnhbmelnpnaaDoor.Pg
open Go.RowKit Go.ChangeShapes Go.WideShapes Go.Deep
set_option linter.unusedVariables false
set_option maxRecDepth 100000

theorem Tryd.c23 : Tryd.prog.cellsOf 23 = 8 := by kernel_rfl
theorem Tryd.c43 : Tryd.prog.cellsOf 43 = 3 := by kernel_rfl
theorem okWide_arr {P : Program} {w : World} {r : Reach} {b0 : Nat} {t n e : Nat} {v : Value} (ht : P.underlying t = some (.array n e)) (h : Value.okWide P w r b0 t v) : ∃ cs, v = .agg cs ∧ cs.size = P.cellsOf t := by
  simp only [Value.okWide, ht] at h
  obtain ⟨cs, h1, h2, _⟩ := h
  exact ⟨cs, h1, h2⟩
section
variable {H : Type} {enc : TypeId × Value → H} {w : World} {base : Nat} {spare : Nat → Bool} {held : Bool}
/-- Numbers in a row: each is one. -/
theorem open_nums {t N n : Nat} {cs : List Value} {x : DataW H × List MemPlace} (ht : Tryd.prog.underlying t = some (.array N 3)) (hc : Tryd.prog.cellsOf t = N) (h : DataW.trod enc Tryd.prog w base spare held n t cs = some x) : ∃ g : Nat → Int, cs = (List.range N).map fun i => Value.int .i64 (g i) := by
  obtain ⟨xs, m, _, _, hl, hlen, hf⟩ := DataW.trod_array ht h
  rw [hc] at hl
  have hx : ∀ i, ∃ z : Int, i < N → cs[i]? = some (.int .i64 z) := by
    intro i
    by_cases hi : i < N
    · have h1 := hf i hi
      rw [Tryd.c3, Nat.mul_one] at h1
      have hxi : i < xs.length := by rw [hlen]; exact hi
      rw [List.getElem?_eq_getElem hxi] at h1
      obtain ⟨z, e, _⟩ := DataW.trod_int Tryd.underlying3 h1
      refine ⟨z, fun _ => ?_⟩
      have h2 : ((cs.drop i).take 1)[0]? = some (.int .i64 z) := by rw [e]; rfl
      rw [List.getElem?_take, if_pos (by omega), List.getElem?_drop] at h2
      simpa using h2
    · exact ⟨0, fun h => absurd h hi⟩
  obtain ⟨g, hg⟩ := Classical.axiomOfChoice hx
  refine ⟨g, List.ext_getElem? fun i => ?_⟩
  by_cases hi : i < N
  · rw [hg i hi, List.getElem?_map, List.getElem?_range hi]; rfl
  · rw [List.getElem?_eq_none (by omega), List.getElem?_eq_none (by simp; omega)]
theorem open_regs {r : Reach} {b0 : Nat} {v : Value} {d : DataW H} {p : List MemPlace} (hv : Value.okWide Tryd.prog w r b0 23 v) (h : DataW.Trod enc Tryd.prog w base spare held 23 v d p) : ∃ g, v = .agg (gR g) ∧ True := by
  obtain ⟨cs, rfl, hsz⟩ := okWide_arr Tryd.underlying23 hv
  obtain ⟨fuel, hf⟩ := h
  obtain ⟨g, hg⟩ := open_nums (cs := cs.toList) Tryd.underlying23 Tryd.c23 hf
  refine ⟨g, ?_, trivial⟩
  have : cs = gR g := by
    apply Array.ext'
    rw [hg]; rfl
  rw [this]
/-- Three numbers. -/
structure Tr where
  a : Int
  b : Int
  c : Int
def tV (t : Tr) : List Value := [.int .i64 t.a, .int .i64 t.b, .int .i64 t.c]
theorem tV_len (t : Tr) : (tV t).length = 3 := rfl
def RdT (w : World) (A : Option Addr) (n : Nat) (l : List Tr) : Prop := l.length = n ∧ Rd w w.heap.size A n 3 (l.flatMap tV)
theorem RdT.later {w w' : World} {A : Option Addr} {n : Nat} {l : List Tr} (h : RdT w A n l) (hb : Below w.heap.size w w') : RdT w' A n l := ⟨h.1, h.2.later hb⟩
theorem RdT.cells {w : World} {A : Option Addr} {n : Nat} {l : List Tr} (h : RdT w A n l) (h0 : 0 < n) : ∃ b off, A = some ⟨b, off, none⟩ ∧ b < w.heap.size ∧
    ∀ i t, l[i]? = some t → w.cell? ⟨b, off + i * 3, none⟩ = some (.int .i64 t.a) ∧ w.cell? ⟨b, off + i * 3 + 1, none⟩ = some (.int .i64 t.b) ∧ w.cell? ⟨b, off + i * 3 + 2, none⟩ = some (.int .i64 t.c) := by
  obtain ⟨b, off, e, hl, hc⟩ := Rd.at tV_len h.2 h0
  exact ⟨b, off, e, hl, fun i x hx => ⟨hc i x hx 0 (by omega) _ rfl, hc i x hx 1 (by omega) _ rfl, hc i x hx 2 (by omega) _ rfl⟩⟩
theorem open_triple (n : Nat) (cs : List Value) (x : DataW H × List MemPlace) (h : DataW.trod enc Tryd.prog w base spare held n 43 cs = some x) : ∃ t : Tr, cs = tV t ∧ True := by
  obtain ⟨g, hg⟩ := open_nums (cs := cs) Tryd.underlying43 Tryd.c43 h
  exact ⟨⟨g 0, g 1, g 2⟩, hg, trivial⟩
theorem open_triples {A : Option Addr} {len cap : Nat} {d : DataW H} {p : List MemPlace} (h : DataW.Trod enc Tryd.prog w base spare held 41 (.slice A len cap) d p) : ∃ l, RdT w A len l := by
  obtain ⟨fuel, hf⟩ := h
  obtain ⟨B, n, c, l, e, g1, g2, g3, g4, _⟩ := open_any (f := tV) (s := 3) (Q := fun _ => True) tV_len (by omega) ⟨0, 0, 0⟩ Tryd.c43 Tryd.underlying41 open_triple hf
  simp [Value.cells] at e
  obtain ⟨rfl, rfl, rfl⟩ := e
  exact ⟨l, g3, g4⟩
end
end Go.Proofs.YtgojnhbmelnpnaaDoor.Pg
