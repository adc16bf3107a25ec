/- What the law on any channels has in memory; its calls at its own values. Conditions: each theorem's own premises. -/
import Derived.Test.YtmcacmbllpphiaaCs
import Derived.Test.YtmcacmbllpphiaaMo2
import Derived.Test.YtmcacmbllpphiaaSh
import Derived.Test.YtmcacmbllpphiaaDn
namespace Go.Proofs.Ytmcacmbllpphiaa
open Go.RowKit
set_option linter.unusedVariables false

theorem inf28 : (Try.prog.info? 28).map (fun i => (i.zero, i.size, i.bytes)) = some (some (.pointer none), 1, 8) := by kernel_rfl
theorem inf29 : (Try.prog.info? 29).map (fun i => (i.zero, i.size, i.bytes)) = some (some (.pointer none), 1, 8) := by kernel_rfl
section
variable {W w w' : World} {B C : List Nat} {S T : List CS} {F : Nat → Prop} {X : List Nat} {c m : Nat} {s t : CS}
/-- A pair that was made and acted on since, beside blocks kept apart. -/
theorem PX.join (h : PX W B S C T F X w) (k : JS w c m s t w') : ∃ F', PX W (B ++ [c]) (S ++ [s]) (C ++ [m]) (T ++ [t]) F' X w' := by
  obtain ⟨hbw, N, hc, hN, hmw, hmd⟩ := k
  have hp := h.pc
  have hbel := hp.bel
  have hCl : ∀ n ∈ C, n < w.heap.size := fun n hn => by obtain ⟨cs, h9⟩ := hp.cblk hn; exact lt_of_blk h9
  have h2 := hp.addN hc hN hbw
  have hmC : m ∉ C := fun hn => by have := hCl m hn; omega
  have key : ∀ (j n : Nat) (u : CS), (C ++ [m])[j]? = some n → (T ++ [t])[j]? = some u → W.heap.size ≤ n ∧ MD w' (fun b => ¬ (F b ∨ N b) ∧ b ∉ C ++ [m] ∧ b ∉ X) n u := by
    intro j n u hj hu
    rcases snoc_at hj with ⟨q1, q2⟩ | ⟨rfl, rfl⟩
    · rcases snoc_at hu with ⟨r1, r2⟩ | ⟨r1, _⟩
      · refine ⟨(hp.md j n u q2 r2).1, ((h.md j n u q2 r2).mono (fun b hb ho => ⟨?_, ?_, ho.2.2⟩) (fun h9 => h9.2.1 (by simp [List.mem_of_getElem? q2]))).later hbw⟩
        · rintro (hf | hf)
          · exact ho.1 hf
          · have := hN b hf; omega
        · intro hb2
          rcases List.mem_append.1 hb2 with hb2 | hb2
          · exact ho.2.1 hb2
          · simp at hb2; omega
      · have := hp.ec; omega
    · rcases snoc_at hu with ⟨r1, _⟩ | ⟨_, rfl⟩
      · have := hp.ec; omega
      · refine ⟨Nat.le_trans hbel.size hmw, hmd.mono (fun b hb ho => ⟨?_, ?_, fun hx => ?_⟩) (fun h9 => h9.2.1 (by simp))⟩
        · rintro (hf | hf)
          · have := hp.lt hf; omega
          · exact ho.2.1 hf
        · intro hb2
          rcases List.mem_append.1 hb2 with hb2 | hb2
          · have := hCl b hb2; omega
          · simp at hb2; exact ho.2.2 hb2
        · have := (h.low b hx).2.2; omega
  refine ⟨_, ⟨h2.bel, h2.low, h2.ch, h2.eb, by simp [hp.ec], fun j n u hj hu => ?_, ?_⟩, fun b hx => ⟨?_, ?_, ?_⟩, fun j n u hj hu => (key j n u hj hu).2⟩
  · exact ⟨(key j n u hj hu).1, (key j n u hj hu).2.mono (fun b _ ho => ⟨ho.1, ho.2.1⟩) (fun h9 => h9.2 (List.mem_of_getElem? hj))⟩
  · rw [List.nodup_append]
    exact ⟨hp.nc, by simp, fun a ha b hb e => by simp at hb; subst hb; subst e; exact hmC ha⟩
  · rintro (hf | hf)
    · exact (h.low b hx).1 hf
    · have := hN b hf; have := (h.low b hx).2.2; omega
  · intro hb2
    rcases List.mem_append.1 hb2 with hb2 | hb2
    · exact (h.low b hx).2.1 hb2
    · simp at hb2; have := (h.low b hx).2.2; omega
  · have := (h.low b hx).2.2; have := hbw.size; omega
/-- A row of the call's own grows. -/
theorem PX.grow {base sz n b' : Nat} {e : TypeId} {u : Value} {xs : List Value} (h : PX W B S C T F X w) (ho : w.ownsRow base e sz u n xs) (hb : W.heap.size ≤ base) (hu : ∀ b, u.ownBlock = some b → b ∈ X) (hg : w.grownBy w' u.ownBlock) (h1 : b' ∈ X ∨ b' = w.heap.size) (h2 : b' < w'.heap.size) : PX W B S C T F (b' :: X) w' := by
  have hp := h.pc
  have hB : Below W.heap.size W w' := below_app hp.bel hb hp.bel.size ho hg
  obtain ⟨G, g1, g2, g3, g4⟩ := hp.ch
  have hX : ∀ b, b < w.heap.size → b ∉ X → w'.heap[b]? = w.heap[b]? := fun b hl hx => hg.block b hl fun e9 => hx (hu b e9.symm)
  have key : ∀ (j n : Nat) (u : CS), C[j]? = some n → T[j]? = some u → MD w' (fun b => ¬ F b ∧ b ∉ C ∧ b ∉ b' :: X) n u := by
    intro j n u hj hu9
    have hnC := List.mem_of_getElem? hj
    have hnX : n ∉ X := fun hx => (h.low n hx).2.1 hnC
    obtain ⟨cs, h9⟩ := hp.cblk hnC
    refine ((h.md j n u hj hu9).mono (ok' := fun b => (¬ F b ∧ b ∉ C ∧ b ∉ X) ∧ b ∉ b' :: X) (fun b hb ho => ⟨ho, fun hx => ?_⟩) (fun h9 => h9.1.2.1 hnC)).keep hg.size (hX n (lt_of_blk h9) hnX) (fun b hb ho => hX b hb ho.1.2.2) |>.mono (fun b _ ho => ⟨ho.1.1, ho.1.2.1, ho.2⟩) (fun h9 => h9.2.1 hnC)
    rcases List.mem_cons.1 hx with rfl | hx
    · rcases h1 with h1 | h1
      · exact ho.2.2 h1
      · omega
    · exact ho.2.2 hx
  refine ⟨⟨hB, hp.low, ⟨G, fun j c s e1 e2 => ?_, g2, g3, g4⟩, hp.eb, hp.ec, fun j n u hj hu => ⟨(hp.md j n u hj hu).1, (key j n u hj hu).mono (fun b _ ho => ⟨ho.1, ho.2.1⟩) (fun h9 => h9.2 (List.mem_of_getElem? hj))⟩, hp.nc⟩, fun b hx => ?_, key⟩
  · have hd := g1 j c s e1 e2
    exact hd.keep fun b hf => hX b (hd.lt hf) fun hx => (h.low b hx).1 (g2 j b hf).1
  · rcases List.mem_cons.1 hx with rfl | hx
    · rcases h1 with h1 | h1
      · exact ⟨(h.low b h1).1, (h.low b h1).2.1, h2⟩
      · exact ⟨fun hf => by have := hp.lt hf; omega, fun hc => by obtain ⟨cs, h9⟩ := hp.cblk hc; have := lt_of_blk h9; omega, h2⟩
    · exact ⟨(h.low b hx).1, (h.low b hx).2.1, by have := (h.low b hx).2.2; have := hg.size; omega⟩
theorem PC.gd {n : Nat} (h : PC W B S C T F w) (hb : BN n S) : GdT n S := fun t ht => by
  obtain ⟨i, hi⟩ := List.mem_iff_getElem?.1 ht
  obtain ⟨c, hc⟩ := get_len hi h.eb.symm
  obtain ⟨Fi, hd, _⟩ := h.chan hc hi
  have := hd.sz; have := hd.le
  exact ⟨hd.kd, hd.sz, by omega, hb t ht⟩
end
/-! While the channels are made. -/
structure TS (W : World) (B : List Nat) (S : List CS) (C : List Nat) (Kc Km : List (Option Nat)) (vc vm : Value) (w : World) : Prop where
  px : ∃ F X, PX W B S C S F X w ∧ (∀ b, vc.ownBlock = some b → b ∈ X) ∧ (∀ b, vm.ownBlock = some b → b ∈ X)
  bn : BN 20 S
  kc : KL Kc B.length
  km : KL Km B.length
  rc : w.ownsRow W.heap.size 28 1 vc Kc.length (kCF B Kc)
  rm : w.ownsRow W.heap.size 29 1 vm Km.length (kCF C Km)
section
variable {W w w' : World} {B C : List Nat} {S : List CS} {Kc Km : List (Option Nat)} {vc vm v' : Value} {c m : Nat} {s : CS} {k : Option Nat}
theorem TS.start (W : World) : TS W [] [] [] [] [] (.slice none 0 0) (.slice none 0 0) W :=
  ⟨⟨_, [], PX.start (PC.nil W), ⟨fun b h => (by cases h), fun b h => (by cases h)⟩⟩, fun s h => (by simp at h), fun k h => (by simp at h), fun k h => (by simp at h), World.ownsRow_nil _ _ _ _, World.ownsRow_nil _ _ _ _⟩
theorem TS.bel (h : TS W B S C Kc Km vc vm w) : Below W.heap.size W w := by obtain ⟨F, X, h, _⟩ := h.px; exact h.pc.bel
theorem TS.later (h : TS W B S C Kc Km vc vm w) (hb : Below w.heap.size w w') : TS W B S C Kc Km vc vm w' := by
  obtain ⟨F, X, h1, h2, h3⟩ := h.px
  exact ⟨⟨F, X, h1.later hb, h2, h3⟩, h.bn, h.kc, h.km, own_kept h.rc fun b e => hb.block b (h.rc.lt b e).2, own_kept h.rm fun b e => hb.block b (h.rm.lt b e).2⟩
theorem TS.len (h : TS W B S C Kc Km vc vm w) : B.length = C.length := by obtain ⟨F, X, h1, h2, h3⟩ := h.px; rw [h1.pc.eb, h1.pc.ec]
theorem TS.join (h : TS W B S C Kc Km vc vm w) (j : JS w c m s s w') (hn : nw s ≤ 20) : TS W (B ++ [c]) (S ++ [s]) (C ++ [m]) Kc Km vc vm w' := by
  obtain ⟨F, X, h1, h2, h3⟩ := h.px
  obtain ⟨F', h4⟩ := h1.join j
  have hb := j.bel
  have hl := h.len
  refine ⟨⟨F', X, h4, h2, h3⟩, fun t ht => ?_, h.kc.more (by simp), h.km.more (by simp), ?_, ?_⟩
  · rcases List.mem_append.1 ht with ht | ht
    · exact h.bn t ht
    · simp at ht; subst ht; exact hn
  · rw [kCF_more c h.kc]
    exact own_kept h.rc fun b e => hb.block b (h.rc.lt b e).2
  · rw [kCF_more m (hl ▸ h.km)]
    exact own_kept h.rm fun b e => hb.block b (h.rm.lt b e).2
theorem TS.growC {b' : Nat} (h : TS W B S C Kc Km vc vm w) (hg : w.grownBy w' vc.ownBlock) (hk : ∀ j, k = some j → j < B.length) (row : w'.ownsRow W.heap.size 28 1 v' (Kc.length + 1) (kCF B Kc ++ kC B k)) (hv : v'.ownBlock = some b') (ho : vc.ownBlock = some b' ∨ b' = w.heap.size) : TS W B S C (Kc ++ [k]) Km v' vm w' := by
  obtain ⟨F, X, h1, h2, h3⟩ := h.px
  have row' : w'.ownsRow W.heap.size 28 1 v' (Kc ++ [k]).length (kCF B (Kc ++ [k])) := by
    rw [List.length_append, List.length_singleton, kCF_app]
    simpa [kCF] using row
  have hm : w'.ownsRow W.heap.size 29 1 vm Km.length (kCF C Km) := own_kept h.rm fun b e => by
    obtain ⟨cs, h8⟩ := own_tg h.rm e
    exact (grown_keep h.rc hg (by decide) h8).trans h8.symm
  refine ⟨⟨F, b' :: X, h1.grow h.rc (Nat.le_refl _) h2 hg (ho.imp (h2 b') id) (row.lt b' hv).2, ⟨fun b e => ?_, fun b e => List.mem_cons_of_mem _ (h3 b e)⟩⟩, h.bn, h.kc.snoc hk, h.km, row', hm⟩
  rw [hv] at e; cases e; exact List.mem_cons_self ..
theorem TS.growM {b' : Nat} (h : TS W B S C Kc Km vc vm w) (hg : w.grownBy w' vm.ownBlock) (hk : ∀ j, k = some j → j < B.length) (row : w'.ownsRow W.heap.size 29 1 v' (Km.length + 1) (kCF C Km ++ kC C k)) (hv : v'.ownBlock = some b') (ho : vm.ownBlock = some b' ∨ b' = w.heap.size) : TS W B S C Kc (Km ++ [k]) vc v' w' := by
  obtain ⟨F, X, h1, h2, h3⟩ := h.px
  have row' : w'.ownsRow W.heap.size 29 1 v' (Km ++ [k]).length (kCF C (Km ++ [k])) := by
    rw [List.length_append, List.length_singleton, kCF_app]
    simpa [kCF] using row
  have hm : w'.ownsRow W.heap.size 28 1 vc Kc.length (kCF B Kc) := own_kept h.rc fun b e => by
    obtain ⟨cs, h8⟩ := own_tg h.rc e
    exact (grown_keep h.rm hg (by decide) h8).trans h8.symm
  refine ⟨⟨F, b' :: X, h1.grow h.rm (Nat.le_refl _) h3 hg (ho.imp (h3 b') id) (row.lt b' hv).2, ⟨fun b e => List.mem_cons_of_mem _ (h2 b e), fun b e => ?_⟩⟩, h.bn, h.kc, h.km.snoc hk, hm, row'⟩
  rw [hv] at e; cases e; exact List.mem_cons_self ..
end
/-! When they are there: two rows of channels, two rows of cases. -/
structure TQ (W : World) (n : Nat) (B : List Nat) (S : List CS) (C : List Nat) (T : List CS) (K : List (Option Nat)) (A1 A2 Ax Ay : Option Addr) (l : List Ca) (w : World) : Prop where
  pc : ∃ F, PC W B S C T F w
  bs : BN n S
  bt : BN n T
  rc : RdC 28 B w A1 K.length K
  rm : RdC 29 C w A2 K.length K
  rx : RdX 65 B w Ax l.length l
  ry : RdX 97 C w Ay l.length l
section
variable {W w w' : World} {B C : List Nat} {S S' T T' : List CS} {K : List (Option Nat)} {A1 A2 Ax Ay : Option Addr} {l : List Ca} {n n' : Nat}
theorem TQ.bel (h : TQ W n B S C T K A1 A2 Ax Ay l w) : Below W.heap.size W w := by obtain ⟨F, h⟩ := h.pc; exact h.bel
theorem TQ.later (h : TQ W n B S C T K A1 A2 Ax Ay l w) (hb : Below w.heap.size w w') : TQ W n B S C T K A1 A2 Ax Ay l w' := by
  obtain ⟨F, h1⟩ := h.pc
  exact ⟨⟨F, h1.later hb⟩, h.bs, h.bt, h.rc.later hb, h.rm.later hb, h.rx.later hb, h.ry.later hb⟩
theorem TQ.to {F : Nat → Prop} (h : TQ W n B S C T K A1 A2 Ax Ay l w) (p : PC W B S C T F w) (k : PN W B S' C T' F w w') (h1 : BN n' S') (h2 : BN n' T') : TQ W n' B S' C T' K A1 A2 Ax Ay l w' ∧ Ko w w' := by
  obtain ⟨F', k1, k2, k3⟩ := k
  exact ⟨⟨⟨F', k1⟩, h1, h2, h.rc.kf o28 p k3, h.rm.kf o29 p k3, h.rx.kf o65 p k3, h.ry.kf o97 p k3⟩, k3.1, fun b cs t f e o => p.row k3 e o⟩
theorem BN.dS {n : Nat} {S : List CS} (h : BN n S) (l : List Ca) (hl : l.length ≤ 20) (df : Bool) (draw task : Int) : BN (n + 20) (doS S l df draw task).1 ∧ (doS S l df draw task).2.2.1.length ≤ 1 := by
  have h0 : BN (n + 20) S := h.mono (by omega)
  unfold doS
  by_cases h1 : 16 < l.length ∨ task < 0
  · rw [if_pos h1]; exact ⟨h0, by simp⟩
  · rw [if_neg h1]
    cases wrg S l l.length with
    | some i => exact ⟨h0, by simp⟩
    | none =>
      simp only
      cases (rdy S l l.length)[(draw % ((rdy S l l.length).length : Int)).toNat]? with
      | some p =>
        simp only
        cases l[p]? with
        | none => exact ⟨h0, by simp⟩
        | some x => exact ⟨(h.dX x).1.mono (by omega), (h.dX x).2⟩
      | none =>
        simp only
        cases df with
        | true => rw [if_pos rfl]; exact ⟨h0, by simp⟩
        | false => rw [if_neg (by simp)]; exact ⟨(h.pS l task l.length).mono (by omega), by simp⟩
theorem tq_ready {cap : Nat} (h : TQ W n B S C T K A1 A2 Ax Ay l w) (hn : n ≤ 100) (hl : l.length ≤ 20) : Calls Try.prog 14 #[.slice Ax l.length cap] w fun e w' => ∃ A c, e = .returned (.slice A (rdy S l l.length).length c) ∧ Rd w' w'.heap.size A (rdy S l l.length).length 1 (nI (rdy S l l.length)) ∧ TQ W n B S C T K A1 A2 Ax Ay l w' ∧ Ko w w' := by
  obtain ⟨F, p⟩ := h.pc
  refine (ready_any p.drop (h.bs.mono (by omega)) h.rx (by omega)).mono ?_
  rintro e w' ⟨A, c, rfl, hr, g⟩
  exact ⟨A, c, rfl, hr, h.to p (PN.lift p g) h.bs h.bt⟩
theorem tq_mready {cap : Nat} (h : TQ W n B S C S K A1 A2 Ax Ay l w) (hn : n ≤ 100) (hl : l.length ≤ 20) : Calls Try.prog 15 #[.slice Ay l.length cap] w fun e w' => ∃ A c, e = .returned (.slice A (rdy S l l.length).length c) ∧ Rd w' w'.heap.size A (rdy S l l.length).length 1 (nI (rdy S l l.length)) ∧ Below w.heap.size w w' := by
  obtain ⟨F, p⟩ := h.pc
  exact mready_any p ((p.gd h.bs).mono (by omega)) h.ry (by omega)
theorem tq_do {cap : Nat} (df : Bool) (draw task : Int) (hT : Wf task) (h : TQ W n B S C S K A1 A2 Ax Ay l w) (hn : n ≤ 80) (hl : l.length ≤ 20) : Calls Try.prog 16 #[.slice Ax l.length cap, .bool df, .int .i64 draw, .int .i64 task] w fun e w' => ∃ A c, e = .returned (.tuple #[reG (doS S l df draw task).2.1, .slice A (doS S l df draw task).2.2.1.length c, .int .i64 (doS S l df draw task).2.2.2]) ∧ RdK w' A (doS S l df draw task).2.2.1.length (doS S l df draw task).2.2.1 ∧ (TQ W (n + 20) B (doS S l df draw task).1 C S K A1 A2 Ax Ay l w' ∧ GdT n S) ∧ Ko w w' := by
  obtain ⟨F, p⟩ := h.pc
  have hg := p.gd h.bs
  refine (Do_any df draw task hT p.drop (h.bs.mono (by omega)) h.rx (by omega)).mono ?_
  rintro e w' ⟨A, c, rfl, hr, g⟩
  have := h.to p (PN.lift p g) (h.bs.dS l hl df draw task).1 (h.bt.mono (by omega) : BN (n + 20) S)
  exact ⟨A, c, rfl, hr, ⟨this.1, hg⟩, this.2⟩
theorem tq_mdo {cap : Nat} (df : Bool) (draw task : Int) (h : TQ W (n + 20) B (doS S l df draw task).1 C S K A1 A2 Ax Ay l w) (hg : GdT n S) (hn : n ≤ 80) (hl : l.length ≤ 20) : Calls Try.prog 17 #[.slice Ay l.length cap, .bool df, .int .i64 draw, .int .i64 task] w fun e w' => ∃ A c, e = .returned (.tuple #[reG (doS S l df draw task).2.1, .slice A (doS S l df draw task).2.2.1.length c, .int .i64 (doS S l df draw task).2.2.2]) ∧ RdK w' A (doS S l df draw task).2.2.1.length (doS S l df draw task).2.2.1 ∧ TQ W (n + 20) B (doS S l df draw task).1 C (doS S l df draw task).1 K A1 A2 Ax Ay l w' ∧ Ko w w' := by
  obtain ⟨F, p⟩ := h.pc
  refine (mDo_any df draw task p (hg.mono (by omega)) h.ry (by omega)).mono ?_
  rintro e w' ⟨A, c, rfl, hr, g, kf⟩
  exact ⟨A, c, rfl, hr, h.to p ⟨F, g, fun b hb => .inl hb, kf⟩ h.bs h.bs⟩
theorem tq_shows (k : Option Nat) (h : TQ W n B S C S K A1 A2 Ax Ay l w) (hn : n ≤ 100) : Calls Try.prog 19 #[.pointer (kAt B k), .pointer (kAt C k)] w fun e w' => e = .returned (.bool true) ∧ Below w.heap.size w w' := by
  obtain ⟨F, p⟩ := h.pc
  have hno : kAt B k = none → kAt C k = none → Calls Try.prog 19 #[.pointer (kAt B k), .pointer (kAt C k)] w fun e w' => e = .returned (.bool true) ∧ Below w.heap.size w w' := fun e1 e2 => by
    rw [e1, e2]
    refine (showsn w).mono ?_
    rintro e w' ⟨rfl, rfl⟩
    exact ⟨rfl, Below.refl _ _⟩
  cases k with
  | none => exact hno rfl rfl
  | some j =>
    cases hb : B[j]? with
    | none =>
      have hc : C[j]? = none := by rw [List.getElem?_eq_none_iff] at hb ⊢; rw [p.ec, ← p.eb]; exact hb
      exact hno (by simp [kAt, hb]) (by simp [kAt, hc])
    | some c =>
      obtain ⟨s, hs⟩ := get_len hb p.eb
      obtain ⟨m, hm⟩ := get_len hs p.ec.symm
      obtain ⟨W0, hj⟩ := p.js hb hs hm hs
      have e1 : kAt B (some j) = some ⟨c, 0, none⟩ := by simp [kAt, hb]
      have e2 : kAt C (some j) = some ⟨m, 0, none⟩ := by simp [kAt, hm]
      rw [e1, e2]
      exact shows_any hj (by have := h.bs.at hs; omega)
theorem tq_leave {cap : Nat} (t : Int) (h : TQ W n B S C S K A1 A2 Ax Ay l w) (hn : n ≤ 100) (hl : l.length ≤ 20) : Calls Try.prog 20 #[.slice Ax l.length cap, .int .i64 t] w fun e w' => e = .returned (.int .i64 (lvS S l t l.length).2) ∧ (TQ W n B (lvS S l t l.length).1 C S K A1 A2 Ax Ay l w' ∧ GdT n S) ∧ Ko w w' := by
  obtain ⟨F, p⟩ := h.pc
  have hg := p.gd h.bs
  refine (leave_any t p.drop (h.bs.mono (by omega)) h.rx (by omega)).mono ?_
  rintro e w' ⟨rfl, g⟩
  have := h.to p (PN.lift p g) (h.bs.lS l t l.length) h.bt
  exact ⟨rfl, ⟨this.1, hg⟩, this.2⟩
theorem tq_mleave {cap : Nat} (t : Int) (h : TQ W n B (lvS S l t l.length).1 C S K A1 A2 Ax Ay l w) (hg : GdT n S) (hn : n ≤ 100) (hl : l.length ≤ 20) : Calls Try.prog 21 #[.slice Ay l.length cap, .int .i64 t] w fun e w' => e = .returned (.int .i64 (lvS S l t l.length).2) ∧ TQ W n B (lvS S l t l.length).1 C (lvS S l t l.length).1 K A1 A2 Ax Ay l w' ∧ Ko w w' := by
  obtain ⟨F, p⟩ := h.pc
  refine (mleave_any t (PX.start p) (hg.mono (by omega)) h.ry (by omega)).mono ?_
  rintro e w' ⟨rfl, g, kf⟩
  exact ⟨rfl, h.to p ⟨F, g.pc, fun b hb => .inl hb, kf⟩ h.bs h.bs⟩
end
end Go.Proofs.Ytmcacmbllpphiaa
