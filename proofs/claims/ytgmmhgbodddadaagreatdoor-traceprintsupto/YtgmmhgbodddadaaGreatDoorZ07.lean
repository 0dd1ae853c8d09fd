/- The walk of the law TracePrints. -/
import Derived.Test.YtgmmhgbodddadaaGreatDoorZ06
import Derived.Deep.RegionWith
import Derived.Test.YtgmmhgbodddadaaGreatDoorZ04
import Derived.Laws.StructEq

namespace Go.Proofs.YtgmmhgbodddadaaGreatDoor
open Go.RowKit LX Go.Shelf Go.Extern.Stop Go.Stop Go.Extern
set_option linter.unusedVariables false

set_option maxRecDepth 100000 in
set_option maxHeartbeats 2000000 in
theorem wrong_any (E l : Int) (w : World) (hg : ErrT w) (hl : E = 0 → l = 0) :
    Calls Tryz.prog 35 #[sgV E l] w fun r w' => r = .returned (.agg #[.int .i64 E, .int .i64 l]) ∧ Below w.heap.size w w' := by
  by_cases hE : E = 0
  · have hl0 := hl hE
    subst hE hl0
    have hv : sgV 0 0 = .nilIface := rfl
    rw [hv]
    have cn : Hid (∀ W : World, ErrT W → Calls Tryz.prog 24 #[.nilIface] W fun r w' => r = .returned (.int .i64 0) ∧ Below W.heap.size W w') := fun W hW => tnumber_any 0 W hW
    clear hv hl
    go_enter Tryz.func35, Tryz.ntmps35
    go_wp2_with (first | (go_at_call 47; refine (as_nil _ _).mono ?_; rintro e w' ⟨rfl, rfl⟩) | fail)
    refine (cn.out _ (hg.below (by go_grown))).mono ?_
    rintro e w1 ⟨rfl, hb1⟩
    have q0 : w1.cell? ⟨w.heap.size, 0, none⟩ = some (.int .i64 0) := (hb1.cell (p := ⟨w.heap.size, 0, none⟩) (by first | (simp; done) | (simp; omega))).trans (by simp [go_sem])
    have q1 : w1.cell? ⟨w.heap.size, 1, none⟩ = some (.int .i64 0) := (hb1.cell (p := ⟨w.heap.size, 1, none⟩) (by first | (simp; done) | (simp; omega))).trans (by simp [go_sem])
    have f0 : w1.frozen? ⟨w.heap.size, 0, none⟩ = false := (hb1.frozen (p := ⟨w.heap.size, 0, none⟩) (by first | (simp; done) | (simp; omega))).trans (by simp [go_sem])
    have f1 : w1.frozen? ⟨w.heap.size, 1, none⟩ = false := (hb1.frozen (p := ⟨w.heap.size, 1, none⟩) (by first | (simp; done) | (simp; omega))).trans (by simp [go_sem])
    obtain ⟨hB1, -⟩ := bgX (n := w.heap.size) (W0 := w) (by go_grown) (by go_size) hb1
    clear hb1 cn
    have g0 : ((w1.setCell ⟨w.heap.size, 0, none⟩ (.int .i64 0)).setCell ⟨w.heap.size, 1, none⟩ (.int .i64 0)).cell? ⟨w.heap.size, 0, none⟩ = some (.int .i64 0) := by simp (maxDischargeDepth := 8) [go_sem, q0]
    have g1 : ((w1.setCell ⟨w.heap.size, 0, none⟩ (.int .i64 0)).setCell ⟨w.heap.size, 1, none⟩ (.int .i64 0)).cell? ⟨w.heap.size, 1, none⟩ = some (.int .i64 0) := by simp (maxDischargeDepth := 8) [go_sem, q1]
    have K9 : Below w.heap.size w ((w1.setCell ⟨w.heap.size, 0, none⟩ (.int .i64 0)).setCell ⟨w.heap.size, 1, none⟩ (.int .i64 0)) := (hB1.setCell (p := ⟨w.heap.size, 0, none⟩) (Nat.le_refl _) _).setCell (p := ⟨w.heap.size, 1, none⟩) (Nat.le_refl _) _
    go_wp2
    generalize (w1.setCell ⟨w.heap.size, 0, none⟩ (.int .i64 0)).setCell ⟨w.heap.size, 1, none⟩ (.int .i64 0) = W9 at g0 g1 K9 ⊢
    refine bodyPost_ret (by simp [results, Tryz.results35, go_sem, g0, g1]; try rfl) rfl ?_
    exact ⟨rfl, K9⟩
  · by_cases hl0 : l = 0
    · subst hl0
      have hv : sgV E 0 = errV E := by unfold sgV errV; rw [if_neg hE, if_neg hE, if_pos rfl]
      have cn : Hid (∀ W : World, ErrT W → Calls Tryz.prog 24 #[errV E] W fun r w' => r = .returned (.int .i64 E) ∧ Below W.heap.size W w') := fun W hW => tnumber_any E W hW
      rw [hv]
      rw [errV_ne hE] at cn ⊢
      clear hv hl hE
      go_enter Tryz.func35, Tryz.ntmps35
      go_wp2_with (first | (go_at_call 47; refine (as_missF E _ _ (hg.below (by go_grown))).mono ?_; rintro e w' ⟨rfl, rfl⟩) | fail)
      refine (cn.out _ (hg.below (by go_grown))).mono ?_
      rintro e w1 ⟨rfl, hb1⟩
      have q0 : w1.cell? ⟨w.heap.size, 0, none⟩ = some (.int .i64 0) := (hb1.cell (p := ⟨w.heap.size, 0, none⟩) (by first | (simp; done) | (simp; omega))).trans (by simp [go_sem])
      have q1 : w1.cell? ⟨w.heap.size, 1, none⟩ = some (.int .i64 0) := (hb1.cell (p := ⟨w.heap.size, 1, none⟩) (by first | (simp; done) | (simp; omega))).trans (by simp [go_sem])
      have f0 : w1.frozen? ⟨w.heap.size, 0, none⟩ = false := (hb1.frozen (p := ⟨w.heap.size, 0, none⟩) (by first | (simp; done) | (simp; omega))).trans (by simp [go_sem])
      have f1 : w1.frozen? ⟨w.heap.size, 1, none⟩ = false := (hb1.frozen (p := ⟨w.heap.size, 1, none⟩) (by first | (simp; done) | (simp; omega))).trans (by simp [go_sem])
      obtain ⟨hB1, -⟩ := bgX (n := w.heap.size) (W0 := w) (by go_grown) (by go_size) hb1
      clear hb1 cn
      have g0 : ((w1.setCell ⟨w.heap.size, 0, none⟩ (.int .i64 E)).setCell ⟨w.heap.size, 1, none⟩ (.int .i64 0)).cell? ⟨w.heap.size, 0, none⟩ = some (.int .i64 E) := by simp (maxDischargeDepth := 8) [go_sem, q0]
      have g1 : ((w1.setCell ⟨w.heap.size, 0, none⟩ (.int .i64 E)).setCell ⟨w.heap.size, 1, none⟩ (.int .i64 0)).cell? ⟨w.heap.size, 1, none⟩ = some (.int .i64 0) := by simp (maxDischargeDepth := 8) [go_sem, q1]
      have K9 : Below w.heap.size w ((w1.setCell ⟨w.heap.size, 0, none⟩ (.int .i64 E)).setCell ⟨w.heap.size, 1, none⟩ (.int .i64 0)) := (hB1.setCell (p := ⟨w.heap.size, 0, none⟩) (Nat.le_refl _) _).setCell (p := ⟨w.heap.size, 1, none⟩) (Nat.le_refl _) _
      go_wp2
      generalize (w1.setCell ⟨w.heap.size, 0, none⟩ (.int .i64 E)).setCell ⟨w.heap.size, 1, none⟩ (.int .i64 0) = W9 at g0 g1 K9 ⊢
      refine bodyPost_ret (by simp [results, Tryz.results35, go_sem, g0, g1]; try rfl) rfl ?_
      exact ⟨rfl, K9⟩
    · have hv : sgV E l = lineV l E := by unfold sgV; rw [if_neg hE, if_neg hl0]
      have cn : Hid (∀ W : World, ErrT W → Calls Tryz.prog 24 #[lineV l E] W fun r w' => r = .returned (.int .i64 E) ∧ Below W.heap.size W w') := fun W hW => tnumber_line l E W hW
      rw [hv]
      clear hv hl hE hl0
      go_enter Tryz.func35, Tryz.ntmps35
      go_upto_region 4 with (first | (go_at_call 47; refine (as_hitL l 0 (.iface 92 (.agg #[.int .i64 E])) .nilIface (w.heap.size + 1) _ (hg.below (by go_grown)) (by simp) (by simp) (by simp) (by simp) ⟨_, _, rfl⟩).mono ?_; rintro e w' ⟨rfl, rfl⟩))
      refine wpX_world ?_
      intro W0 hW0
      have d0 : W0.cell? ⟨w.heap.size + 1, 0, none⟩ = some (.int .i64 l) := by rw [hW0]; simp (maxDischargeDepth := 12) [go_sem]
      have q0 : W0.cell? ⟨w.heap.size, 0, none⟩ = some (.int .i64 0) := by rw [hW0]; simp (maxDischargeDepth := 12) [go_sem]
      have q1 : W0.cell? ⟨w.heap.size, 1, none⟩ = some (.int .i64 0) := by rw [hW0]; simp (maxDischargeDepth := 12) [go_sem]
      have f0 : W0.frozen? ⟨w.heap.size, 0, none⟩ = false := by rw [hW0]; simp (maxDischargeDepth := 12) [go_sem]
      have f1 : W0.frozen? ⟨w.heap.size, 1, none⟩ = false := by rw [hW0]; simp (maxDischargeDepth := 12) [go_sem]
      have k0 : Below w.heap.size w W0 := by rw [hW0]; go_grown
      have k1 : w.heap.size + 1 < W0.heap.size := by rw [hW0]; first | (simp; done) | (simp; omega)
      clear hW0
      have HG : Hid (ErrT W0) := hg.below k0
      have Q0 : Hid (∀ W, Below W0.heap.size W0 W → W.cell? ⟨w.heap.size, 0, none⟩ = some (.int .i64 0) ∧ W.cell? ⟨w.heap.size, 1, none⟩ = some (.int .i64 0) ∧ W.frozen? ⟨w.heap.size, 0, none⟩ = false ∧ W.frozen? ⟨w.heap.size, 1, none⟩ = false ∧ W.cell? ⟨w.heap.size + 1, 0, none⟩ = some (.int .i64 l) ∧ Below w.heap.size w W) := fun W hW =>
        ⟨(hW.cell (p := ⟨w.heap.size, 0, none⟩) (by first | (simp; done) | (simp; omega))).trans q0, (hW.cell (p := ⟨w.heap.size, 1, none⟩) (by first | (simp; done) | (simp; omega))).trans q1, (hW.frozen (p := ⟨w.heap.size, 0, none⟩) (by first | (simp; done) | (simp; omega))).trans f0, (hW.frozen (p := ⟨w.heap.size, 1, none⟩) (by first | (simp; done) | (simp; omega))).trans f1, (hW.cell (p := ⟨w.heap.size + 1, 0, none⟩) k1).trans d0, k0.trans (hW.mono k0.size)⟩
      go_region_with (go_at_call 24; refine (cn.out _ (HG.out.below (by go_grown))).mono ?_; rintro e w1 ⟨rfl, hb1⟩; obtain ⟨hB1, -⟩ := bgX (n := W0.heap.size) (W0 := W0) (by go_grown) (by go_size) hb1; clear hb1; obtain ⟨x0, x1, x2, x3, x4, x5⟩ := Q0.out w1 hB1)
      all_goals
        have g0 : ((w1.setCell ⟨w.heap.size, 0, none⟩ (.int .i64 E)).setCell ⟨w.heap.size, 1, none⟩ (.int .i64 l)).cell? ⟨w.heap.size, 0, none⟩ = some (.int .i64 E) := by simp (maxDischargeDepth := 8) [go_sem, x0]
        have g1 : ((w1.setCell ⟨w.heap.size, 0, none⟩ (.int .i64 E)).setCell ⟨w.heap.size, 1, none⟩ (.int .i64 l)).cell? ⟨w.heap.size, 1, none⟩ = some (.int .i64 l) := by simp (maxDischargeDepth := 8) [go_sem, x1]
        have K9 : Below w.heap.size w ((w1.setCell ⟨w.heap.size, 0, none⟩ (.int .i64 E)).setCell ⟨w.heap.size, 1, none⟩ (.int .i64 l)) := (x5.setCell (p := ⟨w.heap.size, 0, none⟩) (Nat.le_refl _) _).setCell (p := ⟨w.heap.size, 1, none⟩) (Nat.le_refl _) _
        go_wp2
        generalize (w1.setCell ⟨w.heap.size, 0, none⟩ (.int .i64 E)).setCell ⟨w.heap.size, 1, none⟩ (.int .i64 l) = W9 at g0 g1 K9 ⊢
        refine bodyPost_ret (by simp [results, Tryz.results35, go_sem, g0, g1]; try rfl) rfl ?_
        exact ⟨rfl, K9⟩

theorem own_setG {w : World} {N : Nat} {v : Value} {es : List Dec} (h : OwnG N v es w) {a : Addr} (ha : a.block < N) (u : Value) : OwnG N v es (w.setCell a u) := by
  obtain ⟨zs, h1, h2⟩ := h
  exact ⟨zs, ownsRow_setCell_below h1 ha u, h2.mono fun b xs k => ownsRow_setCell_below k ha u⟩
/-- What ParseSignature answers. -/
def PsOut (N : Nat) (w : World) (D : Int × Int × List Dec) (r : Ending) (w' : World) : Prop := Below N w w' ∧ ∃ p c, r = .returned (.tuple #[.slice p D.2.2.length c, .agg #[.int .i64 D.1, .int .i64 D.2.1]]) ∧ OwnG N (.slice p D.2.2.length c) D.2.2 w'
theorem PsOut.mk {N : Nat} {w w' : World} {D1 D2 : Int} {D3 : List Dec} {r : Ending} {p : Option Addr} {m c : Nat} (hb : Below N w w') (hm : m = D3.length) (ho : OwnG N (.slice p m c) D3 w') (hr : r = .returned (.tuple #[.slice p m c, .agg #[.int .i64 D1, .int .i64 D2]])) : PsOut N w (D1, D2, D3) r w' := by
  subst hm
  exact ⟨hb, p, c, hr, ho⟩
theorem rdS_zero (A : List Dec) (i : Nat) (L : List ByteArray) (h : (rdS A i L).1 = 0) : (rdS A i L).2.1 = 0 := by
  induction L generalizing A i with
  | nil => rfl
  | cons x ls ih =>
    unfold rdS at h ⊢
    by_cases h1 : cutE x = 0
    · rw [if_pos h1] at h ⊢
      by_cases h2 : (rdT A (tks x)).1 = 0
      · rw [if_pos h2] at h ⊢; exact ih _ _ h
      · rw [if_neg h2] at h; exact absurd h h2
    · rw [if_neg h1] at h; exact absurd h h1
theorem rsg_zero (s : ByteArray) (h : (rsg s).1 = 0) : (rsg s).2.1 = 0 := by
  unfold rsg at h ⊢
  by_cases h1 : 16384 < s.size
  · rw [if_pos h1] at h; cases h
  · rw [if_neg h1] at h ⊢; exact rdS_zero _ _ _ h

set_option maxRecDepth 100000 in
set_option maxHeartbeats 2000000 in
theorem parsesig_any (s : ByteArray) (w : World) (ht : Pow w) (he : Errs w) (h8 : 9 ≤ w.heap.size) (hg : ErrT w) :
    Calls Tryz.prog 15 #[.string s] w fun r w' => PsOut w.heap.size w (rsg s) r w' := by
  have ct : Hid (∀ W : World, Below w.heap.size w W → Calls Tryz.prog 34 #[.string s] W fun r w' => SgOut W.heap.size W (rsg s) r w') := fun W hW => rdsig_any s W (ht.below hW) (he.below hW h8) (Nat.le_trans h8 hW.size)
  have hz := rsg_zero s
  generalize rsg s = D at *
  obtain ⟨D1, D2, D3⟩ := D
  dsimp only at hz
  have cn : Hid (∀ W : World, ErrT W → Calls Tryz.prog 35 #[sgV D1 D2] W fun r w' => r = .returned (.agg #[.int .i64 D1, .int .i64 D2]) ∧ Below W.heap.size W w') := fun W hW => wrong_any D1 D2 W hW hz
  clear ht he h8
  go_enter Tryz.func15, Tryz.ntmps15
  go_wp2_with fail
  refine (ct.out _ (by go_grown)).mono ?_
  rintro r w1 ⟨hb1, p, c, rfl, ho⟩
  dsimp only
  have q0 : w1.cell? ⟨w.heap.size, 0, none⟩ = some (.int .i64 0) := (hb1.cell (p := ⟨w.heap.size, 0, none⟩) (by first | (simp; done) | (simp; omega))).trans (by simp [go_sem])
  have q1 : w1.cell? ⟨w.heap.size, 1, none⟩ = some (.int .i64 0) := (hb1.cell (p := ⟨w.heap.size, 1, none⟩) (by first | (simp; done) | (simp; omega))).trans (by simp [go_sem])
  have f0 : w1.frozen? ⟨w.heap.size, 0, none⟩ = false := (hb1.frozen (p := ⟨w.heap.size, 0, none⟩) (by first | (simp; done) | (simp; omega))).trans (by simp [go_sem])
  have f1 : w1.frozen? ⟨w.heap.size, 1, none⟩ = false := (hb1.frozen (p := ⟨w.heap.size, 1, none⟩) (by first | (simp; done) | (simp; omega))).trans (by simp [go_sem])
  have hs1 : w.heap.size < w1.heap.size := by have := hb1.size; simp at this; omega
  obtain ⟨hB1, -⟩ := bgX (n := w.heap.size) (W0 := w) (by go_grown) (by go_size) hb1
  have HO : Hid (OwnG (w.heap.size + 1) (.slice p D3.length c) D3 w1) := ho.base (by simp)
  clear hb1 ct ho
  obtain ⟨m, em⟩ : ∃ m : Nat, Hid (D3.length = m) := ⟨_, rfl⟩
  rw [em.out] at HO ⊢
  have cn2 : Hid (Calls Tryz.prog 35 #[sgV D1 D2] w1 fun r w' => r = .returned (.agg #[.int .i64 D1, .int .i64 D2]) ∧ Below w1.heap.size w1 w') := cn.out w1 (hg.below hB1)
  clear cn
  generalize sgV D1 D2 = EV at *
  go_wp2_with fail
  refine cn2.out.mono ?_
  rintro r w2 ⟨rfl, hb2⟩
  have p0 : w2.cell? ⟨w.heap.size, 0, none⟩ = some (.int .i64 0) := (hb2.cell (p := ⟨w.heap.size, 0, none⟩) hs1).trans q0
  have p1 : w2.cell? ⟨w.heap.size, 1, none⟩ = some (.int .i64 0) := (hb2.cell (p := ⟨w.heap.size, 1, none⟩) hs1).trans q1
  have h0 : w2.frozen? ⟨w.heap.size, 0, none⟩ = false := (hb2.frozen (p := ⟨w.heap.size, 0, none⟩) hs1).trans f0
  have h1 : w2.frozen? ⟨w.heap.size, 1, none⟩ = false := (hb2.frozen (p := ⟨w.heap.size, 1, none⟩) hs1).trans f1
  have K2 : Below w.heap.size w w2 := hB1.trans (hb2.mono hB1.size)
  have HO2 : Hid (OwnG (w.heap.size + 1) (.slice p m c) D3 w2) := HO.out.below hb2
  clear cn2 q0 q1 f0 f1 HO hb2
  have g0 : ((w2.setCell ⟨w.heap.size, 0, none⟩ (.int .i64 D1)).setCell ⟨w.heap.size, 1, none⟩ (.int .i64 D2)).cell? ⟨w.heap.size, 0, none⟩ = some (.int .i64 D1) := by simp (maxDischargeDepth := 8) [go_sem, p0]
  have g1 : ((w2.setCell ⟨w.heap.size, 0, none⟩ (.int .i64 D1)).setCell ⟨w.heap.size, 1, none⟩ (.int .i64 D2)).cell? ⟨w.heap.size, 1, none⟩ = some (.int .i64 D2) := by simp (maxDischargeDepth := 8) [go_sem, p1]
  have K9 : Below w.heap.size w ((w2.setCell ⟨w.heap.size, 0, none⟩ (.int .i64 D1)).setCell ⟨w.heap.size, 1, none⟩ (.int .i64 D2)) := (K2.setCell (p := ⟨w.heap.size, 0, none⟩) (Nat.le_refl _) _).setCell (p := ⟨w.heap.size, 1, none⟩) (Nat.le_refl _) _
  have O9 : Hid (OwnG w.heap.size (.slice p m c) D3 ((w2.setCell ⟨w.heap.size, 0, none⟩ (.int .i64 D1)).setCell ⟨w.heap.size, 1, none⟩ (.int .i64 D2))) := (own_setG (own_setG HO2.out (a := ⟨w.heap.size, 0, none⟩) (by simp) _) (a := ⟨w.heap.size, 1, none⟩) (by simp) _).base (by omega)
  go_wp2
  generalize (w2.setCell ⟨w.heap.size, 0, none⟩ (.int .i64 D1)).setCell ⟨w.heap.size, 1, none⟩ (.int .i64 D2) = W9 at g0 g1 K9 O9 ⊢
  refine bodyPost_ret (by simp [results, Tryz.results15, go_sem, g0, g1]; try rfl) rfl ?_
  exact PsOut.mk K9 em.out.symm O9.out rfl

end Go.Proofs.YtgmmhgbodddadaaGreatDoor

namespace Go.Proofs.YtgmmhgbodddadaaGreatDoor
open Go.RowKit LX Go.Shelf
set_option linter.unusedVariables false

theorem PpOut.mk {N N' : Nat} {w w' : World} {D1 D2 : Int} {D3 : List Evt} {r : Ending} {p : Option Addr} {m c : Nat} (hb : Below N w w') (hm : m = D3.length) (hN : N ≤ N') (ho : OwnE N' (.slice p m c) D3 w') (hr : r = .returned (.tuple #[.agg #[.int .i64 D2, .slice p m c], .int .i64 D1])) : PpOut N w (D1, D2, D3) r w' := by
  subst hm
  exact ⟨hb, p, c, hr, ho.base hN⟩
set_option maxRecDepth 100000 in
set_option maxHeartbeats 2000000 in
theorem parsept_any (s : ByteArray) (w : World) (ht : Pow w) (he : Errs w) (h8 : 9 ≤ w.heap.size) (hg : ErrT w) :
    Calls Tryz.prog 19 #[.string s] w fun r w' => PpOut w.heap.size w (rdP s) r w' := by
  have ct : Hid (∀ W : World, Below w.heap.size w W → Calls Tryz.prog 41 #[.string s] W fun r w' => PtOut W.heap.size W (rdP s) r w') := fun W hW => rdpt_any s W (ht.below hW) (he.below hW h8) (Nat.le_trans h8 hW.size)
  generalize rdP s = D at *
  obtain ⟨D1, D2, D3⟩ := D
  have cn : Hid (∀ W : World, ErrT W → Calls Tryz.prog 24 #[errV D1] W fun r w' => r = .returned (.int .i64 D1) ∧ Below W.heap.size W w') := fun W hW => tnumber_any D1 W hW
  clear ht he h8
  go_enter Tryz.func19, Tryz.ntmps19
  go_wp2_with fail
  refine (ct.out _ (by go_grown)).mono ?_
  rintro r w1 ⟨hb1, p, c, rfl, ho⟩
  dsimp only
  have q0 : w1.cell? ⟨w.heap.size, 0, none⟩ = some (.int .i64 0) := (hb1.cell (p := ⟨w.heap.size, 0, none⟩) (by simp)).trans (by simp [go_sem])
  have q1 : w1.cell? ⟨w.heap.size, 1, none⟩ = some (.slice none 0 0) := (hb1.cell (p := ⟨w.heap.size, 1, none⟩) (by simp)).trans (by simp [go_sem])
  have f0 : w1.frozen? ⟨w.heap.size, 0, none⟩ = false := (hb1.frozen (p := ⟨w.heap.size, 0, none⟩) (by simp)).trans (by simp [go_sem])
  have f1 : w1.frozen? ⟨w.heap.size, 1, none⟩ = false := (hb1.frozen (p := ⟨w.heap.size, 1, none⟩) (by simp)).trans (by simp [go_sem])
  have hs1 : w.heap.size < w1.heap.size := by have := hb1.size; simp at this; omega
  obtain ⟨hB1, -⟩ := bgX (n := w.heap.size) (W0 := w) (by go_grown) (by go_size) hb1
  have HO : Hid (OwnE (w.heap.size + 1) (.slice p D3.length c) D3 w1) := ho.base (by simp)
  clear hb1 ct ho
  obtain ⟨m, em⟩ : ∃ m : Nat, Hid (D3.length = m) := ⟨_, rfl⟩
  have HG : Hid (ErrT w1) := hg.below hB1
  rw [em.out] at HO ⊢
  generalize errV D1 = EV at *
  go_upto_region 2 with fail
  refine wpX_world ?_
  intro W0 hW0
  have d0 : W0.cell? ⟨w1.heap.size, 0, none⟩ = some (.int .i64 D2) := by rw [hW0]; simp [go_sem]
  have d1 : W0.cell? ⟨w1.heap.size, 1, none⟩ = some (.slice p m c) := by rw [hW0]; simp [go_sem]
  have k0 : Below w1.heap.size w1 W0 := by rw [hW0]; go_grown
  have k1 : w1.heap.size < W0.heap.size := by rw [hW0]; simp
  clear hW0
  have Q0 : Hid (∀ W, Below W0.heap.size W0 W → W.cell? ⟨w.heap.size, 0, none⟩ = some (.int .i64 0) ∧ W.cell? ⟨w.heap.size, 1, none⟩ = some (.slice none 0 0) ∧ W.frozen? ⟨w.heap.size, 0, none⟩ = false ∧ W.frozen? ⟨w.heap.size, 1, none⟩ = false ∧ W.cell? ⟨w1.heap.size, 0, none⟩ = some (.int .i64 D2) ∧ W.cell? ⟨w1.heap.size, 1, none⟩ = some (.slice p m c) ∧ Below w.heap.size w W ∧ OwnE (w.heap.size + 1) (.slice p m c) D3 W) := fun W hW => by
    have hx := k0.trans (hW.mono k0.size)
    exact ⟨(hx.cell (p := ⟨w.heap.size, 0, none⟩) hs1).trans q0, (hx.cell (p := ⟨w.heap.size, 1, none⟩) hs1).trans q1, (hx.frozen (p := ⟨w.heap.size, 0, none⟩) hs1).trans f0, (hx.frozen (p := ⟨w.heap.size, 1, none⟩) hs1).trans f1, (hW.cell (p := ⟨w1.heap.size, 0, none⟩) k1).trans d0, (hW.cell (p := ⟨w1.heap.size, 1, none⟩) k1).trans d1, hB1.trans (hx.mono hB1.size), HO.out.below hx⟩
  have HG0 : Hid (ErrT W0) := HG.out.below k0
  go_region_with (go_at_call 24; refine (cn.out _ (HG0.out.below (by go_grown))).mono ?_; rintro e w2 ⟨rfl, hb2⟩; obtain ⟨hB2, -⟩ := bgX (n := W0.heap.size) (W0 := W0) (by go_grown) (by go_size) hb2; clear hb2; obtain ⟨x0, x1, x2, x3, x4, x5, x6, x7⟩ := Q0.out w2 hB2)
  all_goals
    have g0 : ((w2.setCell ⟨w.heap.size, 0, none⟩ (.int .i64 D2)).setCell ⟨w.heap.size, 1, none⟩ (.slice p m c)).cell? ⟨w.heap.size, 0, none⟩ = some (.int .i64 D2) := by simp (maxDischargeDepth := 8) [go_sem, x0]
    have g1 : ((w2.setCell ⟨w.heap.size, 0, none⟩ (.int .i64 D2)).setCell ⟨w.heap.size, 1, none⟩ (.slice p m c)).cell? ⟨w.heap.size, 1, none⟩ = some (.slice p m c) := by simp (maxDischargeDepth := 8) [go_sem, x1]
    have K9 : Below w.heap.size w ((w2.setCell ⟨w.heap.size, 0, none⟩ (.int .i64 D2)).setCell ⟨w.heap.size, 1, none⟩ (.slice p m c)) := (x6.setCell (p := ⟨w.heap.size, 0, none⟩) (Nat.le_refl _) _).setCell (p := ⟨w.heap.size, 1, none⟩) (Nat.le_refl _) _
    have O9 : Hid (OwnE (w.heap.size + 1) (.slice p m c) D3 ((w2.setCell ⟨w.heap.size, 0, none⟩ (.int .i64 D2)).setCell ⟨w.heap.size, 1, none⟩ (.slice p m c))) := own_setE (own_setE x7 (a := ⟨w.heap.size, 0, none⟩) (by simp) _) (a := ⟨w.heap.size, 1, none⟩) (by simp) _
    go_wp2
    generalize (w2.setCell ⟨w.heap.size, 0, none⟩ (.int .i64 D2)).setCell ⟨w.heap.size, 1, none⟩ (.slice p m c) = W9 at g0 g1 K9 O9 ⊢
    refine bodyPost_ret (by simp [results, Tryz.results19, go_sem, g0, g1]; try rfl) rfl ?_
    exact PpOut.mk K9 em.out.symm (by omega) O9.out rfl

end Go.Proofs.YtgmmhgbodddadaaGreatDoor

namespace Go.Proofs.YtgmmhgbodddadaaGreatDoor
open Go.RowKit LX Go.Shelf
set_option maxRecDepth 100000

abbrev s1 : ByteArray := ⟨#[112, 32, 105, 110, 116, 10, 10, 113, 32, 105, 110, 116, 32, 115, 116, 114]⟩
abbrev s2 : ByteArray := ⟨#[112, 32, 105, 110, 116, 10, 112]⟩
abbrev s3 : ByteArray := ⟨#[64, 53, 32, 40, 112, 32, 49, 41, 32, 40, 113, 32, 50, 32, 34, 120, 34, 41]⟩
abbrev s4 : ByteArray := ⟨#[53]⟩
def lvL : List Dec := [⟨⟨#[112]⟩, [1]⟩, ⟨⟨#[113]⟩, [1, 3]⟩]
def lvE : List Evt := [⟨⟨#[112]⟩, [⟨1, 1, 0, ⟨#[]⟩⟩]⟩, ⟨⟨#[113]⟩, [⟨1, 2, 0, ⟨#[]⟩⟩, ⟨3, 0, 0, ⟨#[120]⟩⟩]⟩]
theorem lv1 : rsg s1 = (0, 0, lvL) := by kernel_rfl
theorem lv2 : rsg s2 = (1, 2, []) := by kernel_rfl
theorem lv3 : rdP s3 = (0, 5, lvE) := by kernel_rfl
theorem lv4 : rdP s4 = (70, 0, []) := by kernel_rfl
theorem lv5 : ppT 5 lvE = s3.data.toList := by kernel_rfl
theorem lv6 : ppE 5 lvE = 0 := by kernel_rfl
theorem lv7 : pointE lvL 5 lvE = 0 := by kernel_rfl
theorem lv8 : pointE (lvL.take 1) 5 lvE = 90 := by kernel_rfl
end Go.Proofs.YtgmmhgbodddadaaGreatDoor

namespace Go.Proofs.YtgmmhgbodddadaaGreatDoor
open Go.RowKit LX Go.Shelf
set_option linter.unusedVariables false

/-- What the library's variables hold. -/
structure Env (w : World) : Prop where
  pow : Pow w
  errs : Errs w
  size : 9 ≤ w.heap.size
  err : ErrT w
theorem Env.below {w W : World} (h : Env w) (hb : Below w.heap.size w W) : Env W := ⟨h.pow.below hb, h.errs.below hb h.size, Nat.le_trans h.size hb.size, h.err.below hb⟩

set_option maxRecDepth 100000 in
set_option maxHeartbeats 2000000 in
theorem trlive_any (w : World) (he : Env w) :
    Calls Tryz.prog 10 #[] w fun r w' => r = .returned (.bool true) ∧ Below w.heap.size w w' := by
  have c1 : Hid (∀ W : World, Below w.heap.size w W → Calls Tryz.prog 15 #[.string s1] W fun r w' => Below W.heap.size W w' ∧ ∃ p c, r = .returned (.tuple #[.slice p 2 c, .agg #[.int .i64 0, .int .i64 0]]) ∧ OwnG W.heap.size (.slice p 2 c) lvL w') := fun W hW => by
    have e := he.below hW
    have h := parsesig_any s1 W e.pow e.errs e.size e.err
    rw [lv1] at h
    exact h
  have c2 : Hid (∀ W : World, Below w.heap.size w W → Calls Tryz.prog 15 #[.string s2] W fun r w' => Below W.heap.size W w' ∧ ∃ p c, r = .returned (.tuple #[.slice p 0 c, .agg #[.int .i64 1, .int .i64 2]])) := fun W hW => by
    have e := he.below hW
    have h := parsesig_any s2 W e.pow e.errs e.size e.err
    rw [lv2] at h
    exact h.mono fun r w' ⟨k1, p, c, k2, _⟩ => ⟨k1, p, c, k2⟩
  have c3 : Hid (∀ W : World, Below w.heap.size w W → Calls Tryz.prog 19 #[.string s3] W fun r w' => Below W.heap.size W w' ∧ ∃ p c, r = .returned (.tuple #[.agg #[.int .i64 5, .slice p 2 c], .int .i64 0]) ∧ OwnE W.heap.size (.slice p 2 c) lvE w') := fun W hW => by
    have e := he.below hW
    have h := parsept_any s3 W e.pow e.errs e.size e.err
    rw [lv3] at h
    exact h
  have c4 : Hid (∀ W : World, Below w.heap.size w W → Calls Tryz.prog 19 #[.string s4] W fun r w' => Below W.heap.size W w' ∧ ∃ p c, r = .returned (.tuple #[.agg #[.int .i64 0, .slice p 0 c], .int .i64 70])) := fun W hW => by
    have e := he.below hW
    have h := parsept_any s4 W e.pow e.errs e.size e.err
    rw [lv4] at h
    exact h.mono fun r w' ⟨k1, p, c, k2, _⟩ => ⟨k1, p, c, k2⟩
  have fx : ∀ e ∈ lvE, ∀ v ∈ e.args, v.Fits := by
    intro e he v hv
    simp only [lvE, List.mem_cons, List.not_mem_nil, or_false] at he
    rcases he with rfl | rfl
    · simp only [List.mem_cons, List.not_mem_nil, or_false] at hv
      subst hv
      exact ⟨by decide, by decide, by decide, by decide⟩
    · simp only [List.mem_cons, List.not_mem_nil, or_false] at hv
      rcases hv with rfl | rfl
      · exact ⟨by decide, by decide, by decide, by decide⟩
      · exact ⟨by decide, by decide, by decide, by decide⟩
  have lv : ∀ e ∈ lvE, e.args.length ≤ 9223372036854775807 := by
    intro e he
    simp only [lvE, List.mem_cons, List.not_mem_nil, or_false] at he
    rcases he with rfl | rfl <;> decide
  have lk : ∀ d ∈ lvL, d.kinds.length ≤ 9223372036854775807 := by
    intro e he
    simp only [lvL, List.mem_cons, List.not_mem_nil, or_false] at he
    rcases he with rfl | rfl <;> decide
  have c5 : Hid (∀ (W : World) (p : Option Addr) (c : Nat), Below w.heap.size w W → EvsAt W (.slice p 2 c) lvE → Calls Tryz.prog 22 #[.agg #[.int .i64 5, .slice p 2 c]] W fun r w' => r = .returned (.tuple #[.string s3, .int .i64 0]) ∧ Below W.heap.size W w') := fun W p c hW hE => by
    have e := he.below hW
    have h := ppoint_any (.slice p 2 c) 5 lvE W e.err (by decide) (by decide) hE e.pow fx lv (by decide) (by decide)
    rw [lv5, lv6] at h
    exact h
  have c6 : Hid (∀ (W : World) (p q : Option Addr) (c d : Nat), Below w.heap.size w W → SigAt W (.slice q 2 d) lvL → EvsAt W (.slice p 2 c) lvE → Calls Tryz.prog 9 #[.slice q 2 d, .agg #[.int .i64 5, .slice p 2 c]] W fun r w' => r = .returned (.int .i64 0) ∧ Below W.heap.size W w') := fun W p q c d hW hS hE => by
    have e := he.below hW
    have h := checkpoint_any (.slice q 2 d) (.slice p 2 c) lvL 5 lvE W e.err hS hE fx (by decide) lk lv (by decide)
    rw [lv7] at h
    exact h
  have c7 : Hid (∀ (W : World) (p q : Option Addr) (c d : Nat), Below w.heap.size w W → SigAt W (.slice q 2 d) lvL → EvsAt W (.slice p 2 c) lvE → Calls Tryz.prog 9 #[.slice q 1 d, .agg #[.int .i64 5, .slice p 2 c]] W fun r w' => r = .returned (.int .i64 90) ∧ Below W.heap.size W w') := fun W p q c d hW hS hE => by
    have e := he.below hW
    have h := checkpoint_any (.slice q 1 d) (.slice p 2 c) (lvL.take 1) 5 lvE W e.err (hS.take 1 (by decide)) hE fx (by decide) (fun x hx => lk x (List.mem_of_mem_take hx)) lv (by decide)
    rw [lv8] at h
    exact h
  clear he fx lv lk
  go_enter Tryz.func10, Tryz.ntmps10
  go_wp2_with fail
  refine (c1.out _ (Below.refl _ _)).mono ?_
  rintro r w1 ⟨hB1, p1, d1, rfl, hO1⟩
  have HO1 : Hid (SigAt w1 (.slice p1 2 d1) lvL) := hO1.at
  have hd2 : 2 ≤ d1 := by
    obtain ⟨p1', d1', e1, hd1, -⟩ := HO1.out.form
    injection e1 with _ _ e1
    subst e1
    exact hd1
  have hd3 : (1 : Int) ≤ d1 := by omega
  clear hO1 c1
  go_wp2_with fail
  refine (c2.out _ (hB1.trans (Below.mono (B := w1.heap.size) (by go_grown) hB1.size))).mono ?_
  rintro r w2 ⟨hb2, p2, d2, rfl⟩
  have w0 : w2.cell? ⟨w1.heap.size, 0, none⟩ = some (.int .i64 0) := (hb2.cell (p := ⟨w1.heap.size, 0, none⟩) (by simp)).trans (by simp [go_sem])
  have w0' : w2.cell? ⟨w1.heap.size, 1, none⟩ = some (.int .i64 0) := (hb2.cell (p := ⟨w1.heap.size, 1, none⟩) (by simp)).trans (by simp [go_sem])
  have hs2 : w1.heap.size < w2.heap.size := by have := hb2.size; simp at this; omega
  obtain ⟨hB2, -⟩ := bgX (n := w1.heap.size) (W0 := w1) (by go_grown) (by go_size) hb2
  have K2 : Below w.heap.size w w2 := hB1.trans (hB2.mono hB1.size)
  have HO2 : Hid (SigAt w2 (.slice p1 2 d1) lvL) := HO1.out.below hB2
  clear hb2 c2 HO1 hB1
  go_wp2_with fail
  refine (c3.out _ (K2.trans (Below.mono (B := w2.heap.size) (by go_grown) K2.size))).mono ?_
  rintro r w3 ⟨hb3, p3, d3, rfl, hE3⟩
  have v0 : w3.cell? ⟨w2.heap.size, 0, none⟩ = some (.int .i64 1) := (hb3.cell (p := ⟨w2.heap.size, 0, none⟩) (by simp)).trans (by simp [go_sem])
  have v0' : w3.cell? ⟨w2.heap.size, 1, none⟩ = some (.int .i64 2) := (hb3.cell (p := ⟨w2.heap.size, 1, none⟩) (by simp)).trans (by simp [go_sem])
  have hs3 : w2.heap.size < w3.heap.size := by have := hb3.size; simp at this; omega
  obtain ⟨hB3, -⟩ := bgX (n := w2.heap.size) (W0 := w2) (by go_grown) (by go_size) hb3
  have K3 : Below w.heap.size w w3 := K2.trans (hB3.mono K2.size)
  have HO3 : Hid (SigAt w3 (.slice p1 2 d1) lvL) := HO2.out.below hB3
  have HE3 : Hid (EvsAt w3 (.slice p3 2 d3) lvE) := hE3.at
  have u0 := (hB3.cell (p := ⟨w1.heap.size, 0, none⟩) hs2).trans w0
  have u0' := (hB3.cell (p := ⟨w1.heap.size, 1, none⟩) hs2).trans w0'
  clear hb3 c3 HO2 hE3 w0 w0' hB2 K2
  go_wp2_with fail
  refine (c5.out _ _ _ (K3.trans (Below.mono (B := w3.heap.size) (by go_grown) K3.size)) (HE3.out.below (by go_grown))).mono ?_
  rintro r w4 ⟨rfl, hb4⟩
  have t0 : w4.cell? ⟨w3.heap.size, 0, none⟩ = some (.int .i64 5) := (hb4.cell (p := ⟨w3.heap.size, 0, none⟩) (by simp)).trans (by simp [go_sem])
  have t1 : w4.cell? ⟨w3.heap.size, 1, none⟩ = some (.slice p3 2 d3) := (hb4.cell (p := ⟨w3.heap.size, 1, none⟩) (by simp)).trans (by simp [go_sem])
  have hs4 : w3.heap.size < w4.heap.size := by have := hb4.size; simp at this; omega
  obtain ⟨hB4, -⟩ := bgX (n := w3.heap.size) (W0 := w3) (by go_grown) (by go_size) hb4
  have K4 : Below w.heap.size w w4 := K3.trans (hB4.mono K3.size)
  have hs13 : w1.heap.size < w3.heap.size := Nat.lt_of_lt_of_le hs2 hB3.size
  clear hb4 c5
  go_wp2_with fail
  refine (c4.out _ K4).mono ?_
  rintro r w5 ⟨hB5, p5, d5, rfl⟩
  have KB : Below w3.heap.size w3 w5 := hB4.trans (hB5.mono hB4.size)
  have K5 : Below w.heap.size w w5 := K4.trans (hB5.mono K4.size)
  have y0 := (KB.cell (p := ⟨w1.heap.size, 0, none⟩) hs13).trans u0
  have y0' := (KB.cell (p := ⟨w1.heap.size, 1, none⟩) hs13).trans u0'
  have x0 := (KB.cell (p := ⟨w2.heap.size, 0, none⟩) hs3).trans v0
  have x0' := (KB.cell (p := ⟨w2.heap.size, 1, none⟩) hs3).trans v0'
  have z0 := (hB5.cell (p := ⟨w3.heap.size, 0, none⟩) hs4).trans t0
  have z1 := (hB5.cell (p := ⟨w3.heap.size, 1, none⟩) hs4).trans t1
  have HO5 : Hid (SigAt w5 (.slice p1 2 d1) lvL) := HO3.out.below KB
  have HE5 : Hid (EvsAt w5 (.slice p3 2 d3) lvE) := HE3.out.below KB
  have hs15 : w1.heap.size < w5.heap.size := Nat.lt_of_lt_of_le hs13 KB.size
  have hs25 : w2.heap.size < w5.heap.size := Nat.lt_of_lt_of_le hs3 KB.size
  have hs35 : w3.heap.size < w5.heap.size := Nat.lt_of_lt_of_le hs4 hB5.size
  clear c4 HO3 HE3 u0 u0' v0 v0' t0 t1 hB4 hB5 KB K4 K3 hB3 hs13 hs4 hs3 hs2
  go_upto_region 7 with fail
  refine wpX_world ?_
  intro W0 hW0
  have kA : Below w5.heap.size w5 W0 := by rw [hW0]; go_grown
  clear hW0
  have d0 := (kA.cell (p := ⟨w3.heap.size, 0, none⟩) hs35).trans z0
  have d1' := (kA.cell (p := ⟨w3.heap.size, 1, none⟩) hs35).trans z1
  have k1 : w3.heap.size < W0.heap.size := Nat.lt_of_lt_of_le hs35 kA.size
  have K0 : Below w.heap.size w W0 := K5.trans (kA.mono K5.size)
  have C6 : Hid (∀ W : World, Below W0.heap.size W0 W → Calls Tryz.prog 9 #[.slice p1 2 d1, .agg #[.int .i64 5, .slice p3 2 d3]] W fun r w' => r = .returned (.int .i64 0) ∧ Below W.heap.size W w') := fun W hW => c6.out W _ _ _ _ (K0.trans (hW.mono K0.size)) ((HO5.out.below kA).below hW) ((HE5.out.below kA).below hW)
  have C7 : Hid (∀ W : World, Below W0.heap.size W0 W → Calls Tryz.prog 9 #[.slice p1 1 d1, .agg #[.int .i64 5, .slice p3 2 d3]] W fun r w' => r = .returned (.int .i64 90) ∧ Below W.heap.size W w') := fun W hW => c7.out W _ _ _ _ (K0.trans (hW.mono K0.size)) ((HO5.out.below kA).below hW) ((HE5.out.below kA).below hW)
  clear c6 c7 HO5 HE5 kA z0 z1 y0 y0' x0 x0' hs15 hs25 hs35 K5
  go_region_held3 (fun w' => w'.cell? ⟨w3.heap.size, 0, none⟩ = some (.int .i64 5) ∧ w'.cell? ⟨w3.heap.size, 1, none⟩ = some (.slice p3 2 d3)) (exact ⟨bclX (n := W0.heap.size) (by go_grown) d0 k1, bclX (n := W0.heap.size) (by go_grown) d1' k1⟩)
    (first
      | (go_at_call_of 9 (Value.slice p1 2 d1); refine (C6.out _ (by go_grown)).mono ?_; rintro e v1 ⟨rfl, hb1⟩; obtain ⟨hX1, hn1⟩ := bgX (n := W0.heap.size) (W0 := W0) (by go_grown) (by go_size) hb1)
      | (go_at_call_of 9 (Value.slice p1 1 d1); refine (C7.out _ (by go_grown)).mono ?_; rintro e v2 ⟨rfl, hb2⟩; obtain ⟨hX2, hn2⟩ := bgX (n := W0.heap.size) (W0 := W0) (by go_grown) (by go_size) hb2))
  all_goals
    go_wp2
    go_ret
    exact ⟨rfl, K0.trans (Below.mono (B := W0.heap.size) (by go_grown) K0.size)⟩

end Go.Proofs.YtgmmhgbodddadaaGreatDoor

namespace Go.Proofs.YtgmmhgbodddadaaGreatDoor
open Go.RowKit LX Go.Shelf
set_option linter.unusedVariables false

set_option maxRecDepth 100000 in
set_option maxHeartbeats 2000000 in
theorem trprints_walk (V : Value) (t : Int) (es : List Evt) (w : World) (he : Env w) (t1 : -9223372036854775808 ≤ t) (t2 : t ≤ 9223372036854775807) (hV : EvsAt w V es) (fx : ∀ e ∈ es, ∀ v ∈ e.args, v.Fits) (lv : ∀ e ∈ es, e.args.length ≤ 9223372036854775807) (le : es.length ≤ 9223372036854775807) (hl : evsW es + 1000 ≤ 140737488355328) :
    Calls Tryz.prog 8 #[.agg #[.int .i64 t, V]] w fun r w' => r = .returned (.bool true) ∧ Below w.heap.size w w' := by
  have c1 : Hid (∀ W : World, Below w.heap.size w W → Calls Tryz.prog 22 #[.agg #[.int .i64 t, V]] W fun r w' => r = .returned (.tuple #[.string ⟨(ppT t es).toArray⟩, .int .i64 (ppE t es)]) ∧ Below W.heap.size W w') := fun W hW => ppoint_any V t es W (he.below hW).err t1 t2 (hV.below hW) (he.below hW).pow fx lv le hl
  have c2 : Hid (∀ W : World, Below w.heap.size w W → Calls Tryz.prog 23 #[.agg #[.int .i64 t, V]] W fun r w' => r = .returned (.tuple #[.string ⟨(ppT t es).toArray⟩, .int .i64 (ppE t es)]) ∧ Below W.heap.size W w') := fun W hW => rppoint_any V t es W t1 t2 (hV.below hW) fx lv le hl
  have c5 : Hid (∀ W : World, Below w.heap.size w W → Calls Tryz.prog 10 #[] W fun r w' => r = .returned (.bool true) ∧ Below W.heap.size W w') := fun W hW => trlive_any W (he.below hW)
  obtain ⟨pv, cv, rfl, -⟩ := hV.form
  generalize (⟨(ppT t es).toArray⟩ : ByteArray) = Q at *
  generalize ppE t es = E at *
  clear hV fx lv he hl
  generalize es.length = m at *
  have hQ : (Q.toList == Q.toList) = true := by simp
  go_enter Tryz.func8, Tryz.ntmps8
  go_wp2_with fail
  refine (c1.out _ (by go_grown)).mono ?_
  rintro r w1 ⟨rfl, hb1⟩
  have b0 : w1.cell? ⟨w.heap.size, 0, none⟩ = some (.int .i64 t) := (hb1.cell (p := ⟨w.heap.size, 0, none⟩) (by simp)).trans (by simp [go_sem])
  have b1 : w1.cell? ⟨w.heap.size, 1, none⟩ = some (.slice pv m cv) := (hb1.cell (p := ⟨w.heap.size, 1, none⟩) (by simp)).trans (by simp [go_sem])
  have hs1 : w.heap.size < w1.heap.size := by have := hb1.size; simp at this; omega
  obtain ⟨K1, -⟩ := bgX (n := w.heap.size) (W0 := w) (by go_grown) (by go_size) hb1
  clear hb1 c1
  go_wp2_with fail
  refine (c2.out _ K1).mono ?_
  rintro r w2 ⟨rfl, hB2⟩
  have K2 : Below w.heap.size w w2 := K1.trans (hB2.mono K1.size)
  clear b0 b1 c2
  go_wp2_with fail
  refine (c5.out _ K2).mono ?_
  rintro r w5 ⟨rfl, hB5⟩
  have K5 : Below w.heap.size w w5 := K2.trans (hB5.mono K2.size)
  clear c5 hB2 hB5 K2 K1
  go_wp2
  go_ret
  exact ⟨by first | rfl | simp, K5⟩
end Go.Proofs.YtgmmhgbodddadaaGreatDoor
