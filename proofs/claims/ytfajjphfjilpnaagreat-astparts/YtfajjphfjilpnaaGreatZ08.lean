/- The document's walk over a formula or a regex, where an error stands. -/
import Derived.Test.YtfajjphfjilpnaaGreatZ06
import Derived.RangeFuncNested
import Derived.RangeFuncBound
import Derived.RangeFuncCalls
import Derived.RangeFuncLeaves
import Derived.Shelf.Abstract
import Derived.Shelf.RegionOpen
import Derived.WalkKit
import Derived.OwnWalk
import Derived.OwnWalkIn
import Derived.TacticsInMore
import Derived.LoopNIn
import Derived.LoopIn
import Derived.Laws.OwnMore
import Derived.Lib.Builder
import Derived.Maps.AppendAt
import Derived.Handy
import Derived.IntWalk
import Derived.Deep.Cut
import Derived.BigQuiet
import Derived.Deep.QuietTactic
import Derived.WalkLawsBesides
import Derived.WalkMore
import Derived.WalkSpells
import Derived.Deep.RegionHeld3
import Derived.Deep.RegionLaw
import Derived.Test.YtfajjphfjilpnaaGreatRows
import Derived.Test.YtfajjphfjilpnaaGreatZ03
import Derived.Test.YtfajjphfjilpnaaGreatZ02
import Derived.Test.YtfajjphfjilpnaaGreatZ04

namespace Go.Proofs.YtfajjphfjilpnaaGreat
open Go.RowKit LX Go.Shelf
set_option linter.unusedVariables false

theorem wpW {P : Program} {c : Code} {Q : Exit → Act → World → Prop} {a : Act} {w : World} (h : ∀ W, W = w → c.wp P Q a W) : c.wp P Q a w := h w rfl
/-- Has a formula its form, but for names and the interval? -/
def formB (u : Us) (nm : ByteArray) (op lo hi : Int) (o : Bool) (nv nt ns nr : Nat) : Bool := (u.nm || nm.toList == ([] : List UInt8)) && (opB op u.op && ((u.iv || itvZ lo hi o) && (soB nv u.v && (soB nt u.t && (soB ns u.s && soB nr u.r)))))

set_option maxRecDepth 100000 in
set_option maxHeartbeats 16000000 in
theorem rform_any (k op lo hi : Int) (nm : ByteArray) (o : Bool) (pv pt ps pr : Option Addr) (nv cv nt ct ns cs nr cr : Nat) (w : World) :
    Calls Tryz.prog 54 #[.agg #[.int .i64 k, .string nm, .int .i64 op, .slice pv nv cv, .slice pt nt ct, .int .i64 lo, .int .i64 hi, .bool o, .slice ps ns cs, .slice pr nr cr]] w fun r w' => r = .returned (.bool (formB (usO k) nm op lo hi o nv nt ns nr)) ∧ Below w.heap.size w w' := by
  have cU : Hid (∀ W : World, Calls Tryz.prog 79 #[.int .i64 k] W fun e w' => e = .returned (.agg #[.bool (usO k).nm, .bool (usO k).op, .bool (usO k).iv, .int .i64 (usO k).v, .int .i64 (usO k).t, .int .i64 (usO k).s, .int .i64 (usO k).r]) ∧ Below W.heap.size W w') := fun W => ruses_any k W
  have cA : Hid (∀ W : World, Calls Tryz.prog 80 #[.int .i64 (nv : Int), .int .i64 (usO k).v] W fun e w' => e = .returned (.bool (soB nv (usO k).v)) ∧ w' = W) := fun W => rso_any _ _ W
  have cB : Hid (∀ W : World, Calls Tryz.prog 80 #[.int .i64 (nt : Int), .int .i64 (usO k).t] W fun e w' => e = .returned (.bool (soB nt (usO k).t)) ∧ w' = W) := fun W => rso_any _ _ W
  have cC : Hid (∀ W : World, Calls Tryz.prog 80 #[.int .i64 (ns : Int), .int .i64 (usO k).s] W fun e w' => e = .returned (.bool (soB ns (usO k).s)) ∧ w' = W) := fun W => rso_any _ _ W
  have cD : Hid (∀ W : World, Calls Tryz.prog 80 #[.int .i64 (nr : Int), .int .i64 (usO k).r] W fun e w' => e = .returned (.bool (soB nr (usO k).r)) ∧ w' = W) := fun W => rso_any _ _ W
  obtain ⟨R, eR⟩ : ∃ R : Bool, Hid (R = formB (usO k) nm op lo hi o nv nt ns nr) := ⟨_, rfl⟩
  rw [← eR.out]
  have hR0 : Hid (R = (((usO k).nm || nm.toList == ([] : List UInt8)) && (opB op (usO k).op && (((usO k).iv || itvZ lo hi o) && (soB nv (usO k).v && (soB nt (usO k).t && (soB ns (usO k).s && soB nr (usO k).r))))))) := eR.out
  clear eR
  generalize soB nv (usO k).v = A at *
  generalize soB nt (usO k).t = B at *
  generalize soB ns (usO k).s = C at *
  generalize soB nr (usO k).r = D at *
  generalize (usO k).nm = un at *
  generalize (usO k).op = uo at *
  generalize (usO k).iv = ui at *
  generalize (usO k).v = uv at *
  generalize (usO k).t = ut at *
  generalize (usO k).s = us at *
  generalize (usO k).r = ur at *
  obtain ⟨P1, hP1⟩ : ∃ b : Bool, Hid (b = (un || nm.toList == ([] : List UInt8))) := ⟨_, rfl⟩
  obtain ⟨P2, hP2⟩ : ∃ b : Bool, Hid (b = opB op uo) := ⟨_, rfl⟩
  obtain ⟨P3, hP3⟩ : ∃ b : Bool, Hid (b = (ui || itvZ lo hi o)) := ⟨_, rfl⟩
  have hR : Hid (R = (P1 && (P2 && (P3 && (A && (B && (C && D))))))) := by rw [hP1.out, hP2.out, hP3.out]; exact hR0.out
  clear hR0
  go_enter Tryz.func54, Tryz.ntmps54
  go_wp2_with fail
  refine (cU.out _).mono ?_
  rintro r w1 ⟨rfl, hb1⟩
  have hB1 : Below w.heap.size w w1 := Below.trans (by go_grown) (hb1.mono (by simp))
  have HX1 : Hid (w1.heap[w.heap.size]? = some (.cells #[.int .i64 k, .string nm, .int .i64 op, .slice pv nv cv, .slice pt nt ct, .int .i64 lo, .int .i64 hi, .bool o, .slice ps ns cs, .slice pr nr cr] 29 (0, 0))) := (hb1.block w.heap.size (by simp)).trans (heap_allocA w _)
  have hs1 : w.heap.size < w1.heap.size := blkL HX1.out
  clear hb1 cU
  go_upto_region 2 with fail
  refine wpW ?_
  intro W0 hW0
  have kA : Below w1.heap.size w1 W0 := by rw [hW0]; go_grown
  have hUB : Hid (W0.heap[w1.heap.size]? = some (.cells #[.bool un, .bool uo, .bool ui, .int .i64 uv, .int .i64 ut, .int .i64 us, .int .i64 ur] 105 (0, 0))) := by rw [hW0]; exact heap_allocA w1 _
  have hFB : Hid (W0.heap[w.heap.size]? = some (.cells #[.int .i64 k, .string nm, .int .i64 op, .slice pv nv cv, .slice pt nt ct, .int .i64 lo, .int .i64 hi, .bool o, .slice ps ns cs, .slice pr nr cr] 29 (0, 0))) := blkB HX1.out kA
  have K0 : Below w.heap.size w W0 := hB1.trans (kA.mono hB1.size)
  clear hW0 HX1 kA hB1
  have e0 : W0.cell? ⟨w.heap.size, 0, none⟩ = some (.int .i64 k) := by rw [Lib.cell_of_heap hFB.out]; rfl
  have e1 : W0.cell? ⟨w.heap.size, 1, none⟩ = some (.string nm) := by rw [Lib.cell_of_heap hFB.out]; rfl
  have e2 : W0.cell? ⟨w.heap.size, 2, none⟩ = some (.int .i64 op) := by rw [Lib.cell_of_heap hFB.out]; rfl
  have e3 : W0.cell? ⟨w.heap.size, 3, none⟩ = some (.slice pv nv cv) := by rw [Lib.cell_of_heap hFB.out]; rfl
  have e4 : W0.cell? ⟨w.heap.size, 4, none⟩ = some (.slice pt nt ct) := by rw [Lib.cell_of_heap hFB.out]; rfl
  have e5 : W0.cell? ⟨w.heap.size, 5, none⟩ = some (.int .i64 lo) := by rw [Lib.cell_of_heap hFB.out]; rfl
  have e6 : W0.cell? ⟨w.heap.size, 6, none⟩ = some (.int .i64 hi) := by rw [Lib.cell_of_heap hFB.out]; rfl
  have e7 : W0.cell? ⟨w.heap.size, 7, none⟩ = some (.bool o) := by rw [Lib.cell_of_heap hFB.out]; rfl
  have e8 : W0.cell? ⟨w.heap.size, 8, none⟩ = some (.slice ps ns cs) := by rw [Lib.cell_of_heap hFB.out]; rfl
  have e9 : W0.cell? ⟨w.heap.size, 9, none⟩ = some (.slice pr nr cr) := by rw [Lib.cell_of_heap hFB.out]; rfl
  have g0 : W0.cell? ⟨w1.heap.size, 0, none⟩ = some (.bool un) := by rw [Lib.cell_of_heap hUB.out]; rfl
  have g1 : W0.cell? ⟨w1.heap.size, 1, none⟩ = some (.bool uo) := by rw [Lib.cell_of_heap hUB.out]; rfl
  have g2 : W0.cell? ⟨w1.heap.size, 2, none⟩ = some (.bool ui) := by rw [Lib.cell_of_heap hUB.out]; rfl
  have g3 : W0.cell? ⟨w1.heap.size, 3, none⟩ = some (.int .i64 uv) := by rw [Lib.cell_of_heap hUB.out]; rfl
  have g4 : W0.cell? ⟨w1.heap.size, 4, none⟩ = some (.int .i64 ut) := by rw [Lib.cell_of_heap hUB.out]; rfl
  have g5 : W0.cell? ⟨w1.heap.size, 5, none⟩ = some (.int .i64 us) := by rw [Lib.cell_of_heap hUB.out]; rfl
  have g6 : W0.cell? ⟨w1.heap.size, 6, none⟩ = some (.int .i64 ur) := by rw [Lib.cell_of_heap hUB.out]; rfl
  clear hFB hUB
  cases un with
  | true =>
    have z1 : P1 = true := hP1.out
    cases uo with
    | false =>
      by_cases ho : op = 0
      case neg =>
        have ho1 : (op == 0) = false := by simp [ho]
        have ho2 : (op != 0) = true := by simp [ho]
        have hz : P2 = false := by rw [hP2.out]; exact ho1
        go_wp2
        go_ret
        exact ⟨retb (by rw [hR.out, hz, Bool.false_and, Bool.and_false]; try rfl), K0⟩
      have z2 : P2 = true := by rw [hP2.out, ho]; rfl
      have ho1 : (op == 0) = true := by simp [ho]
      have ho2 : (op != 0) = false := by simp [ho]
      clear ho
      cases ui with
      | true =>
        have z3 : P3 = true := hP3.out
        have hR2 : Hid (R = (A && (B && (C && D)))) := by rw [hR.out, z1, z2, z3]; rfl
        clear hR hP1 hP2 hP3 z1 z2 z3
        go_wp2_with fail
        refine (cA.out _).mono ?_
        rintro r w2 ⟨rfl, rfl⟩
        go_wp2_with fail
        refine (cB.out _).mono ?_
        rintro r w3 ⟨rfl, rfl⟩
        go_wp2_with fail
        refine (cC.out _).mono ?_
        rintro r w4 ⟨rfl, rfl⟩
        go_wp2_with fail
        refine (cD.out _).mono ?_
        rintro r w5 ⟨rfl, rfl⟩
        clear cA cB cC cD
        cases A with
        | false =>
          go_wp2
          go_ret
          exact ⟨retb hR2.out.symm, K0⟩
        | true =>
        cases B with
        | false =>
          go_wp2
          go_ret
          exact ⟨retb hR2.out.symm, K0⟩
        | true =>
        cases C with
        | false =>
          go_wp2
          go_ret
          exact ⟨retb hR2.out.symm, K0⟩
        | true =>
        go_wp2
        go_ret
        exact ⟨retb hR2.out.symm, K0⟩
      | false =>
        by_cases hl : lo = 0
        case neg =>
          have hl1 : (lo == 0) = false := by simp [hl]
          have hl2 : (lo != 0) = true := by simp [hl]
          have hz : P3 = false := by rw [hP3.out]; unfold itvZ; rw [hl1]; rfl
          go_wp2
          go_ret
          exact ⟨retb (by rw [hR.out, hz, Bool.false_and, Bool.and_false, Bool.and_false]; try rfl), K0⟩
        have hl1 : (lo == 0) = true := by simp [hl]
        by_cases hh : hi = 0
        case neg =>
          have hh1 : (hi == 0) = false := by simp [hh]
          have hh2 : (hi != 0) = true := by simp [hh]
          have hz : P3 = false := by rw [hP3.out]; unfold itvZ; rw [hh1]; simp
          go_wp2
          go_ret
          exact ⟨retb (by rw [hR.out, hz, Bool.false_and, Bool.and_false, Bool.and_false]; try rfl), K0⟩
        have hh1 : (hi == 0) = true := by simp [hh]
        cases o with
        | true =>
          have hz : P3 = false := by rw [hP3.out]; unfold itvZ; simp
          go_wp2
          go_ret
          exact ⟨retb (by rw [hR.out, hz, Bool.false_and, Bool.and_false, Bool.and_false]; try rfl), K0⟩
        | false =>
          have z3 : P3 = true := by rw [hP3.out]; unfold itvZ; rw [hl1, hh1]; rfl
          subst hl hh
          have hR2 : Hid (R = (A && (B && (C && D)))) := by rw [hR.out, z1, z2, z3]; rfl
          clear hR hP1 hP2 hP3 z1 z2 z3
          go_wp2_with fail
          refine (cA.out _).mono ?_
          rintro r w2 ⟨rfl, rfl⟩
          go_wp2_with fail
          refine (cB.out _).mono ?_
          rintro r w3 ⟨rfl, rfl⟩
          go_wp2_with fail
          refine (cC.out _).mono ?_
          rintro r w4 ⟨rfl, rfl⟩
          go_wp2_with fail
          refine (cD.out _).mono ?_
          rintro r w5 ⟨rfl, rfl⟩
          clear cA cB cC cD
          cases A with
          | false =>
            go_wp2
            go_ret
            exact ⟨retb hR2.out.symm, K0⟩
          | true =>
          cases B with
          | false =>
            go_wp2
            go_ret
            exact ⟨retb hR2.out.symm, K0⟩
          | true =>
          cases C with
          | false =>
            go_wp2
            go_ret
            exact ⟨retb hR2.out.symm, K0⟩
          | true =>
          go_wp2
          go_ret
          exact ⟨retb hR2.out.symm, K0⟩
    | true =>
      by_cases ho : 1 ≤ op
      case neg =>
        have ho2 : op < 1 := by omega
        have hz : P2 = false := by rw [hP2.out]; exact decide_eq_false (fun h => ho h.1)
        go_wp2
        go_ret
        exact ⟨retb (by rw [hR.out, hz, Bool.false_and, Bool.and_false]; try rfl), K0⟩
      have ho3 : ¬ op < 1 := by omega
      by_cases hp : op ≤ 6
      case neg =>
        have ho2 : 6 < op := by omega
        have hz : P2 = false := by rw [hP2.out]; exact decide_eq_false (fun h => hp h.2)
        go_wp2
        go_ret
        exact ⟨retb (by rw [hR.out, hz, Bool.false_and, Bool.and_false]; try rfl), K0⟩
      have ho2 : ¬ 6 < op := by omega
      have z2 : P2 = true := by rw [hP2.out]; exact decide_eq_true ⟨ho, hp⟩
      cases ui with
      | true =>
        have z3 : P3 = true := hP3.out
        have hR2 : Hid (R = (A && (B && (C && D)))) := by rw [hR.out, z1, z2, z3]; rfl
        clear hR hP1 hP2 hP3 z1 z2 z3
        go_wp2_with fail
        refine (cA.out _).mono ?_
        rintro r w2 ⟨rfl, rfl⟩
        go_wp2_with fail
        refine (cB.out _).mono ?_
        rintro r w3 ⟨rfl, rfl⟩
        go_wp2_with fail
        refine (cC.out _).mono ?_
        rintro r w4 ⟨rfl, rfl⟩
        go_wp2_with fail
        refine (cD.out _).mono ?_
        rintro r w5 ⟨rfl, rfl⟩
        clear cA cB cC cD
        cases A with
        | false =>
          go_wp2
          go_ret
          exact ⟨retb hR2.out.symm, K0⟩
        | true =>
        cases B with
        | false =>
          go_wp2
          go_ret
          exact ⟨retb hR2.out.symm, K0⟩
        | true =>
        cases C with
        | false =>
          go_wp2
          go_ret
          exact ⟨retb hR2.out.symm, K0⟩
        | true =>
        go_wp2
        go_ret
        exact ⟨retb hR2.out.symm, K0⟩
      | false =>
        by_cases hl : lo = 0
        case neg =>
          have hl1 : (lo == 0) = false := by simp [hl]
          have hl2 : (lo != 0) = true := by simp [hl]
          have hz : P3 = false := by rw [hP3.out]; unfold itvZ; rw [hl1]; rfl
          go_wp2
          go_ret
          exact ⟨retb (by rw [hR.out, hz, Bool.false_and, Bool.and_false, Bool.and_false]; try rfl), K0⟩
        have hl1 : (lo == 0) = true := by simp [hl]
        by_cases hh : hi = 0
        case neg =>
          have hh1 : (hi == 0) = false := by simp [hh]
          have hh2 : (hi != 0) = true := by simp [hh]
          have hz : P3 = false := by rw [hP3.out]; unfold itvZ; rw [hh1]; simp
          go_wp2
          go_ret
          exact ⟨retb (by rw [hR.out, hz, Bool.false_and, Bool.and_false, Bool.and_false]; try rfl), K0⟩
        have hh1 : (hi == 0) = true := by simp [hh]
        cases o with
        | true =>
          have hz : P3 = false := by rw [hP3.out]; unfold itvZ; simp
          go_wp2
          go_ret
          exact ⟨retb (by rw [hR.out, hz, Bool.false_and, Bool.and_false, Bool.and_false]; try rfl), K0⟩
        | false =>
          have z3 : P3 = true := by rw [hP3.out]; unfold itvZ; rw [hl1, hh1]; rfl
          subst hl hh
          have hR2 : Hid (R = (A && (B && (C && D)))) := by rw [hR.out, z1, z2, z3]; rfl
          clear hR hP1 hP2 hP3 z1 z2 z3
          go_wp2_with fail
          refine (cA.out _).mono ?_
          rintro r w2 ⟨rfl, rfl⟩
          go_wp2_with fail
          refine (cB.out _).mono ?_
          rintro r w3 ⟨rfl, rfl⟩
          go_wp2_with fail
          refine (cC.out _).mono ?_
          rintro r w4 ⟨rfl, rfl⟩
          go_wp2_with fail
          refine (cD.out _).mono ?_
          rintro r w5 ⟨rfl, rfl⟩
          clear cA cB cC cD
          cases A with
          | false =>
            go_wp2
            go_ret
            exact ⟨retb hR2.out.symm, K0⟩
          | true =>
          cases B with
          | false =>
            go_wp2
            go_ret
            exact ⟨retb hR2.out.symm, K0⟩
          | true =>
          cases C with
          | false =>
            go_wp2
            go_ret
            exact ⟨retb hR2.out.symm, K0⟩
          | true =>
          go_wp2
          go_ret
          exact ⟨retb hR2.out.symm, K0⟩
  | false =>
    cases hn : (nm.toList == ([] : List UInt8)) with
    | false =>
      have hz : P1 = false := by rw [hP1.out, hn]; rfl
      have hn2 : (nm.toList != ([] : List UInt8)) = true := by simp [bne, hn]
      go_wp2
      go_ret
      exact ⟨retb (by rw [hR.out, hz, Bool.false_and]; try rfl), K0⟩
    | true =>
      have z1 : P1 = true := by rw [hP1.out, hn]; rfl
      have hn2 : (nm.toList != ([] : List UInt8)) = false := by simp [bne, hn]
      cases uo with
      | false =>
        by_cases ho : op = 0
        case neg =>
          have ho1 : (op == 0) = false := by simp [ho]
          have ho2 : (op != 0) = true := by simp [ho]
          have hz : P2 = false := by rw [hP2.out]; exact ho1
          go_wp2
          go_ret
          exact ⟨retb (by rw [hR.out, hz, Bool.false_and, Bool.and_false]; try rfl), K0⟩
        have z2 : P2 = true := by rw [hP2.out, ho]; rfl
        have ho1 : (op == 0) = true := by simp [ho]
        have ho2 : (op != 0) = false := by simp [ho]
        clear ho
        cases ui with
        | true =>
          have z3 : P3 = true := hP3.out
          have hR2 : Hid (R = (A && (B && (C && D)))) := by rw [hR.out, z1, z2, z3]; rfl
          clear hR hP1 hP2 hP3 z1 z2 z3
          go_wp2_with fail
          refine (cA.out _).mono ?_
          rintro r w2 ⟨rfl, rfl⟩
          go_wp2_with fail
          refine (cB.out _).mono ?_
          rintro r w3 ⟨rfl, rfl⟩
          go_wp2_with fail
          refine (cC.out _).mono ?_
          rintro r w4 ⟨rfl, rfl⟩
          go_wp2_with fail
          refine (cD.out _).mono ?_
          rintro r w5 ⟨rfl, rfl⟩
          clear cA cB cC cD
          cases A with
          | false =>
            go_wp2
            go_ret
            exact ⟨retb hR2.out.symm, K0⟩
          | true =>
          cases B with
          | false =>
            go_wp2
            go_ret
            exact ⟨retb hR2.out.symm, K0⟩
          | true =>
          cases C with
          | false =>
            go_wp2
            go_ret
            exact ⟨retb hR2.out.symm, K0⟩
          | true =>
          go_wp2
          go_ret
          exact ⟨retb hR2.out.symm, K0⟩
        | false =>
          by_cases hl : lo = 0
          case neg =>
            have hl1 : (lo == 0) = false := by simp [hl]
            have hl2 : (lo != 0) = true := by simp [hl]
            have hz : P3 = false := by rw [hP3.out]; unfold itvZ; rw [hl1]; rfl
            go_wp2
            go_ret
            exact ⟨retb (by rw [hR.out, hz, Bool.false_and, Bool.and_false, Bool.and_false]; try rfl), K0⟩
          have hl1 : (lo == 0) = true := by simp [hl]
          by_cases hh : hi = 0
          case neg =>
            have hh1 : (hi == 0) = false := by simp [hh]
            have hh2 : (hi != 0) = true := by simp [hh]
            have hz : P3 = false := by rw [hP3.out]; unfold itvZ; rw [hh1]; simp
            go_wp2
            go_ret
            exact ⟨retb (by rw [hR.out, hz, Bool.false_and, Bool.and_false, Bool.and_false]; try rfl), K0⟩
          have hh1 : (hi == 0) = true := by simp [hh]
          cases o with
          | true =>
            have hz : P3 = false := by rw [hP3.out]; unfold itvZ; simp
            go_wp2
            go_ret
            exact ⟨retb (by rw [hR.out, hz, Bool.false_and, Bool.and_false, Bool.and_false]; try rfl), K0⟩
          | false =>
            have z3 : P3 = true := by rw [hP3.out]; unfold itvZ; rw [hl1, hh1]; rfl
            subst hl hh
            have hR2 : Hid (R = (A && (B && (C && D)))) := by rw [hR.out, z1, z2, z3]; rfl
            clear hR hP1 hP2 hP3 z1 z2 z3
            go_wp2_with fail
            refine (cA.out _).mono ?_
            rintro r w2 ⟨rfl, rfl⟩
            go_wp2_with fail
            refine (cB.out _).mono ?_
            rintro r w3 ⟨rfl, rfl⟩
            go_wp2_with fail
            refine (cC.out _).mono ?_
            rintro r w4 ⟨rfl, rfl⟩
            go_wp2_with fail
            refine (cD.out _).mono ?_
            rintro r w5 ⟨rfl, rfl⟩
            clear cA cB cC cD
            cases A with
            | false =>
              go_wp2
              go_ret
              exact ⟨retb hR2.out.symm, K0⟩
            | true =>
            cases B with
            | false =>
              go_wp2
              go_ret
              exact ⟨retb hR2.out.symm, K0⟩
            | true =>
            cases C with
            | false =>
              go_wp2
              go_ret
              exact ⟨retb hR2.out.symm, K0⟩
            | true =>
            go_wp2
            go_ret
            exact ⟨retb hR2.out.symm, K0⟩
      | true =>
        by_cases ho : 1 ≤ op
        case neg =>
          have ho2 : op < 1 := by omega
          have hz : P2 = false := by rw [hP2.out]; exact decide_eq_false (fun h => ho h.1)
          go_wp2
          go_ret
          exact ⟨retb (by rw [hR.out, hz, Bool.false_and, Bool.and_false]; try rfl), K0⟩
        have ho3 : ¬ op < 1 := by omega
        by_cases hp : op ≤ 6
        case neg =>
          have ho2 : 6 < op := by omega
          have hz : P2 = false := by rw [hP2.out]; exact decide_eq_false (fun h => hp h.2)
          go_wp2
          go_ret
          exact ⟨retb (by rw [hR.out, hz, Bool.false_and, Bool.and_false]; try rfl), K0⟩
        have ho2 : ¬ 6 < op := by omega
        have z2 : P2 = true := by rw [hP2.out]; exact decide_eq_true ⟨ho, hp⟩
        cases ui with
        | true =>
          have z3 : P3 = true := hP3.out
          have hR2 : Hid (R = (A && (B && (C && D)))) := by rw [hR.out, z1, z2, z3]; rfl
          clear hR hP1 hP2 hP3 z1 z2 z3
          go_wp2_with fail
          refine (cA.out _).mono ?_
          rintro r w2 ⟨rfl, rfl⟩
          go_wp2_with fail
          refine (cB.out _).mono ?_
          rintro r w3 ⟨rfl, rfl⟩
          go_wp2_with fail
          refine (cC.out _).mono ?_
          rintro r w4 ⟨rfl, rfl⟩
          go_wp2_with fail
          refine (cD.out _).mono ?_
          rintro r w5 ⟨rfl, rfl⟩
          clear cA cB cC cD
          cases A with
          | false =>
            go_wp2
            go_ret
            exact ⟨retb hR2.out.symm, K0⟩
          | true =>
          cases B with
          | false =>
            go_wp2
            go_ret
            exact ⟨retb hR2.out.symm, K0⟩
          | true =>
          cases C with
          | false =>
            go_wp2
            go_ret
            exact ⟨retb hR2.out.symm, K0⟩
          | true =>
          go_wp2
          go_ret
          exact ⟨retb hR2.out.symm, K0⟩
        | false =>
          by_cases hl : lo = 0
          case neg =>
            have hl1 : (lo == 0) = false := by simp [hl]
            have hl2 : (lo != 0) = true := by simp [hl]
            have hz : P3 = false := by rw [hP3.out]; unfold itvZ; rw [hl1]; rfl
            go_wp2
            go_ret
            exact ⟨retb (by rw [hR.out, hz, Bool.false_and, Bool.and_false, Bool.and_false]; try rfl), K0⟩
          have hl1 : (lo == 0) = true := by simp [hl]
          by_cases hh : hi = 0
          case neg =>
            have hh1 : (hi == 0) = false := by simp [hh]
            have hh2 : (hi != 0) = true := by simp [hh]
            have hz : P3 = false := by rw [hP3.out]; unfold itvZ; rw [hh1]; simp
            go_wp2
            go_ret
            exact ⟨retb (by rw [hR.out, hz, Bool.false_and, Bool.and_false, Bool.and_false]; try rfl), K0⟩
          have hh1 : (hi == 0) = true := by simp [hh]
          cases o with
          | true =>
            have hz : P3 = false := by rw [hP3.out]; unfold itvZ; simp
            go_wp2
            go_ret
            exact ⟨retb (by rw [hR.out, hz, Bool.false_and, Bool.and_false, Bool.and_false]; try rfl), K0⟩
          | false =>
            have z3 : P3 = true := by rw [hP3.out]; unfold itvZ; rw [hl1, hh1]; rfl
            subst hl hh
            have hR2 : Hid (R = (A && (B && (C && D)))) := by rw [hR.out, z1, z2, z3]; rfl
            clear hR hP1 hP2 hP3 z1 z2 z3
            go_wp2_with fail
            refine (cA.out _).mono ?_
            rintro r w2 ⟨rfl, rfl⟩
            go_wp2_with fail
            refine (cB.out _).mono ?_
            rintro r w3 ⟨rfl, rfl⟩
            go_wp2_with fail
            refine (cC.out _).mono ?_
            rintro r w4 ⟨rfl, rfl⟩
            go_wp2_with fail
            refine (cD.out _).mono ?_
            rintro r w5 ⟨rfl, rfl⟩
            clear cA cB cC cD
            cases A with
            | false =>
              go_wp2
              go_ret
              exact ⟨retb hR2.out.symm, K0⟩
            | true =>
            cases B with
            | false =>
              go_wp2
              go_ret
              exact ⟨retb hR2.out.symm, K0⟩
            | true =>
            cases C with
            | false =>
              go_wp2
              go_ret
              exact ⟨retb hR2.out.symm, K0⟩
            | true =>
            go_wp2
            go_ret
            exact ⟨retb hR2.out.symm, K0⟩

end Go.Proofs.YtfajjphfjilpnaaGreat

namespace Go.Proofs.YtfajjphfjilpnaaGreat
open Go.RowKit LX Go.Shelf
set_option linter.unusedVariables false

set_option maxRecDepth 100000 in
set_option maxHeartbeats 4000000 in
theorem form_eq (k op lo hi : Int) (nm : ByteArray) (o : Bool) (vs : List ByteArray) (nt ns nr : Nat) (hk : 1 ≤ k ∧ k ≤ 22) (hm : manyB k vs.length nt = false) (hs : ns ≤ 9223372036854775807) :
    formedM (frm k) op lo hi nm o vs nt ns nr = (formB (usO k) nm op lo hi o vs.length nt ns nr && namedB (usO k) nm vs lo hi o) := by
  have hk' : k = 1 ∨ k = 2 ∨ k = 3 ∨ k = 4 ∨ k = 5 ∨ k = 6 ∨ k = 7 ∨ k = 8 ∨ k = 9 ∨ k = 10 ∨ k = 11 ∨ k = 12 ∨ k = 13 ∨ k = 14 ∨ k = 15 ∨ k = 16 ∨ k = 17 ∨ k = 18 ∨ k = 19 ∨ k = 20 ∨ k = 21 ∨ k = 22 := by omega
  unfold formedM formB namedB
  generalize vs.length = nv at *
  generalize namesB vs = b1
  generalize nameB nm = b2
  rcases hk' with rfl | rfl | rfl | rfl | rfl | rfl | rfl | rfl | rfl | rfl | rfl | rfl | rfl | rfl | rfl | rfl | rfl | rfl | rfl | rfl | rfl | rfl <;>
  · simp [manyB] at hm
    rw [Bool.eq_iff_iff]
    simp [frm, usO, soB, itvB]
    grind
end Go.Proofs.YtfajjphfjilpnaaGreat

namespace Go.Proofs.YtfajjphfjilpnaaGreat
open Go.RowKit Go.Shelf
set_option linter.unusedVariables false

/-- What was there and is not of P lies as it lay. -/
structure Fr (P : Nat → Prop) (w w' : World) : Prop where
  os : w'.os = w.os
  tape : w'.tape = w.tape
  output : w'.output = w.output
  size : w.heap.size ≤ w'.heap.size
  block : ∀ k, k < w.heap.size → ¬ P k → w'.heap[k]? = w.heap[k]?
theorem Fr.refl (P : Nat → Prop) (w : World) : Fr P w w := ⟨rfl, rfl, rfl, Nat.le_refl _, fun _ _ _ => rfl⟩
theorem Fr.trans {P Q : Nat → Prop} {a b c : World} (h : Fr P a b) (k : Fr Q b c) (hQ : ∀ i, Q i → P i ∨ a.heap.size ≤ i) : Fr P a c :=
  ⟨k.os.trans h.os, k.tape.trans h.tape, k.output.trans h.output, Nat.le_trans h.size k.size, fun i hi hp => (k.block i (Nat.lt_of_lt_of_le hi h.size) (fun q => by rcases hQ i q with q | q; exact hp q; omega)).trans (h.block i hi hp)⟩
theorem Fr.setCell {P : Nat → Prop} {a b : World} (h : Fr P a b) {p : Addr} (hp : P p.block ∨ a.heap.size ≤ p.block) (u : Value) : Fr P a (b.setCell p u) :=
  h.trans (Q := fun k => k = p.block) ⟨rfl, rfl, rfl, by simp [World.setCell], fun k hk hn => Below.heap_setCell _ _ _ _ hn⟩ (fun i e => by subst e; exact hp)
theorem Fr.of_below {P : Nat → Prop} {a b : World} (h : Below a.heap.size a b) : Fr P a b := ⟨h.os, h.tape, h.output, h.size, fun k hk _ => h.block k hk⟩
theorem Fr.below {P : Nat → Prop} {a b : World} {n : Nat} (h : Fr P a b) (hn : n ≤ a.heap.size) (hp : ∀ k, P k → n ≤ k) : Below n a b := ⟨h.os, h.tape, h.output, h.size, fun k hk => h.block k (by omega) (fun q => by have := hp k q; omega)⟩
theorem Fr.heap {P : Nat → Prop} {a b : World} (h : Fr P a b) {k : Nat} {o : Obj} (hk : a.heap[k]? = some o) (hp : ¬ P k) : b.heap[k]? = some o := (h.block k (Array.getElem?_eq_some_iff.1 hk).1 hp).trans hk
theorem lt_heap {a : World} {k : Nat} {o : Obj} (hk : a.heap[k]? = some o) : k < a.heap.size := (Array.getElem?_eq_some_iff.1 hk).1
theorem set_heap {w : World} {b j : Nat} {cs : Array Value} {t : TypeId} {fr : Nat × Nat} (h : w.heap[b]? = some (.cells cs t fr)) (u : Value) : (w.setCell ⟨b, j, none⟩ u).heap[b]? = some (.cells (cs.setIfInBounds j u) t fr) := by
  show (w.heap.modify b _)[b]? = _
  rw [Array.getElem?_modify, if_pos rfl, h]
  rfl

end Go.Proofs.YtfajjphfjilpnaaGreat

namespace Go.Proofs.YtfajjphfjilpnaaGreat
open Go.RowKit LX Go.Shelf
set_option linter.unusedVariables false

/-- The document's walk in block q: nodes so far, the deepest, the first error. -/
def WK (w : World) (q : Nat) (N M E : Int) : Prop := w.heap[q]? = some (.cells #[.int .i64 N, .int .i64 M, .int .i64 E] 61 (0, 0))
def wrE (is : Bool) (e E : Int) : Int := if is = true ∧ E = 0 then e else E
set_option maxRecDepth 100000 in
set_option maxHeartbeats 4000000 in
theorem rwrong_any (q : Nat) (N M E e : Int) (is : Bool) (w : World) (h : WK w q N M E) :
    Calls Tryz.prog 52 #[.pointer (some ⟨q, 0, none⟩), .bool is, .int .i64 e] w fun r w' => (∃ v, r = .returned v) ∧ Hid (WK w' q N M (wrE is e E) ∧ Fr (fun k => k = q) w w') := by
  have h' : w.heap[q]? = some (.cells #[.int .i64 N, .int .i64 M, .int .i64 E] 61 (0, 0)) := h
  have y2 : w.cell? ⟨q, 2, none⟩ = some (.int .i64 E) := (Lib.cell_of_heap h' _).trans rfl
  have f2 : w.frozen? ⟨q, 2, none⟩ = false := Lib.frozen_of_heap h' _
  have HH : Hid (_) := h'
  clear h h'
  cases is with
  | false =>
    have e1 : wrE false e E = E := by simp [wrE]
    rw [e1]
    clear e1
    go_enter Tryz.func52, Tryz.ntmps52
    go_wp2
    go_end0
    exact ⟨⟨_, rfl⟩, HH.out, Fr.refl _ _⟩
  | true =>
    by_cases hE : E = 0
    · subst hE
      have e1 : wrE true e 0 = e := by simp [wrE]
      rw [e1]
      clear e1
      go_enter Tryz.func52, Tryz.ntmps52
      go_wp2
      go_end0
      exact ⟨⟨_, rfl⟩, set_heap HH.out _, (Fr.refl (fun k => k = q) w).setCell (p := ⟨q, 2, none⟩) (Or.inl rfl) _⟩
    · have e1 : wrE true e E = E := by simp [wrE, hE]
      rw [e1]
      clear e1
      have hE' : (E == 0) = false := by simpa using hE
      go_enter Tryz.func52, Tryz.ntmps52
      go_wp2
      go_end0
      exact ⟨⟨_, rfl⟩, HH.out, Fr.refl _ _⟩
/-- The error at a node's own place. -/
def ndE (d N : Int) : Int := wrE (decide (256 ≤ N)) 3 (wrE (decide (24 < d)) 71 0)
set_option maxRecDepth 100000 in
set_option maxHeartbeats 4000000 in
theorem rnode_no (q : Nat) (N M E d : Int) (w : World) (h : WK w q N M E) (hE : ¬ E = 0) :
    Calls Tryz.prog 51 #[.pointer (some ⟨q, 0, none⟩), .int .i64 d] w fun r w' => r = .returned (.bool false) ∧ w' = w := by
  have h' : w.heap[q]? = some (.cells #[.int .i64 N, .int .i64 M, .int .i64 E] 61 (0, 0)) := h
  have y2 : w.cell? ⟨q, 2, none⟩ = some (.int .i64 E) := (Lib.cell_of_heap h' _).trans rfl
  have hE' : (E == 0) = false := by simpa using hE
  clear h h'
  go_enter Tryz.func51, Tryz.ntmps51
  go_wp2
  go_ret
  exact ⟨rfl, rfl⟩
set_option maxRecDepth 100000 in
set_option maxHeartbeats 4000000 in
theorem rnode_any (q : Nat) (N M d : Int) (w : World) (h : WK w q N M 0) (hN : 0 ≤ N ∧ N ≤ 100000) :
    Calls Tryz.prog 51 #[.pointer (some ⟨q, 0, none⟩), .int .i64 d] w fun r w' => r = .returned (.bool (ndE d N == 0)) ∧ Hid (WK w' q (N + 1) (if M < d then d else M) (ndE d N) ∧ Fr (fun k => k = q) w w') := by
  have h' : w.heap[q]? = some (.cells #[.int .i64 N, .int .i64 M, .int .i64 0] 61 (0, 0)) := h
  have y2 : w.cell? ⟨q, 2, none⟩ = some (.int .i64 0) := (Lib.cell_of_heap h' _).trans rfl
  have HH : Hid (WK w q N M 0) := h
  obtain ⟨E, hE⟩ : ∃ E, Hid (ndE d N = E) := ⟨_, rfl⟩
  obtain ⟨Mx, hMx⟩ : ∃ Mx, Hid ((if M < d then d else M) = Mx) := ⟨_, rfl⟩
  rw [hE.out, hMx.out]
  clear h h'
  go_enter Tryz.func51, Tryz.ntmps51
  go_wp2_with fail
  refine (rwrong_any q N M 0 71 (decide (24 < d)) w HH.out).mono ?_
  rintro r w1 ⟨⟨v1, rfl⟩, h1⟩
  have z0 : w1.cell? ⟨q, 0, none⟩ = some (.int .i64 N) := (Lib.cell_of_heap (show w1.heap[q]? = _ from h1.out.1) _).trans rfl
  go_wp2_with fail
  refine (rwrong_any q N M _ 3 (decide (256 ≤ N)) w1 h1.out.1).mono ?_
  rintro r w2 ⟨⟨v2, rfl⟩, h2⟩
  have h2' : WK w2 q N M (ndE d N) := h2.out.1
  rw [hE.out] at h2'
  have b2 : w2.heap[q]? = some (.cells #[.int .i64 N, .int .i64 M, .int .i64 E] 61 (0, 0)) := h2'
  have x0 : w2.cell? ⟨q, 0, none⟩ = some (.int .i64 N) := (Lib.cell_of_heap b2 _).trans rfl
  have x1 : w2.cell? ⟨q, 1, none⟩ = some (.int .i64 M) := (Lib.cell_of_heap b2 _).trans rfl
  have x2 : w2.cell? ⟨q, 2, none⟩ = some (.int .i64 E) := (Lib.cell_of_heap b2 _).trans rfl
  have f0 : w2.frozen? ⟨q, 0, none⟩ = false := Lib.frozen_of_heap b2 _
  have f1 : w2.frozen? ⟨q, 1, none⟩ = false := Lib.frozen_of_heap b2 _
  have FF2 : Hid (Fr (fun k => k = q) w w2) := h1.out.2.trans h2.out.2 (fun _ e => Or.inl e)
  have HB2 : Hid (_) := b2
  have nw : IntKind.i64.wrap (N + 1) = N + 1 := by rw [IntKind.wrap_i64]; omega
  have nw2 : wrap64 (N + 1) = N + 1 := by unfold wrap64; omega
  clear h1 h2 h2' b2 z0
  by_cases hd : M < d
  · have em : Hid (d = Mx) := by have e := hMx.out; rw [if_pos hd] at e; exact e
    go_wp2
    go_ret
    exact ⟨rfl, by rw [← em.out]; exact set_heap (set_heap HB2.out _) _, (FF2.out.setCell (p := ⟨q, 0, none⟩) (Or.inl rfl) _).setCell (p := ⟨q, 1, none⟩) (Or.inl rfl) _⟩
  · have em : Hid (M = Mx) := by have e := hMx.out; rw [if_neg hd] at e; exact e
    go_wp2
    go_ret
    exact ⟨rfl, by rw [← em.out]; exact set_heap HB2.out _, FF2.out.setCell (p := ⟨q, 0, none⟩) (Or.inl rfl) _⟩
end Go.Proofs.YtfajjphfjilpnaaGreat

namespace Go.Proofs.YtfajjphfjilpnaaGreat
open Go.RowKit LX Go.Shelf
set_option linter.unusedVariables false

theorem doc_fmE (f : Fm) (hs : f.subs.length ≤ 9223372036854775807) :
    wrE (repN [] f.vars || (decide (f.k = 19) && Lib.containsS (f.vars.drop 1) f.nm)) 30 (wrE (!(formB (usO f.k) f.nm f.op f.lo f.hi f.opn f.vars.length f.terms.length f.subs.length f.rgx.length && namedB (usO f.k) f.nm f.vars f.lo f.hi f.opn)) 1 (wrE (manyB f.k f.vars.length f.terms.length) 3 (wrE (decide (f.k < 1 ∨ 22 < f.k)) 20 0))) = fmE f := by
  unfold fmE
  by_cases hk : f.k < 1 ∨ 22 < f.k
  · simp [hk, wrE]
  · rw [if_neg hk]
    cases hm : manyB f.k f.vars.length f.terms.length with
    | true => simp [hk, wrE]
    | false =>
      rw [form_eq f.k f.op f.lo f.hi f.nm f.opn f.vars f.terms.length f.subs.length f.rgx.length (by omega) hm hs]
      generalize (formB (usO f.k) f.nm f.op f.lo f.hi f.opn f.vars.length f.terms.length f.subs.length f.rgx.length && namedB (usO f.k) f.nm f.vars f.lo f.hi f.opn) = b
      generalize repN [] f.vars = r
      generalize Lib.containsS (f.vars.drop 1) f.nm = c
      by_cases h19 : f.k = 19 <;> cases b <;> cases r <;> cases c <;> simp [hk, wrE, h19]
/-- The document's wrongs of a term. -/
theorem doc_tmE (t : Tm) :
    (if t.k = 2 then wrE (decide (¬ t.v.may = 0)) t.v.may else id) (wrE (decide (t.k = 1) && !nameB t.nm || decide (¬ t.k = 1) && !(t.nm.toList == []) || decide (¬ t.k = 2) && !sameB t.v.k t.v.n t.v.d t.v.s 0 0 0 ⟨#[]⟩ || decide (¬ t.subs.length = if t.k = 3 ∨ t.k = 4 ∨ t.k = 5 then 2 else 0)) 1 (wrE (decide (t.k < 1 ∨ 5 < t.k)) 20 0)) = tmE t := by
  unfold tmE
  by_cases hk : t.k < 1 ∨ 5 < t.k
  · have h2 : ¬ t.k = 2 := by omega
    simp [hk, wrE, h2]
  · rw [if_neg hk]
    generalize nameB t.nm = a
    generalize (t.nm.toList == []) = b
    generalize sameB t.v.k t.v.n t.v.d t.v.s 0 0 0 ⟨#[]⟩ = c
    generalize t.v.may = m
    generalize t.subs.length = n
    have h5 : t.k = 1 ∨ t.k = 2 ∨ t.k = 3 ∨ t.k = 4 ∨ t.k = 5 := by omega
    rcases h5 with h | h | h | h | h <;> cases a <;> cases b <;> cases c <;> simp [wrE, h] <;> grind
end Go.Proofs.YtfajjphfjilpnaaGreat

namespace Go.Proofs.YtfajjphfjilpnaaGreat
open Go.RowKit LX Go.Shelf
set_option linter.unusedVariables false

theorem Fr.keep {q : Nat} {w w' : World} (h : Fr (fun k => k = q) w w') : KeepT q w w' := ⟨h.os, h.tape, h.output, h.size, h.block⟩
theorem WK.lt {w : World} {q : Nat} {N M E : Int} (h : WK w q N M E) : q < w.heap.size := (Array.getElem?_eq_some_iff.1 h).1
theorem WK.below {w w' : World} {q : Nat} {N M E : Int} (h : WK w q N M E) (hb : Below w.heap.size w w') : WK w' q N M E := (hb.block q h.lt).trans h
theorem WK.alloc {w : World} {q : Nat} {N M E : Int} (h : WK w q N M E) (o : Obj) : WK (w.alloc o) q N M E := (Below.heap_alloc w o q h.lt).trans h
theorem WK.e {w : World} {q : Nat} {N M E : Int} (h : WK w q N M E) : w.cell? ⟨q, 2, none⟩ = some (.int .i64 E) := (Lib.cell_of_heap (show w.heap[q]? = _ from h) _).trans rfl
set_option maxRecDepth 100000 in
set_option maxHeartbeats 4000000 in
theorem rterm_no (q : Nat) (N M E d tk vk vn vd : Int) (nm vs : ByteArray) (u : Value) (w : World) (h : WK w q N M E) (hE : ¬ E = 0) :
    Calls Tryz.prog 58 #[.pointer (some ⟨q, 0, none⟩), .agg #[.int .i64 tk, .string nm, .int .i64 vk, .int .i64 vn, .int .i64 vd, .string vs, u], .int .i64 d] w fun r w' => (∃ v, r = .returned v) ∧ Hid (Below w.heap.size w w' ∧ WK w' q N M E) := by
  have H : Hid (WK w q N M E) := h
  clear h
  go_enter Tryz.func58, Tryz.ntmps58
  go_wp2_with fail
  refine (rnode_no q N M E d _ (H.out.alloc _) hE).mono ?_
  rintro r w1 ⟨rfl, rfl⟩
  go_wp2
  refine bodyPost_ret (results_none rfl _ _ _) rfl ?_
  exact ⟨⟨_, rfl⟩, by go_grown, H.out.alloc _⟩
end Go.Proofs.YtfajjphfjilpnaaGreat

namespace Go.Proofs.YtfajjphfjilpnaaGreat
open Go.RowKit LX Go.Shelf
set_option linter.unusedVariables false

/-- What the walk says: the error; the nodes and the deepest, if there is none. -/
def WQ (w : World) (q : Nat) (R : Int × (Int × Int)) : Prop := ∃ N M, WK w q N M R.1 ∧ (R.1 = 0 → N = R.2.1 ∧ M = R.2.2)
theorem nd_meet {d : Int} {s : Int × Int} (hs : OkS s) : ndE d s.1 = meetE d s := by
  unfold ndE meetE wrE
  obtain ⟨h0, h1, -⟩ := hs
  by_cases a : 24 < d <;> by_cases b : s.1 = 256 <;> simp [a, b] <;> omega

/-- What is still to come of R, behind what is done: F, if nothing was wrong. -/
def WS (w : World) (q : Nat) (R : Int × (Int × Int)) (F : Int × Int → Int × (Int × Int)) : Prop := ∃ N M E, WK w q N M E ∧ (E = 0 → OkS (N, M) ∧ R = F (N, M)) ∧ (¬ E = 0 → R.1 = E)
theorem WS.of {w : World} {q : Nat} {N M : Int} {R : Int × (Int × Int)} {F : Int × Int → Int × (Int × Int)} (h : WK w q N M 0) (ho : OkS (N, M)) (hR : R = F (N, M)) : WS w q R F := ⟨N, M, 0, h, fun _ => ⟨ho, hR⟩, fun e => absurd rfl e⟩
theorem WS.cast {w : World} {q : Nat} {R : Int × (Int × Int)} {F G : Int × Int → Int × (Int × Int)} (h : WS w q R F) (e : ∀ s, F s = G s) : WS w q R G := by have : F = G := funext e; rw [← this]; exact h
theorem WS.wq {w : World} {q : Nat} {R : Int × (Int × Int)} (h : WS w q R (fun s => (0, s))) : WQ w q R := by
  obtain ⟨N, M, E, h, h1, h2⟩ := h
  by_cases hE : E = 0
  · obtain ⟨-, e⟩ := h1 hE
    rw [e]
    subst hE
    exact ⟨N, M, h, fun _ => ⟨rfl, rfl⟩⟩
  · have e := h2 hE
    exact ⟨N, M, by rw [e]; exact h, fun e' => absurd (e.symm.trans e') hE⟩
theorem WS.step {w w' : World} {q : Nat} {N M : Int} {R : Int × (Int × Int)} {G F : Int × Int → Int × (Int × Int)} (hR : R = andT (G (N, M)) F) (hQ : WQ w' q (G (N, M))) (ho : OkS (G (N, M)).2) : WS w' q R F := by
  obtain ⟨N', M', h, h1⟩ := hQ
  refine ⟨N', M', (G (N, M)).1, h, fun e => ?_, fun e => ?_⟩
  · obtain ⟨rfl, rfl⟩ := h1 e
    refine ⟨ho, ?_⟩
    rw [hR]
    exact if_pos e
  · rw [hR]
    unfold andT
    rw [if_neg e]
/-- A function of the walk's at a value and a depth: it goes on by G. -/
def Walks (w0 : World) (q : Nat) (fn : FuncId) (V : Value) (d : Int) (G : Int × Int → Int × (Int × Int)) : Prop := ∀ (W : World) (R : Int × (Int × Int)) (F : Int × Int → Int × (Int × Int)), Below w0.heap.size w0 W → WS W q R (fun s => andT (G s) F) →
    Calls Tryz.prog fn #[.pointer (some ⟨q, 0, none⟩), V, .int .i64 d] W fun r w' => (∃ v, r = .returned v) ∧ Hid (KeepT q W w' ∧ WS w' q R F)
end Go.Proofs.YtfajjphfjilpnaaGreat

namespace Go.Proofs.YtfajjphfjilpnaaGreat
open Go.RowKit LX Go.Shelf
set_option linter.unusedVariables false

set_option maxRecDepth 100000 in
set_option maxHeartbeats 8000000 in
theorem rterm_clo (w0 : World) (q : Nat) (hq : w0.heap.size ≤ q) (m : Nat) (ih : ∀ (t : Tm) (V : Value) (d : Int) (s : Int × Int) (w : World), SizeOf.sizeOf t ≤ m → TmsAt w0 V t.subs → t.v.Fits → Below w0.heap.size w0 w → WK w q s.1 s.2 0 → OkS s → 0 ≤ d → d ≤ 25 →
    Calls Tryz.prog 58 #[.pointer (some ⟨q, 0, none⟩), .agg #[.int .i64 t.k, .string t.nm, .int .i64 t.v.k, .int .i64 t.v.n, .int .i64 t.v.d, .string t.v.s, V], .int .i64 d] w fun r w' => (∃ v, r = .returned v) ∧ Hid (KeepT q w w' ∧ WQ w' q (trun d s t))) (t : Tm) (V : Value) (d : Int) (s : Int × Int) (w : World) (hm : SizeOf.sizeOf t ≤ m + 1) (hV : TmsAt w0 V t.subs) (hF : t.v.Fits) (hw : Below w0.heap.size w0 w) (hK : WK w q s.1 s.2 0) (hs : OkS s) (hd0 : 0 ≤ d) (hd1 : d ≤ 25) (h7 : t.k < 1) :
    Calls Tryz.prog 58 #[.pointer (some ⟨q, 0, none⟩), .agg #[.int .i64 t.k, .string t.nm, .int .i64 t.v.k, .int .i64 t.v.n, .int .i64 t.v.d, .string t.v.s, V], .int .i64 d] w fun r w' => (∃ v, r = .returned v) ∧ Hid (KeepT q w w' ∧ WQ w' q (trun d s t)) := by
  obtain ⟨p, c, rfl, hl, hc, HX0⟩ := hV.form
  have HX : Hid (∀ i (hi : i < t.subs.length), ∃ b off u, p = some ⟨b, off, none⟩ ∧ b < w0.heap.size ∧ TmC w0 b (off + i * 7) t.subs[i] u ∧ TmsAt w0 u t.subs[i].subs ∧ t.subs[i].v.Fits) := HX0
  have IH : Hid (_) := ih
  have HS : Hid (OkS s) := hs
  have HW : Hid (WK w q s.1 s.2 0) := hK
  have hqw : q < w.heap.size := hK.lt
  have HM : Hid (SizeOf.sizeOf t ≤ m + 1) := hm
  have hD := doc_tmE t
  have cN : Hid (∀ W : World, Calls Tryz.prog 81 #[.string t.nm] W fun e w' => e = .returned (.bool (nameB t.nm)) ∧ Below W.heap.size W w') := fun W => rname_any t.nm W
  have cC : Hid (∀ W : World, Calls Tryz.prog 85 #[.agg #[.int .i64 t.v.k, .int .i64 t.v.n, .int .i64 t.v.d, .string t.v.s]] W fun e w' => e = .returned (.int .i64 t.v.may) ∧ Below W.heap.size W w') := fun W => rcheck_any t.v.k t.v.n t.v.d t.v.s W hF.n1 hF.n2 hF.d1 hF.d2
  have cS : Hid (∀ W : World, Calls Tryz.prog 84 #[.agg #[.int .i64 t.v.k, .int .i64 t.v.n, .int .i64 t.v.d, .string t.v.s], .agg #[.int .i64 0, .int .i64 0, .int .i64 0, .string ⟨#[]⟩]] W fun e w' => e = .returned (.bool (sameB t.v.k t.v.n t.v.d t.v.s 0 0 0 ⟨#[]⟩)) ∧ Below W.heap.size W w') := fun W => rsame_any t.v.k t.v.n t.v.d t.v.s 0 0 0 ⟨#[]⟩ W
  have hte := trun_eq d s t
  have HE : Hid (ndE d s.1 = meetE d s) := nd_meet hs
  obtain ⟨R, eR⟩ : ∃ R : Int × (Int × Int), Hid (trun d s t = R) := ⟨_, rfl⟩
  rw [eR.out] at hte ⊢
  have HTE : Hid (_) := hte
  obtain ⟨ts, ets⟩ : ∃ ts : List Tm, Hid (t.subs = ts) := ⟨_, rfl⟩
  obtain ⟨nu, en⟩ : ∃ n : Nat, Hid (t.subs.length = n) := ⟨_, rfl⟩
  rw [en.out] at hl hc hD ⊢
  have HD : Hid (_) := hD
  clear hV HX0 ih hK hs hm hte hD hF
  generalize nameB t.nm = NB at *
  generalize sameB t.v.k t.v.n t.v.d t.v.s 0 0 0 ⟨#[]⟩ = SB at *
  generalize t.v.may = MY at *
  generalize t.v.k = vk at *
  generalize t.v.n = vn at *
  generalize t.v.d = vd at *
  generalize t.v.s = vs at *
  generalize t.k = tk at *
  generalize t.nm = nm at *
  go_enter Tryz.func58, Tryz.ntmps58
  go_wp2_with fail
  refine (rnode_any q s.1 s.2 d _ (HW.out.alloc _) ⟨HS.out.1, by have := HS.out.2.1; omega⟩).mono ?_
  rintro r w1 ⟨rfl, h1⟩
  have hK1 : KeepT q w w1 := (KeepT.of ((Below.refl _ _).alloc (Nat.le_refl _) _)).trans h1.out.2.keep
  have W1 : Hid (WK w1 q (s.1 + 1) (if s.2 < d then d else s.2) (ndE d s.1)) := h1.out.1
  have hne : w.heap.size ≠ q := by omega
  have hz1 : w.heap.size < w1.heap.size := by have := h1.out.2.size; simp at this; omega
  have B1 : Hid (w1.heap[w.heap.size]? = some (.cells #[.int .i64 tk, .string nm, .int .i64 vk, .int .i64 vn, .int .i64 vd, .string vs, .slice p nu c] 39 (0, 0))) := (h1.out.2.block w.heap.size (by simp) hne).trans (heap_allocA w _)
  have e0 : w1.cell? ⟨w.heap.size, 0, none⟩ = some (.int .i64 tk) := by rw [Lib.cell_of_heap B1.out]; rfl
  clear h1
  by_cases hE : ndE d s.1 = 0
  case neg =>
    have hE' : (ndE d s.1 == 0) = false := by simpa using hE
    rw [hE']
    go_wp2
    refine bodyPost_ret (results_none rfl _ _ _) rfl ?_
    refine ⟨⟨_, rfl⟩, hK1, ?_⟩
    have h := HTE.out
    rw [← HE.out, if_neg hE] at h
    rw [h]
    exact ⟨_, _, W1.out, fun e => absurd e hE⟩
  have hE' : (ndE d s.1 == 0) = true := by simpa using hE
  rw [hE']
  have W1' : Hid (WK w1 q (s.1 + 1) (if s.2 < d then d else s.2) 0) := by have h := W1.out; rwa [hE] at h
  clear W1
  obtain ⟨N1, hN1⟩ : ∃ N1, Hid (s.1 + 1 = N1) := ⟨_, rfl⟩
  obtain ⟨M1, hM1⟩ : ∃ M1, Hid ((if s.2 < d then d else s.2) = M1) := ⟨_, rfl⟩
  rw [hN1.out, hM1.out] at W1'
  have hmS : Hid (meetS d s = (N1, M1)) := by
    have e : meetE d s = 0 := by rw [← HE.out]; exact hE
    unfold meetS
    rw [if_pos e, ← hN1.out, ← hM1.out, Int.max_def]
    congr 1
    by_cases h : s.2 < d
    · rw [if_pos h, if_pos (by omega)]
    · rw [if_neg h]; split <;> omega
  have HR : Hid (R = if tmE t = 0 then truns (d + 1) (N1, M1) t.subs else (tmE t, (N1, M1))) := by
    have h := HTE.out
    rw [← HE.out, if_pos hE, hmS.out] at h
    exact h
  have hd24 : d ≤ 24 := meetE_le (s := s) (by rw [← HE.out]; exact hE)
  have HOk : Hid (OkS (N1, M1)) := by rw [← hmS.out]; exact meetS_ok HS.out hd0
  clear HTE HE hE hE' hN1 hM1 hmS
  obtain ⟨TE, hTE⟩ : ∃ TE, Hid (tmE t = TE) := ⟨_, rfl⟩
  rw [hTE.out] at HR HD
  clear hTE e0
  have HNo : Hid (¬ TE = 0 → ∀ W : World, WK W q N1 M1 TE → WQ W q R) := by
    intro h W hW
    have hr := HR.out
    rw [if_neg h] at hr
    rw [hr]
    exact ⟨_, _, hW, fun e => absurd e h⟩
  have x1 : (tk == 1) = false := by simp; omega
  have x2 : (tk == 2) = false := by simp; omega
  have x3 : (tk == 3) = false := by simp; omega
  have x4 : (tk == 4) = false := by simp; omega
  have x5 : (tk == 5) = false := by simp; omega
  have y1 : ¬ tk = 1 := by omega
  have y2' : ¬ tk = 2 := by omega
  have y3 : ¬ tk = 3 := by omega
  have y4 : ¬ tk = 4 := by omega
  have y5 : ¬ tk = 5 := by omega
  have e0 : w1.cell? ⟨w.heap.size, 0, none⟩ = some (.int .i64 tk) := by rw [Lib.cell_of_heap B1.out]; rfl
  go_wp2_with fail
  refine (rwrong_any q N1 M1 0 20 _ w1 W1'.out).mono ?_
  rintro r w2 ⟨⟨v2, rfl⟩, h2⟩
  have W2 : Hid (WK w2 q N1 M1 20) := by have a := h2.out.1; first | exact a | (simp [wrE, h7] at a; exact a)
  have B2 : Hid (_) := h2.out.2.heap B1.out hne
  have hK2 : KeepT q w w2 := hK1.trans h2.out.2.keep
  have hz2 : w.heap.size < w2.heap.size := lt_heap B2.out
  clear h2 e0
  have e0 : w2.cell? ⟨w.heap.size, 0, none⟩ = some (.int .i64 tk) := by rw [Lib.cell_of_heap B2.out]; rfl
  have e1 : w2.cell? ⟨w.heap.size, 1, none⟩ = some (.string nm) := by rw [Lib.cell_of_heap B2.out]; rfl
  go_wp2_with fail
  refine (cN.out _).mono ?_
  rintro r w3 ⟨rfl, hb3⟩
  have W3 : Hid (WK w3 q N1 M1 20) := W2.out.below hb3
  have B3 : Hid (_) := blkB B2.out hb3
  have hK3 : KeepT q w w3 := hK2.trans (KeepT.of hb3)
  clear hb3 e0 e1
  have e2 : w3.cell? ⟨w.heap.size, 2, none⟩ = some (.int .i64 vk) := by rw [Lib.cell_of_heap B3.out]; rfl
  have e3 : w3.cell? ⟨w.heap.size, 3, none⟩ = some (.int .i64 vn) := by rw [Lib.cell_of_heap B3.out]; rfl
  have e4 : w3.cell? ⟨w.heap.size, 4, none⟩ = some (.int .i64 vd) := by rw [Lib.cell_of_heap B3.out]; rfl
  have e5 : w3.cell? ⟨w.heap.size, 5, none⟩ = some (.string vs) := by rw [Lib.cell_of_heap B3.out]; rfl
  go_wp2_with fail
  refine (cS.out _).mono ?_
  rintro r w4 ⟨rfl, hb4⟩
  have W4 : Hid (WK w4 q N1 M1 20) := W3.out.below hb4
  have B4 : Hid (_) := blkB B3.out hb4
  have hK4 : KeepT q w w4 := hK3.trans (KeepT.of hb4)
  clear hb4 e2 e3 e4 e5
  have e0 : w4.cell? ⟨w.heap.size, 0, none⟩ = some (.int .i64 tk) := by rw [Lib.cell_of_heap B4.out]; rfl
  have e1 : w4.cell? ⟨w.heap.size, 1, none⟩ = some (.string nm) := by rw [Lib.cell_of_heap B4.out]; rfl
  have e6 : w4.cell? ⟨w.heap.size, 6, none⟩ = some (.slice p nu c) := by rw [Lib.cell_of_heap B4.out]; rfl
  have hx := h7
  cases SB <;> by_cases hn : nm.toList = []
  all_goals
    go_wp2_with fail
    refine (rwrong_any q N1 M1 _ 1 _ w4 W4.out).mono ?_
    rintro r w5 ⟨⟨v5, rfl⟩, h5⟩
    have W5 : Hid (WK w5 q N1 M1 TE) := by
      have a := h5.out.1
      have b := HD.out
      simp [wrE, h7, hn, y2'] at a b
      first | (subst b; exact a) | (rw [← b]; exact a)
    have hK5 : KeepT q w w5 := hK4.trans h5.out.2.keep
    have B5 : Hid (_) := h5.out.2.heap B4.out hne
    have y2 : w5.cell? ⟨q, 2, none⟩ = some (.int .i64 TE) := W5.out.e
    have f0 : w5.cell? ⟨w.heap.size, 0, none⟩ = some (.int .i64 tk) := by rw [Lib.cell_of_heap B5.out]; rfl
    have f6 : w5.cell? ⟨w.heap.size, 6, none⟩ = some (.slice p nu c) := by rw [Lib.cell_of_heap B5.out]; rfl
    clear h5 e0 e1 e6
    have tn : ¬ TE = 0 := by have b := HD.out; simp [wrE, h7, hn, y1, y2', y3, y4, y5] at b; omega
    have tn' : (TE == 0) = false := by simpa using tn
    have tn'' : (TE != 0) = true := by simpa using tn
    go_wp2
    refine bodyPost_ret (results_none rfl _ _ _) rfl ?_
    exact ⟨⟨_, rfl⟩, hK5, HNo.out tn _ W5.out⟩
end Go.Proofs.YtfajjphfjilpnaaGreat

namespace Go.Proofs.YtfajjphfjilpnaaGreat
open Go.RowKit LX Go.Shelf
set_option linter.unusedVariables false

set_option maxRecDepth 100000 in
set_option maxHeartbeats 8000000 in
theorem rterm_chi (w0 : World) (q : Nat) (hq : w0.heap.size ≤ q) (m : Nat) (ih : ∀ (t : Tm) (V : Value) (d : Int) (s : Int × Int) (w : World), SizeOf.sizeOf t ≤ m → TmsAt w0 V t.subs → t.v.Fits → Below w0.heap.size w0 w → WK w q s.1 s.2 0 → OkS s → 0 ≤ d → d ≤ 25 →
    Calls Tryz.prog 58 #[.pointer (some ⟨q, 0, none⟩), .agg #[.int .i64 t.k, .string t.nm, .int .i64 t.v.k, .int .i64 t.v.n, .int .i64 t.v.d, .string t.v.s, V], .int .i64 d] w fun r w' => (∃ v, r = .returned v) ∧ Hid (KeepT q w w' ∧ WQ w' q (trun d s t))) (t : Tm) (V : Value) (d : Int) (s : Int × Int) (w : World) (hm : SizeOf.sizeOf t ≤ m + 1) (hV : TmsAt w0 V t.subs) (hF : t.v.Fits) (hw : Below w0.heap.size w0 w) (hK : WK w q s.1 s.2 0) (hs : OkS s) (hd0 : 0 ≤ d) (hd1 : d ≤ 25) (h7 : 5 < t.k) :
    Calls Tryz.prog 58 #[.pointer (some ⟨q, 0, none⟩), .agg #[.int .i64 t.k, .string t.nm, .int .i64 t.v.k, .int .i64 t.v.n, .int .i64 t.v.d, .string t.v.s, V], .int .i64 d] w fun r w' => (∃ v, r = .returned v) ∧ Hid (KeepT q w w' ∧ WQ w' q (trun d s t)) := by
  obtain ⟨p, c, rfl, hl, hc, HX0⟩ := hV.form
  have HX : Hid (∀ i (hi : i < t.subs.length), ∃ b off u, p = some ⟨b, off, none⟩ ∧ b < w0.heap.size ∧ TmC w0 b (off + i * 7) t.subs[i] u ∧ TmsAt w0 u t.subs[i].subs ∧ t.subs[i].v.Fits) := HX0
  have IH : Hid (_) := ih
  have HS : Hid (OkS s) := hs
  have HW : Hid (WK w q s.1 s.2 0) := hK
  have hqw : q < w.heap.size := hK.lt
  have HM : Hid (SizeOf.sizeOf t ≤ m + 1) := hm
  have hD := doc_tmE t
  have cN : Hid (∀ W : World, Calls Tryz.prog 81 #[.string t.nm] W fun e w' => e = .returned (.bool (nameB t.nm)) ∧ Below W.heap.size W w') := fun W => rname_any t.nm W
  have cC : Hid (∀ W : World, Calls Tryz.prog 85 #[.agg #[.int .i64 t.v.k, .int .i64 t.v.n, .int .i64 t.v.d, .string t.v.s]] W fun e w' => e = .returned (.int .i64 t.v.may) ∧ Below W.heap.size W w') := fun W => rcheck_any t.v.k t.v.n t.v.d t.v.s W hF.n1 hF.n2 hF.d1 hF.d2
  have cS : Hid (∀ W : World, Calls Tryz.prog 84 #[.agg #[.int .i64 t.v.k, .int .i64 t.v.n, .int .i64 t.v.d, .string t.v.s], .agg #[.int .i64 0, .int .i64 0, .int .i64 0, .string ⟨#[]⟩]] W fun e w' => e = .returned (.bool (sameB t.v.k t.v.n t.v.d t.v.s 0 0 0 ⟨#[]⟩)) ∧ Below W.heap.size W w') := fun W => rsame_any t.v.k t.v.n t.v.d t.v.s 0 0 0 ⟨#[]⟩ W
  have hte := trun_eq d s t
  have HE : Hid (ndE d s.1 = meetE d s) := nd_meet hs
  obtain ⟨R, eR⟩ : ∃ R : Int × (Int × Int), Hid (trun d s t = R) := ⟨_, rfl⟩
  rw [eR.out] at hte ⊢
  have HTE : Hid (_) := hte
  obtain ⟨ts, ets⟩ : ∃ ts : List Tm, Hid (t.subs = ts) := ⟨_, rfl⟩
  obtain ⟨nu, en⟩ : ∃ n : Nat, Hid (t.subs.length = n) := ⟨_, rfl⟩
  rw [en.out] at hl hc hD ⊢
  have HD : Hid (_) := hD
  clear hV HX0 ih hK hs hm hte hD hF
  generalize nameB t.nm = NB at *
  generalize sameB t.v.k t.v.n t.v.d t.v.s 0 0 0 ⟨#[]⟩ = SB at *
  generalize t.v.may = MY at *
  generalize t.v.k = vk at *
  generalize t.v.n = vn at *
  generalize t.v.d = vd at *
  generalize t.v.s = vs at *
  generalize t.k = tk at *
  generalize t.nm = nm at *
  go_enter Tryz.func58, Tryz.ntmps58
  go_wp2_with fail
  refine (rnode_any q s.1 s.2 d _ (HW.out.alloc _) ⟨HS.out.1, by have := HS.out.2.1; omega⟩).mono ?_
  rintro r w1 ⟨rfl, h1⟩
  have hK1 : KeepT q w w1 := (KeepT.of ((Below.refl _ _).alloc (Nat.le_refl _) _)).trans h1.out.2.keep
  have W1 : Hid (WK w1 q (s.1 + 1) (if s.2 < d then d else s.2) (ndE d s.1)) := h1.out.1
  have hne : w.heap.size ≠ q := by omega
  have hz1 : w.heap.size < w1.heap.size := by have := h1.out.2.size; simp at this; omega
  have B1 : Hid (w1.heap[w.heap.size]? = some (.cells #[.int .i64 tk, .string nm, .int .i64 vk, .int .i64 vn, .int .i64 vd, .string vs, .slice p nu c] 39 (0, 0))) := (h1.out.2.block w.heap.size (by simp) hne).trans (heap_allocA w _)
  have e0 : w1.cell? ⟨w.heap.size, 0, none⟩ = some (.int .i64 tk) := by rw [Lib.cell_of_heap B1.out]; rfl
  clear h1
  by_cases hE : ndE d s.1 = 0
  case neg =>
    have hE' : (ndE d s.1 == 0) = false := by simpa using hE
    rw [hE']
    go_wp2
    refine bodyPost_ret (results_none rfl _ _ _) rfl ?_
    refine ⟨⟨_, rfl⟩, hK1, ?_⟩
    have h := HTE.out
    rw [← HE.out, if_neg hE] at h
    rw [h]
    exact ⟨_, _, W1.out, fun e => absurd e hE⟩
  have hE' : (ndE d s.1 == 0) = true := by simpa using hE
  rw [hE']
  have W1' : Hid (WK w1 q (s.1 + 1) (if s.2 < d then d else s.2) 0) := by have h := W1.out; rwa [hE] at h
  clear W1
  obtain ⟨N1, hN1⟩ : ∃ N1, Hid (s.1 + 1 = N1) := ⟨_, rfl⟩
  obtain ⟨M1, hM1⟩ : ∃ M1, Hid ((if s.2 < d then d else s.2) = M1) := ⟨_, rfl⟩
  rw [hN1.out, hM1.out] at W1'
  have hmS : Hid (meetS d s = (N1, M1)) := by
    have e : meetE d s = 0 := by rw [← HE.out]; exact hE
    unfold meetS
    rw [if_pos e, ← hN1.out, ← hM1.out, Int.max_def]
    congr 1
    by_cases h : s.2 < d
    · rw [if_pos h, if_pos (by omega)]
    · rw [if_neg h]; split <;> omega
  have HR : Hid (R = if tmE t = 0 then truns (d + 1) (N1, M1) t.subs else (tmE t, (N1, M1))) := by
    have h := HTE.out
    rw [← HE.out, if_pos hE, hmS.out] at h
    exact h
  have hd24 : d ≤ 24 := meetE_le (s := s) (by rw [← HE.out]; exact hE)
  have HOk : Hid (OkS (N1, M1)) := by rw [← hmS.out]; exact meetS_ok HS.out hd0
  clear HTE HE hE hE' hN1 hM1 hmS
  obtain ⟨TE, hTE⟩ : ∃ TE, Hid (tmE t = TE) := ⟨_, rfl⟩
  rw [hTE.out] at HR HD
  clear hTE e0
  have HNo : Hid (¬ TE = 0 → ∀ W : World, WK W q N1 M1 TE → WQ W q R) := by
    intro h W hW
    have hr := HR.out
    rw [if_neg h] at hr
    rw [hr]
    exact ⟨_, _, hW, fun e => absurd e h⟩
  have x1 : (tk == 1) = false := by simp; omega
  have x2 : (tk == 2) = false := by simp; omega
  have x3 : (tk == 3) = false := by simp; omega
  have x4 : (tk == 4) = false := by simp; omega
  have x5 : (tk == 5) = false := by simp; omega
  have y1 : ¬ tk = 1 := by omega
  have y2' : ¬ tk = 2 := by omega
  have y3 : ¬ tk = 3 := by omega
  have y4 : ¬ tk = 4 := by omega
  have y5 : ¬ tk = 5 := by omega
  have z1 : ¬ tk < 1 := by omega
  have e0 : w1.cell? ⟨w.heap.size, 0, none⟩ = some (.int .i64 tk) := by rw [Lib.cell_of_heap B1.out]; rfl
  go_wp2_with fail
  refine (rwrong_any q N1 M1 0 20 _ w1 W1'.out).mono ?_
  rintro r w2 ⟨⟨v2, rfl⟩, h2⟩
  have W2 : Hid (WK w2 q N1 M1 20) := by have a := h2.out.1; first | exact a | (simp [wrE, h7] at a; exact a)
  have B2 : Hid (_) := h2.out.2.heap B1.out hne
  have hK2 : KeepT q w w2 := hK1.trans h2.out.2.keep
  have hz2 : w.heap.size < w2.heap.size := lt_heap B2.out
  clear h2 e0
  have e0 : w2.cell? ⟨w.heap.size, 0, none⟩ = some (.int .i64 tk) := by rw [Lib.cell_of_heap B2.out]; rfl
  have e1 : w2.cell? ⟨w.heap.size, 1, none⟩ = some (.string nm) := by rw [Lib.cell_of_heap B2.out]; rfl
  go_wp2_with fail
  refine (cN.out _).mono ?_
  rintro r w3 ⟨rfl, hb3⟩
  have W3 : Hid (WK w3 q N1 M1 20) := W2.out.below hb3
  have B3 : Hid (_) := blkB B2.out hb3
  have hK3 : KeepT q w w3 := hK2.trans (KeepT.of hb3)
  clear hb3 e0 e1
  have e2 : w3.cell? ⟨w.heap.size, 2, none⟩ = some (.int .i64 vk) := by rw [Lib.cell_of_heap B3.out]; rfl
  have e3 : w3.cell? ⟨w.heap.size, 3, none⟩ = some (.int .i64 vn) := by rw [Lib.cell_of_heap B3.out]; rfl
  have e4 : w3.cell? ⟨w.heap.size, 4, none⟩ = some (.int .i64 vd) := by rw [Lib.cell_of_heap B3.out]; rfl
  have e5 : w3.cell? ⟨w.heap.size, 5, none⟩ = some (.string vs) := by rw [Lib.cell_of_heap B3.out]; rfl
  go_wp2_with fail
  refine (cS.out _).mono ?_
  rintro r w4 ⟨rfl, hb4⟩
  have W4 : Hid (WK w4 q N1 M1 20) := W3.out.below hb4
  have B4 : Hid (_) := blkB B3.out hb4
  have hK4 : KeepT q w w4 := hK3.trans (KeepT.of hb4)
  clear hb4 e2 e3 e4 e5
  have e0 : w4.cell? ⟨w.heap.size, 0, none⟩ = some (.int .i64 tk) := by rw [Lib.cell_of_heap B4.out]; rfl
  have e1 : w4.cell? ⟨w.heap.size, 1, none⟩ = some (.string nm) := by rw [Lib.cell_of_heap B4.out]; rfl
  have e6 : w4.cell? ⟨w.heap.size, 6, none⟩ = some (.slice p nu c) := by rw [Lib.cell_of_heap B4.out]; rfl
  have hx := h7
  cases SB <;> by_cases hn : nm.toList = []
  all_goals
    go_wp2_with fail
    refine (rwrong_any q N1 M1 _ 1 _ w4 W4.out).mono ?_
    rintro r w5 ⟨⟨v5, rfl⟩, h5⟩
    have W5 : Hid (WK w5 q N1 M1 TE) := by
      have a := h5.out.1
      have b := HD.out
      simp [wrE, h7, hn, y2'] at a b
      first | (subst b; exact a) | (rw [← b]; exact a)
    have hK5 : KeepT q w w5 := hK4.trans h5.out.2.keep
    have B5 : Hid (_) := h5.out.2.heap B4.out hne
    have y2 : w5.cell? ⟨q, 2, none⟩ = some (.int .i64 TE) := W5.out.e
    have f0 : w5.cell? ⟨w.heap.size, 0, none⟩ = some (.int .i64 tk) := by rw [Lib.cell_of_heap B5.out]; rfl
    have f6 : w5.cell? ⟨w.heap.size, 6, none⟩ = some (.slice p nu c) := by rw [Lib.cell_of_heap B5.out]; rfl
    clear h5 e0 e1 e6
    have tn : ¬ TE = 0 := by have b := HD.out; simp [wrE, h7, hn, y1, y2', y3, y4, y5] at b; omega
    have tn' : (TE == 0) = false := by simpa using tn
    have tn'' : (TE != 0) = true := by simpa using tn
    go_wp2
    refine bodyPost_ret (results_none rfl _ _ _) rfl ?_
    exact ⟨⟨_, rfl⟩, hK5, HNo.out tn _ W5.out⟩
end Go.Proofs.YtfajjphfjilpnaaGreat

namespace Go.Proofs.YtfajjphfjilpnaaGreat
open Go.RowKit LX Go.Shelf
set_option linter.unusedVariables false

set_option maxRecDepth 100000 in
set_option maxHeartbeats 8000000 in
theorem rterm_c1 (w0 : World) (q : Nat) (hq : w0.heap.size ≤ q) (m : Nat) (ih : ∀ (t : Tm) (V : Value) (d : Int) (s : Int × Int) (w : World), SizeOf.sizeOf t ≤ m → TmsAt w0 V t.subs → t.v.Fits → Below w0.heap.size w0 w → WK w q s.1 s.2 0 → OkS s → 0 ≤ d → d ≤ 25 →
    Calls Tryz.prog 58 #[.pointer (some ⟨q, 0, none⟩), .agg #[.int .i64 t.k, .string t.nm, .int .i64 t.v.k, .int .i64 t.v.n, .int .i64 t.v.d, .string t.v.s, V], .int .i64 d] w fun r w' => (∃ v, r = .returned v) ∧ Hid (KeepT q w w' ∧ WQ w' q (trun d s t))) (t : Tm) (V : Value) (d : Int) (s : Int × Int) (w : World) (hm : SizeOf.sizeOf t ≤ m + 1) (hV : TmsAt w0 V t.subs) (hF : t.v.Fits) (hw : Below w0.heap.size w0 w) (hK : WK w q s.1 s.2 0) (hs : OkS s) (hd0 : 0 ≤ d) (hd1 : d ≤ 25) (h7 : t.k = 1) :
    Calls Tryz.prog 58 #[.pointer (some ⟨q, 0, none⟩), .agg #[.int .i64 t.k, .string t.nm, .int .i64 t.v.k, .int .i64 t.v.n, .int .i64 t.v.d, .string t.v.s, V], .int .i64 d] w fun r w' => (∃ v, r = .returned v) ∧ Hid (KeepT q w w' ∧ WQ w' q (trun d s t)) := by
  obtain ⟨p, c, rfl, hl, hc, HX0⟩ := hV.form
  have HX : Hid (∀ i (hi : i < t.subs.length), ∃ b off u, p = some ⟨b, off, none⟩ ∧ b < w0.heap.size ∧ TmC w0 b (off + i * 7) t.subs[i] u ∧ TmsAt w0 u t.subs[i].subs ∧ t.subs[i].v.Fits) := HX0
  have IH : Hid (_) := ih
  have HS : Hid (OkS s) := hs
  have HW : Hid (WK w q s.1 s.2 0) := hK
  have hqw : q < w.heap.size := hK.lt
  have HM : Hid (SizeOf.sizeOf t ≤ m + 1) := hm
  have hD := doc_tmE t
  have cN : Hid (∀ W : World, Calls Tryz.prog 81 #[.string t.nm] W fun e w' => e = .returned (.bool (nameB t.nm)) ∧ Below W.heap.size W w') := fun W => rname_any t.nm W
  have cC : Hid (∀ W : World, Calls Tryz.prog 85 #[.agg #[.int .i64 t.v.k, .int .i64 t.v.n, .int .i64 t.v.d, .string t.v.s]] W fun e w' => e = .returned (.int .i64 t.v.may) ∧ Below W.heap.size W w') := fun W => rcheck_any t.v.k t.v.n t.v.d t.v.s W hF.n1 hF.n2 hF.d1 hF.d2
  have cS : Hid (∀ W : World, Calls Tryz.prog 84 #[.agg #[.int .i64 t.v.k, .int .i64 t.v.n, .int .i64 t.v.d, .string t.v.s], .agg #[.int .i64 0, .int .i64 0, .int .i64 0, .string ⟨#[]⟩]] W fun e w' => e = .returned (.bool (sameB t.v.k t.v.n t.v.d t.v.s 0 0 0 ⟨#[]⟩)) ∧ Below W.heap.size W w') := fun W => rsame_any t.v.k t.v.n t.v.d t.v.s 0 0 0 ⟨#[]⟩ W
  have hte := trun_eq d s t
  have HE : Hid (ndE d s.1 = meetE d s) := nd_meet hs
  obtain ⟨R, eR⟩ : ∃ R : Int × (Int × Int), Hid (trun d s t = R) := ⟨_, rfl⟩
  rw [eR.out] at hte ⊢
  have HTE : Hid (_) := hte
  obtain ⟨ts, ets⟩ : ∃ ts : List Tm, Hid (t.subs = ts) := ⟨_, rfl⟩
  obtain ⟨nu, en⟩ : ∃ n : Nat, Hid (t.subs.length = n) := ⟨_, rfl⟩
  rw [en.out] at hl hc hD ⊢
  have HD : Hid (_) := hD
  clear hV HX0 ih hK hs hm hte hD hF
  generalize nameB t.nm = NB at *
  generalize sameB t.v.k t.v.n t.v.d t.v.s 0 0 0 ⟨#[]⟩ = SB at *
  generalize t.v.may = MY at *
  generalize t.v.k = vk at *
  generalize t.v.n = vn at *
  generalize t.v.d = vd at *
  generalize t.v.s = vs at *
  generalize t.k = tk at *
  generalize t.nm = nm at *
  have H7 : Hid (tk = 1) := h7
  clear h7
  go_enter Tryz.func58, Tryz.ntmps58
  go_wp2_with fail
  refine (rnode_any q s.1 s.2 d _ (HW.out.alloc _) ⟨HS.out.1, by have := HS.out.2.1; omega⟩).mono ?_
  rintro r w1 ⟨rfl, h1⟩
  have hK1 : KeepT q w w1 := (KeepT.of ((Below.refl _ _).alloc (Nat.le_refl _) _)).trans h1.out.2.keep
  have W1 : Hid (WK w1 q (s.1 + 1) (if s.2 < d then d else s.2) (ndE d s.1)) := h1.out.1
  have hne : w.heap.size ≠ q := by omega
  have hz1 : w.heap.size < w1.heap.size := by have := h1.out.2.size; simp at this; omega
  have B1 : Hid (w1.heap[w.heap.size]? = some (.cells #[.int .i64 tk, .string nm, .int .i64 vk, .int .i64 vn, .int .i64 vd, .string vs, .slice p nu c] 39 (0, 0))) := (h1.out.2.block w.heap.size (by simp) hne).trans (heap_allocA w _)
  have e0 : w1.cell? ⟨w.heap.size, 0, none⟩ = some (.int .i64 tk) := by rw [Lib.cell_of_heap B1.out]; rfl
  clear h1
  by_cases hE : ndE d s.1 = 0
  case neg =>
    have hE' : (ndE d s.1 == 0) = false := by simpa using hE
    rw [hE']
    go_wp2
    refine bodyPost_ret (results_none rfl _ _ _) rfl ?_
    refine ⟨⟨_, rfl⟩, hK1, ?_⟩
    have h := HTE.out
    rw [← HE.out, if_neg hE] at h
    rw [h]
    exact ⟨_, _, W1.out, fun e => absurd e hE⟩
  have hE' : (ndE d s.1 == 0) = true := by simpa using hE
  rw [hE']
  have W1' : Hid (WK w1 q (s.1 + 1) (if s.2 < d then d else s.2) 0) := by have h := W1.out; rwa [hE] at h
  clear W1
  obtain ⟨N1, hN1⟩ : ∃ N1, Hid (s.1 + 1 = N1) := ⟨_, rfl⟩
  obtain ⟨M1, hM1⟩ : ∃ M1, Hid ((if s.2 < d then d else s.2) = M1) := ⟨_, rfl⟩
  rw [hN1.out, hM1.out] at W1'
  have hmS : Hid (meetS d s = (N1, M1)) := by
    have e : meetE d s = 0 := by rw [← HE.out]; exact hE
    unfold meetS
    rw [if_pos e, ← hN1.out, ← hM1.out, Int.max_def]
    congr 1
    by_cases h : s.2 < d
    · rw [if_pos h, if_pos (by omega)]
    · rw [if_neg h]; split <;> omega
  have HR : Hid (R = if tmE t = 0 then truns (d + 1) (N1, M1) t.subs else (tmE t, (N1, M1))) := by
    have h := HTE.out
    rw [← HE.out, if_pos hE, hmS.out] at h
    exact h
  have hd24 : d ≤ 24 := meetE_le (s := s) (by rw [← HE.out]; exact hE)
  have HOk : Hid (OkS (N1, M1)) := by rw [← hmS.out]; exact meetS_ok HS.out hd0
  clear HTE HE hE hE' hN1 hM1 hmS
  obtain ⟨TE, hTE⟩ : ∃ TE, Hid (tmE t = TE) := ⟨_, rfl⟩
  rw [hTE.out] at HR HD
  clear hTE e0
  have HNo : Hid (¬ TE = 0 → ∀ W : World, WK W q N1 M1 TE → WQ W q R) := by
    intro h W hW
    have hr := HR.out
    rw [if_neg h] at hr
    rw [hr]
    exact ⟨_, _, hW, fun e => absurd e h⟩
  have h7 := H7.out
  subst h7
  have e0 : w1.cell? ⟨w.heap.size, 0, none⟩ = some (.int .i64 1) := by rw [Lib.cell_of_heap B1.out]; rfl
  go_wp2_with fail
  refine (rwrong_any q N1 M1 0 20 _ w1 W1'.out).mono ?_
  rintro r w2 ⟨⟨v2, rfl⟩, h2⟩
  have W2 : Hid (WK w2 q N1 M1 0) := by have a := h2.out.1; first | exact a | (simp [wrE, h7] at a; exact a)
  have B2 : Hid (_) := h2.out.2.heap B1.out hne
  have hK2 : KeepT q w w2 := hK1.trans h2.out.2.keep
  have hz2 : w.heap.size < w2.heap.size := lt_heap B2.out
  clear h2 e0
  have e0 : w2.cell? ⟨w.heap.size, 0, none⟩ = some (.int .i64 1) := by rw [Lib.cell_of_heap B2.out]; rfl
  have e1 : w2.cell? ⟨w.heap.size, 1, none⟩ = some (.string nm) := by rw [Lib.cell_of_heap B2.out]; rfl
  go_wp2_with fail
  refine (cN.out _).mono ?_
  rintro r w3 ⟨rfl, hb3⟩
  have W3 : Hid (WK w3 q N1 M1 0) := W2.out.below hb3
  have B3 : Hid (_) := blkB B2.out hb3
  have hK3 : KeepT q w w3 := hK2.trans (KeepT.of hb3)
  clear hb3 e0 e1
  have e2 : w3.cell? ⟨w.heap.size, 2, none⟩ = some (.int .i64 vk) := by rw [Lib.cell_of_heap B3.out]; rfl
  have e3 : w3.cell? ⟨w.heap.size, 3, none⟩ = some (.int .i64 vn) := by rw [Lib.cell_of_heap B3.out]; rfl
  have e4 : w3.cell? ⟨w.heap.size, 4, none⟩ = some (.int .i64 vd) := by rw [Lib.cell_of_heap B3.out]; rfl
  have e5 : w3.cell? ⟨w.heap.size, 5, none⟩ = some (.string vs) := by rw [Lib.cell_of_heap B3.out]; rfl
  go_wp2_with fail
  refine (cS.out _).mono ?_
  rintro r w4 ⟨rfl, hb4⟩
  have W4 : Hid (WK w4 q N1 M1 0) := W3.out.below hb4
  have B4 : Hid (_) := blkB B3.out hb4
  have hK4 : KeepT q w w4 := hK3.trans (KeepT.of hb4)
  clear hb4 e2 e3 e4 e5
  have e0 : w4.cell? ⟨w.heap.size, 0, none⟩ = some (.int .i64 1) := by rw [Lib.cell_of_heap B4.out]; rfl
  have e1 : w4.cell? ⟨w.heap.size, 1, none⟩ = some (.string nm) := by rw [Lib.cell_of_heap B4.out]; rfl
  have e6 : w4.cell? ⟨w.heap.size, 6, none⟩ = some (.slice p nu c) := by rw [Lib.cell_of_heap B4.out]; rfl
  have hxi : ((nu : Int) = 2) = (nu = 2) := by apply propext; omega
  cases NB <;> cases SB <;> by_cases hx : nu = 0
  all_goals
    go_wp2_with fail
    refine (rwrong_any q N1 M1 _ 1 _ w4 W4.out).mono ?_
    rintro r w5 ⟨⟨v5, rfl⟩, h5⟩
    have W5 : Hid (WK w5 q N1 M1 TE) := by
      have a := h5.out.1
      have b := HD.out
      simp [wrE, hx] at a b
      first | (subst b; exact a) | (rw [← b]; exact a)
    have hK5 : KeepT q w w5 := hK4.trans h5.out.2.keep
    have B5 : Hid (_) := h5.out.2.heap B4.out hne
    have y2 : w5.cell? ⟨q, 2, none⟩ = some (.int .i64 TE) := W5.out.e
    have f0 : w5.cell? ⟨w.heap.size, 0, none⟩ = some (.int .i64 1) := by rw [Lib.cell_of_heap B5.out]; rfl
    have f6 : w5.cell? ⟨w.heap.size, 6, none⟩ = some (.slice p nu c) := by rw [Lib.cell_of_heap B5.out]; rfl
    clear h5 e0 e1 e6
    first
    | have tn : ¬ TE = 0 := by have b := HD.out; simp [wrE, hx] at b; omega
      have tn' : (TE == 0) = false := by simpa using tn
      have tn'' : (TE != 0) = true := by simpa using tn
      go_wp2
      refine bodyPost_ret (results_none rfl _ _ _) rfl ?_
      exact ⟨⟨_, rfl⟩, hK5, HNo.out tn _ W5.out⟩
    | have tz : TE = 0 := by have b := HD.out; simp [wrE, hx] at b; omega
      subst tz
      have HL : Hid (R = truns (d + 1) (N1, M1) t.subs) := by have h := HR.out; rw [if_pos rfl] at h; exact h
      clear HD HR HNo cN cC cS hx
      go_wp2
      go_loopw [11] (fun v wr => ∃ (k : Nat) (N M E : Int), k ≤ nu ∧ v = .int .i64 k ∧ KeepT q w5 wr ∧ Hid (WK wr q N M E) ∧ Hid (E = 0 → OkS (N, M) ∧ R = truns (d + 1) (N, M) (t.subs.drop k)) ∧ Hid (¬ E = 0 → R.1 = E)) (fun v _ => nu - (intOf v).toNat)
      case atStart => exact ⟨0, N1, M1, 0, Nat.zero_le _, rfl, KeepT.refl _ _, W5, fun _ => ⟨HOk.out, by rw [List.drop_zero]; exact HL.out⟩, fun h => absurd rfl h⟩
      case round =>
        obtain ⟨k, N, M, E, hk, rfl, hKr, hWr, hr0, hr1⟩ := hrel
        have Br : Hid (_) := (hKr.block w.heap.size (lt_heap B5.out) hne).trans B5.out
        have r6 : wr.cell? ⟨w.heap.size, 6, none⟩ = some (.slice p nu c) := by rw [Lib.cell_of_heap Br.out]; rfl
        by_cases hlt : k < nu
        case neg =>
          have c2 : ¬ (k : Int) < nu := by omega
          go_wp2
          go_end0
          refine ⟨⟨_, rfl⟩, hK5.trans hKr, ?_⟩
          by_cases hE0 : E = 0
          · have h := (hr0.out hE0).2
            rw [List.drop_eq_nil_of_le (by have := en.out; omega), truns_nil] at h
            rw [h]
            subst hE0
            exact ⟨N, M, hWr.out, fun _ => ⟨rfl, rfl⟩⟩
          · have h := hr1.out hE0
            exact ⟨N, M, by rw [h]; exact hWr.out, fun e => absurd (h.symm.trans e) hE0⟩
        have hlt' : (k : Int) < nu := by omega
        have kx : k < t.subs.length := by have := en.out; omega
        obtain ⟨b, off, u, rfl, hb, TC, TS, TF⟩ := HX.out k kx
        have hBr : Below w0.heap.size w0 wr := hw.trans ((hK5.trans hKr).below (B := w0.heap.size) hq (Nat.le_of_lt hqw))
        obtain ⟨a0, a1, a2, a3, a4, a5, a6⟩ := TC.below hBr hb
        have hsz : SizeOf.sizeOf t.subs[k] ≤ m := by
          have h1 := mem_lt k kx
          have h2 := t.subs_lt
          have h3 := HM.out
          unfold Hid at h3
          omega
        have cT : Hid (Calls Tryz.prog 58 #[.pointer (some ⟨q, 0, none⟩), .agg #[.int .i64 t.subs[k].k, .string t.subs[k].nm, .int .i64 t.subs[k].v.k, .int .i64 t.subs[k].v.n, .int .i64 t.subs[k].v.d, .string t.subs[k].v.s, u], .int .i64 (d + 1)] wr fun r w' => (∃ v, r = .returned v) ∧ Hid (KeepT q wr w' ∧ ∃ N' M' E', WK w' q N' M' E' ∧ (E' = 0 → OkS (N', M') ∧ R = truns (d + 1) (N', M') (t.subs.drop (k + 1))) ∧ (¬ E' = 0 → R.1 = E'))) := by
          by_cases hE0 : E = 0
          · subst hE0
            obtain ⟨o1, o2⟩ := hr0.out rfl
            refine (IH.out t.subs[k] u (d + 1) (N, M) wr hsz TS TF hBr hWr.out o1 (by omega) (by omega)).mono ?_
            rintro r w' ⟨hv, h⟩
            obtain ⟨N', M', g1, g2⟩ := h.out.2
            rw [List.drop_eq_getElem_cons kx, truns_cons] at o2
            refine ⟨hv, h.out.1, N', M', _, g1, fun e => ?_, fun e => ?_⟩
            · obtain ⟨rfl, rfl⟩ := g2 e
              rw [if_pos e] at o2
              have ok := truns_ok (SizeOf.sizeOf [t.subs[k]]) [t.subs[k]] (d + 1) (N, M) (Nat.le_refl _) o1 (by omega)
              rw [truns_cons, if_pos e, truns_nil] at ok
              exact ⟨ok, o2⟩
            · rw [if_neg e] at o2
              rw [o2]
          · refine (rterm_no q N M E (d + 1) _ _ _ _ _ _ u wr hWr.out hE0).mono ?_
            rintro r w' ⟨hv, h⟩
            exact ⟨hv, KeepT.of h.out.1, N, M, E, h.out.2, fun e => absurd e hE0, fun _ => hr1.out hE0⟩
        clear hr0 hr1 TC TS TF IH HX
        generalize t.subs[k].k = k0 at *
        generalize t.subs[k].nm = k1 at *
        generalize t.subs[k].v.k = k2 at *
        generalize t.subs[k].v.n = k3 at *
        generalize t.subs[k].v.d = k4 at *
        generalize t.subs[k].v.s = k5 at *
        have nw : IntKind.i64.wrap (d + 1) = d + 1 := by rw [IntKind.wrap_i64]; omega
        have nw2 : wrap64 (d + 1) = d + 1 := by unfold wrap64; omega
        go_wp2_with fail
        refine cT.out.mono ?_
        rintro r w6 ⟨⟨v6, rfl⟩, h6⟩
        obtain ⟨hk6, N', M', E', g1, g2, g3⟩ := h6.out
        have HP : Hid (WK w6 q N' M' E' ∧ (E' = 0 → OkS (N', M') ∧ R = truns (d + 1) (N', M') (t.subs.drop (k + 1))) ∧ (¬ E' = 0 → R.1 = E')) := ⟨g1, g2, g3⟩
        have hK6 : KeepT q w5 w6 := hKr.trans hk6
        clear g1 g2 g3 h6 cT
        go_wp2
        exact ⟨⟨k + 1, N', M', E', by omega, by go_num, hK6, HP.out.1, HP.out.2.1, HP.out.2.2⟩, by simp [intOf]; omega⟩
end Go.Proofs.YtfajjphfjilpnaaGreat

namespace Go.Proofs.YtfajjphfjilpnaaGreat
open Go.RowKit LX Go.Shelf
set_option linter.unusedVariables false

set_option maxRecDepth 100000 in
set_option maxHeartbeats 8000000 in
theorem rterm_c2 (w0 : World) (q : Nat) (hq : w0.heap.size ≤ q) (m : Nat) (ih : ∀ (t : Tm) (V : Value) (d : Int) (s : Int × Int) (w : World), SizeOf.sizeOf t ≤ m → TmsAt w0 V t.subs → t.v.Fits → Below w0.heap.size w0 w → WK w q s.1 s.2 0 → OkS s → 0 ≤ d → d ≤ 25 →
    Calls Tryz.prog 58 #[.pointer (some ⟨q, 0, none⟩), .agg #[.int .i64 t.k, .string t.nm, .int .i64 t.v.k, .int .i64 t.v.n, .int .i64 t.v.d, .string t.v.s, V], .int .i64 d] w fun r w' => (∃ v, r = .returned v) ∧ Hid (KeepT q w w' ∧ WQ w' q (trun d s t))) (t : Tm) (V : Value) (d : Int) (s : Int × Int) (w : World) (hm : SizeOf.sizeOf t ≤ m + 1) (hV : TmsAt w0 V t.subs) (hF : t.v.Fits) (hw : Below w0.heap.size w0 w) (hK : WK w q s.1 s.2 0) (hs : OkS s) (hd0 : 0 ≤ d) (hd1 : d ≤ 25) (h7 : t.k = 2) :
    Calls Tryz.prog 58 #[.pointer (some ⟨q, 0, none⟩), .agg #[.int .i64 t.k, .string t.nm, .int .i64 t.v.k, .int .i64 t.v.n, .int .i64 t.v.d, .string t.v.s, V], .int .i64 d] w fun r w' => (∃ v, r = .returned v) ∧ Hid (KeepT q w w' ∧ WQ w' q (trun d s t)) := by
  obtain ⟨p, c, rfl, hl, hc, HX0⟩ := hV.form
  have HX : Hid (∀ i (hi : i < t.subs.length), ∃ b off u, p = some ⟨b, off, none⟩ ∧ b < w0.heap.size ∧ TmC w0 b (off + i * 7) t.subs[i] u ∧ TmsAt w0 u t.subs[i].subs ∧ t.subs[i].v.Fits) := HX0
  have IH : Hid (_) := ih
  have HS : Hid (OkS s) := hs
  have HW : Hid (WK w q s.1 s.2 0) := hK
  have hqw : q < w.heap.size := hK.lt
  have HM : Hid (SizeOf.sizeOf t ≤ m + 1) := hm
  have hD := doc_tmE t
  have cN : Hid (∀ W : World, Calls Tryz.prog 81 #[.string t.nm] W fun e w' => e = .returned (.bool (nameB t.nm)) ∧ Below W.heap.size W w') := fun W => rname_any t.nm W
  have cC : Hid (∀ W : World, Calls Tryz.prog 85 #[.agg #[.int .i64 t.v.k, .int .i64 t.v.n, .int .i64 t.v.d, .string t.v.s]] W fun e w' => e = .returned (.int .i64 t.v.may) ∧ Below W.heap.size W w') := fun W => rcheck_any t.v.k t.v.n t.v.d t.v.s W hF.n1 hF.n2 hF.d1 hF.d2
  have cS : Hid (∀ W : World, Calls Tryz.prog 84 #[.agg #[.int .i64 t.v.k, .int .i64 t.v.n, .int .i64 t.v.d, .string t.v.s], .agg #[.int .i64 0, .int .i64 0, .int .i64 0, .string ⟨#[]⟩]] W fun e w' => e = .returned (.bool (sameB t.v.k t.v.n t.v.d t.v.s 0 0 0 ⟨#[]⟩)) ∧ Below W.heap.size W w') := fun W => rsame_any t.v.k t.v.n t.v.d t.v.s 0 0 0 ⟨#[]⟩ W
  have hte := trun_eq d s t
  have HE : Hid (ndE d s.1 = meetE d s) := nd_meet hs
  obtain ⟨R, eR⟩ : ∃ R : Int × (Int × Int), Hid (trun d s t = R) := ⟨_, rfl⟩
  rw [eR.out] at hte ⊢
  have HTE : Hid (_) := hte
  obtain ⟨ts, ets⟩ : ∃ ts : List Tm, Hid (t.subs = ts) := ⟨_, rfl⟩
  obtain ⟨nu, en⟩ : ∃ n : Nat, Hid (t.subs.length = n) := ⟨_, rfl⟩
  rw [en.out] at hl hc hD ⊢
  have HD : Hid (_) := hD
  clear hV HX0 ih hK hs hm hte hD hF
  generalize nameB t.nm = NB at *
  generalize sameB t.v.k t.v.n t.v.d t.v.s 0 0 0 ⟨#[]⟩ = SB at *
  generalize t.v.may = MY at *
  generalize t.v.k = vk at *
  generalize t.v.n = vn at *
  generalize t.v.d = vd at *
  generalize t.v.s = vs at *
  generalize t.k = tk at *
  generalize t.nm = nm at *
  have H7 : Hid (tk = 2) := h7
  clear h7
  go_enter Tryz.func58, Tryz.ntmps58
  go_wp2_with fail
  refine (rnode_any q s.1 s.2 d _ (HW.out.alloc _) ⟨HS.out.1, by have := HS.out.2.1; omega⟩).mono ?_
  rintro r w1 ⟨rfl, h1⟩
  have hK1 : KeepT q w w1 := (KeepT.of ((Below.refl _ _).alloc (Nat.le_refl _) _)).trans h1.out.2.keep
  have W1 : Hid (WK w1 q (s.1 + 1) (if s.2 < d then d else s.2) (ndE d s.1)) := h1.out.1
  have hne : w.heap.size ≠ q := by omega
  have hz1 : w.heap.size < w1.heap.size := by have := h1.out.2.size; simp at this; omega
  have B1 : Hid (w1.heap[w.heap.size]? = some (.cells #[.int .i64 tk, .string nm, .int .i64 vk, .int .i64 vn, .int .i64 vd, .string vs, .slice p nu c] 39 (0, 0))) := (h1.out.2.block w.heap.size (by simp) hne).trans (heap_allocA w _)
  have e0 : w1.cell? ⟨w.heap.size, 0, none⟩ = some (.int .i64 tk) := by rw [Lib.cell_of_heap B1.out]; rfl
  clear h1
  by_cases hE : ndE d s.1 = 0
  case neg =>
    have hE' : (ndE d s.1 == 0) = false := by simpa using hE
    rw [hE']
    go_wp2
    refine bodyPost_ret (results_none rfl _ _ _) rfl ?_
    refine ⟨⟨_, rfl⟩, hK1, ?_⟩
    have h := HTE.out
    rw [← HE.out, if_neg hE] at h
    rw [h]
    exact ⟨_, _, W1.out, fun e => absurd e hE⟩
  have hE' : (ndE d s.1 == 0) = true := by simpa using hE
  rw [hE']
  have W1' : Hid (WK w1 q (s.1 + 1) (if s.2 < d then d else s.2) 0) := by have h := W1.out; rwa [hE] at h
  clear W1
  obtain ⟨N1, hN1⟩ : ∃ N1, Hid (s.1 + 1 = N1) := ⟨_, rfl⟩
  obtain ⟨M1, hM1⟩ : ∃ M1, Hid ((if s.2 < d then d else s.2) = M1) := ⟨_, rfl⟩
  rw [hN1.out, hM1.out] at W1'
  have hmS : Hid (meetS d s = (N1, M1)) := by
    have e : meetE d s = 0 := by rw [← HE.out]; exact hE
    unfold meetS
    rw [if_pos e, ← hN1.out, ← hM1.out, Int.max_def]
    congr 1
    by_cases h : s.2 < d
    · rw [if_pos h, if_pos (by omega)]
    · rw [if_neg h]; split <;> omega
  have HR : Hid (R = if tmE t = 0 then truns (d + 1) (N1, M1) t.subs else (tmE t, (N1, M1))) := by
    have h := HTE.out
    rw [← HE.out, if_pos hE, hmS.out] at h
    exact h
  have hd24 : d ≤ 24 := meetE_le (s := s) (by rw [← HE.out]; exact hE)
  have HOk : Hid (OkS (N1, M1)) := by rw [← hmS.out]; exact meetS_ok HS.out hd0
  clear HTE HE hE hE' hN1 hM1 hmS
  obtain ⟨TE, hTE⟩ : ∃ TE, Hid (tmE t = TE) := ⟨_, rfl⟩
  rw [hTE.out] at HR HD
  clear hTE e0
  have HNo : Hid (¬ TE = 0 → ∀ W : World, WK W q N1 M1 TE → WQ W q R) := by
    intro h W hW
    have hr := HR.out
    rw [if_neg h] at hr
    rw [hr]
    exact ⟨_, _, hW, fun e => absurd e h⟩
  have h7 := H7.out
  subst h7
  have e0 : w1.cell? ⟨w.heap.size, 0, none⟩ = some (.int .i64 2) := by rw [Lib.cell_of_heap B1.out]; rfl
  go_wp2_with fail
  refine (rwrong_any q N1 M1 0 20 _ w1 W1'.out).mono ?_
  rintro r w2 ⟨⟨v2, rfl⟩, h2⟩
  have W2 : Hid (WK w2 q N1 M1 0) := by have a := h2.out.1; first | exact a | (simp [wrE, h7] at a; exact a)
  have B2 : Hid (_) := h2.out.2.heap B1.out hne
  have hK2 : KeepT q w w2 := hK1.trans h2.out.2.keep
  have hz2 : w.heap.size < w2.heap.size := lt_heap B2.out
  clear h2 e0
  have e0 : w2.cell? ⟨w.heap.size, 0, none⟩ = some (.int .i64 2) := by rw [Lib.cell_of_heap B2.out]; rfl
  have e1 : w2.cell? ⟨w.heap.size, 1, none⟩ = some (.string nm) := by rw [Lib.cell_of_heap B2.out]; rfl
  go_wp2_with fail
  refine (cN.out _).mono ?_
  rintro r w3 ⟨rfl, hb3⟩
  have W3 : Hid (WK w3 q N1 M1 0) := W2.out.below hb3
  have B3 : Hid (_) := blkB B2.out hb3
  have hK3 : KeepT q w w3 := hK2.trans (KeepT.of hb3)
  clear hb3 e0 e1
  have e2 : w3.cell? ⟨w.heap.size, 2, none⟩ = some (.int .i64 vk) := by rw [Lib.cell_of_heap B3.out]; rfl
  have e3 : w3.cell? ⟨w.heap.size, 3, none⟩ = some (.int .i64 vn) := by rw [Lib.cell_of_heap B3.out]; rfl
  have e4 : w3.cell? ⟨w.heap.size, 4, none⟩ = some (.int .i64 vd) := by rw [Lib.cell_of_heap B3.out]; rfl
  have e5 : w3.cell? ⟨w.heap.size, 5, none⟩ = some (.string vs) := by rw [Lib.cell_of_heap B3.out]; rfl
  go_wp2_with fail
  refine (cS.out _).mono ?_
  rintro r w4 ⟨rfl, hb4⟩
  have W4 : Hid (WK w4 q N1 M1 0) := W3.out.below hb4
  have B4 : Hid (_) := blkB B3.out hb4
  have hK4 : KeepT q w w4 := hK3.trans (KeepT.of hb4)
  clear hb4 e2 e3 e4 e5
  have e0 : w4.cell? ⟨w.heap.size, 0, none⟩ = some (.int .i64 2) := by rw [Lib.cell_of_heap B4.out]; rfl
  have e1 : w4.cell? ⟨w.heap.size, 1, none⟩ = some (.string nm) := by rw [Lib.cell_of_heap B4.out]; rfl
  have e6 : w4.cell? ⟨w.heap.size, 6, none⟩ = some (.slice p nu c) := by rw [Lib.cell_of_heap B4.out]; rfl
  by_cases hn : nm.toList = []
  case neg =>
    go_wp2_with fail
    refine (rwrong_any q N1 M1 _ 1 _ w4 W4.out).mono ?_
    rintro r w5 ⟨⟨v5, rfl⟩, h5⟩
    have W5 : Hid (WK w5 q N1 M1 1) := by have a := h5.out.1; first | exact a | (simp [wrE, hn] at a; exact a)
    have hK5 : KeepT q w w5 := hK4.trans h5.out.2.keep
    have B5 : Hid (_) := h5.out.2.heap B4.out hne
    clear h5 e0 e1 e6
    have e0 : w5.cell? ⟨w.heap.size, 0, none⟩ = some (.int .i64 2) := by rw [Lib.cell_of_heap B5.out]; rfl
    have e2 : w5.cell? ⟨w.heap.size, 2, none⟩ = some (.int .i64 vk) := by rw [Lib.cell_of_heap B5.out]; rfl
    have e3 : w5.cell? ⟨w.heap.size, 3, none⟩ = some (.int .i64 vn) := by rw [Lib.cell_of_heap B5.out]; rfl
    have e4 : w5.cell? ⟨w.heap.size, 4, none⟩ = some (.int .i64 vd) := by rw [Lib.cell_of_heap B5.out]; rfl
    have e5 : w5.cell? ⟨w.heap.size, 5, none⟩ = some (.string vs) := by rw [Lib.cell_of_heap B5.out]; rfl
    go_wp2_with fail
    refine (cC.out _).mono ?_
    rintro r w6 ⟨rfl, hb6⟩
    have W6 : Hid (WK w6 q N1 M1 1) := W5.out.below hb6
    have B6 : Hid (_) := blkB B5.out hb6
    have hK6 : KeepT q w w6 := hK5.trans (KeepT.of hb6)
    clear hb6 e0 e2 e3 e4 e5 W5 B5 hK5 W4 B4 hK4
    go_wp2_with fail
    refine (rwrong_any q N1 M1 1 _ _ w6 W6.out).mono ?_
    rintro r w5 ⟨⟨v5, rfl⟩, h5⟩
    have W5 : Hid (WK w5 q N1 M1 TE) := by
      have a := h5.out.1
      have b := HD.out
      simp [wrE, hn] at a b
      first | (subst b; exact a) | (rw [← b]; exact a)
    have hK5 : KeepT q w w5 := hK6.trans h5.out.2.keep
    have B5 : Hid (_) := h5.out.2.heap B6.out hne
    have y2 : w5.cell? ⟨q, 2, none⟩ = some (.int .i64 TE) := W5.out.e
    have f0 : w5.cell? ⟨w.heap.size, 0, none⟩ = some (.int .i64 2) := by rw [Lib.cell_of_heap B5.out]; rfl
    have f6 : w5.cell? ⟨w.heap.size, 6, none⟩ = some (.slice p nu c) := by rw [Lib.cell_of_heap B5.out]; rfl
    clear h5
    have tn : ¬ TE = 0 := by have b := HD.out; simp [wrE, hn] at b; omega
    have tn' : (TE == 0) = false := by simpa using tn
    have tn'' : (TE != 0) = true := by simpa using tn
    go_wp2
    refine bodyPost_ret (results_none rfl _ _ _) rfl ?_
    exact ⟨⟨_, rfl⟩, hK5, HNo.out tn _ W5.out⟩
  by_cases hx : nu = 0
  case neg =>
    go_wp2_with fail
    refine (rwrong_any q N1 M1 _ 1 _ w4 W4.out).mono ?_
    rintro r w5 ⟨⟨v5, rfl⟩, h5⟩
    have W5 : Hid (WK w5 q N1 M1 1) := by have a := h5.out.1; first | exact a | (simp [wrE, hx] at a; exact a)
    have hK5 : KeepT q w w5 := hK4.trans h5.out.2.keep
    have B5 : Hid (_) := h5.out.2.heap B4.out hne
    clear h5 e0 e1 e6
    have e0 : w5.cell? ⟨w.heap.size, 0, none⟩ = some (.int .i64 2) := by rw [Lib.cell_of_heap B5.out]; rfl
    have e2 : w5.cell? ⟨w.heap.size, 2, none⟩ = some (.int .i64 vk) := by rw [Lib.cell_of_heap B5.out]; rfl
    have e3 : w5.cell? ⟨w.heap.size, 3, none⟩ = some (.int .i64 vn) := by rw [Lib.cell_of_heap B5.out]; rfl
    have e4 : w5.cell? ⟨w.heap.size, 4, none⟩ = some (.int .i64 vd) := by rw [Lib.cell_of_heap B5.out]; rfl
    have e5 : w5.cell? ⟨w.heap.size, 5, none⟩ = some (.string vs) := by rw [Lib.cell_of_heap B5.out]; rfl
    go_wp2_with fail
    refine (cC.out _).mono ?_
    rintro r w6 ⟨rfl, hb6⟩
    have W6 : Hid (WK w6 q N1 M1 1) := W5.out.below hb6
    have B6 : Hid (_) := blkB B5.out hb6
    have hK6 : KeepT q w w6 := hK5.trans (KeepT.of hb6)
    clear hb6 e0 e2 e3 e4 e5 W5 B5 hK5 W4 B4 hK4
    go_wp2_with fail
    refine (rwrong_any q N1 M1 1 _ _ w6 W6.out).mono ?_
    rintro r w5 ⟨⟨v5, rfl⟩, h5⟩
    have W5 : Hid (WK w5 q N1 M1 TE) := by
      have a := h5.out.1
      have b := HD.out
      simp [wrE, hn, hx] at a b
      first | (subst b; exact a) | (rw [← b]; exact a)
    have hK5 : KeepT q w w5 := hK6.trans h5.out.2.keep
    have B5 : Hid (_) := h5.out.2.heap B6.out hne
    have y2 : w5.cell? ⟨q, 2, none⟩ = some (.int .i64 TE) := W5.out.e
    have f0 : w5.cell? ⟨w.heap.size, 0, none⟩ = some (.int .i64 2) := by rw [Lib.cell_of_heap B5.out]; rfl
    have f6 : w5.cell? ⟨w.heap.size, 6, none⟩ = some (.slice p nu c) := by rw [Lib.cell_of_heap B5.out]; rfl
    clear h5
    have tn : ¬ TE = 0 := by have b := HD.out; simp [wrE, hn, hx] at b; omega
    have tn' : (TE == 0) = false := by simpa using tn
    have tn'' : (TE != 0) = true := by simpa using tn
    go_wp2
    refine bodyPost_ret (results_none rfl _ _ _) rfl ?_
    exact ⟨⟨_, rfl⟩, hK5, HNo.out tn _ W5.out⟩
  by_cases hm : MY = 0
  case neg =>
    go_wp2_with fail
    refine (rwrong_any q N1 M1 _ 1 _ w4 W4.out).mono ?_
    rintro r w5 ⟨⟨v5, rfl⟩, h5⟩
    have W5 : Hid (WK w5 q N1 M1 0) := by have a := h5.out.1; first | exact a | (simp [wrE, hn, hx, hm] at a; exact a)
    have hK5 : KeepT q w w5 := hK4.trans h5.out.2.keep
    have B5 : Hid (_) := h5.out.2.heap B4.out hne
    clear h5 e0 e1 e6
    have e0 : w5.cell? ⟨w.heap.size, 0, none⟩ = some (.int .i64 2) := by rw [Lib.cell_of_heap B5.out]; rfl
    have e2 : w5.cell? ⟨w.heap.size, 2, none⟩ = some (.int .i64 vk) := by rw [Lib.cell_of_heap B5.out]; rfl
    have e3 : w5.cell? ⟨w.heap.size, 3, none⟩ = some (.int .i64 vn) := by rw [Lib.cell_of_heap B5.out]; rfl
    have e4 : w5.cell? ⟨w.heap.size, 4, none⟩ = some (.int .i64 vd) := by rw [Lib.cell_of_heap B5.out]; rfl
    have e5 : w5.cell? ⟨w.heap.size, 5, none⟩ = some (.string vs) := by rw [Lib.cell_of_heap B5.out]; rfl
    go_wp2_with fail
    refine (cC.out _).mono ?_
    rintro r w6 ⟨rfl, hb6⟩
    have W6 : Hid (WK w6 q N1 M1 0) := W5.out.below hb6
    have B6 : Hid (_) := blkB B5.out hb6
    have hK6 : KeepT q w w6 := hK5.trans (KeepT.of hb6)
    clear hb6 e0 e2 e3 e4 e5 W5 B5 hK5 W4 B4 hK4
    go_wp2_with fail
    refine (rwrong_any q N1 M1 0 _ _ w6 W6.out).mono ?_
    rintro r w5 ⟨⟨v5, rfl⟩, h5⟩
    have W5 : Hid (WK w5 q N1 M1 TE) := by
      have a := h5.out.1
      have b := HD.out
      simp [wrE, hn, hx, hm] at a b
      first | (subst b; exact a) | (rw [← b]; exact a)
    have hK5 : KeepT q w w5 := hK6.trans h5.out.2.keep
    have B5 : Hid (_) := h5.out.2.heap B6.out hne
    have y2 : w5.cell? ⟨q, 2, none⟩ = some (.int .i64 TE) := W5.out.e
    have f0 : w5.cell? ⟨w.heap.size, 0, none⟩ = some (.int .i64 2) := by rw [Lib.cell_of_heap B5.out]; rfl
    have f6 : w5.cell? ⟨w.heap.size, 6, none⟩ = some (.slice p nu c) := by rw [Lib.cell_of_heap B5.out]; rfl
    clear h5
    have tn : ¬ TE = 0 := by have b := HD.out; simp [wrE, hn, hx, hm] at b; omega
    have tn' : (TE == 0) = false := by simpa using tn
    have tn'' : (TE != 0) = true := by simpa using tn
    go_wp2
    refine bodyPost_ret (results_none rfl _ _ _) rfl ?_
    exact ⟨⟨_, rfl⟩, hK5, HNo.out tn _ W5.out⟩
  subst hm
  go_wp2_with fail
  refine (rwrong_any q N1 M1 _ 1 _ w4 W4.out).mono ?_
  rintro r w5 ⟨⟨v5, rfl⟩, h5⟩
  have W5 : Hid (WK w5 q N1 M1 0) := by have a := h5.out.1; first | exact a | (simp [wrE, hn, hx] at a; exact a)
  have hK5 : KeepT q w w5 := hK4.trans h5.out.2.keep
  have B5 : Hid (_) := h5.out.2.heap B4.out hne
  clear h5 e0 e1 e6
  have e0 : w5.cell? ⟨w.heap.size, 0, none⟩ = some (.int .i64 2) := by rw [Lib.cell_of_heap B5.out]; rfl
  have e2 : w5.cell? ⟨w.heap.size, 2, none⟩ = some (.int .i64 vk) := by rw [Lib.cell_of_heap B5.out]; rfl
  have e3 : w5.cell? ⟨w.heap.size, 3, none⟩ = some (.int .i64 vn) := by rw [Lib.cell_of_heap B5.out]; rfl
  have e4 : w5.cell? ⟨w.heap.size, 4, none⟩ = some (.int .i64 vd) := by rw [Lib.cell_of_heap B5.out]; rfl
  have e5 : w5.cell? ⟨w.heap.size, 5, none⟩ = some (.string vs) := by rw [Lib.cell_of_heap B5.out]; rfl
  go_wp2_with fail
  refine (cC.out _).mono ?_
  rintro r w6 ⟨rfl, hb6⟩
  have W6 : Hid (WK w6 q N1 M1 0) := W5.out.below hb6
  have B6 : Hid (_) := blkB B5.out hb6
  have hK6 : KeepT q w w6 := hK5.trans (KeepT.of hb6)
  clear hb6 e0 e2 e3 e4 e5 W5 B5 hK5 W4 B4 hK4
  go_wp2_with fail
  refine (rwrong_any q N1 M1 0 _ _ w6 W6.out).mono ?_
  rintro r w5 ⟨⟨v5, rfl⟩, h5⟩
  have W5 : Hid (WK w5 q N1 M1 TE) := by
    have a := h5.out.1
    have b := HD.out
    simp [wrE, hn, hx] at a b
    first | (subst b; exact a) | (rw [← b]; exact a)
  have hK5 : KeepT q w w5 := hK6.trans h5.out.2.keep
  have B5 : Hid (_) := h5.out.2.heap B6.out hne
  have y2 : w5.cell? ⟨q, 2, none⟩ = some (.int .i64 TE) := W5.out.e
  have f0 : w5.cell? ⟨w.heap.size, 0, none⟩ = some (.int .i64 2) := by rw [Lib.cell_of_heap B5.out]; rfl
  have f6 : w5.cell? ⟨w.heap.size, 6, none⟩ = some (.slice p nu c) := by rw [Lib.cell_of_heap B5.out]; rfl
  clear h5
  have tz : TE = 0 := by have b := HD.out; simp [wrE, hn, hx] at b; omega
  subst tz
  have HL : Hid (R = truns (d + 1) (N1, M1) t.subs) := by have h := HR.out; rw [if_pos rfl] at h; exact h
  clear HD HR HNo cN cC cS hx
  go_wp2
  go_loopw [11] (fun v wr => ∃ (k : Nat) (N M E : Int), k ≤ nu ∧ v = .int .i64 k ∧ KeepT q w5 wr ∧ Hid (WK wr q N M E) ∧ Hid (E = 0 → OkS (N, M) ∧ R = truns (d + 1) (N, M) (t.subs.drop k)) ∧ Hid (¬ E = 0 → R.1 = E)) (fun v _ => nu - (intOf v).toNat)
  case atStart => exact ⟨0, N1, M1, 0, Nat.zero_le _, rfl, KeepT.refl _ _, W5, fun _ => ⟨HOk.out, by rw [List.drop_zero]; exact HL.out⟩, fun h => absurd rfl h⟩
  case round =>
    obtain ⟨k, N, M, E, hk, rfl, hKr, hWr, hr0, hr1⟩ := hrel
    have Br : Hid (_) := (hKr.block w.heap.size (lt_heap B5.out) hne).trans B5.out
    have r6 : wr.cell? ⟨w.heap.size, 6, none⟩ = some (.slice p nu c) := by rw [Lib.cell_of_heap Br.out]; rfl
    by_cases hlt : k < nu
    case neg =>
      have c2 : ¬ (k : Int) < nu := by omega
      go_wp2
      go_end0
      refine ⟨⟨_, rfl⟩, hK5.trans hKr, ?_⟩
      by_cases hE0 : E = 0
      · have h := (hr0.out hE0).2
        rw [List.drop_eq_nil_of_le (by have := en.out; omega), truns_nil] at h
        rw [h]
        subst hE0
        exact ⟨N, M, hWr.out, fun _ => ⟨rfl, rfl⟩⟩
      · have h := hr1.out hE0
        exact ⟨N, M, by rw [h]; exact hWr.out, fun e => absurd (h.symm.trans e) hE0⟩
    have hlt' : (k : Int) < nu := by omega
    have kx : k < t.subs.length := by have := en.out; omega
    obtain ⟨b, off, u, rfl, hb, TC, TS, TF⟩ := HX.out k kx
    have hBr : Below w0.heap.size w0 wr := hw.trans ((hK5.trans hKr).below (B := w0.heap.size) hq (Nat.le_of_lt hqw))
    obtain ⟨a0, a1, a2, a3, a4, a5, a6⟩ := TC.below hBr hb
    have hsz : SizeOf.sizeOf t.subs[k] ≤ m := by
      have h1 := mem_lt k kx
      have h2 := t.subs_lt
      have h3 := HM.out
      unfold Hid at h3
      omega
    have cT : Hid (Calls Tryz.prog 58 #[.pointer (some ⟨q, 0, none⟩), .agg #[.int .i64 t.subs[k].k, .string t.subs[k].nm, .int .i64 t.subs[k].v.k, .int .i64 t.subs[k].v.n, .int .i64 t.subs[k].v.d, .string t.subs[k].v.s, u], .int .i64 (d + 1)] wr fun r w' => (∃ v, r = .returned v) ∧ Hid (KeepT q wr w' ∧ ∃ N' M' E', WK w' q N' M' E' ∧ (E' = 0 → OkS (N', M') ∧ R = truns (d + 1) (N', M') (t.subs.drop (k + 1))) ∧ (¬ E' = 0 → R.1 = E'))) := by
      by_cases hE0 : E = 0
      · subst hE0
        obtain ⟨o1, o2⟩ := hr0.out rfl
        refine (IH.out t.subs[k] u (d + 1) (N, M) wr hsz TS TF hBr hWr.out o1 (by omega) (by omega)).mono ?_
        rintro r w' ⟨hv, h⟩
        obtain ⟨N', M', g1, g2⟩ := h.out.2
        rw [List.drop_eq_getElem_cons kx, truns_cons] at o2
        refine ⟨hv, h.out.1, N', M', _, g1, fun e => ?_, fun e => ?_⟩
        · obtain ⟨rfl, rfl⟩ := g2 e
          rw [if_pos e] at o2
          have ok := truns_ok (SizeOf.sizeOf [t.subs[k]]) [t.subs[k]] (d + 1) (N, M) (Nat.le_refl _) o1 (by omega)
          rw [truns_cons, if_pos e, truns_nil] at ok
          exact ⟨ok, o2⟩
        · rw [if_neg e] at o2
          rw [o2]
      · refine (rterm_no q N M E (d + 1) _ _ _ _ _ _ u wr hWr.out hE0).mono ?_
        rintro r w' ⟨hv, h⟩
        exact ⟨hv, KeepT.of h.out.1, N, M, E, h.out.2, fun e => absurd e hE0, fun _ => hr1.out hE0⟩
    clear hr0 hr1 TC TS TF IH HX
    generalize t.subs[k].k = k0 at *
    generalize t.subs[k].nm = k1 at *
    generalize t.subs[k].v.k = k2 at *
    generalize t.subs[k].v.n = k3 at *
    generalize t.subs[k].v.d = k4 at *
    generalize t.subs[k].v.s = k5 at *
    have nw : IntKind.i64.wrap (d + 1) = d + 1 := by rw [IntKind.wrap_i64]; omega
    have nw2 : wrap64 (d + 1) = d + 1 := by unfold wrap64; omega
    go_wp2_with fail
    refine cT.out.mono ?_
    rintro r w6 ⟨⟨v6, rfl⟩, h6⟩
    obtain ⟨hk6, N', M', E', g1, g2, g3⟩ := h6.out
    have HP : Hid (WK w6 q N' M' E' ∧ (E' = 0 → OkS (N', M') ∧ R = truns (d + 1) (N', M') (t.subs.drop (k + 1))) ∧ (¬ E' = 0 → R.1 = E')) := ⟨g1, g2, g3⟩
    have hK6 : KeepT q w5 w6 := hKr.trans hk6
    clear g1 g2 g3 h6 cT
    go_wp2
    exact ⟨⟨k + 1, N', M', E', by omega, by go_num, hK6, HP.out.1, HP.out.2.1, HP.out.2.2⟩, by simp [intOf]; omega⟩
end Go.Proofs.YtfajjphfjilpnaaGreat

namespace Go.Proofs.YtfajjphfjilpnaaGreat
open Go.RowKit LX Go.Shelf
set_option linter.unusedVariables false

set_option maxRecDepth 100000 in
set_option maxHeartbeats 8000000 in
theorem rterm_c3 (w0 : World) (q : Nat) (hq : w0.heap.size ≤ q) (m : Nat) (ih : ∀ (t : Tm) (V : Value) (d : Int) (s : Int × Int) (w : World), SizeOf.sizeOf t ≤ m → TmsAt w0 V t.subs → t.v.Fits → Below w0.heap.size w0 w → WK w q s.1 s.2 0 → OkS s → 0 ≤ d → d ≤ 25 →
    Calls Tryz.prog 58 #[.pointer (some ⟨q, 0, none⟩), .agg #[.int .i64 t.k, .string t.nm, .int .i64 t.v.k, .int .i64 t.v.n, .int .i64 t.v.d, .string t.v.s, V], .int .i64 d] w fun r w' => (∃ v, r = .returned v) ∧ Hid (KeepT q w w' ∧ WQ w' q (trun d s t))) (t : Tm) (V : Value) (d : Int) (s : Int × Int) (w : World) (hm : SizeOf.sizeOf t ≤ m + 1) (hV : TmsAt w0 V t.subs) (hF : t.v.Fits) (hw : Below w0.heap.size w0 w) (hK : WK w q s.1 s.2 0) (hs : OkS s) (hd0 : 0 ≤ d) (hd1 : d ≤ 25) (h7 : t.k = 3) :
    Calls Tryz.prog 58 #[.pointer (some ⟨q, 0, none⟩), .agg #[.int .i64 t.k, .string t.nm, .int .i64 t.v.k, .int .i64 t.v.n, .int .i64 t.v.d, .string t.v.s, V], .int .i64 d] w fun r w' => (∃ v, r = .returned v) ∧ Hid (KeepT q w w' ∧ WQ w' q (trun d s t)) := by
  obtain ⟨p, c, rfl, hl, hc, HX0⟩ := hV.form
  have HX : Hid (∀ i (hi : i < t.subs.length), ∃ b off u, p = some ⟨b, off, none⟩ ∧ b < w0.heap.size ∧ TmC w0 b (off + i * 7) t.subs[i] u ∧ TmsAt w0 u t.subs[i].subs ∧ t.subs[i].v.Fits) := HX0
  have IH : Hid (_) := ih
  have HS : Hid (OkS s) := hs
  have HW : Hid (WK w q s.1 s.2 0) := hK
  have hqw : q < w.heap.size := hK.lt
  have HM : Hid (SizeOf.sizeOf t ≤ m + 1) := hm
  have hD := doc_tmE t
  have cN : Hid (∀ W : World, Calls Tryz.prog 81 #[.string t.nm] W fun e w' => e = .returned (.bool (nameB t.nm)) ∧ Below W.heap.size W w') := fun W => rname_any t.nm W
  have cC : Hid (∀ W : World, Calls Tryz.prog 85 #[.agg #[.int .i64 t.v.k, .int .i64 t.v.n, .int .i64 t.v.d, .string t.v.s]] W fun e w' => e = .returned (.int .i64 t.v.may) ∧ Below W.heap.size W w') := fun W => rcheck_any t.v.k t.v.n t.v.d t.v.s W hF.n1 hF.n2 hF.d1 hF.d2
  have cS : Hid (∀ W : World, Calls Tryz.prog 84 #[.agg #[.int .i64 t.v.k, .int .i64 t.v.n, .int .i64 t.v.d, .string t.v.s], .agg #[.int .i64 0, .int .i64 0, .int .i64 0, .string ⟨#[]⟩]] W fun e w' => e = .returned (.bool (sameB t.v.k t.v.n t.v.d t.v.s 0 0 0 ⟨#[]⟩)) ∧ Below W.heap.size W w') := fun W => rsame_any t.v.k t.v.n t.v.d t.v.s 0 0 0 ⟨#[]⟩ W
  have hte := trun_eq d s t
  have HE : Hid (ndE d s.1 = meetE d s) := nd_meet hs
  obtain ⟨R, eR⟩ : ∃ R : Int × (Int × Int), Hid (trun d s t = R) := ⟨_, rfl⟩
  rw [eR.out] at hte ⊢
  have HTE : Hid (_) := hte
  obtain ⟨ts, ets⟩ : ∃ ts : List Tm, Hid (t.subs = ts) := ⟨_, rfl⟩
  obtain ⟨nu, en⟩ : ∃ n : Nat, Hid (t.subs.length = n) := ⟨_, rfl⟩
  rw [en.out] at hl hc hD ⊢
  have HD : Hid (_) := hD
  clear hV HX0 ih hK hs hm hte hD hF
  generalize nameB t.nm = NB at *
  generalize sameB t.v.k t.v.n t.v.d t.v.s 0 0 0 ⟨#[]⟩ = SB at *
  generalize t.v.may = MY at *
  generalize t.v.k = vk at *
  generalize t.v.n = vn at *
  generalize t.v.d = vd at *
  generalize t.v.s = vs at *
  generalize t.k = tk at *
  generalize t.nm = nm at *
  have H7 : Hid (tk = 3) := h7
  clear h7
  go_enter Tryz.func58, Tryz.ntmps58
  go_wp2_with fail
  refine (rnode_any q s.1 s.2 d _ (HW.out.alloc _) ⟨HS.out.1, by have := HS.out.2.1; omega⟩).mono ?_
  rintro r w1 ⟨rfl, h1⟩
  have hK1 : KeepT q w w1 := (KeepT.of ((Below.refl _ _).alloc (Nat.le_refl _) _)).trans h1.out.2.keep
  have W1 : Hid (WK w1 q (s.1 + 1) (if s.2 < d then d else s.2) (ndE d s.1)) := h1.out.1
  have hne : w.heap.size ≠ q := by omega
  have hz1 : w.heap.size < w1.heap.size := by have := h1.out.2.size; simp at this; omega
  have B1 : Hid (w1.heap[w.heap.size]? = some (.cells #[.int .i64 tk, .string nm, .int .i64 vk, .int .i64 vn, .int .i64 vd, .string vs, .slice p nu c] 39 (0, 0))) := (h1.out.2.block w.heap.size (by simp) hne).trans (heap_allocA w _)
  have e0 : w1.cell? ⟨w.heap.size, 0, none⟩ = some (.int .i64 tk) := by rw [Lib.cell_of_heap B1.out]; rfl
  clear h1
  by_cases hE : ndE d s.1 = 0
  case neg =>
    have hE' : (ndE d s.1 == 0) = false := by simpa using hE
    rw [hE']
    go_wp2
    refine bodyPost_ret (results_none rfl _ _ _) rfl ?_
    refine ⟨⟨_, rfl⟩, hK1, ?_⟩
    have h := HTE.out
    rw [← HE.out, if_neg hE] at h
    rw [h]
    exact ⟨_, _, W1.out, fun e => absurd e hE⟩
  have hE' : (ndE d s.1 == 0) = true := by simpa using hE
  rw [hE']
  have W1' : Hid (WK w1 q (s.1 + 1) (if s.2 < d then d else s.2) 0) := by have h := W1.out; rwa [hE] at h
  clear W1
  obtain ⟨N1, hN1⟩ : ∃ N1, Hid (s.1 + 1 = N1) := ⟨_, rfl⟩
  obtain ⟨M1, hM1⟩ : ∃ M1, Hid ((if s.2 < d then d else s.2) = M1) := ⟨_, rfl⟩
  rw [hN1.out, hM1.out] at W1'
  have hmS : Hid (meetS d s = (N1, M1)) := by
    have e : meetE d s = 0 := by rw [← HE.out]; exact hE
    unfold meetS
    rw [if_pos e, ← hN1.out, ← hM1.out, Int.max_def]
    congr 1
    by_cases h : s.2 < d
    · rw [if_pos h, if_pos (by omega)]
    · rw [if_neg h]; split <;> omega
  have HR : Hid (R = if tmE t = 0 then truns (d + 1) (N1, M1) t.subs else (tmE t, (N1, M1))) := by
    have h := HTE.out
    rw [← HE.out, if_pos hE, hmS.out] at h
    exact h
  have hd24 : d ≤ 24 := meetE_le (s := s) (by rw [← HE.out]; exact hE)
  have HOk : Hid (OkS (N1, M1)) := by rw [← hmS.out]; exact meetS_ok HS.out hd0
  clear HTE HE hE hE' hN1 hM1 hmS
  obtain ⟨TE, hTE⟩ : ∃ TE, Hid (tmE t = TE) := ⟨_, rfl⟩
  rw [hTE.out] at HR HD
  clear hTE e0
  have HNo : Hid (¬ TE = 0 → ∀ W : World, WK W q N1 M1 TE → WQ W q R) := by
    intro h W hW
    have hr := HR.out
    rw [if_neg h] at hr
    rw [hr]
    exact ⟨_, _, hW, fun e => absurd e h⟩
  have h7 := H7.out
  subst h7
  have e0 : w1.cell? ⟨w.heap.size, 0, none⟩ = some (.int .i64 3) := by rw [Lib.cell_of_heap B1.out]; rfl
  go_wp2_with fail
  refine (rwrong_any q N1 M1 0 20 _ w1 W1'.out).mono ?_
  rintro r w2 ⟨⟨v2, rfl⟩, h2⟩
  have W2 : Hid (WK w2 q N1 M1 0) := by have a := h2.out.1; first | exact a | (simp [wrE, h7] at a; exact a)
  have B2 : Hid (_) := h2.out.2.heap B1.out hne
  have hK2 : KeepT q w w2 := hK1.trans h2.out.2.keep
  have hz2 : w.heap.size < w2.heap.size := lt_heap B2.out
  clear h2 e0
  have e0 : w2.cell? ⟨w.heap.size, 0, none⟩ = some (.int .i64 3) := by rw [Lib.cell_of_heap B2.out]; rfl
  have e1 : w2.cell? ⟨w.heap.size, 1, none⟩ = some (.string nm) := by rw [Lib.cell_of_heap B2.out]; rfl
  go_wp2_with fail
  refine (cN.out _).mono ?_
  rintro r w3 ⟨rfl, hb3⟩
  have W3 : Hid (WK w3 q N1 M1 0) := W2.out.below hb3
  have B3 : Hid (_) := blkB B2.out hb3
  have hK3 : KeepT q w w3 := hK2.trans (KeepT.of hb3)
  clear hb3 e0 e1
  have e2 : w3.cell? ⟨w.heap.size, 2, none⟩ = some (.int .i64 vk) := by rw [Lib.cell_of_heap B3.out]; rfl
  have e3 : w3.cell? ⟨w.heap.size, 3, none⟩ = some (.int .i64 vn) := by rw [Lib.cell_of_heap B3.out]; rfl
  have e4 : w3.cell? ⟨w.heap.size, 4, none⟩ = some (.int .i64 vd) := by rw [Lib.cell_of_heap B3.out]; rfl
  have e5 : w3.cell? ⟨w.heap.size, 5, none⟩ = some (.string vs) := by rw [Lib.cell_of_heap B3.out]; rfl
  go_wp2_with fail
  refine (cS.out _).mono ?_
  rintro r w4 ⟨rfl, hb4⟩
  have W4 : Hid (WK w4 q N1 M1 0) := W3.out.below hb4
  have B4 : Hid (_) := blkB B3.out hb4
  have hK4 : KeepT q w w4 := hK3.trans (KeepT.of hb4)
  clear hb4 e2 e3 e4 e5
  have e0 : w4.cell? ⟨w.heap.size, 0, none⟩ = some (.int .i64 3) := by rw [Lib.cell_of_heap B4.out]; rfl
  have e1 : w4.cell? ⟨w.heap.size, 1, none⟩ = some (.string nm) := by rw [Lib.cell_of_heap B4.out]; rfl
  have e6 : w4.cell? ⟨w.heap.size, 6, none⟩ = some (.slice p nu c) := by rw [Lib.cell_of_heap B4.out]; rfl
  have hxi : ((nu : Int) = 2) = (nu = 2) := by apply propext; omega
  cases SB <;> by_cases hn : nm.toList = [] <;> by_cases hx : nu = 2
  all_goals
    go_wp2_with fail
    refine (rwrong_any q N1 M1 _ 1 _ w4 W4.out).mono ?_
    rintro r w5 ⟨⟨v5, rfl⟩, h5⟩
    have W5 : Hid (WK w5 q N1 M1 TE) := by
      have a := h5.out.1
      have b := HD.out
      simp [wrE, hxi, hx, hn] at a b
      first | (subst b; exact a) | (rw [← b]; exact a)
    have hK5 : KeepT q w w5 := hK4.trans h5.out.2.keep
    have B5 : Hid (_) := h5.out.2.heap B4.out hne
    have y2 : w5.cell? ⟨q, 2, none⟩ = some (.int .i64 TE) := W5.out.e
    have f0 : w5.cell? ⟨w.heap.size, 0, none⟩ = some (.int .i64 3) := by rw [Lib.cell_of_heap B5.out]; rfl
    have f6 : w5.cell? ⟨w.heap.size, 6, none⟩ = some (.slice p nu c) := by rw [Lib.cell_of_heap B5.out]; rfl
    clear h5 e0 e1 e6
    first
    | have tn : ¬ TE = 0 := by have b := HD.out; simp [wrE, hx, hn] at b; omega
      have tn' : (TE == 0) = false := by simpa using tn
      have tn'' : (TE != 0) = true := by simpa using tn
      go_wp2
      refine bodyPost_ret (results_none rfl _ _ _) rfl ?_
      exact ⟨⟨_, rfl⟩, hK5, HNo.out tn _ W5.out⟩
    | have tz : TE = 0 := by have b := HD.out; simp [wrE, hx, hn] at b; omega
      subst tz
      have HL : Hid (R = truns (d + 1) (N1, M1) t.subs) := by have h := HR.out; rw [if_pos rfl] at h; exact h
      clear HD HR HNo cN cC cS hx
      go_wp2
      go_loopw [11] (fun v wr => ∃ (k : Nat) (N M E : Int), k ≤ nu ∧ v = .int .i64 k ∧ KeepT q w5 wr ∧ Hid (WK wr q N M E) ∧ Hid (E = 0 → OkS (N, M) ∧ R = truns (d + 1) (N, M) (t.subs.drop k)) ∧ Hid (¬ E = 0 → R.1 = E)) (fun v _ => nu - (intOf v).toNat)
      case atStart => exact ⟨0, N1, M1, 0, Nat.zero_le _, rfl, KeepT.refl _ _, W5, fun _ => ⟨HOk.out, by rw [List.drop_zero]; exact HL.out⟩, fun h => absurd rfl h⟩
      case round =>
        obtain ⟨k, N, M, E, hk, rfl, hKr, hWr, hr0, hr1⟩ := hrel
        have Br : Hid (_) := (hKr.block w.heap.size (lt_heap B5.out) hne).trans B5.out
        have r6 : wr.cell? ⟨w.heap.size, 6, none⟩ = some (.slice p nu c) := by rw [Lib.cell_of_heap Br.out]; rfl
        by_cases hlt : k < nu
        case neg =>
          have c2 : ¬ (k : Int) < nu := by omega
          go_wp2
          go_end0
          refine ⟨⟨_, rfl⟩, hK5.trans hKr, ?_⟩
          by_cases hE0 : E = 0
          · have h := (hr0.out hE0).2
            rw [List.drop_eq_nil_of_le (by have := en.out; omega), truns_nil] at h
            rw [h]
            subst hE0
            exact ⟨N, M, hWr.out, fun _ => ⟨rfl, rfl⟩⟩
          · have h := hr1.out hE0
            exact ⟨N, M, by rw [h]; exact hWr.out, fun e => absurd (h.symm.trans e) hE0⟩
        have hlt' : (k : Int) < nu := by omega
        have kx : k < t.subs.length := by have := en.out; omega
        obtain ⟨b, off, u, rfl, hb, TC, TS, TF⟩ := HX.out k kx
        have hBr : Below w0.heap.size w0 wr := hw.trans ((hK5.trans hKr).below (B := w0.heap.size) hq (Nat.le_of_lt hqw))
        obtain ⟨a0, a1, a2, a3, a4, a5, a6⟩ := TC.below hBr hb
        have hsz : SizeOf.sizeOf t.subs[k] ≤ m := by
          have h1 := mem_lt k kx
          have h2 := t.subs_lt
          have h3 := HM.out
          unfold Hid at h3
          omega
        have cT : Hid (Calls Tryz.prog 58 #[.pointer (some ⟨q, 0, none⟩), .agg #[.int .i64 t.subs[k].k, .string t.subs[k].nm, .int .i64 t.subs[k].v.k, .int .i64 t.subs[k].v.n, .int .i64 t.subs[k].v.d, .string t.subs[k].v.s, u], .int .i64 (d + 1)] wr fun r w' => (∃ v, r = .returned v) ∧ Hid (KeepT q wr w' ∧ ∃ N' M' E', WK w' q N' M' E' ∧ (E' = 0 → OkS (N', M') ∧ R = truns (d + 1) (N', M') (t.subs.drop (k + 1))) ∧ (¬ E' = 0 → R.1 = E'))) := by
          by_cases hE0 : E = 0
          · subst hE0
            obtain ⟨o1, o2⟩ := hr0.out rfl
            refine (IH.out t.subs[k] u (d + 1) (N, M) wr hsz TS TF hBr hWr.out o1 (by omega) (by omega)).mono ?_
            rintro r w' ⟨hv, h⟩
            obtain ⟨N', M', g1, g2⟩ := h.out.2
            rw [List.drop_eq_getElem_cons kx, truns_cons] at o2
            refine ⟨hv, h.out.1, N', M', _, g1, fun e => ?_, fun e => ?_⟩
            · obtain ⟨rfl, rfl⟩ := g2 e
              rw [if_pos e] at o2
              have ok := truns_ok (SizeOf.sizeOf [t.subs[k]]) [t.subs[k]] (d + 1) (N, M) (Nat.le_refl _) o1 (by omega)
              rw [truns_cons, if_pos e, truns_nil] at ok
              exact ⟨ok, o2⟩
            · rw [if_neg e] at o2
              rw [o2]
          · refine (rterm_no q N M E (d + 1) _ _ _ _ _ _ u wr hWr.out hE0).mono ?_
            rintro r w' ⟨hv, h⟩
            exact ⟨hv, KeepT.of h.out.1, N, M, E, h.out.2, fun e => absurd e hE0, fun _ => hr1.out hE0⟩
        clear hr0 hr1 TC TS TF IH HX
        generalize t.subs[k].k = k0 at *
        generalize t.subs[k].nm = k1 at *
        generalize t.subs[k].v.k = k2 at *
        generalize t.subs[k].v.n = k3 at *
        generalize t.subs[k].v.d = k4 at *
        generalize t.subs[k].v.s = k5 at *
        have nw : IntKind.i64.wrap (d + 1) = d + 1 := by rw [IntKind.wrap_i64]; omega
        have nw2 : wrap64 (d + 1) = d + 1 := by unfold wrap64; omega
        go_wp2_with fail
        refine cT.out.mono ?_
        rintro r w6 ⟨⟨v6, rfl⟩, h6⟩
        obtain ⟨hk6, N', M', E', g1, g2, g3⟩ := h6.out
        have HP : Hid (WK w6 q N' M' E' ∧ (E' = 0 → OkS (N', M') ∧ R = truns (d + 1) (N', M') (t.subs.drop (k + 1))) ∧ (¬ E' = 0 → R.1 = E')) := ⟨g1, g2, g3⟩
        have hK6 : KeepT q w5 w6 := hKr.trans hk6
        clear g1 g2 g3 h6 cT
        go_wp2
        exact ⟨⟨k + 1, N', M', E', by omega, by go_num, hK6, HP.out.1, HP.out.2.1, HP.out.2.2⟩, by simp [intOf]; omega⟩
end Go.Proofs.YtfajjphfjilpnaaGreat

namespace Go.Proofs.YtfajjphfjilpnaaGreat
open Go.RowKit LX Go.Shelf
set_option linter.unusedVariables false

set_option maxRecDepth 100000 in
set_option maxHeartbeats 8000000 in
theorem rterm_c4 (w0 : World) (q : Nat) (hq : w0.heap.size ≤ q) (m : Nat) (ih : ∀ (t : Tm) (V : Value) (d : Int) (s : Int × Int) (w : World), SizeOf.sizeOf t ≤ m → TmsAt w0 V t.subs → t.v.Fits → Below w0.heap.size w0 w → WK w q s.1 s.2 0 → OkS s → 0 ≤ d → d ≤ 25 →
    Calls Tryz.prog 58 #[.pointer (some ⟨q, 0, none⟩), .agg #[.int .i64 t.k, .string t.nm, .int .i64 t.v.k, .int .i64 t.v.n, .int .i64 t.v.d, .string t.v.s, V], .int .i64 d] w fun r w' => (∃ v, r = .returned v) ∧ Hid (KeepT q w w' ∧ WQ w' q (trun d s t))) (t : Tm) (V : Value) (d : Int) (s : Int × Int) (w : World) (hm : SizeOf.sizeOf t ≤ m + 1) (hV : TmsAt w0 V t.subs) (hF : t.v.Fits) (hw : Below w0.heap.size w0 w) (hK : WK w q s.1 s.2 0) (hs : OkS s) (hd0 : 0 ≤ d) (hd1 : d ≤ 25) (h7 : t.k = 4) :
    Calls Tryz.prog 58 #[.pointer (some ⟨q, 0, none⟩), .agg #[.int .i64 t.k, .string t.nm, .int .i64 t.v.k, .int .i64 t.v.n, .int .i64 t.v.d, .string t.v.s, V], .int .i64 d] w fun r w' => (∃ v, r = .returned v) ∧ Hid (KeepT q w w' ∧ WQ w' q (trun d s t)) := by
  obtain ⟨p, c, rfl, hl, hc, HX0⟩ := hV.form
  have HX : Hid (∀ i (hi : i < t.subs.length), ∃ b off u, p = some ⟨b, off, none⟩ ∧ b < w0.heap.size ∧ TmC w0 b (off + i * 7) t.subs[i] u ∧ TmsAt w0 u t.subs[i].subs ∧ t.subs[i].v.Fits) := HX0
  have IH : Hid (_) := ih
  have HS : Hid (OkS s) := hs
  have HW : Hid (WK w q s.1 s.2 0) := hK
  have hqw : q < w.heap.size := hK.lt
  have HM : Hid (SizeOf.sizeOf t ≤ m + 1) := hm
  have hD := doc_tmE t
  have cN : Hid (∀ W : World, Calls Tryz.prog 81 #[.string t.nm] W fun e w' => e = .returned (.bool (nameB t.nm)) ∧ Below W.heap.size W w') := fun W => rname_any t.nm W
  have cC : Hid (∀ W : World, Calls Tryz.prog 85 #[.agg #[.int .i64 t.v.k, .int .i64 t.v.n, .int .i64 t.v.d, .string t.v.s]] W fun e w' => e = .returned (.int .i64 t.v.may) ∧ Below W.heap.size W w') := fun W => rcheck_any t.v.k t.v.n t.v.d t.v.s W hF.n1 hF.n2 hF.d1 hF.d2
  have cS : Hid (∀ W : World, Calls Tryz.prog 84 #[.agg #[.int .i64 t.v.k, .int .i64 t.v.n, .int .i64 t.v.d, .string t.v.s], .agg #[.int .i64 0, .int .i64 0, .int .i64 0, .string ⟨#[]⟩]] W fun e w' => e = .returned (.bool (sameB t.v.k t.v.n t.v.d t.v.s 0 0 0 ⟨#[]⟩)) ∧ Below W.heap.size W w') := fun W => rsame_any t.v.k t.v.n t.v.d t.v.s 0 0 0 ⟨#[]⟩ W
  have hte := trun_eq d s t
  have HE : Hid (ndE d s.1 = meetE d s) := nd_meet hs
  obtain ⟨R, eR⟩ : ∃ R : Int × (Int × Int), Hid (trun d s t = R) := ⟨_, rfl⟩
  rw [eR.out] at hte ⊢
  have HTE : Hid (_) := hte
  obtain ⟨ts, ets⟩ : ∃ ts : List Tm, Hid (t.subs = ts) := ⟨_, rfl⟩
  obtain ⟨nu, en⟩ : ∃ n : Nat, Hid (t.subs.length = n) := ⟨_, rfl⟩
  rw [en.out] at hl hc hD ⊢
  have HD : Hid (_) := hD
  clear hV HX0 ih hK hs hm hte hD hF
  generalize nameB t.nm = NB at *
  generalize sameB t.v.k t.v.n t.v.d t.v.s 0 0 0 ⟨#[]⟩ = SB at *
  generalize t.v.may = MY at *
  generalize t.v.k = vk at *
  generalize t.v.n = vn at *
  generalize t.v.d = vd at *
  generalize t.v.s = vs at *
  generalize t.k = tk at *
  generalize t.nm = nm at *
  have H7 : Hid (tk = 4) := h7
  clear h7
  go_enter Tryz.func58, Tryz.ntmps58
  go_wp2_with fail
  refine (rnode_any q s.1 s.2 d _ (HW.out.alloc _) ⟨HS.out.1, by have := HS.out.2.1; omega⟩).mono ?_
  rintro r w1 ⟨rfl, h1⟩
  have hK1 : KeepT q w w1 := (KeepT.of ((Below.refl _ _).alloc (Nat.le_refl _) _)).trans h1.out.2.keep
  have W1 : Hid (WK w1 q (s.1 + 1) (if s.2 < d then d else s.2) (ndE d s.1)) := h1.out.1
  have hne : w.heap.size ≠ q := by omega
  have hz1 : w.heap.size < w1.heap.size := by have := h1.out.2.size; simp at this; omega
  have B1 : Hid (w1.heap[w.heap.size]? = some (.cells #[.int .i64 tk, .string nm, .int .i64 vk, .int .i64 vn, .int .i64 vd, .string vs, .slice p nu c] 39 (0, 0))) := (h1.out.2.block w.heap.size (by simp) hne).trans (heap_allocA w _)
  have e0 : w1.cell? ⟨w.heap.size, 0, none⟩ = some (.int .i64 tk) := by rw [Lib.cell_of_heap B1.out]; rfl
  clear h1
  by_cases hE : ndE d s.1 = 0
  case neg =>
    have hE' : (ndE d s.1 == 0) = false := by simpa using hE
    rw [hE']
    go_wp2
    refine bodyPost_ret (results_none rfl _ _ _) rfl ?_
    refine ⟨⟨_, rfl⟩, hK1, ?_⟩
    have h := HTE.out
    rw [← HE.out, if_neg hE] at h
    rw [h]
    exact ⟨_, _, W1.out, fun e => absurd e hE⟩
  have hE' : (ndE d s.1 == 0) = true := by simpa using hE
  rw [hE']
  have W1' : Hid (WK w1 q (s.1 + 1) (if s.2 < d then d else s.2) 0) := by have h := W1.out; rwa [hE] at h
  clear W1
  obtain ⟨N1, hN1⟩ : ∃ N1, Hid (s.1 + 1 = N1) := ⟨_, rfl⟩
  obtain ⟨M1, hM1⟩ : ∃ M1, Hid ((if s.2 < d then d else s.2) = M1) := ⟨_, rfl⟩
  rw [hN1.out, hM1.out] at W1'
  have hmS : Hid (meetS d s = (N1, M1)) := by
    have e : meetE d s = 0 := by rw [← HE.out]; exact hE
    unfold meetS
    rw [if_pos e, ← hN1.out, ← hM1.out, Int.max_def]
    congr 1
    by_cases h : s.2 < d
    · rw [if_pos h, if_pos (by omega)]
    · rw [if_neg h]; split <;> omega
  have HR : Hid (R = if tmE t = 0 then truns (d + 1) (N1, M1) t.subs else (tmE t, (N1, M1))) := by
    have h := HTE.out
    rw [← HE.out, if_pos hE, hmS.out] at h
    exact h
  have hd24 : d ≤ 24 := meetE_le (s := s) (by rw [← HE.out]; exact hE)
  have HOk : Hid (OkS (N1, M1)) := by rw [← hmS.out]; exact meetS_ok HS.out hd0
  clear HTE HE hE hE' hN1 hM1 hmS
  obtain ⟨TE, hTE⟩ : ∃ TE, Hid (tmE t = TE) := ⟨_, rfl⟩
  rw [hTE.out] at HR HD
  clear hTE e0
  have HNo : Hid (¬ TE = 0 → ∀ W : World, WK W q N1 M1 TE → WQ W q R) := by
    intro h W hW
    have hr := HR.out
    rw [if_neg h] at hr
    rw [hr]
    exact ⟨_, _, hW, fun e => absurd e h⟩
  have h7 := H7.out
  subst h7
  have e0 : w1.cell? ⟨w.heap.size, 0, none⟩ = some (.int .i64 4) := by rw [Lib.cell_of_heap B1.out]; rfl
  go_wp2_with fail
  refine (rwrong_any q N1 M1 0 20 _ w1 W1'.out).mono ?_
  rintro r w2 ⟨⟨v2, rfl⟩, h2⟩
  have W2 : Hid (WK w2 q N1 M1 0) := by have a := h2.out.1; first | exact a | (simp [wrE, h7] at a; exact a)
  have B2 : Hid (_) := h2.out.2.heap B1.out hne
  have hK2 : KeepT q w w2 := hK1.trans h2.out.2.keep
  have hz2 : w.heap.size < w2.heap.size := lt_heap B2.out
  clear h2 e0
  have e0 : w2.cell? ⟨w.heap.size, 0, none⟩ = some (.int .i64 4) := by rw [Lib.cell_of_heap B2.out]; rfl
  have e1 : w2.cell? ⟨w.heap.size, 1, none⟩ = some (.string nm) := by rw [Lib.cell_of_heap B2.out]; rfl
  go_wp2_with fail
  refine (cN.out _).mono ?_
  rintro r w3 ⟨rfl, hb3⟩
  have W3 : Hid (WK w3 q N1 M1 0) := W2.out.below hb3
  have B3 : Hid (_) := blkB B2.out hb3
  have hK3 : KeepT q w w3 := hK2.trans (KeepT.of hb3)
  clear hb3 e0 e1
  have e2 : w3.cell? ⟨w.heap.size, 2, none⟩ = some (.int .i64 vk) := by rw [Lib.cell_of_heap B3.out]; rfl
  have e3 : w3.cell? ⟨w.heap.size, 3, none⟩ = some (.int .i64 vn) := by rw [Lib.cell_of_heap B3.out]; rfl
  have e4 : w3.cell? ⟨w.heap.size, 4, none⟩ = some (.int .i64 vd) := by rw [Lib.cell_of_heap B3.out]; rfl
  have e5 : w3.cell? ⟨w.heap.size, 5, none⟩ = some (.string vs) := by rw [Lib.cell_of_heap B3.out]; rfl
  go_wp2_with fail
  refine (cS.out _).mono ?_
  rintro r w4 ⟨rfl, hb4⟩
  have W4 : Hid (WK w4 q N1 M1 0) := W3.out.below hb4
  have B4 : Hid (_) := blkB B3.out hb4
  have hK4 : KeepT q w w4 := hK3.trans (KeepT.of hb4)
  clear hb4 e2 e3 e4 e5
  have e0 : w4.cell? ⟨w.heap.size, 0, none⟩ = some (.int .i64 4) := by rw [Lib.cell_of_heap B4.out]; rfl
  have e1 : w4.cell? ⟨w.heap.size, 1, none⟩ = some (.string nm) := by rw [Lib.cell_of_heap B4.out]; rfl
  have e6 : w4.cell? ⟨w.heap.size, 6, none⟩ = some (.slice p nu c) := by rw [Lib.cell_of_heap B4.out]; rfl
  have hxi : ((nu : Int) = 2) = (nu = 2) := by apply propext; omega
  cases SB <;> by_cases hn : nm.toList = [] <;> by_cases hx : nu = 2
  all_goals
    go_wp2_with fail
    refine (rwrong_any q N1 M1 _ 1 _ w4 W4.out).mono ?_
    rintro r w5 ⟨⟨v5, rfl⟩, h5⟩
    have W5 : Hid (WK w5 q N1 M1 TE) := by
      have a := h5.out.1
      have b := HD.out
      simp [wrE, hxi, hx, hn] at a b
      first | (subst b; exact a) | (rw [← b]; exact a)
    have hK5 : KeepT q w w5 := hK4.trans h5.out.2.keep
    have B5 : Hid (_) := h5.out.2.heap B4.out hne
    have y2 : w5.cell? ⟨q, 2, none⟩ = some (.int .i64 TE) := W5.out.e
    have f0 : w5.cell? ⟨w.heap.size, 0, none⟩ = some (.int .i64 4) := by rw [Lib.cell_of_heap B5.out]; rfl
    have f6 : w5.cell? ⟨w.heap.size, 6, none⟩ = some (.slice p nu c) := by rw [Lib.cell_of_heap B5.out]; rfl
    clear h5 e0 e1 e6
    first
    | have tn : ¬ TE = 0 := by have b := HD.out; simp [wrE, hx, hn] at b; omega
      have tn' : (TE == 0) = false := by simpa using tn
      have tn'' : (TE != 0) = true := by simpa using tn
      go_wp2
      refine bodyPost_ret (results_none rfl _ _ _) rfl ?_
      exact ⟨⟨_, rfl⟩, hK5, HNo.out tn _ W5.out⟩
    | have tz : TE = 0 := by have b := HD.out; simp [wrE, hx, hn] at b; omega
      subst tz
      have HL : Hid (R = truns (d + 1) (N1, M1) t.subs) := by have h := HR.out; rw [if_pos rfl] at h; exact h
      clear HD HR HNo cN cC cS hx
      go_wp2
      go_loopw [11] (fun v wr => ∃ (k : Nat) (N M E : Int), k ≤ nu ∧ v = .int .i64 k ∧ KeepT q w5 wr ∧ Hid (WK wr q N M E) ∧ Hid (E = 0 → OkS (N, M) ∧ R = truns (d + 1) (N, M) (t.subs.drop k)) ∧ Hid (¬ E = 0 → R.1 = E)) (fun v _ => nu - (intOf v).toNat)
      case atStart => exact ⟨0, N1, M1, 0, Nat.zero_le _, rfl, KeepT.refl _ _, W5, fun _ => ⟨HOk.out, by rw [List.drop_zero]; exact HL.out⟩, fun h => absurd rfl h⟩
      case round =>
        obtain ⟨k, N, M, E, hk, rfl, hKr, hWr, hr0, hr1⟩ := hrel
        have Br : Hid (_) := (hKr.block w.heap.size (lt_heap B5.out) hne).trans B5.out
        have r6 : wr.cell? ⟨w.heap.size, 6, none⟩ = some (.slice p nu c) := by rw [Lib.cell_of_heap Br.out]; rfl
        by_cases hlt : k < nu
        case neg =>
          have c2 : ¬ (k : Int) < nu := by omega
          go_wp2
          go_end0
          refine ⟨⟨_, rfl⟩, hK5.trans hKr, ?_⟩
          by_cases hE0 : E = 0
          · have h := (hr0.out hE0).2
            rw [List.drop_eq_nil_of_le (by have := en.out; omega), truns_nil] at h
            rw [h]
            subst hE0
            exact ⟨N, M, hWr.out, fun _ => ⟨rfl, rfl⟩⟩
          · have h := hr1.out hE0
            exact ⟨N, M, by rw [h]; exact hWr.out, fun e => absurd (h.symm.trans e) hE0⟩
        have hlt' : (k : Int) < nu := by omega
        have kx : k < t.subs.length := by have := en.out; omega
        obtain ⟨b, off, u, rfl, hb, TC, TS, TF⟩ := HX.out k kx
        have hBr : Below w0.heap.size w0 wr := hw.trans ((hK5.trans hKr).below (B := w0.heap.size) hq (Nat.le_of_lt hqw))
        obtain ⟨a0, a1, a2, a3, a4, a5, a6⟩ := TC.below hBr hb
        have hsz : SizeOf.sizeOf t.subs[k] ≤ m := by
          have h1 := mem_lt k kx
          have h2 := t.subs_lt
          have h3 := HM.out
          unfold Hid at h3
          omega
        have cT : Hid (Calls Tryz.prog 58 #[.pointer (some ⟨q, 0, none⟩), .agg #[.int .i64 t.subs[k].k, .string t.subs[k].nm, .int .i64 t.subs[k].v.k, .int .i64 t.subs[k].v.n, .int .i64 t.subs[k].v.d, .string t.subs[k].v.s, u], .int .i64 (d + 1)] wr fun r w' => (∃ v, r = .returned v) ∧ Hid (KeepT q wr w' ∧ ∃ N' M' E', WK w' q N' M' E' ∧ (E' = 0 → OkS (N', M') ∧ R = truns (d + 1) (N', M') (t.subs.drop (k + 1))) ∧ (¬ E' = 0 → R.1 = E'))) := by
          by_cases hE0 : E = 0
          · subst hE0
            obtain ⟨o1, o2⟩ := hr0.out rfl
            refine (IH.out t.subs[k] u (d + 1) (N, M) wr hsz TS TF hBr hWr.out o1 (by omega) (by omega)).mono ?_
            rintro r w' ⟨hv, h⟩
            obtain ⟨N', M', g1, g2⟩ := h.out.2
            rw [List.drop_eq_getElem_cons kx, truns_cons] at o2
            refine ⟨hv, h.out.1, N', M', _, g1, fun e => ?_, fun e => ?_⟩
            · obtain ⟨rfl, rfl⟩ := g2 e
              rw [if_pos e] at o2
              have ok := truns_ok (SizeOf.sizeOf [t.subs[k]]) [t.subs[k]] (d + 1) (N, M) (Nat.le_refl _) o1 (by omega)
              rw [truns_cons, if_pos e, truns_nil] at ok
              exact ⟨ok, o2⟩
            · rw [if_neg e] at o2
              rw [o2]
          · refine (rterm_no q N M E (d + 1) _ _ _ _ _ _ u wr hWr.out hE0).mono ?_
            rintro r w' ⟨hv, h⟩
            exact ⟨hv, KeepT.of h.out.1, N, M, E, h.out.2, fun e => absurd e hE0, fun _ => hr1.out hE0⟩
        clear hr0 hr1 TC TS TF IH HX
        generalize t.subs[k].k = k0 at *
        generalize t.subs[k].nm = k1 at *
        generalize t.subs[k].v.k = k2 at *
        generalize t.subs[k].v.n = k3 at *
        generalize t.subs[k].v.d = k4 at *
        generalize t.subs[k].v.s = k5 at *
        have nw : IntKind.i64.wrap (d + 1) = d + 1 := by rw [IntKind.wrap_i64]; omega
        have nw2 : wrap64 (d + 1) = d + 1 := by unfold wrap64; omega
        go_wp2_with fail
        refine cT.out.mono ?_
        rintro r w6 ⟨⟨v6, rfl⟩, h6⟩
        obtain ⟨hk6, N', M', E', g1, g2, g3⟩ := h6.out
        have HP : Hid (WK w6 q N' M' E' ∧ (E' = 0 → OkS (N', M') ∧ R = truns (d + 1) (N', M') (t.subs.drop (k + 1))) ∧ (¬ E' = 0 → R.1 = E')) := ⟨g1, g2, g3⟩
        have hK6 : KeepT q w5 w6 := hKr.trans hk6
        clear g1 g2 g3 h6 cT
        go_wp2
        exact ⟨⟨k + 1, N', M', E', by omega, by go_num, hK6, HP.out.1, HP.out.2.1, HP.out.2.2⟩, by simp [intOf]; omega⟩
end Go.Proofs.YtfajjphfjilpnaaGreat

namespace Go.Proofs.YtfajjphfjilpnaaGreat
open Go.RowKit LX Go.Shelf
set_option linter.unusedVariables false

set_option maxRecDepth 100000 in
set_option maxHeartbeats 8000000 in
theorem rterm_c5 (w0 : World) (q : Nat) (hq : w0.heap.size ≤ q) (m : Nat) (ih : ∀ (t : Tm) (V : Value) (d : Int) (s : Int × Int) (w : World), SizeOf.sizeOf t ≤ m → TmsAt w0 V t.subs → t.v.Fits → Below w0.heap.size w0 w → WK w q s.1 s.2 0 → OkS s → 0 ≤ d → d ≤ 25 →
    Calls Tryz.prog 58 #[.pointer (some ⟨q, 0, none⟩), .agg #[.int .i64 t.k, .string t.nm, .int .i64 t.v.k, .int .i64 t.v.n, .int .i64 t.v.d, .string t.v.s, V], .int .i64 d] w fun r w' => (∃ v, r = .returned v) ∧ Hid (KeepT q w w' ∧ WQ w' q (trun d s t))) (t : Tm) (V : Value) (d : Int) (s : Int × Int) (w : World) (hm : SizeOf.sizeOf t ≤ m + 1) (hV : TmsAt w0 V t.subs) (hF : t.v.Fits) (hw : Below w0.heap.size w0 w) (hK : WK w q s.1 s.2 0) (hs : OkS s) (hd0 : 0 ≤ d) (hd1 : d ≤ 25) (h7 : t.k = 5) :
    Calls Tryz.prog 58 #[.pointer (some ⟨q, 0, none⟩), .agg #[.int .i64 t.k, .string t.nm, .int .i64 t.v.k, .int .i64 t.v.n, .int .i64 t.v.d, .string t.v.s, V], .int .i64 d] w fun r w' => (∃ v, r = .returned v) ∧ Hid (KeepT q w w' ∧ WQ w' q (trun d s t)) := by
  obtain ⟨p, c, rfl, hl, hc, HX0⟩ := hV.form
  have HX : Hid (∀ i (hi : i < t.subs.length), ∃ b off u, p = some ⟨b, off, none⟩ ∧ b < w0.heap.size ∧ TmC w0 b (off + i * 7) t.subs[i] u ∧ TmsAt w0 u t.subs[i].subs ∧ t.subs[i].v.Fits) := HX0
  have IH : Hid (_) := ih
  have HS : Hid (OkS s) := hs
  have HW : Hid (WK w q s.1 s.2 0) := hK
  have hqw : q < w.heap.size := hK.lt
  have HM : Hid (SizeOf.sizeOf t ≤ m + 1) := hm
  have hD := doc_tmE t
  have cN : Hid (∀ W : World, Calls Tryz.prog 81 #[.string t.nm] W fun e w' => e = .returned (.bool (nameB t.nm)) ∧ Below W.heap.size W w') := fun W => rname_any t.nm W
  have cC : Hid (∀ W : World, Calls Tryz.prog 85 #[.agg #[.int .i64 t.v.k, .int .i64 t.v.n, .int .i64 t.v.d, .string t.v.s]] W fun e w' => e = .returned (.int .i64 t.v.may) ∧ Below W.heap.size W w') := fun W => rcheck_any t.v.k t.v.n t.v.d t.v.s W hF.n1 hF.n2 hF.d1 hF.d2
  have cS : Hid (∀ W : World, Calls Tryz.prog 84 #[.agg #[.int .i64 t.v.k, .int .i64 t.v.n, .int .i64 t.v.d, .string t.v.s], .agg #[.int .i64 0, .int .i64 0, .int .i64 0, .string ⟨#[]⟩]] W fun e w' => e = .returned (.bool (sameB t.v.k t.v.n t.v.d t.v.s 0 0 0 ⟨#[]⟩)) ∧ Below W.heap.size W w') := fun W => rsame_any t.v.k t.v.n t.v.d t.v.s 0 0 0 ⟨#[]⟩ W
  have hte := trun_eq d s t
  have HE : Hid (ndE d s.1 = meetE d s) := nd_meet hs
  obtain ⟨R, eR⟩ : ∃ R : Int × (Int × Int), Hid (trun d s t = R) := ⟨_, rfl⟩
  rw [eR.out] at hte ⊢
  have HTE : Hid (_) := hte
  obtain ⟨ts, ets⟩ : ∃ ts : List Tm, Hid (t.subs = ts) := ⟨_, rfl⟩
  obtain ⟨nu, en⟩ : ∃ n : Nat, Hid (t.subs.length = n) := ⟨_, rfl⟩
  rw [en.out] at hl hc hD ⊢
  have HD : Hid (_) := hD
  clear hV HX0 ih hK hs hm hte hD hF
  generalize nameB t.nm = NB at *
  generalize sameB t.v.k t.v.n t.v.d t.v.s 0 0 0 ⟨#[]⟩ = SB at *
  generalize t.v.may = MY at *
  generalize t.v.k = vk at *
  generalize t.v.n = vn at *
  generalize t.v.d = vd at *
  generalize t.v.s = vs at *
  generalize t.k = tk at *
  generalize t.nm = nm at *
  have H7 : Hid (tk = 5) := h7
  clear h7
  go_enter Tryz.func58, Tryz.ntmps58
  go_wp2_with fail
  refine (rnode_any q s.1 s.2 d _ (HW.out.alloc _) ⟨HS.out.1, by have := HS.out.2.1; omega⟩).mono ?_
  rintro r w1 ⟨rfl, h1⟩
  have hK1 : KeepT q w w1 := (KeepT.of ((Below.refl _ _).alloc (Nat.le_refl _) _)).trans h1.out.2.keep
  have W1 : Hid (WK w1 q (s.1 + 1) (if s.2 < d then d else s.2) (ndE d s.1)) := h1.out.1
  have hne : w.heap.size ≠ q := by omega
  have hz1 : w.heap.size < w1.heap.size := by have := h1.out.2.size; simp at this; omega
  have B1 : Hid (w1.heap[w.heap.size]? = some (.cells #[.int .i64 tk, .string nm, .int .i64 vk, .int .i64 vn, .int .i64 vd, .string vs, .slice p nu c] 39 (0, 0))) := (h1.out.2.block w.heap.size (by simp) hne).trans (heap_allocA w _)
  have e0 : w1.cell? ⟨w.heap.size, 0, none⟩ = some (.int .i64 tk) := by rw [Lib.cell_of_heap B1.out]; rfl
  clear h1
  by_cases hE : ndE d s.1 = 0
  case neg =>
    have hE' : (ndE d s.1 == 0) = false := by simpa using hE
    rw [hE']
    go_wp2
    refine bodyPost_ret (results_none rfl _ _ _) rfl ?_
    refine ⟨⟨_, rfl⟩, hK1, ?_⟩
    have h := HTE.out
    rw [← HE.out, if_neg hE] at h
    rw [h]
    exact ⟨_, _, W1.out, fun e => absurd e hE⟩
  have hE' : (ndE d s.1 == 0) = true := by simpa using hE
  rw [hE']
  have W1' : Hid (WK w1 q (s.1 + 1) (if s.2 < d then d else s.2) 0) := by have h := W1.out; rwa [hE] at h
  clear W1
  obtain ⟨N1, hN1⟩ : ∃ N1, Hid (s.1 + 1 = N1) := ⟨_, rfl⟩
  obtain ⟨M1, hM1⟩ : ∃ M1, Hid ((if s.2 < d then d else s.2) = M1) := ⟨_, rfl⟩
  rw [hN1.out, hM1.out] at W1'
  have hmS : Hid (meetS d s = (N1, M1)) := by
    have e : meetE d s = 0 := by rw [← HE.out]; exact hE
    unfold meetS
    rw [if_pos e, ← hN1.out, ← hM1.out, Int.max_def]
    congr 1
    by_cases h : s.2 < d
    · rw [if_pos h, if_pos (by omega)]
    · rw [if_neg h]; split <;> omega
  have HR : Hid (R = if tmE t = 0 then truns (d + 1) (N1, M1) t.subs else (tmE t, (N1, M1))) := by
    have h := HTE.out
    rw [← HE.out, if_pos hE, hmS.out] at h
    exact h
  have hd24 : d ≤ 24 := meetE_le (s := s) (by rw [← HE.out]; exact hE)
  have HOk : Hid (OkS (N1, M1)) := by rw [← hmS.out]; exact meetS_ok HS.out hd0
  clear HTE HE hE hE' hN1 hM1 hmS
  obtain ⟨TE, hTE⟩ : ∃ TE, Hid (tmE t = TE) := ⟨_, rfl⟩
  rw [hTE.out] at HR HD
  clear hTE e0
  have HNo : Hid (¬ TE = 0 → ∀ W : World, WK W q N1 M1 TE → WQ W q R) := by
    intro h W hW
    have hr := HR.out
    rw [if_neg h] at hr
    rw [hr]
    exact ⟨_, _, hW, fun e => absurd e h⟩
  have h7 := H7.out
  subst h7
  have e0 : w1.cell? ⟨w.heap.size, 0, none⟩ = some (.int .i64 5) := by rw [Lib.cell_of_heap B1.out]; rfl
  go_wp2_with fail
  refine (rwrong_any q N1 M1 0 20 _ w1 W1'.out).mono ?_
  rintro r w2 ⟨⟨v2, rfl⟩, h2⟩
  have W2 : Hid (WK w2 q N1 M1 0) := by have a := h2.out.1; first | exact a | (simp [wrE, h7] at a; exact a)
  have B2 : Hid (_) := h2.out.2.heap B1.out hne
  have hK2 : KeepT q w w2 := hK1.trans h2.out.2.keep
  have hz2 : w.heap.size < w2.heap.size := lt_heap B2.out
  clear h2 e0
  have e0 : w2.cell? ⟨w.heap.size, 0, none⟩ = some (.int .i64 5) := by rw [Lib.cell_of_heap B2.out]; rfl
  have e1 : w2.cell? ⟨w.heap.size, 1, none⟩ = some (.string nm) := by rw [Lib.cell_of_heap B2.out]; rfl
  go_wp2_with fail
  refine (cN.out _).mono ?_
  rintro r w3 ⟨rfl, hb3⟩
  have W3 : Hid (WK w3 q N1 M1 0) := W2.out.below hb3
  have B3 : Hid (_) := blkB B2.out hb3
  have hK3 : KeepT q w w3 := hK2.trans (KeepT.of hb3)
  clear hb3 e0 e1
  have e2 : w3.cell? ⟨w.heap.size, 2, none⟩ = some (.int .i64 vk) := by rw [Lib.cell_of_heap B3.out]; rfl
  have e3 : w3.cell? ⟨w.heap.size, 3, none⟩ = some (.int .i64 vn) := by rw [Lib.cell_of_heap B3.out]; rfl
  have e4 : w3.cell? ⟨w.heap.size, 4, none⟩ = some (.int .i64 vd) := by rw [Lib.cell_of_heap B3.out]; rfl
  have e5 : w3.cell? ⟨w.heap.size, 5, none⟩ = some (.string vs) := by rw [Lib.cell_of_heap B3.out]; rfl
  go_wp2_with fail
  refine (cS.out _).mono ?_
  rintro r w4 ⟨rfl, hb4⟩
  have W4 : Hid (WK w4 q N1 M1 0) := W3.out.below hb4
  have B4 : Hid (_) := blkB B3.out hb4
  have hK4 : KeepT q w w4 := hK3.trans (KeepT.of hb4)
  clear hb4 e2 e3 e4 e5
  have e0 : w4.cell? ⟨w.heap.size, 0, none⟩ = some (.int .i64 5) := by rw [Lib.cell_of_heap B4.out]; rfl
  have e1 : w4.cell? ⟨w.heap.size, 1, none⟩ = some (.string nm) := by rw [Lib.cell_of_heap B4.out]; rfl
  have e6 : w4.cell? ⟨w.heap.size, 6, none⟩ = some (.slice p nu c) := by rw [Lib.cell_of_heap B4.out]; rfl
  have hxi : ((nu : Int) = 2) = (nu = 2) := by apply propext; omega
  cases SB <;> by_cases hn : nm.toList = [] <;> by_cases hx : nu = 2
  all_goals
    go_wp2_with fail
    refine (rwrong_any q N1 M1 _ 1 _ w4 W4.out).mono ?_
    rintro r w5 ⟨⟨v5, rfl⟩, h5⟩
    have W5 : Hid (WK w5 q N1 M1 TE) := by
      have a := h5.out.1
      have b := HD.out
      simp [wrE, hxi, hx, hn] at a b
      first | (subst b; exact a) | (rw [← b]; exact a)
    have hK5 : KeepT q w w5 := hK4.trans h5.out.2.keep
    have B5 : Hid (_) := h5.out.2.heap B4.out hne
    have y2 : w5.cell? ⟨q, 2, none⟩ = some (.int .i64 TE) := W5.out.e
    have f0 : w5.cell? ⟨w.heap.size, 0, none⟩ = some (.int .i64 5) := by rw [Lib.cell_of_heap B5.out]; rfl
    have f6 : w5.cell? ⟨w.heap.size, 6, none⟩ = some (.slice p nu c) := by rw [Lib.cell_of_heap B5.out]; rfl
    clear h5 e0 e1 e6
    first
    | have tn : ¬ TE = 0 := by have b := HD.out; simp [wrE, hx, hn] at b; omega
      have tn' : (TE == 0) = false := by simpa using tn
      have tn'' : (TE != 0) = true := by simpa using tn
      go_wp2
      refine bodyPost_ret (results_none rfl _ _ _) rfl ?_
      exact ⟨⟨_, rfl⟩, hK5, HNo.out tn _ W5.out⟩
    | have tz : TE = 0 := by have b := HD.out; simp [wrE, hx, hn] at b; omega
      subst tz
      have HL : Hid (R = truns (d + 1) (N1, M1) t.subs) := by have h := HR.out; rw [if_pos rfl] at h; exact h
      clear HD HR HNo cN cC cS hx
      go_wp2
      go_loopw [11] (fun v wr => ∃ (k : Nat) (N M E : Int), k ≤ nu ∧ v = .int .i64 k ∧ KeepT q w5 wr ∧ Hid (WK wr q N M E) ∧ Hid (E = 0 → OkS (N, M) ∧ R = truns (d + 1) (N, M) (t.subs.drop k)) ∧ Hid (¬ E = 0 → R.1 = E)) (fun v _ => nu - (intOf v).toNat)
      case atStart => exact ⟨0, N1, M1, 0, Nat.zero_le _, rfl, KeepT.refl _ _, W5, fun _ => ⟨HOk.out, by rw [List.drop_zero]; exact HL.out⟩, fun h => absurd rfl h⟩
      case round =>
        obtain ⟨k, N, M, E, hk, rfl, hKr, hWr, hr0, hr1⟩ := hrel
        have Br : Hid (_) := (hKr.block w.heap.size (lt_heap B5.out) hne).trans B5.out
        have r6 : wr.cell? ⟨w.heap.size, 6, none⟩ = some (.slice p nu c) := by rw [Lib.cell_of_heap Br.out]; rfl
        by_cases hlt : k < nu
        case neg =>
          have c2 : ¬ (k : Int) < nu := by omega
          go_wp2
          go_end0
          refine ⟨⟨_, rfl⟩, hK5.trans hKr, ?_⟩
          by_cases hE0 : E = 0
          · have h := (hr0.out hE0).2
            rw [List.drop_eq_nil_of_le (by have := en.out; omega), truns_nil] at h
            rw [h]
            subst hE0
            exact ⟨N, M, hWr.out, fun _ => ⟨rfl, rfl⟩⟩
          · have h := hr1.out hE0
            exact ⟨N, M, by rw [h]; exact hWr.out, fun e => absurd (h.symm.trans e) hE0⟩
        have hlt' : (k : Int) < nu := by omega
        have kx : k < t.subs.length := by have := en.out; omega
        obtain ⟨b, off, u, rfl, hb, TC, TS, TF⟩ := HX.out k kx
        have hBr : Below w0.heap.size w0 wr := hw.trans ((hK5.trans hKr).below (B := w0.heap.size) hq (Nat.le_of_lt hqw))
        obtain ⟨a0, a1, a2, a3, a4, a5, a6⟩ := TC.below hBr hb
        have hsz : SizeOf.sizeOf t.subs[k] ≤ m := by
          have h1 := mem_lt k kx
          have h2 := t.subs_lt
          have h3 := HM.out
          unfold Hid at h3
          omega
        have cT : Hid (Calls Tryz.prog 58 #[.pointer (some ⟨q, 0, none⟩), .agg #[.int .i64 t.subs[k].k, .string t.subs[k].nm, .int .i64 t.subs[k].v.k, .int .i64 t.subs[k].v.n, .int .i64 t.subs[k].v.d, .string t.subs[k].v.s, u], .int .i64 (d + 1)] wr fun r w' => (∃ v, r = .returned v) ∧ Hid (KeepT q wr w' ∧ ∃ N' M' E', WK w' q N' M' E' ∧ (E' = 0 → OkS (N', M') ∧ R = truns (d + 1) (N', M') (t.subs.drop (k + 1))) ∧ (¬ E' = 0 → R.1 = E'))) := by
          by_cases hE0 : E = 0
          · subst hE0
            obtain ⟨o1, o2⟩ := hr0.out rfl
            refine (IH.out t.subs[k] u (d + 1) (N, M) wr hsz TS TF hBr hWr.out o1 (by omega) (by omega)).mono ?_
            rintro r w' ⟨hv, h⟩
            obtain ⟨N', M', g1, g2⟩ := h.out.2
            rw [List.drop_eq_getElem_cons kx, truns_cons] at o2
            refine ⟨hv, h.out.1, N', M', _, g1, fun e => ?_, fun e => ?_⟩
            · obtain ⟨rfl, rfl⟩ := g2 e
              rw [if_pos e] at o2
              have ok := truns_ok (SizeOf.sizeOf [t.subs[k]]) [t.subs[k]] (d + 1) (N, M) (Nat.le_refl _) o1 (by omega)
              rw [truns_cons, if_pos e, truns_nil] at ok
              exact ⟨ok, o2⟩
            · rw [if_neg e] at o2
              rw [o2]
          · refine (rterm_no q N M E (d + 1) _ _ _ _ _ _ u wr hWr.out hE0).mono ?_
            rintro r w' ⟨hv, h⟩
            exact ⟨hv, KeepT.of h.out.1, N, M, E, h.out.2, fun e => absurd e hE0, fun _ => hr1.out hE0⟩
        clear hr0 hr1 TC TS TF IH HX
        generalize t.subs[k].k = k0 at *
        generalize t.subs[k].nm = k1 at *
        generalize t.subs[k].v.k = k2 at *
        generalize t.subs[k].v.n = k3 at *
        generalize t.subs[k].v.d = k4 at *
        generalize t.subs[k].v.s = k5 at *
        have nw : IntKind.i64.wrap (d + 1) = d + 1 := by rw [IntKind.wrap_i64]; omega
        have nw2 : wrap64 (d + 1) = d + 1 := by unfold wrap64; omega
        go_wp2_with fail
        refine cT.out.mono ?_
        rintro r w6 ⟨⟨v6, rfl⟩, h6⟩
        obtain ⟨hk6, N', M', E', g1, g2, g3⟩ := h6.out
        have HP : Hid (WK w6 q N' M' E' ∧ (E' = 0 → OkS (N', M') ∧ R = truns (d + 1) (N', M') (t.subs.drop (k + 1))) ∧ (¬ E' = 0 → R.1 = E')) := ⟨g1, g2, g3⟩
        have hK6 : KeepT q w5 w6 := hKr.trans hk6
        clear g1 g2 g3 h6 cT
        go_wp2
        exact ⟨⟨k + 1, N', M', E', by omega, by go_num, hK6, HP.out.1, HP.out.2.1, HP.out.2.2⟩, by simp [intOf]; omega⟩
end Go.Proofs.YtfajjphfjilpnaaGreat

namespace Go.Proofs.YtfajjphfjilpnaaGreat
open Go.RowKit LX Go.Shelf
set_option linter.unusedVariables false

theorem rterm_any (w0 : World) (q : Nat) (hq : w0.heap.size ≤ q) : ∀ (m : Nat) (t : Tm) (V : Value) (d : Int) (s : Int × Int) (w : World), SizeOf.sizeOf t ≤ m → TmsAt w0 V t.subs → t.v.Fits → Below w0.heap.size w0 w → WK w q s.1 s.2 0 → OkS s → 0 ≤ d → d ≤ 25 →
    Calls Tryz.prog 58 #[.pointer (some ⟨q, 0, none⟩), .agg #[.int .i64 t.k, .string t.nm, .int .i64 t.v.k, .int .i64 t.v.n, .int .i64 t.v.d, .string t.v.s, V], .int .i64 d] w fun r w' => (∃ v, r = .returned v) ∧ Hid (KeepT q w w' ∧ WQ w' q (trun d s t)) := by
  intro m
  induction m with
  | zero => intro t V d s w hm; cases t; simp at hm
  | succ m ih =>
    intro t V d s w hm hV hF hw hK hs hd0 hd1
    have h7 : t.k < 1 ∨ 5 < t.k ∨ t.k = 1 ∨ t.k = 2 ∨ t.k = 3 ∨ t.k = 4 ∨ t.k = 5 := by omega
    rcases h7 with h7 | h7 | h7 | h7 | h7 | h7 | h7
    · exact rterm_clo w0 q hq m ih t V d s w hm hV hF hw hK hs hd0 hd1 h7
    · exact rterm_chi w0 q hq m ih t V d s w hm hV hF hw hK hs hd0 hd1 h7
    · exact rterm_c1 w0 q hq m ih t V d s w hm hV hF hw hK hs hd0 hd1 h7
    · exact rterm_c2 w0 q hq m ih t V d s w hm hV hF hw hK hs hd0 hd1 h7
    · exact rterm_c3 w0 q hq m ih t V d s w hm hV hF hw hK hs hd0 hd1 h7
    · exact rterm_c4 w0 q hq m ih t V d s w hm hV hF hw hK hs hd0 hd1 h7
    · exact rterm_c5 w0 q hq m ih t V d s w hm hV hF hw hK hs hd0 hd1 h7
theorem trun_okS (d : Int) (s : Int × Int) (t : Tm) (hs : OkS s) (hd : 0 ≤ d) : OkS (trun d s t).2 := by
  have ok := truns_ok (SizeOf.sizeOf [t]) [t] d s (Nat.le_refl _) hs hd
  rw [truns_cons] at ok
  by_cases h : (trun d s t).1 = 0
  · rw [if_pos h, truns_nil] at ok; exact ok
  · rw [if_neg h] at ok; exact ok
theorem rterm_walks (w0 : World) (q : Nat) (hq : w0.heap.size ≤ q) (t : Tm) (V : Value) (hV : TmsAt w0 V t.subs) (hF : t.v.Fits) (d : Int) (hd0 : 0 ≤ d) (hd1 : d ≤ 25) :
    Walks w0 q 58 (.agg #[.int .i64 t.k, .string t.nm, .int .i64 t.v.k, .int .i64 t.v.n, .int .i64 t.v.d, .string t.v.s, V]) d (fun s => trun d s t) := by
  intro W R F hW hS
  obtain ⟨N, M, E, h, h1, h2⟩ := hS
  by_cases hE : E = 0
  · subst hE
    obtain ⟨ho, hR⟩ := h1 rfl
    refine (rterm_any w0 q hq _ t V d (N, M) W (Nat.le_refl _) hV hF hW h ho hd0 hd1).mono ?_
    rintro r w' ⟨hv, g⟩
    exact ⟨hv, g.out.1, WS.step (w := w') (G := fun s => trun d s t) hR g.out.2 (trun_okS d (N, M) t ho hd0)⟩
  · refine (rterm_no q N M E d _ _ _ _ _ _ V W h hE).mono ?_
    rintro r w' ⟨hv, g⟩
    exact ⟨hv, KeepT.of g.out.1, N, M, E, g.out.2, fun e => absurd e hE, h2⟩
end Go.Proofs.YtfajjphfjilpnaaGreat

namespace Go.Proofs.YtfajjphfjilpnaaGreat
open Go.RowKit LX Go.Shelf
set_option linter.unusedVariables false

set_option maxRecDepth 100000 in
set_option maxHeartbeats 8000000 in
theorem rformula_no (q : Nat) (N M E d k op lo hi : Int) (nm : ByteArray) (o : Bool) (uv ut us ur : Value) (w : World) (h : WK w q N M E) (hE : ¬ E = 0) :
    Calls Tryz.prog 30 #[.pointer (some ⟨q, 0, none⟩), .agg #[.int .i64 k, .string nm, .int .i64 op, uv, ut, .int .i64 lo, .int .i64 hi, .bool o, us, ur], .int .i64 d] w fun r w' => (∃ v, r = .returned v) ∧ Hid (Below w.heap.size w w' ∧ WK w' q N M E) := by
  have H : Hid (WK w q N M E) := h
  clear h
  go_enter Tryz.func30, Tryz.ntmps30
  go_wp2_with fail
  refine (rnode_no q N M E d _ (H.out.alloc _) hE).mono ?_
  rintro r w1 ⟨rfl, rfl⟩
  go_wp2
  refine bodyPost_ret (results_none rfl _ _ _) rfl ?_
  exact ⟨⟨_, rfl⟩, by go_grown, H.out.alloc _⟩
set_option maxRecDepth 100000 in
set_option maxHeartbeats 8000000 in
theorem rregex_no (q : Nat) (N M E d k : Int) (ut us : Value) (w : World) (h : WK w q N M E) (hE : ¬ E = 0) :
    Calls Tryz.prog 59 #[.pointer (some ⟨q, 0, none⟩), .agg #[.int .i64 k, ut, us], .int .i64 d] w fun r w' => (∃ v, r = .returned v) ∧ Hid (Below w.heap.size w w' ∧ WK w' q N M E) := by
  have H : Hid (WK w q N M E) := h
  clear h
  go_enter Tryz.func59, Tryz.ntmps59
  go_wp2_with fail
  refine (rnode_no q N M E d _ (H.out.alloc _) hE).mono ?_
  rintro r w1 ⟨rfl, rfl⟩
  go_wp2
  refine bodyPost_ret (results_none rfl _ _ _) rfl ?_
  exact ⟨⟨_, rfl⟩, by go_grown, H.out.alloc _⟩
theorem wrE_ne {e E : Int} (h : ¬ e = 0) : ¬ wrE true e E = 0 := by
  unfold wrE
  by_cases hE : E = 0 <;> simp [hE, h]
theorem wrE_keep {b : Bool} {e E : Int} (h : ¬ E = 0) : ¬ wrE b e E = 0 := by
  unfold wrE
  rw [if_neg (fun x => h x.2)]
  exact h
theorem truns_and (d : Int) (s : Int × Int) (t : Tm) (l : List Tm) (K : Int × Int → Int × (Int × Int)) : andT (truns d s (t :: l)) K = andT (trun d s t) fun s1 => andT (truns d s1 l) K := by
  rw [truns_cons]
  exact andT_assoc (trun d s t) (fun s1 => truns d s1 l) K
theorem rruns_and (d : Int) (s : Int × Int) (t : Rx) (l : List Rx) (K : Int × Int → Int × (Int × Int)) : andT (rruns d s (t :: l)) K = andT (rrun d s t) fun s1 => andT (rruns d s1 l) K := by
  rw [rruns_cons, andT_assoc]
theorem fruns_and (d : Int) (s : Int × Int) (t : Fm) (l : List Fm) (K : Int × Int → Int × (Int × Int)) : andT (fruns d s (t :: l)) K = andT (frun d s t) fun s1 => andT (fruns d s1 l) K := by
  rw [fruns_cons, andT_assoc]
end Go.Proofs.YtfajjphfjilpnaaGreat
