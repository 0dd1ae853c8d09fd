/- What is kept behind a store into the result. -/
import Derived.Test.YtedoahibceeklaaGreatDoorMade
namespace Go.Proofs.YtedoahibceeklaaGreatDoor
open Go.RowKit

theorem Blk2.drewN {W : World} {B : Nat} {v0 v1 : Int} (h : Blk2 W B v0 v1) (n : Nat) : Blk2 (W.drewN n) B v0 v1 := ⟨h.c0, h.c1, h.f0, h.f1⟩

theorem kc2 {W0 w1 : World} {n R C o : Nat} {v x y : Value} (hB : Below n W0 w1) (h : W0.cell? ⟨C, o, none⟩ = some v) (hC : C < n) (hne : C ≠ R) : ((w1.setCell ⟨R, 0, none⟩ x).setCell ⟨R, 1, none⟩ y).cell? ⟨C, o, none⟩ = some v := by
  have h1 : w1.cell? ⟨C, o, none⟩ = some v := (hB.cell (p := ⟨C, o, none⟩) hC).trans h
  simp (maxDischargeDepth := 8) [go_sem, h1]

end Go.Proofs.YtedoahibceeklaaGreatDoor
